import PyProof.Rows.All
import Wide.All
import OpenK.AllK
import Wide.FinOn
import HandS.ForMost
import HandS.ForExc
import HandS.Walk
import HandS.Strs
import HandS.Deep
import HandS.Conv
import HandS.IsInst
import HandS.Style
import HandS.Evl
import HandS.Wide
import HandS.Set
import HandS.Nested
import HandS.EndTab
import KE.SortKeyHeap
import KE.KDictCopyH
import HandS.Head0
import HandS.Head1
import HandS.Head2
import HandS.Head3
import HandS.HeadEnd
import HandS.HeadHook1
import HandS.HeadHook2
import HandS.Words
import HandS.WordsExc
import HandS.ExcInit
import KE.KExcInit
import KE.KExcIs
import HandS.ExcOwn
import KE.KDictPairs
import KE.DataMinKey
import KE.DataCmp
import HandS.More
import HandS.Defaults
import HandS.Gcd
import HandS.Zip
import HandS.TryOnly
import HandS.Conv
import HandS.TupAny
import HandS.NoneIn
import KE.SortData
import KE.SortCalls
import KE.KDictKeyed
import PyProof.DictRoadsH
import PyProof.DictCompW
import HandS.DictComp
import HandS.DictTup
import HandS.RaiseMore
import HandS.Comp
import HandS.Lambda
import HandS.SortKw
import PyProof.ReprRoads
import PyProof.CallFns
import PyProof.ReprLen
import PyProof.StrLawsRepr
import PyProof.ReprText
import PyProof.DictItems
import KE.KRevSl
import KE.KDictWalk
import KE.GoesMore
import KE.GoesEnum
import KE.LtData
import HandS.New
import HandS.ExcValue
import HandS.MakeKw
import PySem.Challenge.RW_rankedchains_k57_jets_cut_and_added
set_option Elab.async false
set_option maxRecDepth 100000
set_option maxHeartbeats 4000000
namespace Hd
set_option autoImplicit false
open PySem PySem.Spec PySem.W PyProof.Rows L2 He
theorem fun_of {K : PySem.W.Frag} {x qual : Str} {st : Stmt} {f : Addr} {fd : FuncData} {kws : List (Str × V)} (F : FunD K x qual (defArgs st) (defBody st) (defScope st) [] kws f fd) : Fun K x qual st f fd := by
  obtain ⟨⟨oc, od, dV, kV, doc, pm, an, cdv, ct, osl, e, lk, hc, hd, hk⟩, kp⟩ := F
  rcases hd with ⟨_, rfl⟩ | ⟨ne, _⟩
  · exact ⟨⟨oc, od, kV, doc, pm, an, cdv, ct, osl, e, lk, hc⟩, kp⟩
  · exact absurd rfl ne
/-- where a def's code stands, and its table -/
def fcode (K : PySem.W.Frag) (x : Str) : Addr := match K.lookup (ga K x) with
  | some ⟨_, _, .func fd, _⟩ => (match fd.code with | .ref c => c | _ => 0)
  | _ => 0
def ctab (K : PySem.W.Frag) (c : Addr) : Addr := match K.lookup c with
  | some ⟨_, _, .fields vs, _⟩ => (match (vs[11]? : Option Value) with | some (Value.ref p) => p | _ => 0)
  | _ => 0
def lamB (K : PySem.W.Frag) (x : Str) : Bool := (match K.lookup (ga K x) with
  | some ⟨_, _, .func fd, _⟩ => decide (fd.code = .ref (fcode K x))
  | _ => false) && (codeHdIn K (fcode K x) (ctab K (fcode K x)) && (K.lookup (ctab K (fcode K x))).isNone)
def tabB (g : Addr → Option Obj) (tb : Addr) : Bool := match g tb with
  | some ⟨c, d, .fields vs, sl⟩ => decide (c = .none) && (d.isNone && (vs.isEmpty && sl.isEmpty))
  | _ => false
theorem tabB_ok {g : Addr → Option Obj} {tb : Addr} (h : tabB g tb = true) : g tb = some (tabObj #[]) := by
  unfold tabB at h
  split at h
  · rename_i c d vs sl e
    rw [e]
    simp only [Bool.and_eq_true, decide_eq_true_eq, Option.isNone_iff_eq_none, Array.isEmpty_iff] at h
    obtain ⟨rfl, rfl, rfl, rfl⟩ := h
    rfl
  · cases h
/-- what stands at the end, at these addresses -/
def frX (g : Addr → Option Obj) (as : List Addr) : PySem.W.Frag := frG g as
theorem frX_in {h : Heap} {as : List Addr} : (frX h.get? as).In h := frG_in
def obsX (n : List Addr) (fa : List Fa) (fn : List DefD) (lams : List Str) (ex : PySem.W.Frag → Bool) (vf : PySem.W.Frag → List (Option (Option Value))) (g : Addr → Option Obj) : AlD × Bool × List (Option (Option Value)) :=
  (obsD fa fn (frX g n), (ex (frX g n) && lams.all fun x => lamB (frX g n) x && tabB g (ctab (frX g n) (fcode (frX g n) x))), vf (frX g n))
def hookX (n : List Addr) (fa : List Fa) (fn : List DefD) (lams : List Str) (ex : PySem.W.Frag → Bool) (vf : PySem.W.Frag → List (Option (Option Value))) (vv : List (Option (Option Value))) : PySem.W.Hook where
  α := AlD × Bool × List (Option (Option Value))
  obs s := obsX n fa fn lams ex vf s.heap.get?
  val _ := (valD fn, true, vv)
  says _ h := ∃ K : PySem.W.Frag, K.In h ∧ SaysD fa fn K ∧ ex K = true ∧ vf K = vv ∧ ∀ x ∈ lams, lamB K x = true ∧ h.get? (ctab K (fcode K x)) = some (tabObj #[])
  of w s e := by
    have e1 : obsD fa fn (frX s.heap.get? n) = valD fn := congrArg Prod.fst e
    have e2 : (ex (frX s.heap.get? n) && lams.all fun x => lamB (frX s.heap.get? n) x && tabB s.heap.get? (ctab (frX s.heap.get? n) (fcode (frX s.heap.get? n) x))) = true := congrArg (fun z => z.2.1) e
    have e3 : vf (frX s.heap.get? n) = vv := congrArg (fun z => z.2.2) e
    rw [Bool.and_eq_true, List.all_eq_true] at e2
    exact ⟨frX s.heap.get? n, frX_in, e1, e2.1, e3, fun x hx => by
      have := e2.2 x hx
      rw [Bool.and_eq_true] at this
      exact ⟨this.1, tabB_ok this.2⟩⟩
  keeps w h h' := fun ⟨K, k, c, e, v, l⟩ m => ⟨K, fun a o z => m a o (k a o z), c, e, v, fun x hx => ⟨(l x hx).1, m _ _ (l x hx).2⟩⟩
theorem obsX_eq {n : List Addr} {fa : List Fa} {fn : List DefD} {lams : List Str} {ex : PySem.W.Frag → Bool} {vf : PySem.W.Frag → List (Option (Option Value))} {vv : List (Option (Option Value))} {g : Addr → Option Obj} {s : Shared} (h : ∀ a, g a = s.heap.get? a) : obsX n fa fn lams ex vf g = (hookX n fa fn lams ex vf vv).obs s := by
  have e := funext h
  rw [e]
  rfl
theorem glo_ns {K : PySem.W.Frag} {x : Str} (h : Fa.ok K (.glo x) = true) : nsIn K mainGlobals x = some (some (.ref (ga K x))) := of_decide_eq_true h
theorem free_ns {K : PySem.W.Frag} {x : Str} (h : Fa.ok K (.free x) = true) : nsIn K mainGlobals x = some none := of_decide_eq_true h
theorem int_ns {K : PySem.W.Frag} {x : Str} {i : Int} (h : Fa.ok K (.int x i) = true) : ∃ tk, nsIn K mainGlobals x = some (some (.int i tk)) := by
  have h : (match nsIn K mainGlobals x with | some (some (Value.int j _)) => decide (j = i) | _ => false) = true := h
  split at h
  · rename_i j tk e
    rw [← of_decide_eq_true h]
    exact ⟨tk, e⟩
  · cases h
theorem str_ns {K : PySem.W.Frag} {x z : Str} (h : Fa.ok K (.str x z) = true) : ∃ tk, nsIn K mainGlobals x = some (some (.str z tk)) := by
  have h : (match nsIn K mainGlobals x with | some (some (Value.str j _)) => decide (j = z) | _ => false) = true := h
  split at h
  · rename_i j tk e
    rw [← of_decide_eq_true h]
    exact ⟨tk, e⟩
  · cases h
/-- a tuple at a place -/
def tupAt (K : PySem.W.Frag) (a : Addr) (vs : List V) : Bool := match K.lookup a with
  | some ⟨Value.type c, _, .seq its _, _⟩ => decide (c = "tuple") && (decide (its.size ≤ sizeLine) && relAll vs its.toList)
  | _ => false
theorem tupAt_ok {K : PySem.W.Frag} {a : Addr} {vs : List V} (h : tupAt K a vs = true) (H : Hp) : SqT K H a vs := by
  unfold tupAt at h
  split at h
  · rename_i c d its n sl e
    simp only [Bool.and_eq_true, decide_eq_true_eq] at h
    obtain ⟨rfl, h2, h3⟩ := h
    exact .inr ⟨_, its, n, e, rfl, rfl, h2, relAll_ok h3⟩
  · cases h
def elt (K : PySem.W.Frag) (a : Addr) (i : Nat) : Addr := match K.lookup a with
  | some ⟨_, _, .seq its _, _⟩ => (match (its[i]? : Option Value) with | some (Value.ref p) => p | _ => 0)
  | _ => 0
def isVal (o : Option CFound) (v : Value) : Bool := match o with
  | some (.val u) => decide (u = v)
  | _ => false
theorem isVal_ok {o : Option CFound} {v : Value} (h : isVal o v = true) : o = some (.val v) := by
  unfold isVal at h
  split at h
  · rw [of_decide_eq_true h]
  · cases h
theorem lam_cd {K : PySem.W.Frag} {x : Str} (h : lamB K x = true) : codeHdIn K (fcode K x) (ctab K (fcode K x)) = true := by
  unfold lamB at h
  simp only [Bool.and_eq_true] at h
  exact h.2.1
theorem lam_no {K : PySem.W.Frag} {x : Str} (h : lamB K x = true) : K.lookup (ctab K (fcode K x)) = none := by
  unfold lamB at h
  simp only [Bool.and_eq_true, Option.isNone_iff_eq_none] at h
  exact h.2.2
end Hd
namespace HdC
set_option autoImplicit false
open PySem PySem.Spec PySem.W
def testsOf (cx : Nat → Addr) : List Value := [.ref (cx 0), .ref (cx 1), .ref (cx 2), .ref (cx 3), .ref (cx 4), .ref (cx 5), .ref (cx 6), .ref (cx 12), .ref (cx 13), .ref (cx 14), .ref (cx 7), .ref (cx 8), .ref (cx 9), .ref (cx 15), .ref (cx 10), .ref (cx 11), .ref (cx 16), .type "ValueError", .ref (cx 17), .type "LookupError", .ref (cx 18), .type "RuntimeError"]
def nmOf : List Str := ["row", "polynomial", "ranking", "chain", "data", "jet", "paper", "twice", "place", "great", "unknown", "equation", "case", "nothing", "contradicted", "knotted", "ours", "value", "miss", "lookup", "end", "runtime"]
def kb : Nat → List Bool
  | 0 => [true, false, false, false, false, false, false, false, false, false, false, false, false, false, false, false, true, true, false, false, false, false]
  | 1 => [false, true, false, false, false, false, false, false, false, false, false, false, false, false, false, false, true, true, false, false, false, false]
  | 2 => [false, false, true, false, false, false, false, false, false, false, false, false, false, false, false, false, true, true, false, false, false, false]
  | 3 => [false, false, false, true, false, false, false, false, false, false, false, false, false, false, false, false, true, true, false, false, false, false]
  | 4 => [false, false, false, false, true, false, false, false, false, false, false, false, false, false, false, false, true, true, false, false, false, false]
  | 5 => [false, false, false, false, false, true, false, false, false, false, false, false, false, false, false, false, true, true, false, false, false, false]
  | 6 => [false, false, false, false, false, false, true, false, false, false, false, false, false, false, false, false, true, true, false, false, false, false]
  | 7 => [false, false, false, false, false, false, false, false, false, false, true, false, false, false, false, false, false, false, true, true, false, false]
  | 8 => [false, false, false, false, false, false, false, false, false, false, false, true, false, false, false, false, false, false, true, true, false, false]
  | 9 => [false, false, false, false, false, false, false, false, false, false, false, false, true, false, false, false, false, false, true, true, false, false]
  | 10 => [false, false, false, false, false, false, false, false, false, false, false, false, false, false, true, false, false, false, false, false, true, true]
  | 11 => [false, false, false, false, false, false, false, false, false, false, false, false, false, false, false, true, false, false, false, false, true, true]
  | 12 => [false, false, false, false, false, false, false, true, false, false, false, false, false, false, false, false, true, true, false, false, false, false]
  | 13 => [false, false, false, false, false, false, false, false, true, false, false, false, false, false, false, false, true, true, false, false, false, false]
  | 14 => [false, false, false, false, false, false, false, false, false, true, false, false, false, false, false, false, true, true, false, false, false, false]
  | 15 => [false, false, false, false, false, false, false, false, false, false, false, false, false, true, false, false, false, false, true, true, false, false]
  | _ => []
def bmI : Nat → List Value
  | 0 => [.type "ValueError", .type "Exception", .type "BaseException", .type "object"]
  | 1 => [.type "ValueError", .type "Exception", .type "BaseException", .type "object"]
  | 2 => [.type "ValueError", .type "Exception", .type "BaseException", .type "object"]
  | 3 => [.type "ValueError", .type "Exception", .type "BaseException", .type "object"]
  | 4 => [.type "ValueError", .type "Exception", .type "BaseException", .type "object"]
  | 5 => [.type "ValueError", .type "Exception", .type "BaseException", .type "object"]
  | 6 => [.type "ValueError", .type "Exception", .type "BaseException", .type "object"]
  | 7 => [.type "LookupError", .type "Exception", .type "BaseException", .type "object"]
  | 8 => [.type "LookupError", .type "Exception", .type "BaseException", .type "object"]
  | 9 => [.type "LookupError", .type "Exception", .type "BaseException", .type "object"]
  | 10 => [.type "RuntimeError", .type "Exception", .type "BaseException", .type "object"]
  | 11 => [.type "RuntimeError", .type "Exception", .type "BaseException", .type "object"]
  | 12 => [.type "ValueError", .type "Exception", .type "BaseException", .type "object"]
  | 13 => [.type "ValueError", .type "Exception", .type "BaseException", .type "object"]
  | 14 => [.type "ValueError", .type "Exception", .type "BaseException", .type "object"]
  | 15 => [.type "LookupError", .type "Exception", .type "BaseException", .type "object"]
  | _ => []
def nwI : Nat → String
  | 0 => "ValueError.__new__"
  | 1 => "ValueError.__new__"
  | 2 => "ValueError.__new__"
  | 3 => "ValueError.__new__"
  | 4 => "ValueError.__new__"
  | 5 => "ValueError.__new__"
  | 6 => "ValueError.__new__"
  | 7 => "LookupError.__new__"
  | 8 => "LookupError.__new__"
  | 9 => "LookupError.__new__"
  | 10 => "RuntimeError.__new__"
  | 11 => "RuntimeError.__new__"
  | 12 => "ValueError.__new__"
  | 13 => "ValueError.__new__"
  | 14 => "ValueError.__new__"
  | 15 => "LookupError.__new__"
  | _ => ""
def cxOfL (l : List Addr) : Nat → Addr := fun i => l.getD i 0
/-- the facts of an own exception class, asked at once -/
def xcB (K : PySem.W.Frag) (C : Addr) (bmB : List Value) (newId : String) : Bool :=
  PySem.W.excInitIn K C bmB newId && PySem.W.hasDictIn K C && decide (PySem.W.findIn K (.ref C) "__setattr__" = some (some (.builtin "object.__setattr__"))) && decide (PySem.W.findIn K (.ref C) "__getattribute__" = some (some (.builtin "BaseException.__getattribute__"))) &&
  decide (PySem.W.findIn K (.ref C) "__getattr__" = some none) && decide (PySem.W.subIn K (.ref C) (.type "BaseException") = some true) && decide (PySem.W.findIn K (.ref C) "__class__" = some (some (.builtin "object.__class__"))) &&
  decide (PySem.W.specialIn K (.builtin "object.__class__") "__get__" = some (some (.builtin "getset_descriptor.__get__"))) && decide (PySem.W.takesIn K (.builtin "object.__class__") = some true) && decide (PySem.W.mroIn K C (.type "object") = some true) && PySem.W.keepIn K (.ref C)
end HdC
namespace K12
set_option autoImplicit false
open PySem PySem.Spec PySem.W PyProof.Rows L2 HdC
abbrev hS (i : Nat) : Stmt := PySem.Challenge.pw_rankedchains_k57_jets_cut_and_added.main.body.getD i (.Pass ⟨0, 0, 0, 0⟩)
def hd0 : He.DefD := ⟨("_law_draw", none), "_law_draw", "_law_draw", defArgs (hS 46), defBody (hS 46), defScope (hS 46), [], []⟩
def hd1 : He.DefD := ⟨("_law_mixed", none), "_law_mixed", "_law_mixed", defArgs (hS 45), defBody (hS 45), defScope (hS 45), [], []⟩
def hd2 : He.DefD := ⟨("_law_digit", none), "_law_digit", "_law_digit", defArgs (hS 47), defBody (hS 47), defScope (hS 47), [], []⟩
def hd3 : He.DefD := ⟨("_law_word", none), "_law_word", "_law_word", defArgs (hS 50), defBody (hS 50), defScope (hS 50), [], []⟩
def hd4 : He.DefD := ⟨("_law_names", none), "_law_names", "_law_names", defArgs (hS 51), defBody (hS 51), defScope (hS 51), [], []⟩
def hd5 : He.DefD := ⟨("_law_ranking", none), "_law_ranking", "_law_ranking", defArgs (hS 52), defBody (hS 52), defScope (hS 52), [], []⟩
def hd6 : He.DefD := ⟨("_law_lowest", none), "_law_lowest", "_law_lowest", defArgs (hS 48), defBody (hS 48), defScope (hS 48), [], []⟩
def hd7 : He.DefD := ⟨("_law_number", none), "_law_number", "_law_number", defArgs (hS 49), defBody (hS 49), defScope (hS 49), [], []⟩
def hd8 : He.DefD := ⟨("_law_jet", none), "_law_jet", "_law_jet", defArgs (hS 53), defBody (hS 53), defScope (hS 53), [], []⟩
def hd9 : He.DefD := ⟨("is_name", none), "is_name", "is_name", defArgs (hS 12), defBody (hS 12), defScope (hS 12), [], []⟩
def hd10 : He.DefD := ⟨("_are_names", none), "_are_names", "_are_names", defArgs (hS 26), defBody (hS 26), defScope (hS 26), [], []⟩
def hd11 : He.DefD := ⟨("is_axis", none), "is_axis", "is_axis", defArgs (hS 13), defBody (hS 13), defScope (hS 13), [], []⟩
def hd12 : He.DefD := ⟨("_are_axes", none), "_are_axes", "_are_axes", defArgs (hS 27), defBody (hS 27), defScope (hS 27), [], []⟩
def hd13 : He.DefD := ⟨("need_ranking", none), "need_ranking", "need_ranking", defArgs (hS 25), defBody (hS 25), defScope (hS 25), [], []⟩
def hd14 : He.DefD := ⟨("is_whole", none), "is_whole", "is_whole", defArgs (hS 10), defBody (hS 10), defScope (hS 10), [], []⟩
def hd15 : He.DefD := ⟨("is_derivative", none), "is_derivative", "is_derivative", defArgs (hS 19), defBody (hS 19), defScope (hS 19), [], []⟩
def hd16 : He.DefD := ⟨("_stands_there", none), "_stands_there", "_stands_there", defArgs (hS 29), defBody (hS 29), defScope (hS 29), [], []⟩
def hd17 : He.DefD := ⟨("derivative_fits", none), "derivative_fits", "derivative_fits", defArgs (hS 28), defBody (hS 28), defScope (hS 28), [], []⟩
def hd18 : He.DefD := ⟨("is_fraction", none), "is_fraction", "is_fraction", defArgs (hS 15), defBody (hS 15), defScope (hS 15), [], []⟩
def hd19 : He.DefD := ⟨("is_numbered", none), "is_numbered", "is_numbered", defArgs (hS 37), defBody (hS 37), defScope (hS 37), [], []⟩
def hd20 : He.DefD := ⟨("is_among", none), "is_among", "is_among", defArgs (hS 11), defBody (hS 11), defScope (hS 11), [], []⟩
def hd21 : He.DefD := ⟨("rank_key", none), "rank_key", "rank_key", defArgs (hS 30), defBody (hS 30), defScope (hS 30), [], []⟩
def hd22 : He.DefD := ⟨("rising", none), "rising", "rising", defArgs (hS 31), defBody (hS 31), defScope (hS 31), [], []⟩
def hd23 : He.DefD := ⟨("all_to", none), "all_to", "all_to", defArgs (hS 32), defBody (hS 32), defScope (hS 32), [], []⟩
def hd24 : He.DefD := ⟨("places_to", none), "places_to", "places_to", defArgs (hS 39), defBody (hS 39), defScope (hS 39), [], []⟩
def hd25 : He.DefD := ⟨("length_in", none), "length_in", "length_in", defArgs (hS 38), defBody (hS 38), defScope (hS 38), [], []⟩
def hd26 : He.DefD := ⟨("length_of", none), "length_of", "length_of", defArgs (hS 40), defBody (hS 40), defScope (hS 40), [], []⟩
def hd27 : He.DefD := ⟨("need_length", none), "need_length", "need_length", defArgs (hS 35), defBody (hS 35), defScope (hS 35), [], []⟩
def hd28 : He.DefD := ⟨("cut_jet", none), "cut_jet", "cut_jet", defArgs (hS 41), defBody (hS 41), defScope (hS 41), [], []⟩
def hd29 : He.DefD := ⟨("product", none), "product", "product", defArgs (hS 17), defBody (hS 17), defScope (hS 17), [], []⟩
def hd30 : He.DefD := ⟨("scaled_jet", none), "scaled_jet", "scaled_jet", defArgs (hS 43), defBody (hS 43), defScope (hS 43), [], []⟩
def hd31 : He.DefD := ⟨("sum_of", none), "sum_of", "sum_of", defArgs (hS 16), defBody (hS 16), defScope (hS 16), [], []⟩
def hd32 : He.DefD := ⟨("added_jets", none), "added_jets", "added_jets", defArgs (hS 42), defBody (hS 42), defScope (hS 42), [], []⟩
def hd33 : He.DefD := ⟨("_law_bounds_right", none), "_law_bounds_right", "_law_bounds_right", defArgs (hS 55), defBody (hS 55), defScope (hS 55), [], []⟩
def hd34 : He.DefD := ⟨("_law_said", none), "_law_said", "_law_said", defArgs (hS 54), defBody (hS 54), defScope (hS 54), [], []⟩
def hd35 : He.DefD := ⟨("law", none), "law", "law", defArgs (hS 56), defBody (hS 56), defScope (hS 56), [], []⟩
def hd36 : He.DefD := ⟨("BadRanking", some "__init__"), "__init__", "BadRanking.__init__", defArgs (inClass (hS 3) 0), defBody (inClass (hS 3) 0), defScope (inClass (hS 3) 0), [.non], []⟩
def hd37 : He.DefD := ⟨("BadJet", some "__init__"), "__init__", "BadJet.__init__", defArgs (inClass (hS 4) 0), defBody (inClass (hS 4) 0), defScope (inClass (hS 4) 0), [.non], []⟩
def hfn : List He.DefD := ([hd0, hd1, hd2, hd3, hd4, hd5, hd6, hd7, hd8, hd9, hd10, hd11, hd12, hd13] : List He.DefD) ++ ([hd14, hd15, hd16, hd17, hd18, hd19, hd20, hd21, hd22, hd23, hd24, hd25, hd26, hd27] : List He.DefD) ++ ([hd28, hd29, hd30, hd31, hd32, hd33, hd34, hd35, hd36, hd37] : List He.DefD)
def hfa : List He.Fa := ([.glo "_law_draw", .glo "_law_mixed", .glo "_law_digit", .glo "_law_word", .glo "_law_names", .glo "_law_ranking", .glo "_law_lowest", .glo "_law_number", .glo "_law_jet", .glo "is_name", .glo "_are_names", .glo "is_axis", .glo "_are_axes", .glo "need_ranking"] : List He.Fa) ++ ([.glo "is_whole", .glo "is_derivative", .glo "_stands_there", .glo "derivative_fits", .glo "is_fraction", .glo "is_numbered", .glo "is_among", .glo "rank_key", .glo "rising", .glo "all_to", .glo "places_to", .glo "length_in", .glo "length_of", .glo "need_length"] : List He.Fa) ++ ([.glo "cut_jet", .glo "product", .glo "scaled_jet", .glo "sum_of", .glo "added_jets", .glo "_law_bounds_right", .glo "_law_said", .glo "law", .glo "ChainError", .glo "BadRanking", .glo "BadJet", .glo "OutOfPlace", .free "abs", .free "all"] : List He.Fa) ++ ([.free "bool", .free "enumerate", .free "int", .free "isinstance", .free "len", .free "list", .free "max", .free "range", .free "repr", .free "set", .free "sorted", .free "str", .free "sum", .free "tuple"] : List He.Fa) ++ ([.free "zip", .int "MOST_LETTERS" 8, .int "MOST_NAMES" 3, .int "MOST_ORDER" 12, .int "MOST_LENGTH" 8, .str "LETTERS" "abcdefghijklmnopqrstuvwxyz", .glo "AXES", .glo "SORTS", .glo "AXES_ALL", .meth "BadRanking" "__init__", .meth "BadJet" "__init__", .noat "BadRanking" "place", .noat "BadJet" "place", .exm "OutOfPlace" "ChainError" true] : List He.Fa) ++ ([.exm "BadJet" "BadJet" true, .keep "OutOfPlace"] : List He.Fa)
def haddr : List Addr := ([3, 2, 6, 4, 52, 73, 93, 105, 108, 115, 122, 127, 134, 141] : List Addr) ++ ([148, 155, 162, 163, 167, 174, 179, 184, 191, 198, 205, 212, 217, 224] : List Addr) ++ ([231, 238, 245, 252, 257, 262, 267, 274, 281, 288, 295, 302, 307, 312] : List Addr) ++ ([319, 324, 331, 338, 343, 0, 51, 72, 92, 104, 114, 121, 126, 133] : List Addr) ++ ([140, 147, 154, 161, 164, 165, 166, 173, 178, 183, 190, 197, 204, 211] : List Addr) ++ ([216, 223, 230, 237, 244, 251, 256, 261, 266, 273, 280, 287, 294, 301] : List Addr) ++ ([306, 311, 318, 323, 330, 337, 342, 50, 53, 70, 71, 90, 91, 103] : List Addr) ++ ([109, 111, 112, 116, 118, 119, 123, 128, 130, 131, 135, 137, 138, 142] : List Addr) ++ ([144, 145, 149, 151, 152, 156, 158, 159, 168, 170, 171, 175, 180, 185] : List Addr) ++ ([187, 188, 192, 194, 195, 199, 201, 202, 206, 208, 209, 213, 218, 220] : List Addr) ++ ([221, 225, 227, 228, 232, 234, 235, 239, 241, 242, 246, 248, 249, 253] : List Addr) ++ ([258, 263, 268, 270, 271, 275, 277, 278, 282, 284, 285, 289, 291, 292] : List Addr) ++ ([296, 298, 299, 303, 308, 313, 315, 316, 320, 325, 327, 328, 332, 334] : List Addr) ++ ([335, 339, 69, 63, 89, 83] : List Addr)
def hnames : List Str := (["gcd", "__name__", "ChainError", "BadRanking", "BadJet", "OutOfPlace", "AXES", "LETTERS", "MOST_LETTERS", "is_whole", "is_among", "is_name", "is_axis", "is_fraction"] : List Str) ++ (["sum_of", "product", "is_derivative", "SORTS", "AXES_ALL", "MOST_NAMES", "MOST_ORDER", "need_ranking", "_are_names", "_are_axes", "derivative_fits", "_stands_there", "rank_key", "rising"] : List Str) ++ (["all_to", "MOST_LENGTH", "need_length", "is_numbered", "length_in", "places_to", "length_of", "cut_jet", "added_jets", "scaled_jet", "_law_mixed", "_law_draw", "_law_digit", "_law_lowest"] : List Str) ++ (["_law_number", "_law_word", "_law_names", "_law_ranking", "_law_jet", "_law_said", "_law_bounds_right"] : List Str)
def hx_x2 (K : PySem.W.Frag) : Bool := xcB K (He.ga K "BadRanking") (bmI 2) (nwI 2)
def hx_x5 (K : PySem.W.Frag) : Bool := xcB K (He.ga K "BadJet") (bmI 5) (nwI 5)
def hx_x13 (K : PySem.W.Frag) : Bool := xcB K (He.ga K "OutOfPlace") (bmI 13) (nwI 13)
def hx_q13 (K : PySem.W.Frag) : Bool := PySem.W.excIn K (He.ga K "OutOfPlace") (bmI 13) (nwI 13)
def hx_kt13_13 (K : PySem.W.Frag) : Bool := decide (PySem.W.kitOne K (.ref (He.ga K "OutOfPlace")) (.ref (He.ga K "OutOfPlace")) = some true)
def hx_r16 (K : PySem.W.Frag) : Bool := PySem.W.readsIn K (He.ga K "ChainError") (.type "type")
def hx_y16 (K : PySem.W.Frag) : Bool := Hd.isVal (PySem.W.findCls K (.ref (He.ga K "ChainError")) (.type "type") "__init__") (.builtin "ValueError.__init__")
def hx_ty2 (K : PySem.W.Frag) : Bool := decide (PySem.W.typeIn K (.ref (He.ga K "BadRanking")) = some (.type "type"))
def hx_ty5 (K : PySem.W.Frag) : Bool := decide (PySem.W.typeIn K (.ref (He.ga K "BadJet")) = some (.type "type"))
def hx_ty13 (K : PySem.W.Frag) : Bool := decide (PySem.W.typeIn K (.ref (He.ga K "OutOfPlace")) = some (.type "type"))
def hx_t102 (K : PySem.W.Frag) : Bool := decide (PySem.W.typeIn K (.ref (He.ma K (He.ga K "BadRanking") "__init__")) = some (.type "function"))
def hx_t105 (K : PySem.W.Frag) : Bool := decide (PySem.W.typeIn K (.ref (He.ma K (He.ga K "BadJet") "__init__")) = some (.type "function"))
def hx_vAX (K : PySem.W.Frag) : Bool := Hd.tupAt K (He.ga K "AXES") [.str "x", .str "y"]
def hx_vSO (K : PySem.W.Frag) : Bool := Hd.tupAt K (He.ga K "SORTS") [.str "total", .str "names"]
def hx_vAL (K : PySem.W.Frag) : Bool := Hd.tupAt K (He.ga K "AXES_ALL") [.ref (Hd.elt K (He.ga K "AXES_ALL") 0), .ref (Hd.elt K (He.ga K "AXES_ALL") 1), .ref (Hd.elt K (He.ga K "AXES_ALL") 2)]
def hx_vb1 (K : PySem.W.Frag) : Bool := Hd.tupAt K (Hd.elt K (He.ga K "AXES_ALL") 0) [.str "x"]
def hx_vb2 (K : PySem.W.Frag) : Bool := Hd.tupAt K (Hd.elt K (He.ga K "AXES_ALL") 1) [.str "x", .str "y"]
def hx_vb3 (K : PySem.W.Frag) : Bool := Hd.tupAt K (Hd.elt K (He.ga K "AXES_ALL") 2) [.str "y", .str "x"]
def hx_d1_2 (K : PySem.W.Frag) : Bool := decide ((Hd.ctab K (Hd.fcode K "rising")) ≠ (Hd.ctab K (Hd.fcode K "law")))
def hexs : List (PySem.W.Frag → Bool) := ([hx_x2, hx_x5, hx_x13, hx_q13, hx_kt13_13, hx_r16, hx_y16, hx_ty2, hx_ty5, hx_ty13, hx_t102, hx_t105, hx_vAX, hx_vSO] : List (PySem.W.Frag → Bool)) ++ ([hx_vAL, hx_vb1, hx_vb2, hx_vb3, hx_d1_2] : List (PySem.W.Frag → Bool))
def hex (K : PySem.W.Frag) : Bool := hexs.all fun e => e K
def hlams : List Str := (["rising", "law"] : List Str)
theorem hex_at {K : PySem.W.Frag} (h : hex K = true) (i : Nat) {e : PySem.W.Frag → Bool} (q : hexs[i]? = some e) : e K = true := List.all_eq_true.mp h e (List.mem_of_getElem? q)
abbrev hR : PySem.W.OpenRow := PySem.W.OpenLaw.row PySem.Challenge.rw_rankedchains_k57_jets_cut_and_added
def hvf (K : PySem.W.Frag) : List (Option (Option Value)) := [PySem.W.specialIn K (.ref (He.ga K "ChainError")) "__getattribute__", PySem.W.nsIn K mainGlobals "gcd"]
def hvv : List (Option (Option Value)) := [some (some (.builtin "type.__getattribute__")), some (some (.builtin "math.gcd"))]
abbrev hk : PySem.W.Hook := Hd.hookX haddr hfa hfn hlams hex hvf hvv
def hob (s : PySem.W.SharedT) : He.AlD × Bool × List (Option (Option Value)) := Hd.obsX haddr hfa hfn hlams hex hvf (HandSHeadRun.getT s)
theorem hob_eq (s : PySem.W.SharedT) : hob s = hk.obs s.abs := Hd.obsX_eq (HandSHeadRun.getT_eq s)
set_option maxRecDepth 100000 in
set_option maxHeartbeats 0 in
theorem hrun (w : World) : HandSHeadRun.RunEqI hR (PySem.W.view hR.prog [0, 56]) hk hob 7000 hnames w := by
  unfold HandSHeadRun.RunEqI
  kernel_rfl
end K12
namespace My
open PySem L2
theorem isP {p : Prop} (h : p) : p := h
theorem new {H : Hp} {p : Addr} {o : HO} (hp : H p = none) : Same H (upd H p o) := fun b u e => by
  rw [upd_ne (ne_of_none e hp)]
  exact e
theorem new2 {H : Hp} {p : Addr} {o o' : HO} (hp : H p = none) : Same H (upd (upd H p o) p o') := fun b u e => by
  rw [upd_ne (ne_of_none e hp), upd_ne (ne_of_none e hp)]
  exact e
theorem lstNew {K : PySem.W.Frag} {H : Hp} {p : Addr} {xs : List V} : SqL K (upd H p (.lst xs)) p xs := .inl (.inl upd_same)
theorem atIn {α : Type} (xs : List α) (i : Int) (h0 : 0 ≤ i) (h1 : i < xs.length) : ∃ v, v ∈ xs ∧ atI xs i = some v := by
  obtain ⟨n, rfl⟩ : ∃ n : Nat, i = (n : Int) := ⟨i.toNat, by omega⟩
  have hn : n < xs.length := by omega
  exact ⟨xs[n], List.getElem_mem hn, atI_nat (List.getElem?_eq_getElem hn)⟩
theorem cutTo (xs : List V) (k : Nat) : cutV xs none (some (k : Int)) = xs.take k := by
  unfold cutV
  rw [HT.sIx_none, HT.sIx_nat, List.drop_zero, Nat.sub_zero]
  by_cases h : k ≤ xs.length
  · rw [Nat.min_eq_left h]
  · rw [Nat.min_eq_right (by omega), List.take_length, List.take_of_length_le (by omega)]
theorem small {n : Nat} (h : n ≤ 1000) : n ≤ sizeLine := Nat.le_of_lt (small1000 h)
end My
namespace My
set_option autoImplicit false
open PySem L2 Evl
/-- what is known of a value, whatever is made beside -/
structure Pr where
  P : V → Hp → Prop
  m : ∀ {v : V} {H H' : Hp}, Ex H H' → P v H → P v H'
def AllP : List Pr → List V → Hp → Prop
  | [], [], _ => True
  | p :: ps, v :: vs, H => p.P v H ∧ AllP ps vs H
  | [], _ :: _, _ => False
  | _ :: _, [], _ => False
theorem AllP.m {H H' : Hp} (e : Ex H H') : ∀ {ps : List Pr} {vs : List V}, AllP ps vs H → AllP ps vs H'
  | [], [], _ => trivial
  | _ :: _, _ :: _, h => ⟨Pr.m _ e h.1, AllP.m e h.2⟩
theorem AllP.len {H : Hp} : ∀ {ps : List Pr} {vs : List V}, AllP ps vs H → vs.length = ps.length
  | [], [], _ => rfl
  | _ :: _, _ :: _, h => congrArg Nat.succ (AllP.len h.2)
theorem AllP.app {H : Hp} : ∀ {ps qs : List Pr} {vs ws : List V}, AllP ps vs H → AllP qs ws H → AllP (ps ++ qs) (vs ++ ws) H
  | [], _, [], _, _, h => h
  | _ :: _, _, _ :: _, _, a, h => ⟨a.1, AllP.app a.2 h⟩
theorem AllP.get {H : Hp} : ∀ {ps : List Pr} {vs : List V} {i : Nat} {v : V}, AllP ps vs H → vs[i]? = some v → ∃ p, ps[i]? = some p ∧ p.P v H
  | [], [], i, v, _, h => by simp at h
  | p :: _, w :: _, 0, v, a, h => by
    obtain rfl : w = v := Option.some.inj h
    exact ⟨p, rfl, a.1⟩
  | _ :: _, _ :: _, i + 1, v, a, h => AllP.get (i := i) a.2 h
theorem AllP.at {H : Hp} : ∀ {ps : List Pr} {vs : List V} {i : Nat} {p : Pr}, AllP ps vs H → ps[i]? = some p → ∃ v, vs[i]? = some v ∧ p.P v H
  | [], [], i, v, _, h => by simp at h
  | q :: _, w :: _, 0, p, a, h => by
    obtain rfl : q = p := Option.some.inj h
    exact ⟨w, rfl, a.1⟩
  | _ :: _, _ :: _, i + 1, v, a, h => AllP.at (i := i) a.2 h
/-- without tables of code -/
def NoTab (B : Hp) : Prop := ∀ b ps, B b ≠ some (.tbl ps)
/-- from what is known, B, within the heap H, to B' within H': what is known of B' leans on nothing else that stood in H -/
structure Gr (B H B' H' : Hp) : Prop where
  a : Ex H H'
  b : Ex B B'
  c : Ex B' H'
  d : ∀ x, B x = none → H x ≠ none → B' x = none
  e : NoTab B → NoTab B'
theorem Gr.refl {B H : Hp} (e : Ex B H) : Gr B H B H := ⟨Ex.refl H, Ex.refl B, e, fun _ h _ => h, id⟩
theorem has {H H' : Hp} {x : Addr} (e : Ex H H') (h : H x ≠ none) : H' x ≠ none := by
  cases q : H x with
  | none => exact absurd q h
  | some o =>
    rw [e x o q]
    exact fun z => nomatch z
theorem Gr.trans {B H B1 H1 B2 H2 : Hp} (g : Gr B H B1 H1) (k : Gr B1 H1 B2 H2) : Gr B H B2 H2 :=
  ⟨g.a.trans k.a, g.b.trans k.b, k.c, fun x hb hh => k.d x (g.d x hb hh) (has g.a hh), fun z => k.e (g.e z)⟩
/-- nothing new is known -/
theorem Gr.wide {B H H1 : Hp} (e : Ex B H) (k : Ex H H1) : Gr B H B H1 := ⟨k, Ex.refl B, e.trans k, fun _ h _ => h, id⟩
/-- a new object -/
theorem Gr.new {B H : Hp} {r : Addr} (o : HO) (e : Ex B H) (hr : H r = none) (ho : ∀ ps, o ≠ .tbl ps := by intro _ z; cases z) : Gr B H (upd B r o) (upd H r o) :=
  ⟨Ex.new hr, Ex.new (fresh_back e hr), fun a u h => by
    by_cases q : a = r
    · subst q
      rw [upd_same] at h ⊢
      exact h
    · rw [upd_ne q] at h ⊢
      exact e a u h, fun x hb hh => by
    by_cases q : x = r
    · subst q
      exact absurd hr hh
    · rw [upd_ne q]
      exact hb, fun z b ps q => by
    by_cases n : b = r
    · subst n
      rw [upd_same] at q
      exact ho ps (Option.some.inj q)
    · rw [upd_ne n] at q
      exact z b ps q⟩
/-- two parts of one heap together -/
def both (B C : Hp) : Hp := fun b => match B b with
  | some o => some o
  | none => C b
theorem both_l {B C : Hp} : Ex B (both B C) := fun a o h => by
  unfold both
  rw [h]
theorem both_r {B C H : Hp} (e : Ex B H) (k : Ex C H) : Ex C (both B C) := fun a o h => by
  unfold both
  cases q : B a with
  | none => exact h
  | some u =>
    have h1 := e a u q
    have h2 := k a o h
    rw [h1] at h2
    exact h2
theorem both_in {B C H : Hp} (e : Ex B H) (k : Ex C H) : Ex (both B C) H := fun a o h => by
  unfold both at h
  cases q : B a with
  | none =>
    rw [q] at h
    exact k a o h
  | some u =>
    rw [q] at h
    obtain rfl : u = o := Option.some.inj h
    exact e a u q
theorem both_none {B C : Hp} {x : Addr} (h : B x = none) (k : C x = none) : both B C x = none := by
  unfold both
  rw [h]
  exact k
theorem both_nt {B C : Hp} (h : NoTab B) (k : NoTab C) : NoTab (both B C) := fun b ps q => by
  unfold both at q
  cases z : B b with
  | none =>
    rw [z] at q
    exact k b ps q
  | some o =>
    rw [z] at q
    have q : some o = some (HO.tbl ps) := q
    rw [q] at z
    exact h b ps z
/-- one behind the other, each from the same B -/
theorem Gr.join {B H B1 H1 B2 H2 : Hp} (g : Gr B H B1 H1) (k : Gr B H1 B2 H2) : Gr B H (both B1 B2) H2 :=
  ⟨g.a.trans k.a, g.b.trans both_l, both_in (g.c.trans k.a) k.c, fun x hb hh => both_none (g.d x hb hh) (k.d x hb (has g.a hh)), fun z => both_nt (g.e z) (k.e z)⟩
/-- without D -/
def wo (D : Addr) (H : Hp) : Hp := fun b => if b = D then none else H b
theorem wo_ne {D b : Addr} {H : Hp} (n : b ≠ D) : wo D H b = H b := if_neg n
theorem wo_same {D : Addr} {H : Hp} : wo D H D = none := if_pos rfl
theorem wo_some {D b : Addr} {H : Hp} {o : HO} (h : wo D H b = some o) : b ≠ D ∧ H b = some o := by
  by_cases n : b = D
  · rw [n, wo_same] at h
    exact nomatch h
  · rw [wo_ne n] at h
    exact ⟨n, h⟩
theorem wo_ex {D : Addr} {H : Hp} : Ex (wo D H) H := fun _ _ e => (wo_some e).2
theorem ex_wo {B H : Hp} {D : Addr} (e : Ex B H) (h : B D = none) : Ex B (wo D H) := fun b o k => by
  rw [wo_ne (ne_of_none k h)]
  exact e b o k
theorem wo_none {B H : Hp} {D : Addr} (e : Ex B (wo D H)) : B D = none := by
  cases q : B D with
  | none => rfl
  | some o =>
    have := e _ _ q
    rw [wo_same] at this
    exact nomatch this
theorem wo_new {H : Hp} {D : Addr} {o : HO} (h : H D = none) : wo D (upd H D o) = H := funext fun b => by
  by_cases n : b = D
  · rw [n, wo_same, h]
  · rw [wo_ne n, upd_ne n]
theorem wo_upd {H : Hp} {D : Addr} {o : HO} : wo D (upd H D o) = wo D H := funext fun b => by
  by_cases n : b = D
  · rw [n, wo_same, wo_same]
  · rw [wo_ne n, wo_ne n, upd_ne n]
/-- what a turn adds, the list at D left aside -/
theorem Gr.side {B H B1 H1 B2 H2 : Hp} {D : Addr} (g : Gr B H B1 (wo D H1)) (hD : H1 D ≠ none) (k : Gr B1 H1 B2 H2) : Gr B H B2 (wo D H2) :=
  ⟨fun b o e => by
    obtain ⟨n, q⟩ := wo_some (g.a b o e)
    rw [wo_ne n]
    exact k.a b o q, g.b.trans k.b, ex_wo k.c (k.d D (wo_none g.c) hD), fun x hb hh => k.d x (g.d x hb hh) (has wo_ex (has g.a hh)), fun z => k.e (g.e z)⟩
/-- just this value -/
def IsV (x : V) : Pr := ⟨fun v _ => v = x, fun _ h => h⟩
/-- a new list | a list | a tuple, of what -/
def LsP (ps : List Pr) : Pr := ⟨fun v H => ∃ p xs, v = .ref p ∧ H p = some (.lst xs) ∧ AllP ps xs H, fun e ⟨p, xs, a, b, c⟩ => ⟨p, xs, a, e _ _ b, c.m e⟩⟩
def LqP (K : PySem.W.Frag) (ps : List Pr) : Pr := ⟨fun v H => ∃ p xs, v = .ref p ∧ SqL K H p xs ∧ AllP ps xs H, fun e ⟨p, xs, a, b, c⟩ => ⟨p, xs, a, ex_l e b, c.m e⟩⟩
def TuP (K : PySem.W.Frag) (ps : List Pr) : Pr := ⟨fun v H => ∃ p xs, v = .ref p ∧ SqT K H p xs ∧ AllP ps xs H, fun e ⟨p, xs, a, b, c⟩ => ⟨p, xs, a, ex_t e b, c.m e⟩⟩
theorem lq_ls {K : PySem.W.Frag} {ps : List Pr} {v : V} {H : Hp} (h : (LsP ps).P v H) : (LqP K ps).P v H := by
  obtain ⟨p, xs, a, b, c⟩ := h
  exact ⟨p, xs, a, sq_of b, c⟩
mutual
theorem dp_m {K : PySem.W.Frag} {H H' : Hp} (e : Ex H H') : ∀ {d : PyData} {v : V}, Dp K H v d → Dp K H' v d
  | _, _, .non => .non
  | _, _, .bl b => .bl b
  | _, _, .int i => .int i
  | _, _, .str x => .str x
  | _, _, .lst a b => .lst (ex_l e a) (dps_m e b)
  | _, _, .tup a b => .tup (ex_t e a) (dps_m e b)
theorem dps_m {K : PySem.W.Frag} {H H' : Hp} (e : Ex H H') : ∀ {ds : List PyData} {vs : List V}, DpAll K H vs ds → DpAll K H' vs ds
  | _, _, .nil => .nil
  | _, _, .cons a b => .cons (dp_m e a) (dps_m e b)
end
/-- plain data -/
def IsD (K : PySem.W.Frag) (d : PyData) : Pr := ⟨fun v H => Dp K H v d, fun e h => dp_m e h⟩
theorem dps_of {K : PySem.W.Frag} {H : Hp} : ∀ {ds : List PyData} {vs : List V}, AllP (ds.map (IsD K)) vs H → DpAll K H vs ds
  | [], [], _ => .nil
  | _ :: _, _ :: _, h => .cons h.1 (dps_of h.2)
theorem dps_to {K : PySem.W.Frag} {H : Hp} : ∀ {ds : List PyData} {vs : List V}, DpAll K H vs ds → AllP (ds.map (IsD K)) vs H
  | [], [], _ => trivial
  | _ :: _, _ :: _, .cons a b => ⟨a, dps_to b⟩
/-- an expression gives such a value, over all that stands beside -/
def EvP (te : TE) (σ : L2.St) (B : Hp) (p : Pr) : Prop := ∀ H1, Ex B H1 → ∀ Q : VK, (∀ v B' H2, Gr B H1 B' H2 → p.P v B' → Q v H2) → te σ H1 Q
def EvPs (ta : TA) (σ : L2.St) (B : Hp) (ps : List Pr) : Prop := ∀ H1, Ex B H1 → ∀ Q : List V → Hp → Prop, (∀ vs B' H2, Gr B H1 B' H2 → AllP ps vs B' → Q vs H2) → ta σ H1 Q
section
variable {te ta tb : TE} {t tr : TA} {σ : L2.St} {B B' H : Hp} {p q : Pr} {ps qs : List Pr} {v : V} {K : PySem.W.Frag} {D : Ends}
theorem EvP.mono (e : Ex B B') (h : EvP te σ B p) : EvP te σ B' p := fun H1 a Q k => h H1 (e.trans a) Q fun v C H2 g b =>
  k v (both B' C) H2 ⟨g.a, both_l, both_in (a.trans g.a) g.c, fun x hb hh => both_none hb (g.d x (fresh_back e hb) hh), fun z => both_nt z (g.e fun b ps q => z b ps (e _ _ q))⟩ (p.m (both_r (a.trans g.a) g.c) b)
theorem EvP.imp (h : EvP te σ B p) (i : ∀ v B1, Ex B B1 → p.P v B1 → q.P v B1) : EvP te σ B q := fun H1 a _ k => h H1 a _ fun v B2 H2 g b => k v B2 H2 g (i v B2 g.b b)
theorem p_var {i : Nat} (h : σ[i]? = some (some v)) (hp : p.P v B) : EvP (tVar i) σ B p := fun H1 a _ k => ⟨v, h, k v B H1 (Gr.refl a) hp⟩
theorem p_c : EvP (tC v) σ B (IsV v) := fun H1 a _ k => k v B H1 (Gr.refl a) rfl
theorem p_ev (h : Ev te σ B v) : EvP te σ B (IsV v) := fun H1 a _ k => h H1 a _ fun H2 e => k v B H2 (Gr.wide a e) rfl
theorem ev_p (h : EvP te σ B (IsV v)) : Ev te σ B v := fun H1 a _ k => h H1 a _ fun w B2 H2 g b => by
  obtain rfl : w = v := b
  exact k H2 g.a
theorem q_nil : EvPs tNil σ B [] := fun H1 a _ k => k [] B H1 (Gr.refl a) trivial
theorem q_cons (h : EvP te σ B p) (hr : EvPs tr σ B ps) : EvPs (tCons te tr) σ B (p :: ps) := fun H1 a _ k =>
  h H1 a _ fun v B2 H2 g b => hr H2 (g.b.trans g.c) _ fun vs B3 H3 g3 b3 => k (v :: vs) (both B2 B3) H3 (g.join g3) ⟨p.m both_l b, b3.m (both_r (g.c.trans g3.a) g3.c)⟩
theorem p_lst (h : EvPs t σ B ps) (hl : ps.length ≤ 100000) : EvP (tLst t) σ B (LsP ps) := fun H1 a _ k =>
  h H1 a _ fun vs B2 H2 g b => ⟨sz_of (by rw [b.len]; exact hl), fun r hr => k _ _ _ (g.trans (Gr.new _ g.c hr)) ⟨r, vs, rfl, upd_same, b.m (Ex.new (fresh_back g.c hr))⟩⟩
theorem p_tup (h : EvPs t σ B ps) (hl : ps.length ≤ 100000) : EvP (tTup t) σ B (TuP K ps) := fun H1 a _ k =>
  h H1 a _ fun vs B2 H2 g b => ⟨sz_of (by rw [b.len]; exact hl), fun r hr => k _ _ _ (g.trans (Gr.new _ g.c hr)) ⟨r, vs, rfl, st_of upd_same, b.m (Ex.new (fresh_back g.c hr))⟩⟩
/-- of data -/
theorem d_lst {ds : List PyData} (h : EvP te σ B (LsP (ds.map (IsD K)))) : EvP te σ B (IsD K (.list ds)) := h.imp fun v H1 _ b => by
  obtain ⟨r, xs, rfl, hr, hx⟩ := b
  exact .lst (sq_of hr) (dps_of hx)
theorem d_tup {ds : List PyData} (h : EvP te σ B (TuP K (ds.map (IsD K)))) : EvP te σ B (IsD K (.tuple ds)) := h.imp fun v H1 _ b => by
  obtain ⟨r, xs, rfl, hr, hx⟩ := b
  exact .tup hr (dps_of hx)
theorem d_int {i : Int} (h : EvP te σ B (IsV (.int i))) : EvP te σ B (IsD K (.int i)) := h.imp fun v H1 _ b => by
  obtain rfl : v = V.int i := b
  exact .int i
theorem d_str {x : Str} (h : EvP te σ B (IsV (.str x))) : EvP te σ B (IsD K (.str x)) := h.imp fun v H1 _ b => by
  obtain rfl : v = V.str x := b
  exact .str x
theorem d_bl {x : Bool} (h : EvP te σ B (IsV (.bl x))) : EvP te σ B (IsD K (.bool x)) := h.imp fun v H1 _ b => by
  obtain rfl : v = V.bl x := b
  exact .bl x
theorem ev_neD {d e : PyData} (ha : EvP ta σ B (IsD K d)) (hb : EvP tb σ B (IsD K e)) (hd : SeqAt.shaped d = true) (he : SeqAt.shaped e = true) : Ev (tOp (rNeD K) ta tb) σ B (.bl (!PyData.eqv d e)) := fun H1 a Q k =>
  ha H1 a _ fun v B2 H2 g b => hb H2 (g.b.trans g.c) _ fun w B3 H3 g3 b3 => ⟨d, e, dp_m (g.c.trans g3.a) b, dp_m g3.c b3, hd, he, k H3 (g.a.trans g3.a)⟩
theorem ps_asg {i : Nat} (a : Ex B H) (h : EvP te σ B p) (k : ∀ v B1 H1, Gr B H B1 H1 → p.P v B1 → D.nx (σ.set i (some v)) H1) : tAsg te (gName i) D σ H := h H a _ k
theorem ps_asgN {i : Nat} (σ' : V → L2.St) (a : Ex B H) (h : EvP te σ B p) (k : ∀ v B1 H1, Gr B H B1 H1 → p.P v B1 → D.nx (σ' v) H1) (e : ∀ v, σ.set i (some v) = σ' v := by intro _; rfl) : tAsg te (gName i) D σ H := h H a _ fun v B1 H1 g b => by
  have := k v B1 H1 g b
  rw [← e v] at this
  exact this
theorem ps_ret (a : Ex B H) (h : EvP te σ B p) (k : ∀ v B1 H1, Gr B H B1 H1 → p.P v B1 → D.rt v H1) : tRet te D σ H := h H a _ k
end
end My
namespace My
set_option autoImplicit false
open PySem L2 Evl
/-- what is known says which data it is -/
def To (K : PySem.W.Frag) (p : Pr) (d : PyData) : Prop := ∀ v H, p.P v H → Dp K H v d
inductive ToAll (K : PySem.W.Frag) : List Pr → List PyData → Prop
  | nil : ToAll K [] []
  | cons {p : Pr} {d : PyData} {ps : List Pr} {ds : List PyData} : To K p d → ToAll K ps ds → ToAll K (p :: ps) (d :: ds)
section
variable {te ta tb : TE} {t tr : TA} {σ : L2.St} {B B' H : Hp} {p q : Pr} {ps qs : List Pr} {v : V} {K : PySem.W.Frag} {D : Ends} {d e : PyData} {ds : List PyData}
theorem to_int {i : Int} : To K (IsV (.int i)) (.int i) := fun v H h => by
  obtain rfl : v = _ := h
  exact .int i
theorem to_str {x : Str} : To K (IsV (.str x)) (.str x) := fun v H h => by
  obtain rfl : v = _ := h
  exact .str x
theorem toAll_all {H : Hp} : ∀ {ps : List Pr} {ds : List PyData} {vs : List V}, ToAll K ps ds → AllP ps vs H → DpAll K H vs ds
  | [], _, [], .nil, _ => .nil
  | _ :: _, _, _ :: _, .cons a b, h => .cons (a _ _ h.1) (toAll_all b h.2)
theorem to_lst (h : ToAll K ps ds) : To K (LsP ps) (.list ds) := fun v H hv => by
  obtain ⟨r, xs, rfl, hr, hx⟩ := hv
  exact .lst (sq_of hr) (toAll_all h hx)
theorem to_tup (h : ToAll K ps ds) : To K (TuP K ps) (.tuple ds) := fun v H hv => by
  obtain ⟨r, xs, rfl, hr, hx⟩ := hv
  exact .tup hr (toAll_all h hx)
theorem toAll_map {α : Type} {f : α → Pr} {g : α → PyData} (l : List α) (h : ∀ x, To K (f x) (g x)) : ToAll K (l.map f) (l.map g) := by
  induction l with
  | nil => exact .nil
  | cons x r ih => exact .cons (h x) ih
theorem p_to (h : EvP te σ B p) (k : To K p d) : EvP te σ B (IsD K d) := h.imp fun v B1 _ b => k v B1 b
theorem p_varV {i : Nat} (h : σ[i]? = some (some v)) : EvP (tVar i) σ B (IsV v) := p_var h rfl
theorem p_lq (h : EvP te σ B (LsP ps)) : EvP te σ B (LqP K ps) := h.imp fun _ _ _ b => lq_ls b
/-- an item at a written place -/
theorem p_ix {j : Int} (h : EvP ta σ B (LqP K ps)) (hj : EvP tb σ B (IsV (.int j))) (hp : atI ps j = some p) : EvP (tOp (rIxL K) ta tb) σ B p := fun H1 a Q k =>
  h H1 a _ fun v B2 H2 g b => hj H2 (g.b.trans g.c) _ fun w B3 H3 g3 b3 => by
    obtain ⟨l, xs, rfl, hx, hal⟩ := b
    obtain rfl : w = _ := b3
    have hlen := hal.len
    unfold atI at hp
    rw [← hlen] at hp
    obtain ⟨n, hn, hq⟩ := Option.bind_eq_some_iff.mp hp
    obtain ⟨z, hz, pz⟩ := hal.at hq
    have gj := g.join g3
    refine ⟨l, xs, j, z, rfl, rfl, ex_l (g.c.trans g3.a) hx, ?_, k z _ _ gj (p.m both_l pz)⟩
    unfold atI
    rw [hn]
    exact hz
theorem p_ixT {j : Int} (h : EvP ta σ B (TuP K ps)) (hj : EvP tb σ B (IsV (.int j))) (hp : atI ps j = some p) : EvP (tOp (rIxT K) ta tb) σ B p := fun H1 a Q k =>
  h H1 a _ fun v B2 H2 g b => hj H2 (g.b.trans g.c) _ fun w B3 H3 g3 b3 => by
    obtain ⟨l, xs, rfl, hx, hal⟩ := b
    obtain rfl : w = _ := b3
    have hlen := hal.len
    unfold atI at hp
    rw [← hlen] at hp
    obtain ⟨n, hn, hq⟩ := Option.bind_eq_some_iff.mp hp
    obtain ⟨z, hz, pz⟩ := hal.at hq
    have gj := g.join g3
    refine ⟨l, xs, j, z, rfl, rfl, ex_t (g.c.trans g3.a) hx, ?_, k z _ _ gj (p.m both_l pz)⟩
    unfold atI
    rw [hn]
    exact hz
theorem et_yes : EvT tYes σ B true := fun H1 _ _ q => q H1 (Ex.refl H1)
/-- a test whose answer is known -/
theorem ps_ifF {t : TT} {tu tw : TS} (a : Ex B H) (h : EvT t σ B false) (k : ∀ H1, Ex H H1 → tw D σ H1) : tIfS t tu tw D σ H := h H a _ fun H1 e => by
  rw [if_neg Bool.false_ne_true]
  exact k H1 e
theorem ps_ifT {t : TT} {tu tw : TS} (a : Ex B H) (h : EvT t σ B true) (k : ∀ H1, Ex H H1 → tu D σ H1) : tIfS t tu tw D σ H := h H a _ fun H1 e => by
  rw [if_pos rfl]
  exact k H1 e
theorem et_ne {d : PyData} (ha : EvP ta σ B (IsD K d)) (hb : EvP tb σ B (IsD K d)) (hd : SeqAt.shaped d = true) : EvT (tTest (tOp (rNeD K) ta tb)) σ B false :=
  et_is (et_test (ev_neD ha hb hd hd)) (by rw [SeqAt.eqv_refl d (Bool.and_eq_true_iff.mp hd).1]; rfl)
theorem ev_notN (h : EvP ta σ B (IsV .non)) : Ev (tOp (fun x y H Q => y = V.non ∧ Q (.bl (!decide (x = V.non))) H) ta (tC .non)) σ B (.bl false) := fun H1 a Q k =>
  h H1 a _ fun v B2 H2 g b => by
    obtain rfl : v = V.non := b
    exact ⟨rfl, k H2 g.a⟩
end
end My
namespace My
set_option autoImplicit false
open PySem PySem.Spec PySem.W PyProof.Rows L2 Evl NdefX LamX
/-- an address of ours that nothing else speaks of -/
structure Fre (X : Cx) (pins : List (Addr × Obj)) (a : Addr) : Prop where
  base : X.s_0.heap.objs.size ≤ a
  loc : a ≠ X.env.locals
  cel : ∀ y c, X.env.cells.lookup y = some c → c ≠ a
  pin : ∀ p ∈ X.pn ++ pins, p.1 ≠ a
  fs : a ∉ X.fs
section
variable {X : Cx} {pins : List (Addr × Obj)} {σ : L2.St} {H : Hp} {s : Shared} {a b : Addr}
theorem Fre.of (I : Inv X pins σ H s) (h : s.heap.objs.size ≤ a) : Fre X pins a := by
  have no : ∀ c : Addr, c < s.heap.objs.size → c ≠ a := fun c hc z => by
    rw [z] at hc
    exact Nat.lt_irrefl _ (Nat.lt_of_lt_of_le hc h)
  refine ⟨Nat.le_trans I.sz h, (no _ I.lt).symm, fun y c e => ?_, fun p hp => ?_, I.nofs h⟩
  · obtain ⟨v, o, ho, _⟩ := I.cell y c e
    exact no c (Heap.lt_size ho)
  · exact no p.1 (Heap.lt_size (I.pin p hp).1)
theorem Fre.more (f : Fre X pins a) {o : Obj} (h : b ≠ a) : Fre X ((b, o) :: pins) a :=
  ⟨f.base, f.loc, f.cel, fun p hp => (List.mem_append.mp hp).elim (fun z => f.pin p (List.mem_append_left _ z)) fun z => by
    rcases List.mem_cons.mp z with rfl | z
    · exact h
    · exact f.pin p (List.mem_append_right _ z), f.fs⟩
/-- fewer pins -/
theorem unpin {p : Addr × Obj} (I : Inv X (p :: pins) σ H s) : Inv X pins σ H s := I.pins_of fun q hq => I.pin q (List.mem_append_right _ (List.mem_cons_of_mem _ hq))
theorem repin {o : Obj} (I : Inv X pins σ H s) (f : Fre X pins a) (ho : s.heap.get? a = some o) (hn : H a = none) (hd : ∀ v, o.data ≠ .cell v) : Inv X ((a, o) :: pins) σ H s := I.pins_of fun q hq => by
  rcases List.mem_cons.mp hq with rfl | hq
  · exact ⟨ho, hn, f.loc, f.fs, hd⟩
  · exact I.pin q (List.mem_append_right _ hq)
/-- two objects that are not known of, written; one may be known from now on -/
theorem free2 {h' : Heap} {t' : Nat} {ys : List V} (I : Inv X pins σ H s) (fa : Fre X pins a) (fb : Fre X pins b) (na : H a = none) (nb : H b = none)
    (k : ∀ c o, c ≠ a → c ≠ b → s.heap.get? c = some o → h'.get? c = some o) (new : ys.length ≤ sizeLine ∧ ∃ (its : List Value) (n : Nat), Vals ys its ∧ h'.get? a = some { cls := .type "list", data := .seq its.toArray n }) :
    Inv X pins σ (upd H a (.lst ys)) { s with heap := h', toks := t' } := by
  have ne : ∀ c u, H c = some u → c ≠ a := fun c u e => ne_of_none e na
  have neb : ∀ c u, H c = some u → c ≠ b := fun c u e => ne_of_none e nb
  have up : ∀ c u, H c = some u → upd H a (.lst ys) c = some u := fun c u e => by rw [upd_ne (ne c u e)]; exact e
  have out : ∀ c, c ∉ [a, b] → c ≠ a ∧ c ≠ b := fun c hc => ⟨fun z => hc (by simp [z]), fun z => hc (by simp [z])⟩
  refine I.step (g' := s.gens) (d' := s.drawn) (ch := [a, b]) (fun c hc => ?_) (fun c o _ _ hc e _ => k c o (out c hc).1 (out c hc).2 e) (fun c o _ _ hc e _ => ⟨o.slots, k c o (out c hc).1 (out c hc).2 e⟩) (fun c o hc _ n => ?_)
    (fun c o hc e => ⟨o, k c o (out c hc).1 (out c hc).2 e⟩) (fun c xs e => up _ _ e) (fun c o u e => up _ _ e) (fun c ps e => ⟨#[], by rw [up _ _ e]; simp⟩) (fun m hn => ?_) (fun c u e => ?_) I.bare
  · rcases List.mem_cons.mp hc with rfl | hc
    · exact ⟨.inr fa.base, fa.loc, fa.cel, fa.pin⟩
    · obtain rfl := List.mem_singleton.mp hc
      exact ⟨.inr fb.base, fb.loc, fb.cel, fb.pin⟩
  · rw [upd_ne (out c hc).1]
    exact n
  · obtain ⟨ob, es, ep, ho, r⟩ := hn
    exact ⟨ob, es, ep, k _ ob fa.loc.symm fb.loc.symm ho, r⟩
  · by_cases hc : c = a
    · subst hc
      rw [upd_same] at e
      cases e
      exact new
    · rw [upd_ne hc] at e
      refine (I.hok c u e).stay (fun d v hd q => ?_) (fun d q => up _ _ q) fun d xs q => up _ _ q
      rcases hd with rfl | z
      · exact k _ v (ne _ _ e) (neb _ _ e) q
      · exact k _ v (ne _ _ z) (neb _ _ z) q
/-- one pinned object, written -/
theorem pinSet {o o' : Obj} {h' : Heap} {t' : Nat} (I : Inv X ((a, o) :: pins) σ H s) (fa : Fre X pins a) (k : ∀ c o, c ≠ a → s.heap.get? c = some o → h'.get? c = some o) (ha : h'.get? a = some o') (hd : ∀ v, o'.data ≠ .cell v) :
    Inv X ((a, o') :: pins) σ H { s with heap := h', toks := t' } := by
  have na : H a = none := (I.pin (a, o) (List.mem_append_right _ List.mem_cons_self)).2.1
  have ne : ∀ c u, H c = some u → c ≠ a := fun c u e => ne_of_none e na
  have out : ∀ c, c ∉ [a] → c ≠ a := fun c hc z => hc (by simp [z])
  have J := (unpin I).step (h' := h') (H' := H) (g' := s.gens) (d' := s.drawn) (t' := t') (ch := [a]) (fun c hc => by
      obtain rfl := List.mem_singleton.mp hc
      exact ⟨.inr fa.base, fa.loc, fa.cel, fa.pin⟩) (fun c o _ _ hc e _ => k c o (out c hc) e) (fun c o _ _ hc e _ => ⟨o.slots, k c o (out c hc) e⟩) (fun c o hc _ n => n)
    (fun c o hc e => ⟨o, k c o (out c hc) e⟩) (fun c xs e => e) (fun c o u e => e) (fun c ps e => ⟨#[], by rw [e]; simp⟩) (fun m hn => by
      obtain ⟨ob, es, ep, ho, r⟩ := hn
      exact ⟨ob, es, ep, k _ ob fa.loc.symm ho, r⟩) (fun c u e => by
      refine (I.hok c u e).stay (fun d v hd q => ?_) (fun d q => q) fun d xs q => q
      rcases hd with rfl | z
      · exact k _ v (ne _ _ e) q
      · exact k _ v (ne _ _ z) q) I.bare
  exact repin J fa ha na hd
/-- a lambda of one parameter is called -/
theorem lam_call {A : Around} {F : NF} {body : Expr} {x0 : Str} {N fr : List Str} {f : Addr} {pm ctv : Value} {tb : TE} {k : Nat} {u : Value} {x : V} {js : List Nat} {Q : VK} {E' : Value → Shared → Prop}
    (I : Inv X pins σ H s) (S : NScope N [x0] fr F.scope) (hA : A.frames = some X.stack) (hr : Room (k + 1) A) (hf : s.heap.get? f = some (kla_obj F.name F.qual F.params body F.scope F.cl pm F.c ctv)) (hc : H F.c = some (CodeO F.c F.qual))
    (hbind : bindArgs (kla_fn F.name F.qual F.params body F.scope F.cl pm (.ref F.c) ctv) ⟨[u], []⟩ = pure [(x0, u)]) (cp : Caps X F.cl fr js) (r : RelV x u)
    (hbody : ∀ (s0 : Shared) (H0 : Hp), Room k (A.deeper (envF F f s0.heap.objs.size)) → PE (ncx C8.CX0 X.prog X.w X.K X.mg X.base N F f A X.stack s0 H0 C8.E0) body tb)
    (q : tb (startF N [x] (js.map (slotAt σ))) H Q) : wpAny (model X.prog X.w) A (call (.ref f) [u]) (EP X pins σ Q) E' s := by
  have e0 : Env0 X.prog X.w X.K X.mg X.base A X.stack s H := ⟨hA, I.ok.mod, I.bs, Nat.le_trans I.ok.bsz I.sz, I.stack, I.stkFree, I.hok, I.bare⟩
  have rc : codeAny (model X.prog X.w) A (.call (.ref f) ⟨[u], []⟩) (CR C8.CX0 X.stack X.prog X.w H s Q C8.E0) s := by
    refine kla_callFunE hr.depth hf rfl S.co S.gen rfl (codeO_at I.hok hc) ?_
    rw [hbind]
    refine wpAny_pure (wpAny_newFunctionEnv S.nocell (fun y hy => by
      obtain rfl := List.mem_singleton.mp hy
      exact S.par x0 List.mem_cons_self) (fun h1 hns hsb => ⟨I.nolimit.fresh _ hsb, ?_⟩) S.kind)
    show codeAny _ _ (.expr body (envF F f s.heap.objs.size)) _ _
    have kp : ∀ b o, s.heap.get? b = some o → h1.get? b = some o := fun b o e => hsb.extBut b o (Nat.ne_of_lt (Heap.lt_size e)) (Heap.get?_push_of_some _ e)
    have J : Inv (ncx C8.CX0 X.prog X.w X.K X.mg X.base N F f A X.stack s H C8.E0) [] (startF N [x] (js.map (slotAt σ))) H { s with heap := h1, toks := s.toks + [(x0, u)].length } :=
      inv_startN (us := [u]) S hr.hd e0 rfl (.cons r .nil) (cells_of I cp) hns kp
    refine kla_codeExpr (wpAny_mono ((hbody s H (hr.deeper _)).run [] _ _ H Q J q) (fun v s1 hq => ?_) fun e s1 hq => hq)
    obtain ⟨w', H', J', rv, qq⟩ := hq
    exact ⟨w', H', J'.os, J'.bare, J'.base, J'.hok, rv, qq⟩
  refine wpAny_call (codeAny_mono rc fun r s2 hq => ?_)
  cases r with
  | error e => exact (show False from hq).elim
  | ok fl =>
    cases fl with
    | ret u => exact I.after hq
    | next => exact False.elim hq
    | brk => exact False.elim hq
    | cont => exact False.elim hq
end
end My
namespace My
set_option autoImplicit false
open PySem PySem.Spec PySem.W PySem.Calls PyProof.Rows L2 Evl NdefX LamX
theorem dpAll_len {K : PySem.W.Frag} {H : Hp} : ∀ {vs : List V} {ds : List PyData}, DpAll K H vs ds → vs.length = ds.length
  | [], [], _ => rfl
  | _ :: _, _ :: _, .cons _ b => congrArg Nat.succ (dpAll_len b)
theorem dpAll_app {K : PySem.W.Frag} {H : Hp} : ∀ {vs ws : List V} {ds es : List PyData}, DpAll K H vs ds → DpAll K H ws es → DpAll K H (vs ++ ws) (ds ++ es)
  | [], _, [], _, _, h => h
  | _ :: _, _, _ :: _, _, .cons a b, h => .cons a (dpAll_app b h)
theorem vals_app {vs ws : List V} {us zs : List Value} (a : Vals vs us) (b : Vals ws zs) : Vals (vs ++ ws) (us ++ zs) := by
  induction a with
  | nil => exact b
  | cons r _ ih => exact .cons r ih
/-- the items, each with its key, in order, equal ones as they stood: the items alone -/
def byKey (xs : List V) (ks : List PyData) : List V := ((xs.zip ks).mergeSort (dataLe false (·.2))).map (·.1)
theorem vals_each {h : Heap} : ∀ {xs : List V} {us : List Value} {ks : List PyData}, Vals xs us → ks.length = xs.length → EachIs (fun (u : Value) (p : V × PyData) => RelV p.1 u) us (xs.zip ks)
  | [], [], ks, _, h => by
    obtain rfl := List.length_eq_zero_iff.mp h
    exact .nil
  | _ :: _, _ :: _, [], _, h => by simp at h
  | _ :: _, _ :: _, _ :: _, .cons r t, h => .cons r (vals_each (h := ‹Heap›) t (by simpa using h))
theorem each_vals : ∀ {us : List Value} {ps : List (V × PyData)}, EachIs (fun (u : Value) (p : V × PyData) => RelV p.1 u) us ps → Vals (ps.map (·.1)) us
  | _, _, .nil => .nil
  | _, _, .cons r t => .cons r (each_vals t)
theorem zip_snd {α β : Type} : ∀ {xs : List α} {ks : List β}, ks.length = xs.length → (xs.zip ks).map (·.2) = ks
  | [], ks, h => by
    obtain rfl := List.length_eq_zero_iff.mp h
    rfl
  | _ :: _, [], h => by simp at h
  | _ :: _, k :: _, h => congrArg (k :: ·) (zip_snd (by simpa using h))
theorem dps_each {X : Cx} {pins : List (Addr × Obj)} {σ : L2.St} {H : Hp} {s : Shared} (I : Inv X pins σ H s) : ∀ {vs : List V} {us : List Value} {ds : List PyData}, Vals vs us → DpAll X.K H vs ds → EachIs (fun u d => ∃ as, Reads s.heap u d as) us ds
  | [], [], [], _, _ => .nil
  | _ :: _, _ :: _, _ :: _, .cons r t, .cons a b => .cons (Dp.reads I _ _ _ a r) (dps_each I t b)
/-- f, called for x while the heap is at least H0, gives k -/
def KeyRun (X : Cx) (σ : L2.St) (A : Around) (f : Addr) (fo : Obj) (H0 : Hp) (x : V) (k : PyData) : Prop := ∀ (pins : List (Addr × Obj)) (s : Shared) (H : Hp) (u : Value) (E : Value → Shared → Prop),
  Inv X pins σ H s → (f, fo) ∈ pins → Ex H0 H → RelV x u → wpAny (model X.prog X.w) A (call (.ref f) [u]) (EP X pins σ fun v H' => Ex H H' ∧ Dp X.K H' v k) E s
section
variable {X : Cx} {pins : List (Addr × Obj)} {σ : L2.St} {H : Hp} {s : Shared} {A : Around} {f : Addr} {fo : Obj} {xs : List V} {ks : List PyData} {E : Value → Shared → Prop}
/-- the keys are made, one behind the other, then all is sorted -/
theorem rest_inv {a kS : Addr} {vs : List Value} {e1 : Nat} {Q : VK} (I : Inv X ((kS, seqObj "list" #[] 0) :: (a, seqObj "list" #[] e1) :: pins) σ H s) (hf : (f, fo) ∈ pins) (fa : Fre X pins a) (fk : Fre X pins kS) (hka : kS ≠ a)
    (hv : Vals xs vs) (hl : ks.length = xs.length) (hZ : xs.length ≤ sizeLine) (hal : AllAlike ks) (hsk : Sortable ks) (hu : ∀ d, d ∈ ks → A.units + d.depth < cLine)
    (key : ∀ (i : Nat) (x : V) (k : PyData), xs[i]? = some x → ks[i]? = some k → KeyRun X σ A f fo H x k)
    (q : ∀ H', Ex H H' → H' a = none → Q (.ref a) (upd H' a (.lst (byKey xs ks)))) :
    wpAny (model X.prog X.w) A (ksk_rest a (.ref f) false vs.toArray e1 (.ref kS)) (fun fin s' => fin = .done (.ret .none) ∧ EP X pins σ Q (.ref a) s') E s := by
  have hvl := hv.length
  have hks : ∀ z : Value, ∀ v, (seqObj "list" #[z] 0 : Obj).data ≠ .cell v := fun z v h => nomatch h
  have one : ∀ {i : Nat} {u : Value}, vs[i]? = some u → ∃ x k, xs[i]? = some x ∧ ks[i]? = some k ∧ RelV x u := fun {i u} hu => by
    have hi : i < vs.length := (List.getElem?_eq_some_iff.mp hu).1
    have e1 : xs[i]? = some xs[i] := List.getElem?_eq_getElem (by omega)
    have e2 : ks[i]? = some ks[i] := List.getElem?_eq_getElem (by omega)
    obtain ⟨w, hw, r⟩ := hv.get e1
    rw [hu] at hw
    obtain rfl := Option.some.inj hw
    exact ⟨_, _, e1, e2, r⟩
  unfold ksk_rest
  apply wpAny_bind
  apply wpAny_rule
  first
    | rw [List.forIn_toArray]
    | (rw [← Array.forIn_toList]; simp only [List.toList_toArray])
  apply wpAny_bind
  refine ksk_fold (fun i s' => ∃ (H' : Hp) (kA : Array Value) (n : Nat) (kvs : List V), Inv X ((kS, seqObj "list" kA n) :: (a, seqObj "list" #[] e1) :: pins) σ H' s' ∧ Ex H H' ∧ Vals kvs kA.toList ∧ DpAll X.K H' kvs (ks.take i)) vs 0 s
    ⟨H, #[], 0, [], I, Ex.refl H, .nil, by rw [List.take_zero]; exact .nil⟩ ?_ ?_
  · rintro j u s1 hj ⟨H1, kA, n, kvs, I1, x1, r1, d1⟩
    simp only [Nat.zero_add] at d1 ⊢
    obtain ⟨x, k, hx, hk, rx⟩ := one hj
    have jl : j < vs.length := (List.getElem?_eq_some_iff.mp hj).1
    have kz : kA.size ≤ sizeLine := by
      have h1 := r1.length
      have h2 := dpAll_len d1
      have h3 : kA.toList.length = kA.size := by simp
      rw [List.length_take] at h2
      omega
    refine wpAny_bind (wpAny_attempt (wpAny_mono (key j x k hx hk _ s1 H1 u (fun _ _ => False) I1 (List.mem_cons_of_mem _ (List.mem_cons_of_mem _ hf)) x1 rx) (fun w s2 hw => ?_) fun _ _ z => z.elim))
    obtain ⟨v, H2, I2, rv, x2, dv⟩ := hw
    dsimp only
    have at1 := (I2.pin _ (List.mem_append_right _ List.mem_cons_self)).1
    obtain ⟨n2, at2⟩ : ∃ n2, (s2.heap.update kS (Obj.mapSeq (·.push w))).get? kS = some (seqObj "list" (kA.push w) n2) := ⟨_, get?_update_seq at1 (·.push w)⟩
    have sb := Heap.SameBut.update s2.heap kS (Obj.mapSeq (·.push w))
    refine wpAny_bind (listUpdate_at at1 rfl ?_ kz (by rw [Array.size_push]; omega))
    refine wpAny_pure ⟨rfl, H2, kA.push w, n2, kvs ++ [v], pinSet (t' := s2.toks) I2 (fk.more hka.symm) (fun c o hc e => (sb.2 c hc).trans e) at2 (fun v z => nomatch z), x1.trans x2, ?_, ?_⟩
    · have : (kA.push w).toList = kA.toList ++ [w] := by simp
      rw [this]
      exact vals_app r1 (.cons rv .nil)
    · rw [List.take_add_one, hk]
      exact dpAll_app (dps_m x2 d1) (.cons dv .nil)
  · rintro s1 ⟨H1, kA, n, kvs, I1, x1, r1, d1⟩
    have ek : ks.take (0 + vs.length) = ks := List.take_of_length_le (by omega)
    rw [ek] at d1
    have at1 := (I1.pin _ (List.mem_append_right _ List.mem_cons_self)).1
    have nk := (I1.pin _ (List.mem_append_right _ List.mem_cons_self)).2.1
    have at2 := (I1.pin _ (List.mem_append_right _ (List.mem_cons_of_mem _ List.mem_cons_self))).1
    have na := (I1.pin _ (List.mem_append_right _ (List.mem_cons_of_mem _ List.mem_cons_self))).2.1
    have ksz : kA.size = vs.length := by
      have h1 := r1.length
      have h2 := dpAll_len d1
      have h3 : kA.toList.length = kA.size := by simp
      omega
    have ev := dps_each I1 r1 d1
    obtain ⟨G, g1, g2⟩ := restrict s1.heap fun c => decide (c ≠ kS)
    have kp : KeepsBut a G s1.heap := fun c o _ e => by
      by_cases hc : c = kS
      · rw [hc, g2 kS (decide_eq_false fun z => z rfl)] at e
        cases e
      · rw [← g1 c (decide_eq_true hc)]
        exact e
    refine wpAny_bind (listItems_at at1 rfl ?_)
    refine keyH_end (κ := dataKind s1.heap ks) (h₁ := G) kp (g2 kS (decide_eq_false fun z => z rfl)) at1 at2 hka (SortsAt.data ev hal hsk hu) ksz (by omega) fun h3 tk3 c k3 n3 => ⟨rfl, ?_⟩
    have out : KeyedOut false ks vs (sortVals (dataKind s1.heap ks) false kA.toList vs) := ⟨s1.heap, kA.toList, hal, rfl, ev⟩
    have ez := zip_snd hl
    have o2 : EachIs (fun (u : Value) (p : V × PyData) => RelV p.1 u) (sortVals (dataKind s1.heap ks) false kA.toList vs) ((xs.zip ks).mergeSort (dataLe false (·.2))) :=
      keyedOut_each (·.2) (by rw [ez]; exact out) (vals_each (h := s.heap) hv hl)
    have rv := each_vals o2
    have vl : (byKey xs ks).length ≤ sizeLine := by
      show (((xs.zip ks).mergeSort (dataLe false (·.2))).map (·.1)).length ≤ _
      rw [List.length_map, List.length_mergeSort, List.length_zip]
      omega
    exact ⟨.ref a, _, free2 (b := kS) (t' := tk3) (unpin (unpin I1)) fa fk na nk (fun d o h1 h2 e => k3 d o h1 (by rw [g1 d (decide_eq_true h2)]; exact e)) ⟨vl, _, c, rv, n3⟩, rfl, q H1 x1 na⟩
/-- the list at a, nobody's yet, is sorted by keys -/
theorem tree_inv {a : Addr} {vs : List Value} {n : Nat} {Q : VK} (I : Inv X pins σ H s) (hf : (f, fo) ∈ pins) (fa : Fre X pins a) (na : H a = none) (ha : s.heap.get? a = some (seqObj "list" vs.toArray n))
    (hv : Vals xs vs) (hl : ks.length = xs.length) (hZ : xs.length ≤ sizeLine) (hal : AllAlike ks) (hsk : Sortable ks) (hu : ∀ d, d ∈ ks → A.units + d.depth < cLine)
    (key : ∀ (i : Nat) (x : V) (k : PyData), xs[i]? = some x → ks[i]? = some k → KeyRun X σ A f fo H x k)
    (q : ∀ H', Ex H H' → H' a = none → Q (.ref a) (upd H' a (.lst (byKey xs ks)))) :
    wpAny (model X.prog X.w) A (ksk_tree a (.ref f) false) (fun fin s' => fin = .done (.ret .none) ∧ EP X pins σ Q (.ref a) s') E s := by
  have hvl := hv.length
  obtain ⟨e1, a1⟩ : ∃ e1, (s.heap.update a (Obj.mapSeq fun _ => (#[] : Array Value))).get? a = some (seqObj "list" #[] e1) := ⟨_, get?_update_seq ha fun _ => #[]⟩
  have sb := Heap.SameBut.update s.heap a (Obj.mapSeq fun _ => (#[] : Array Value))
  unfold ksk_tree
  refine wpAny_bind (listItems_at ha rfl ?_)
  refine wpAny_bind (listUpdate_at ha rfl ?_ (by rw [List.size_toArray]; omega) (Nat.zero_le _))
  refine wpAny_bind (seqEpoch_at a1 rfl ?_)
  refine wpAny_bind (wpAny_newTuple ?_ (by show vs.length ≤ _; omega))
  refine wpAny_bind (wpAny_newList ?_ (Nat.zero_le _))
  apply wpAny_holding
  have I0 : Inv X ((a, seqObj "list" #[] e1) :: pins) σ H { s with heap := s.heap.update a (Obj.mapSeq fun _ => (#[] : Array Value)), toks := s.toks } :=
    pinSet (repin I fa ha na fun v z => nomatch z) fa (fun c o hc e => (sb.2 c hc).trans e) a1 fun v z => nomatch z
  have I1 := I0.kept (t' := s.toks) (h' := ((s.heap.update a (Obj.mapSeq fun _ => (#[] : Array Value))).push (seqObj "tuple" vs.toArray 0))) (fun c o e => Heap.get?_push_of_some _ e)
  have hk : Fre X ((a, seqObj "list" #[] e1) :: pins) ((s.heap.update a (Obj.mapSeq fun _ => (#[] : Array Value))).push (seqObj "tuple" vs.toArray 0)).objs.size := Fre.of I1 (Nat.le_refl _)
  have I2 := I1.kept (t' := s.toks) (h' := (((s.heap.update a (Obj.mapSeq fun _ => (#[] : Array Value))).push (seqObj "tuple" vs.toArray 0)).push (seqObj "list" #[] 0))) (fun c o e => Heap.get?_push_of_some _ e)
  have I3 := repin I2 hk (Heap.get?_push_size _ rfl) (I1.hok.fresh (Nat.le_refl _)) (fun v z => nomatch z)
  exact rest_inv I3 hf fa ⟨hk.base, hk.loc, hk.cel, fun p hp => hk.pin p ((List.mem_append.mp hp).elim (List.mem_append_left _) fun z => List.mem_append_right _ (List.mem_cons_of_mem _ z)), hk.fs⟩
    (fun z => hk.pin (a, seqObj "list" #[] e1) (List.mem_append_right _ List.mem_cons_self) z.symm) hv hl hZ hal hsk hu key q
/-- sorted(xs, key=f) of a list -/
theorem sorted_list {l : Addr} {Q : VK} (I : Inv X pins σ H s) (hf : (f, fo) ∈ pins) (hs : SqL X.K H l xs) (hl : ks.length = xs.length) (hal : AllAlike ks) (hsk : Sortable ks) (hu : ∀ d, d ∈ ks → A.units + 2 + d.depth < cLine)
    (key : ∀ (i : Nat) (x : V) (k : PyData), xs[i]? = some x → ks[i]? = some k → KeyRun X σ A.in1.in1 f fo H x k)
    (q : ∀ H' a, Ex H H' → H' a = none → Q (.ref a) (upd H' a (.lst (byKey xs ks)))) :
    wpAny (model X.prog X.w) A (call (.builtin "sorted") [.ref l] [(Str.ofString "key", .ref f)]) (EP X pins σ Q) E s := by
  obtain ⟨vs, rv, pl, hz⟩ := I.list hs
  have hvl := rv.length
  refine sorted_of_sort pl.isList (by omega) (ksk_s1 _ _) (fun _ => ksk_l1 _ _) fun E' => ?_
  rw [ksk_t1]
  have I1 := I.kept (t' := s.toks) (h' := copyHeap s.heap vs) (fun c o e => copyHeap_old e)
  exact tree_inv (s := { s with heap := copyHeap s.heap vs, toks := s.toks }) I1 hf (Fre.of I (Nat.le_succ _)) (I.hok.fresh (Nat.le_succ _)) (copyHeap_at s.heap vs) rv hl hz hal hsk hu key fun H' x n => q H' _ x n
end
end My
namespace My
set_option autoImplicit false
open PySem PySem.Spec PySem.W PySem.Calls PyProof.Rows L2 Evl NdefX LamX
/-- what a list, or a dict by tuples, hands to whoever walks it -/
def SortSrc (K : PySem.W.Frag) (v : V) (H : Hp) (P : List V → Prop) : Prop := (∃ l xs, v = .ref l ∧ SqL K H l xs ∧ P xs) ∨
  ∃ d kvs, v = .ref d ∧ Rd H d (.dT kvs) ∧ ∀ as : List Addr, as.length = kvs.length → (∀ (i : Nat) (p : List Key × V), kvs[i]? = some p → ∃ a, as[i]? = some a ∧ H a = some (.tup (p.1.map kV))) → P (as.map V.ref)
theorem paired_get {α β : Type} {R : α → β → Prop} : ∀ {xs : List α} {ys : List β} {i : Nat} {x : α}, Paired R xs ys → xs[i]? = some x → ∃ y, ys[i]? = some y ∧ R x y
  | [], [], i, x, _, h => by simp at h
  | x :: _, y :: _, 0, z, .cons r _, h => by
    obtain rfl : x = z := Option.some.inj h
    exact ⟨y, rfl, r⟩
  | _ :: _, _ :: _, i + 1, z, .cons _ t, h => paired_get (i := i) t h
theorem paired_len {α β : Type} {R : α → β → Prop} : ∀ {xs : List α} {ys : List β}, Paired R xs ys → xs.length = ys.length
  | [], [], _ => rfl
  | _ :: _, _ :: _, .cons _ t => congrArg Nat.succ (paired_len t)
section
variable {X : Cx} {pins : List (Addr × Obj)} {σ : L2.St} {H : Hp} {s : Shared} {A : Around} {f : Addr} {fo : Obj} {E : Value → Shared → Prop}
theorem vals_refs : ∀ (as : List Addr), Vals (as.map V.ref) (as.map Value.ref)
  | [] => .nil
  | _ :: r => .cons rfl (vals_refs r)
/-- sorted(d, key=f) of a dict by tuples -/
theorem sorted_dict {d : Addr} {ks : List PyData} {as : List Addr} {Q : VK} (I : Inv X pins σ H s) (hf : (f, fo) ∈ pins) (hh : A.in1.handled = none) {o : Obj} {es : Array DictEntry} {ep : Nat} (lo : (d == sysModules) = false)
    (ho : s.heap.get? d = some o) (ex : o.ExactDict) (hd : o.data = .dict es ep) (hes : es.toList.map (·.key) = as.map Value.ref) (hz : as.length ≤ sizeLine)
    (hl : ks.length = as.length) (hal : AllAlike ks) (hsk : Sortable ks) (hu : ∀ d, d ∈ ks → A.units + 2 + d.depth < cLine)
    (key : ∀ (i : Nat) (x : V) (k : PyData), (as.map V.ref)[i]? = some x → ks[i]? = some k → KeyRun X σ A.in1.in1 f fo H x k)
    (q : ∀ H' a, Ex H H' → H' a = none → Q (.ref a) (upd H' a (.lst (byKey (as.map V.ref) ks)))) :
    wpAny (model X.prog X.w) A (call (.builtin "sorted") [.ref d] [(Str.ofString "key", .ref f)]) (EP X pins σ Q) E s := by
  have hsz : es.size = as.length := by
    have := congrArg List.length hes
    simpa using this
  refine call_function_entry_kw kind_sorted plain_sorted entry_sorted (ksk_s1 _ _) ?_
  unfold Builtin.«sorted»
  refine wpAny_bind (m := checkCount "sorted" 1 1 _) (wpAny_pure ?_)
  refine wpAny_bind (kdu_collect (A := A.in1) (KdlSrc.rawDict (es := es) (ep := ep) lo) hh ⟨o, ho, ex, hd⟩ (by omega) fun h1 tk acc hk hacc => ?_)
  have hA : acc.toList = as.map Value.ref := by
    apply List.ext_getElem?
    intro i
    by_cases hi : i < as.length
    · have hi2 : i < acc.size := by rw [hacc.1]; omega
      obtain ⟨hi3, e⟩ := hacc.2 i acc[i] (by rw [Array.getElem?_eq_getElem hi2])
      have e2 : (es.toList.map (·.key))[i]? = some es[i].key := by
        rw [List.getElem?_map, List.getElem?_eq_getElem (by simpa using hi3)]
        simp
      rw [← hes, e2, ← e]
      simp [hi2]
    · rw [List.getElem?_eq_none (by rw [Array.length_toList, hacc.1]; omega), List.getElem?_eq_none (by rw [List.length_map]; omega)]
  rw [hA]
  refine wpAny_bind (wpAny_newList ?_ (by rw [List.length_map]; exact hz))
  have I1 := I.kept (t' := tk) (h' := h1) hk
  have I2 := I1.kept (t' := tk) (h' := h1.push (seqObj "list" (as.map Value.ref).toArray 0)) (fun c o e => Heap.get?_push_of_some _ e)
  have at1 : (h1.push (seqObj "list" (as.map Value.ref).toArray 0)).get? h1.objs.size = some (seqObj "list" (as.map Value.ref).toArray 0) := Heap.get?_push_size _ rfl
  refine wpAny_bind (wpAny_holding (wpAny_call_entry_kw slot_list_sort ⟨_, at1, rfl⟩ entry_list_sort ?_ (ksk_l1 _ _)))
  rw [ksk_t1]
  refine wpAny_mono (tree_inv (A := A.in1.in1) (Q := Q) (E := E) I2 hf (Fre.of I1 (Nat.le_refl _)) (I1.hok.fresh (Nat.le_refl _)) at1 (vals_refs as) (by rw [List.length_map]; exact hl) (by rw [List.length_map]; exact hz) hal hsk hu key fun H' x n => q H' _ x n) (fun fin s1 hq => ?_) fun _ _ z => z
  obtain ⟨rfl, hq⟩ := hq
  exact ⟨_, rfl, wpAny_pure ⟨_, rfl, hq⟩⟩
end
/-- sorted(e, key=lambda a: body) -/
def tSortK (T : List (Addr × Str)) (K : PySem.W.Frag) (tl : TE) (N : List Str) (js : List Nat) (te : TE) : TE := fun σ H Q => te σ H fun v H1 => Tabs T H1 ∧ ∀ H2, ExtN H1 H2 → Tabs T H2 → SortSrc K v H2 fun xs =>
  ∃ ks, ks.length = xs.length ∧ AllAlike ks ∧ Sortable ks ∧ (∀ d, d ∈ ks → d.depth ≤ 50) ∧ (∀ (i : Nat) (x : V) (k : PyData), xs[i]? = some x → ks[i]? = some k → EvP tl (startF N [x] (js.map (slotAt σ))) H2 (IsD K k)) ∧
    ∀ H3 a, Ex H2 H3 → H3 a = none → Q (.ref a) (upd H3 a (.lst (byKey xs ks)))
theorem pe_sortK {X : Cx} {T : List (Addr × Str)} {te tl : TE} {e : Expr} {x0 : Str} {N fr : List Str} {js : List Nat} {c P : Addr} {params : Arguments} {body : Expr} {scope : Scope} {k : Nat} {p lpos kpos pos : Pos}
    (hg : Gl X "sorted") (hm : X.mg "sorted" = none) (he : PE X e te) (TB : TabB X.base X.mg c P) (hcode : X.env.code = .ref c) (hmT : (P, X.env.qual ++ "<lambda>") ∈ T) (hu : ∀ p ∈ T, p.1 = P → p.2 = X.env.qual ++ "<lambda>")
    (S : NScope N [x0] fr scope) (hfree : ∀ y ∈ scope.names, y.2 = .free → X.env.scope.names.lookup y.1 = some .cell ∨ X.env.scope.names.lookup y.1 = some .free) (hfr : ∀ y ∈ fr, (y, NameKind.free) ∈ scope.names) (hjs : js.map (fun j => X.N[j]?) = fr.map some)
    (hdef : defaultsOf params X.env = ([], [])) (hr : Room (k + 3) X.A)
    (hbind : ∀ (q : Str) (cl : List (Str × Addr)) (pm cv ctv u : Value), bindArgs (kla_fn "<lambda>" q params body scope cl pm cv ctv) ⟨[u], []⟩ = pure [(x0, u)])
    (hbody : ∀ (A : Around) (outer : List Env) (s0 : Shared) (H0 : Hp) (F : NF) (f : Addr), F.scope = scope → Room k (A.deeper (envF F f s0.heap.objs.size)) → PE (ncx C8.CX0 X.prog X.w X.K X.mg X.base N F f A outer s0 H0 C8.E0) body tl)
    (hs : starEach [e] X.env = (false, eval e X.env) :: starEach [] X.env := by rfl)
    (he1 : backTo pos (starEach [e] X.env) = (false, eval e X.env) :: backTo pos (starEach [] X.env) := by rfl) (hpl : (backTo pos (starEach [e] X.env)).any (·.1) = false := by rfl)
    (hall : (backToKw pos (keywordEach [⟨some "key", .Lambda params body scope lpos, kpos⟩] X.env)).all (·.1.isSome) = true := by rfl) (hnone : (backToKw pos (keywordEach [⟨some "key", .Lambda params body scope lpos, kpos⟩] X.env)).any (·.1.isNone) = false := by rfl)
    (hks : (backToKw pos (keywordEach [⟨some "key", .Lambda params body scope lpos, kpos⟩] X.env)).filterMap (·.1) = [Str.ofString "key"] := by rfl) :
    PE X (.Call (.Name "sorted" p) [e] [⟨some "key", .Lambda params body scope lpos, kpos⟩] pos) (tSortK T X.K tl N js te) := by
  refine ⟨fun pins s σ H Q I h => ?_⟩
  refine wpAny_Call_Name_kw (ld_blt I hg hm (u := .builtin "sorted") (by decide +kernel) ?_)
  refine PyProof.Rows.callWith_kw ?_ he1 hpl hall hnone
  rw [he1, hks]
  refine spliced_cons (thn (he.run pins s σ H _ I h) fun u s1 ⟨v, H1, I1, r1, q1⟩ => ?_)
  refine spliced_nil ?_
  obtain ⟨hT, q1⟩ := q1
  have hcl : ∀ y ∈ scope.names, y.2 = .free → ∃ c, X.env.cells.lookup y.1 = some c := fun y hy e => (hfree y hy e).elim (fun z => I.ok.has _ (.inl z)) fun z => I.ok.has _ (.inr z)
  show wpAny _ _ (evalAll [do let v ← eval (.Lambda params body scope lpos) X.env; standAt pos; pure v]) _ _ s1
  refine wpAny_evalAll_cons (wpAny_bind (lam_make2 I1 TB hcode hmT hu hT hdef hcl fun f c' pm ctv H2 s2 I2 eN T2 hf hfn hfs hco => wpAny_bind (wpAny_standAt (wpAny_pure (wpAny_evalAll_nil ?_)))))
  have nl : f ≠ X.env.locals := fun z => by
    obtain ⟨m, ⟨o, es, ep, ho, hd, _⟩, _⟩ := I2.loc
    rw [← z, hf] at ho
    rw [← Option.some.inj ho] at hd
    cases hd
  have nf : f ∉ X.fs := fun z => hfs (by
    rcases I.ok.stk with e | ⟨e, e2⟩
    · rw [e]
      exact z
    · rw [e]
      show f ∈ List.filterMap _ _
      rw [List.filterMap_cons, e2]
      exact List.mem_cons_of_mem _ z)
  obtain ⟨fo, hfo⟩ : ∃ fo : Obj, fo = kla_obj "<lambda>" (X.env.qual ++ "<lambda>") params body scope (cloFrom X.env.cells scope.names []) pm c' ctv := ⟨_, rfl⟩
  rw [← hfo] at hf
  have I3 : Inv X ((f, fo) :: pins) σ H2 s2 := I2.pins_of fun p hp => by
    rcases List.mem_cons.mp hp with rfl | hp
    · exact ⟨hf, hfn, nl, nf, fun v z => by rw [hfo] at z; cases z⟩
    · exact I2.pin p (List.mem_append_right _ hp)
  have key : ∀ (x : V) (kd : PyData), EvP tl (startF N [x] (js.map (slotAt σ))) H2 (IsD X.K kd) → KeyRun X σ X.A.in1.in1 f fo H2 x kd := fun x kd hev pins' s' H' u' E' I' hp eX r => by
    have hf' := (I'.pin _ (List.mem_append_right _ hp)).1
    rw [hfo] at hf'
    exact lam_call (F := ⟨"<lambda>", X.env.qual ++ "<lambda>", params, [], scope, cloFrom X.env.cells scope.names [], c'⟩) I' S I.ok.frames (show Room (k + 1) X.A.in1.in1 from hr.in1.in1) hf' (eX _ _ hco) (hbind _ _ _ _ _ _) (Caps.made I.ok hfree hfr hjs) r
      (fun s0 H0 hr' => hbody _ _ s0 H0 _ f rfl hr') (hev H' eX _ fun w B' H4 g pw => ⟨g.a, dp_m g.c pw⟩)
  have un := hr.un
  have dp : ∀ ks : List PyData, (∀ d, d ∈ ks → d.depth ≤ 50) → ∀ d, d ∈ ks → X.A.units + 2 + d.depth < cLine := fun ks h d hd => by
    have := h d hd
    omega
  have fin : ∀ {u : Value} {s' : Shared}, EP X ((f, fo) :: pins) σ Q u s' → EP X pins σ Q u s' := fun ⟨v, H', J, r, q⟩ => ⟨v, H', unpin J, r, q⟩
  rcases q1 H2 eN T2 with ⟨l, xs, rfl, hl, ks, a1, a2, a3, a4, a5, a6⟩ | ⟨d, kvs, rfl, hd, hq⟩
  · obtain rfl : u = Value.ref l := r1
    exact wpAny_mono (sorted_list (E := X.xe) I3 List.mem_cons_self hl a1 a2 a3 (dp ks a4) (fun i x kd e1 e2 => key x kd (a5 i x kd e1 e2)) fun H' a e n => a6 H' a e n) (fun _ _ z => fin z) fun _ _ z => z
  · obtain rfl : u = Value.ref d := r1
    have ok : ObjOk X.prog X.w H2 s2.heap d (.dT kvs) := by
      rcases hd with hd | ⟨o, hd⟩
      · exact I2.hok d _ hd
      · exact (I2.hok d _ hd).2
    obtain ⟨z, lo, xs, pr, o, es, ep, e1, e2, e3, e4, e5⟩ := ok
    have hlen := paired_len pr
    obtain ⟨ks, a1, a2, a3, a4, a5, a6⟩ := hq (xs.map (·.2.1)) (by rw [List.length_map]; exact hlen.symm) fun i p hp => by
      obtain ⟨y, hy, r⟩ := paired_get pr hp
      exact ⟨y.2.1, by rw [List.getElem?_map, hy]; rfl, by rw [← r.1] at *; exact r.2.1⟩
    exact wpAny_mono (sorted_dict (E := X.xe) I3 List.mem_cons_self (show X.A.in1.handled = none from hr.hd) lo e1 e2 e3 (as := xs.map (·.2.1)) (by rw [e4, List.map_map, List.map_map]; rfl) (by rw [List.length_map]; omega) (by rw [a1, List.length_map]) a2 a3 (dp ks a4) (fun i x kd e1 e2 => key x kd (a5 i x kd e1 e2)) fun H' a e n => a6 H' a e n) (fun _ _ z => fin z) fun _ _ z => z
end My
/-! own exceptions as values: made with an __init__ of their own, their fields read, their classes asked -/
namespace XV
open PySem PySem.W PySem.Calls PyProof.Rows Builtin Builtin.ObjectAttr
section
variable {prog : Program} {w : World} {A : Around} {E : Value → Shared → Prop} {R : Result → Shared → Prop} {hp : Heap} {g : Array GenState} {d : Drawn} {t : Nat} {os : OsState}
variable {K : Frag} {name : Str} {tk : Tok} {v : Value} {x C dx : Addr} {fv : Array Value} {cd : ClassData} {B : String} {bmB : List Value} {m0 : Str → Option Value} {nl : List Str}
theorem mro_obj (hm : excTail bmB cd.mro = true) (hbo : bmB.contains (.type "object") = true) : cd.mro.contains (.type "object") = true :=
  Eq.trans (excTail_contains "object" _ hm) hbo
theorem mro_some {l : List Value} (h : l.contains (.type "object") = true) : l.isEmpty = false := by
  cases l with
  | nil => cases h
  | cons _ _ => rfl
/-- the first field that is set -/
theorem setFirst (SF : StoreFacts B bmB "object.__setattr__" "object") (hbo : bmB.contains (.type "object") = true) (XK : K.In hp)
    (hx : hp.get? x = some { cls := .ref C, data := .fields fv }) (hc : clsIn K C = some cd) (hm : excTail bmB cd.mro = true) (hh : cd.hasDict = true) (hn : findIn K (.ref C) name = some none)
    (hq : ∀ h' tk' dx, (∀ b o, b ≠ x → hp.get? b = some o → h'.get? b = some o) → hp.objs.size ≤ dx → dx ≠ x →
      h'.get? x = some { cls := .ref C, dict := some dx, data := .fields fv } → h'.Ns1 dx (fun y => if y = name then some v else none) → R (.ok (.ret .none)) ⟨h', g, d, tk', os⟩) :
    codeAny (model prog w) A (.call (.builtin "object.__setattr__") ⟨[.ref x, .str name tk, v], []⟩) R ⟨hp, g, d, t, os⟩ := by
  have inst : InstAt hp x { cls := .ref C, data := .fields fv } C none := ⟨hx, rfl, rfl, trivial⟩
  have SO := F.store_object
  have hob := mro_obj hm hbo
  have hne := mro_some hob
  have hxs : x ≠ hp.objs.size := Nat.ne_of_lt (Heap.lt_size hx)
  have isO : Looks (model prog w) hp (isInstance (.ref x) (.type "object")) true :=
    inst.type.andThen (looks_mroIn XK (by unfold mroIn; rw [hc, Option.bind_some, if_neg (by rw [hne]; decide), hob]))
  refine codeAny_call_builtin SO.slot.plain SO.entry
    (@check_slot (model prog w) _ _ ⟨hp, g, d, t, os⟩ "object.__setattr__" "object" "__setattr__" (.ref x) [.str name tk, v] [] _ SO.kind SO.split isO
      (SO.args (.ref x) (.str name tk) v) ?_)
  have seesMro : Looks (model prog w) hp (mroOf (.ref C)) cd.mro := (looks_clsIn XK hc).andThen .now
  have noTaker : Looks (model prog w) hp (storeTaker? none) none := .now
  have seesCls : Looks (model prog w) hp (classData C) cd := looks_clsIn XK hc
  rw [osa_eq, refuse_eq]
  refine wpAny_bind (wpAny_bind (inst.type.at (wpAny_bind (seesMro.at ?_))))
  rw [excTail_pass (.ref x) (SF.passes _) _ hm]
  refine wpAny_pure (wpAny_bind (inst.type.at
    (wpAny_bind ((looks_findIn XK hn).at (wpAny_bind (noTaker.at ?_))))))
  show wpAny _ _ (storeInOwnDict (.ref x) (.ref C) (.str name tk) name v false) _ _ _
  obtain ⟨_, _, _, _, _, hd, _, _, _, _, _⟩ := cd
  dsimp only at hh
  subst hh
  unfold storeInOwnDict ownDictForStores
  repeat (first
    | with_reducible refine HandSPX.store_in_new ?_ ?_
    | with_reducible refine wpAny_loadPart_at hx ?_
    | with_reducible refine seesCls.at ?_
    | wp_step)
  · exact ⟨_, #[], _, Eq.trans (Heap.get?_update_ne _ _ _ _ hxs.symm) (Heap.get?_push_at rfl rfl), rfl, fun e he => absurd he (by simp), fun _ => rfl⟩
  · intro h' tk' hn' hs
    have hx1 : (hp.push { cls := .type "dict", data := .dict #[] }).get? x = some { cls := .ref C, data := .fields fv } := Heap.get?_push_of_some _ hx
    exact hq h' tk' hp.objs.size
      (fun b o hb ho => Eq.trans (hs.2 b (Nat.ne_of_lt (Heap.lt_size ho))) (Eq.trans (Heap.get?_update_ne _ _ _ _ hb) (Heap.get?_push_of_some _ ho)))
      (Nat.le_refl _) hxs.symm (Eq.trans (hs.2 x hxs) (Heap.get?_update_self _ hx1 rfl)) hn'
/-- a further field -/
theorem setMore (SF : StoreFacts B bmB "object.__setattr__" "object") (hbo : bmB.contains (.type "object") = true) (XK : K.In hp)
    (hx : hp.get? x = some { cls := .ref C, dict := some dx, data := .fields fv }) (hns : hp.Ns1 dx m0) (hw : Within m0 nl) (hz : nl.length ≤ 1000)
    (hc : clsIn K C = some cd) (hm : excTail bmB cd.mro = true) (hh : cd.hasDict = true) (hn : findIn K (.ref C) name = some none)
    (hq : ∀ h' tk', (∀ b o, b ≠ dx → hp.get? b = some o → h'.get? b = some o) →
      h'.Ns1 dx (fun y => if y = name then some v else m0 y) → R (.ok (.ret .none)) ⟨h', g, d, tk', os⟩) :
    codeAny (model prog w) A (.call (.builtin "object.__setattr__") ⟨[.ref x, .str name tk, v], []⟩) R ⟨hp, g, d, t, os⟩ := by
  obtain ⟨oD, _, _, hoD, _, _⟩ := hns.count hw
  have inst : InstAt hp x { cls := .ref C, dict := some dx, data := .fields fv } C (some oD) := ⟨hx, rfl, rfl, hoD⟩
  have SO := F.store_object
  have hob := mro_obj hm hbo
  have hne := mro_some hob
  have isO : Looks (model prog w) hp (isInstance (.ref x) (.type "object")) true :=
    inst.type.andThen (looks_mroIn XK (by unfold mroIn; rw [hc, Option.bind_some, if_neg (by rw [hne]; decide), hob]))
  refine codeAny_call_builtin SO.slot.plain SO.entry
    (@check_slot (model prog w) _ _ ⟨hp, g, d, t, os⟩ "object.__setattr__" "object" "__setattr__" (.ref x) [.str name tk, v] [] _ SO.kind SO.split isO
      (SO.args (.ref x) (.str name tk) v) ?_)
  have seesMro : Looks (model prog w) hp (mroOf (.ref C)) cd.mro := (looks_clsIn XK hc).andThen .now
  have noTaker : Looks (model prog w) hp (storeTaker? none) none := .now
  have seesCls : Looks (model prog w) hp (classData C) cd := looks_clsIn XK hc
  rw [osa_eq, refuse_eq]
  refine wpAny_bind (wpAny_bind (inst.type.at (wpAny_bind (seesMro.at ?_))))
  rw [excTail_pass (.ref x) (SF.passes _) _ hm]
  refine wpAny_pure (wpAny_bind (inst.type.at
    (wpAny_bind ((looks_findIn XK hn).at (wpAny_bind (noTaker.at ?_))))))
  show wpAny _ _ (storeInOwnDict (.ref x) (.ref C) (.str name tk) name v false) _ _ _
  obtain ⟨_, _, _, _, _, hd, _, _, _, _, _⟩ := cd
  dsimp only at hh
  subst hh
  unfold storeInOwnDict ownDictForStores
  repeat (first
    | with_reducible refine OEX.store_in_old hns hw hz ?_
    | with_reducible refine wpAny_loadPart_at hx ?_
    | with_reducible refine seesCls.at ?_
    | wp_step)
  intro h' tk' hn' hs
  exact hq h' tk' (fun b o hb ho => Eq.trans (hs.2 b hb) ho) hn'
end
end XV
namespace L2
open PySem PySem.Spec PyProof.Rows
/-- an exception at a, raised and caught: its class and its dict are known -/
def exw (a C : Addr) (d : Option Addr) : HO := .ext fun h => ∃ (o : Obj) (vs : Array Value), h.get? a = some o ∧ Zc (.ref C) d o ∧ o.data = .fields vs
theorem exw_ok {P : Program} {w : World} {H : Hp} {h : Heap} {a C : Addr} {d : Option Addr} {o : Obj} {vs : Array Value} (e : h.get? a = some o) (z : Zc (.ref C) d o) (f : o.data = .fields vs) : ObjOk P w H h a (exw a C d) :=
  ⟨⟨o, vs, e, z, f⟩, ⟨o, e⟩, fun _ _ ⟨o, v, q, r⟩ k => ⟨o, v, k o q, r⟩⟩
theorem exw_at {P : Program} {w : World} {H : Hp} {h : Heap} {a C : Addr} {d : Option Addr} (hok : HOk P w H h) (e : H a = some (exw a C d)) : ∃ (o : Obj) (vs : Array Value), h.get? a = some o ∧ o.cls = .ref C ∧ o.dict = d ∧ o.data = .fields vs := by
  have x : ObjOk P w H h a (.ext fun h => ∃ (o : Obj) (vs : Array Value), h.get? a = some o ∧ Zc (.ref C) d o ∧ o.data = .fields vs) := hok a _ e
  obtain ⟨o, vs, h1, h2, h3⟩ := x.1
  exact ⟨o, vs, h1, h2.1, h2.2, h3⟩
theorem ex_any {P : Program} {w : World} {H : Hp} {h : Heap} {a C : Addr} {d : Option Addr} (hok : HOk P w H h) (e : H a = some (exo a C d) ∨ H a = some (exw a C d)) : ∃ (o : Obj) (vs : Array Value), h.get? a = some o ∧ o.cls = .ref C ∧ o.dict = d ∧ o.data = .fields vs := by
  rcases e with e | e
  · obtain ⟨t1, ho⟩ := exo_at hok e
    exact ⟨_, _, ho, rfl, rfl, rfl⟩
  · exact exw_at hok e
/-- what the written part says of an own exception class at C, over the built-in B -/
structure XC (K : PySem.W.Frag) (C : Addr) (bmB : List Value) (newId : String) : Prop where
  q : PySem.W.excInitIn K C bmB newId = true
  hd : PySem.W.hasDictIn K C = true
  sa : PySem.W.findIn K (.ref C) "__setattr__" = some (some (.builtin "object.__setattr__"))
  ga : PySem.W.findIn K (.ref C) "__getattribute__" = some (some (.builtin "BaseException.__getattribute__"))
  gt : PySem.W.findIn K (.ref C) "__getattr__" = some none
  ex : PySem.W.subIn K (.ref C) (.type "BaseException") = some true
  ca : PySem.W.findIn K (.ref C) "__class__" = some (some (.builtin "object.__class__"))
  cn : PySem.W.specialIn K (.builtin "object.__class__") "__get__" = some (some (.builtin "getset_descriptor.__get__"))
  ct : PySem.W.takesIn K (.builtin "object.__class__") = some true
  cm : PySem.W.mroIn K C (.type "object") = some true
  kC : PySem.W.keepIn K (.ref C) = true
/-- what is known of the built-in below -/
structure XB (B : String) (bmB : List Value) (newId initId : String) : Prop where
  base : ExcBaseFacts B newId initId bmB
  store : StoreFacts B bmB "object.__setattr__" "object"
  obj : bmB.contains (.type "object") = true
theorem xbV : XB "ValueError" [.type "ValueError", .type "Exception", .type "BaseException", .type "object"] "ValueError.__new__" "ValueError.__init__" := ⟨F.excBase_ValueError, F.store_ValueError, by decide +kernel⟩
theorem XC.cls {K : PySem.W.Frag} {C : Addr} {bmB : List Value} {newId : String} (T : XC K C bmB newId) : ∃ cd, PySem.W.clsIn K C = some cd ∧ PySem.W.excTail bmB cd.mro = true ∧ cd.hasDict = true := by
  obtain ⟨cd, hc, hh⟩ := PySem.W.any_some T.hd
  refine ⟨cd, hc, ?_, hh⟩
  have q := T.q
  unfold PySem.W.excInitIn at q
  unfold PySem.W.clsIn at hc
  split at q
  · rename_i ho
    rw [ho] at hc
    cases hc
    split at q
    · rename_i hm _
      simp only [Bool.and_eq_true] at q
      rw [hm]
      exact q.2
    · cases q
  · cases q
end L2
namespace L2
open PySem PySem.Spec PyProof.Rows
section
variable {X : Cx} {pins : List (Addr × Obj)} {σ : St} {H : Hp} {s : Shared} {a C dx : Addr} {f : Str} {y : V} {u : Value} {fs : List (Str × V)} {E : Value → Shared → Prop} {A : Around}
variable {B newId initId : String} {bmB : List Value}
theorem xset1 {Q : Unit → Shared → Prop} (T : XC X.K C bmB newId) (Y : XB B bmB newId initId) (I : Inv X pins σ H s) (e : H a = some (exo a C none)) (hno : PySem.W.findIn X.K (.ref C) f = some none) (ry : RelV y u)
    (h : ∀ dx s', H dx = none → dx ≠ a → Inv X pins σ (upd (upd H dx (exd dx [(f, y)])) a (exo a C (some dx))) s' → Q () s') :
    wpAny (model X.prog X.w) A (setAttr (.ref a) f u) Q E s := by
  obtain ⟨cd, hcl, hmr, hh⟩ := T.cls
  obtain ⟨t1, ho⟩ := exo_at I.hok e
  obtain ⟨hp, g, d, t, os⟩ := s
  refine PySem.W.set_plain I.kIn (od := none) ⟨ho, rfl, rfl, trivial⟩ T.sa ?_
  refine XV.setFirst Y.store Y.obj I.kIn ho hcl hmr hh hno (fun h' tk' dx k dn dne hx hn => ?_)
  have hnd : H dx = none := I.hok.fresh dn
  have far : ∀ {b : Addr} {o : Obj}, hp.get? b = some o → b ≠ dx := fun {b o} q => Nat.ne_of_lt (Nat.lt_of_lt_of_le (Heap.lt_size q) dn)
  have na : ∀ {b : Addr}, H b = none → b ≠ a := fun {b} n z => by
    rw [z, e] at n
    exact nomatch n
  have U : Un X.fs [] H (upd (upd H dx (exd dx [(f, y)])) a (exo a C (some dx))) hp h' := {
    keep := fun b o q n _ _ => k b o (na n) q
    slot := fun b o q n _ _ => ⟨o.slots, k b o (na n) q⟩
    free := fun b o q n _ => Eq.trans (upd_ne (na n)) (Eq.trans (upd_ne (far q)) n)
    there := fun b o q _ => by
      rcases Nat.decEq b a with hb | hb
      · exact ⟨o, k b o hb q⟩
      · exact ⟨_, Eq.trans (congrArg h'.get? hb) hx⟩
    tups := fun b xs q => Eq.trans (upd_ne (at_ne e q exo_tup)) (Eq.trans (upd_ne (ne_of_none q hnd)) q)
    frzs := fun b o v q => Eq.trans (upd_ne (at_ne e q exo_frz)) (Eq.trans (upd_ne (ne_of_none q hnd)) q)
    tbls := fun b ps q => ⟨#[], Eq.trans (upd_ne (at_ne e q exo_tbl)) (Eq.trans (upd_ne (ne_of_none q hnd)) (by rw [q]; simp))⟩ }
  refine h dx _ hnd dne (I.un (t' := tk') U fun b o q => ?_)
  rcases Nat.decEq b a with hb | hb
  · rw [upd_ne hb] at q
    rcases Nat.decEq b dx with hd | hd
    · rw [upd_ne hd] at q
      refine (I.hok b o q).stay (fun c v hc z => k c v ?_ z) (fun c hc => ?_) (fun c xs hc => ?_)
      · rcases hc with hc | hc
        · exact hc ▸ hb
        · exact at_ne e hc exo_own
      · exact Eq.trans (upd_ne (at_ne e hc exo_own)) (Eq.trans (upd_ne (ne_of_none hc hnd)) hc)
      · exact Eq.trans (upd_ne (at_ne e hc exo_tup)) (Eq.trans (upd_ne (ne_of_none hc hnd)) hc)
    · subst hd
      rw [upd_same] at q
      cases q
      exact exd_ok hn (relO_put (fs := []) ry fun _ => trivial)
  · subst hb
    rw [upd_same] at q
    cases q
    exact exo_ok hx
theorem xset2 {Q : Unit → Shared → Prop} (T : XC X.K C bmB newId) (Y : XB B bmB newId initId) (I : Inv X pins σ H s) (e : H a = some (exo a C (some dx))) (ed : H dx = some (exd dx fs)) (hl : fs.length ≤ 900)
    (hno : PySem.W.findIn X.K (.ref C) f = some none) (ry : RelV y u) (h : ∀ s', Inv X pins σ (upd H dx (exd dx ((f, y) :: fs))) s' → Q () s') :
    wpAny (model X.prog X.w) A (setAttr (.ref a) f u) Q E s := by
  obtain ⟨cd, hcl, hmr, hh⟩ := T.cls
  obtain ⟨t1, ho⟩ := exo_at I.hok e
  obtain ⟨mA, hns, rel⟩ := exd_at I.hok ed
  obtain ⟨hp, g, d, t, os⟩ := s
  have hw := within_of rel
  obtain ⟨oD, _, _, hoD, _, _⟩ := hns.count hw
  refine PySem.W.set_plain I.kIn (od := some oD) ⟨ho, rfl, rfl, hoD⟩ T.sa ?_
  refine XV.setMore Y.store Y.obj I.kIn ho hns hw (by rw [List.length_map]; omega) hcl hmr hh hno (fun h' tk' k hn => ?_)
  obtain ⟨o1, _, _, e1, _⟩ := id hn
  exact h _ (I.write (t' := tk') (x := dx) (e := dx) (o := exd dx ((f, y) :: fs)) (by rw [ed]; trivial) (.inl rfl) k ⟨o1, e1⟩ (exd_ok hn (relO_put ry rel)))
/-- the built-in's __init__ of an exception that is being made: nothing of it is told -/
theorem xinit {us : List Value} {Q : Value → Shared → Prop} (T : XC X.K C bmB newId) (Y : XB B bmB newId initId) (I : Inv X pins σ H s) (e : H a = some (exo a C none)) (hl : us.length ≤ sizeLine)
    (h : ∀ s', Inv X pins σ H s' → Q .none s') : wpAny (model X.prog X.w) A (call (.builtin initId) (.ref a :: us)) Q E s := by
  obtain ⟨nm, N, qn, bs, bm, hdct, sn, sub, ab, col, dd, k0, k1, k2, k3, k5, hC, hbm⟩ := PySem.W.excInit_of I.kIn T.q
  obtain ⟨t1, ho⟩ := exo_at I.hok e
  obtain ⟨hp, g, d, t, os⟩ := s
  refine wpAny_call (PySem.HandSPX.init_base Y.base hbm hC ho hl fun h' t2 k hx => ?_)
  have J := I.write (t' := t) (x := a) (e := a) (o := exo a C none) (by rw [e]; trivial) (.inl rfl) k ⟨_, hx⟩ (exo_ok hx)
  have eu : upd H a (exo a C none) = H := funext fun b => by
    rcases Nat.decEq b a with hb | hb
    · exact upd_ne hb
    · subst hb
      exact Eq.trans upd_same e.symm
  rw [eu] at J
  exact h _ J
end
/-- D.__init__(self, ..), D an own class below which stands the built-in with that __init__ -/
def tXInit (K : PySem.W.Frag) (bmB : List Value) (newId : String) (ta : TA) : TE := fun σ H Q => ta σ H fun vs H1 => ∃ (a C : Addr) (ws : List V), vs = .ref a :: ws ∧ ws.length ≤ 1000 ∧ XC K C bmB newId ∧ H1 a = some (exo a C none) ∧ Q .non H1
/-- self.f = e -/
def tXSet (K : PySem.W.Frag) (bmB : List Value) (newId : String) (f : Str) (to te : TE) : TS := fun D σ H => te σ H fun y H1 => to σ H1 fun x H2 => ∃ a C : Addr, x = .ref a ∧ XC K C bmB newId ∧ PySem.W.findIn K (.ref C) f = some none ∧
  ((H2 a = some (exo a C none) ∧ ∀ dx, H2 dx = none → dx ≠ a → D.nx σ (upd (upd H2 dx (exd dx [(f, y)])) a (exo a C (some dx)))) ∨
    ∃ (dx : Addr) (fs : List (Str × V)), H2 a = some (exo a C (some dx)) ∧ H2 dx = some (exd dx fs) ∧ fs.length ≤ 900 ∧ D.nx σ (upd H2 dx (exd dx ((f, y) :: fs))))
/-- e.f of such a value -/
def tXAt (K : PySem.W.Frag) (bmB : List Value) (newId : String) (f : Str) (te : TE) : TE := fun σ H Q => te σ H fun x H1 => ∃ (a C dx : Addr) (fs : List (Str × V)) (v : V), x = .ref a ∧ XC K C bmB newId ∧ PySem.W.findIn K (.ref C) f = some none ∧
  (H1 a = some (exo a C (some dx)) ∨ H1 a = some (exw a C (some dx))) ∧ H1 dx = some (exd dx fs) ∧ fs.lookup f = some v ∧ Q v H1
/-- isinstance(e, c) of such a value -/
def rXIs (K : PySem.W.Frag) : List V → Hp → VK → Prop := fun xs H Q => ∃ (a C : Addr) (bmB : List Value) (newId : String) (c : V) (cv : Value) (b : Bool), xs = [.ref a, c] ∧ XC K C bmB newId ∧
  (∃ d, (H a = some (exo a C d) ∨ H a = some (exw a C d)) ∧ (d = none ∨ ∃ dx fs, d = some dx ∧ H dx = some (exd dx fs))) ∧ (∀ u, RelV c u → u = cv) ∧ PySem.W.kitOne K (.ref C) cv = some b ∧ Q (.bl b) H
section
variable {X : Cx} {o e : Expr} {es : List Expr} {to te : TE} {ta : TA} {f x : Str} {p p' p1 p2 pos : Pos} {B newId initId : String} {bmB : List Value} {D C : Addr}
theorem pe_xinit {pl : Sem Bool} (Y : XB B bmB newId initId) (hg : Gl X x) (hm : X.mg x = some (.ref D)) (sD : PySem.W.specialIn X.K (.ref D) "__getattribute__" = some (some (.builtin "type.__getattribute__")))
    (rD : PySem.W.readsIn X.K D (.type "type") = true) (fD : PySem.W.findCls X.K (.ref D) (.type "type") "__init__" = some (.val (.builtin initId))) (hh : PySem.W.handedIn (.builtin initId) = true) (ha : PA X (e :: es) ta)
    (hc : eval (.Call (.Attribute (.Name x p1) "__init__" p2) (e :: es) [] pos) X.env = (do
      let ov ← eval (.Name x p1) X.env
      standAt p2.atName
      let (f, first) ← holding [ov] (getMethod ov "__init__" pl)
      callWith pos f first (backTo pos (starEach (e :: es) X.env)) (backToKw pos (keywordEach [] X.env))) := by rfl)
    (he : starEach (e :: es) X.env = (false, eval e X.env) :: starEach es X.env := by rfl) (hpl : (backTo pos (starEach es X.env)).any (·.1) = false := by rfl) (hd : (x == ("__debug__" : Str)) = false := by decide) :
    PE X (.Call (.Attribute (.Name x p1) "__init__" p2) (e :: es) [] pos) (tXInit X.K bmB newId ta) := by
  refine ⟨fun pins s σ H Q I h => ?_⟩
  refine PySem.W.methodCall_KW (ld_glob I hg hm ?_ hd) hc
  refine PySem.W.method_cls I.kIn sD (PySem.W.cls_value I.kIn rD fD hh ?_)
  show wpAny _ _ (callWith pos (Value.builtin initId) [] (backTo pos (starEach (e :: es) X.env)) []) _ _ _
  refine PyProof.Rows.callWith_method1 (thn (ha.run pos pins _ σ H _ (I.tok _) h) fun us s1 hh1 => ?_) he hpl
  obtain ⟨vs, H1, I1, r1, a, C, ws, ev, hl, T, ea, q⟩ := hh1
  subst ev
  cases r1 with
  | @cons _ u0 _ ur ra rw' =>
    obtain rfl : u0 = Value.ref a := ra
    have hlen : ur.length ≤ sizeLine := by
      have := Paired.length rw'
      rw [sizeLine_eq]
      omega
    exact xinit T Y I1 ea hlen fun s' J => ⟨.non, H1, J, rfl, q⟩
theorem ps_xset (Y : XB B bmB newId initId) (ho : PE X o to) (he : PE X e te) (hs : swapsWith e (some (.Attribute o f p')) pos.line X.env = pure false := by rfl) : PS X (.Assign [.Attribute o f p'] e pos) (tXSet X.K bmB newId f to te) := by
  refine ⟨fun pins s σ H D I h => ?_⟩
  refine plainObj_wpAny_Assign_Attribute (thn (he.run pins s σ H _ I h) fun v s1 h1 => ?_) hs
  obtain ⟨y, H1, I1, r1, q1⟩ := h1
  refine thn (ho.run pins s1 σ H1 _ I1 q1) fun u s2 h2 => ?_
  obtain ⟨x, H2, I2, r2, a, C, ex, T, hno, q⟩ := h2
  subst ex
  obtain rfl : u = Value.ref a := r2
  rcases q with ⟨ea, q⟩ | ⟨dx, fs, ea, ed, hl, q⟩
  · exact xset1 T Y I2 ea hno r1 fun dx s' n ne J => ⟨σ, _, J, q dx n ne⟩
  · exact xset2 T Y I2 ea ed hl hno r1 fun s' J => ⟨σ, _, J, q⟩
theorem pe_xat (he : PE X e te) (hb : attributeBase e f X.env (eval e X.env) = eval e X.env := by rfl) : PE X (.Attribute e f pos) (tXAt X.K bmB newId f te) := by
  refine ⟨fun pins s σ H Q I h => ?_⟩
  refine attr_of hb (thn (he.run pins s σ H _ I h) fun u s1 hh => ?_)
  obtain ⟨x, H1, I1, rx, a, C, dx, fs, v, ex, T, hno, ea, ed, hl, q⟩ := hh
  subst ex
  obtain rfl : u = Value.ref a := rx
  obtain ⟨⟨oc, odd, odt, osl⟩, vs0, ho, hc0, hd0, hf0⟩ := ex_any I1.hok ea
  dsimp only at hc0 hd0 hf0
  subst hc0 hd0 hf0
  obtain ⟨mA, hns, rel⟩ := exd_at I1.hok ed
  obtain ⟨od, hod, look⟩ := lookIn_ns hns
  obtain ⟨z, hz, rz⟩ := RelO.some_of (v := v) (o := mA f) (by have := rel f; rw [hl] at this; exact this)
  have J : PySem.W.InstAt s1.heap a _ C (some od) := ⟨ho, rfl, rfl, hod⟩
  exact HandSPX.exc_get I1.kIn J T.ga T.gt T.ex (PySem.W.findObj_own T.hd hno rfl (by rw [look, hz])) (handed_of rz) ⟨v, H1, I1.tok _, rz, q⟩
theorem call_xis : CallR X (.builtin "isinstance") (rXIs X.K) := by
  intro pins s σ H xs us Q I r h
  obtain ⟨a, C, bmB, newId, c, cv, b, rfl, T, hx, hcv, e, q⟩ := h
  cases r with
  | cons rx rr =>
    cases rr with
    | cons rt rr =>
      cases rr
      cases rx
      have ec := hcv _ rt
      subst ec
      have hcl : (PySem.W.clsIn X.K C).isSome = true := by
        obtain ⟨cd, hc, _⟩ := T.cls
        rw [hc]; rfl
      obtain ⟨d, hx, hd⟩ := hx
      obtain ⟨⟨oc, odd, odt, osl⟩, vs0, ho, hc0, hd0, hf0⟩ := ex_any I.hok hx
      dsimp only at hc0 hd0 hf0
      subst hc0 hd0 hf0
      rcases hd with rfl | ⟨dx, fs, rfl, hdx⟩
      · have J : PySem.W.InstAt s.heap a _ C none := ⟨ho, rfl, rfl, trivial⟩
        exact PySem.W.kia_one (PySem.W.kitx_exc hcl T.ga T.gt T.ex T.ca T.cn T.ct T.cm) I.kIn J e (fun z => nomatch z) fun tk => ⟨.bl b, H, I.kept (t' := tk) fun _ _ z => z, rfl, q⟩
      · obtain ⟨mA, hns, rel⟩ := exd_at I.hok hdx
        obtain ⟨od, hod, look⟩ := lookIn_ns hns
        have J : PySem.W.InstAt s.heap a _ C (some od) := ⟨ho, rfl, rfl, hod⟩
        exact PySem.W.kia_one (PySem.W.kitx_exc hcl T.ga T.gt T.ex T.ca T.cn T.ct T.cm) I.kIn J e (fun z => nomatch z) fun tk => ⟨.bl b, H, I.kept (t' := tk) fun _ _ z => z, rfl, q⟩
end
end L2
namespace XV
open PySem PySem.W PySem.Calls PyProof.Rows Builtin Builtin.ObjectAttr HandSPX
section
variable {prog : Program} {w : World} {A : Around} {E : Value → Shared → Prop} {R : Result → Shared → Prop} {h : Heap} {g : Array GenState} {d : Drawn} {t : Nat} {os : OsState}
variable {nm q : Str} {C N : Addr} {bs bm bmB : List Value} {hdct : Bool} {sn : List Str} {sub : List Value} {ab : Bool} {col : Option Bool} {dd : Option Addr} {k0 k1 k2 k3 k5 : Option Value} {B newId initId : String} {kw : List (Str × Value)} {rest : List Value}
theorem newLook {M : Model} {Q : Unit → Shared → Prop} (F : ExcBaseFacts B newId initId bmB) (hT : ∀ X : String, bm.contains (.type X) = bmB.contains (.type X))
    (hC : h.get? C = some (excClassObj nm q C N bs bm hdct sn sub ab col dd k0 k1 k2 k3 k5 newId)) (hq : Q () ⟨h, g, d, t, os⟩) :
    wpAny M A (checkBuiltinCall newId ⟨.ref C :: rest, kw⟩) Q E ⟨h, g, d, t, os⟩ := by
  have hB : (Value.ref C :: bm).contains (.type B) = true := by rw [List.contains_cons, hT, F.hasB, Bool.or_true]
  have star := F.noStar
  simp only [checkBuiltinCall, F.newKind, F.newSplit, F.newRow]
  repeat (first
    | refine wpAny_loadPart_at hC ?_
    | (refine wpAny_isSubtype_exc hC ?_; rw [hB])
    | refine wpAny_staticBase_exc hC ?_
    | refine wpAny_madeBy_exc hC ?_
    | simp only [bne_self_eq_false, Bool.false_eq_true, if_false]
    | wp_step)
  exact hq
theorem newRun (F : ExcBaseFacts B newId initId bmB) (hT : ∀ X : String, bm.contains (.type X) = bmB.contains (.type X))
    (hC : h.get? C = some (excClassObj nm q C N bs bm hdct sn sub ab col dd k0 k1 k2 k3 k5 newId))
    (hq : R (.ok (.ret (.ref (h.objs.size + 1)))) ⟨(h.push { cls := .type "tuple", data := .seq rest.toArray }).push
      { cls := .ref C, data := .fields #[.ref h.objs.size, .none, .none, .none, .bool false, .none] }, g, d, t, os⟩) (hrest : rest.length ≤ sizeLine) :
    codeAny (model prog w) A (.builtin newId ⟨.ref C :: rest, kw⟩) R ⟨h, g, d, t, os⟩ := by
  have ends := F.ends
  have hB : (Value.ref C :: bm).contains (.type B) = true := by rw [List.contains_cons, hT, F.hasB, Bool.or_true]
  have hA : (Value.ref C :: bm).contains (.type "AttributeError") = false := by rw [List.contains_cons, hT, F.noAttr]; rfl
  have hN : (Value.ref C :: bm).contains (.type "NameError") = false := by rw [List.contains_cons, hT, F.noName]; rfl
  refine codeAny_builtinAt F.entry ?_
  unfold Builtin.«BaseException.__new__»
  refine PySem.wpAt_bind ?_
  show PySem.wpAt _ _ _ (stack >>= _) _ _ _
  refine PySem.wpAt_bind (PySem.wpAt_stack fun p below => PySem.wpAt_of_wpAny ?_)
  wp_walk
  refine PySem.wpAt_of_wpAny ?_
  rw [F.owner]
  repeat (first
    | with_reducible refine wpAny_madeHere_exc F.canon hC ?_
    | with_reducible refine wpAny_loadPart_at hC ?_
    | (with_reducible refine wpAny_isSubtype_exc hC ?_; first | rw [hB] | rw [hA] | rw [hN])
    | wp_step)
  show R _ _
  rw [Heap.size_push]
  exact hq
theorem typeCall (F : ExcBaseFacts B newId initId bmB) (hT : ∀ X : String, bm.contains (.type X) = bmB.contains (.type X)) {fI : Addr} {Q : Fin → Shared → Prop}
    (hC : h.get? C = some (excClassObj nm q C N bs bm hdct sn sub ab col dd k0 k1 k2 k3 k5 newId))
    (hi : Looks (model prog w) h (typeLookup (.ref C) "__init__") (some (.ref fI))) (hb : ∀ self, Looks (model prog w) h (bindSpecial (.ref fI) self) (.ref fI, [self])) (hrest : rest.length ≤ sizeLine)
    (hq : codeAny (model prog w) A (.call (.ref fI) ⟨.ref (h.objs.size + 1) :: rest, kw⟩)
      (fun r s' => match r with
        | .ok (.ret v) => v = .none ∧ Q (.done (.ret (.ref (h.objs.size + 1)))) s'
        | .ok _ => False
        | .error e => E e s')
      ⟨(h.push (kdv_tup rest)).push (excO C h.objs.size), g, d, t, os⟩) :
    wpAny (model prog w) A (Builtin.«type.__call__» ⟨.ref C :: rest, kw⟩) Q E ⟨h, g, d, t, os⟩ := by
  repeat (first
    | with_reducible refine wpAny_loadPart_at hC ?_
    | with_reducible refine wpAny_madeBy_exc hC ?_
    | wp_step)
  refine codeAny_call_builtin_code (Code.quiet_builtin _ F.quiet) (newLook F hT hC ?_)
  refine newRun F hT hC ?_ hrest
  show wpAny _ _ _ _ _ _
  have k : ∀ b o, h.get? b = some o → ((h.push (kdv_tup rest)).push (excO C h.objs.size)).get? b = some o :=
    fun b o e => Heap.get?_push_of_some _ (Heap.get?_push_of_some _ e)
  have hC1 := k _ _ hC
  have got : ((h.push (kdv_tup rest)).push (excO C h.objs.size)).get? (h.objs.size + 1) = some (excO C h.objs.size) := by heap_get
  have hCC : (Value.ref C :: bm).contains (.ref C) = true := by simp
  unfold isInstance
  repeat (first
    | with_reducible refine wpAny_loadPart_at got ?_
    | (with_reducible refine wpAny_isSubtype_exc hC1 ?_; rw [hCC])
    | wp_step)
  show wpAny _ _ (typeLookup (.ref C) _) _ _ _
  refine (hi.keeps k).at ?_
  refine wpAny_holding (wpAny_bind (((hb (.ref (h.objs.size + 1))).keeps k).at ?_))
  refine wpAny_bind (wpAny_call (codeAny_mono hq fun r s' z => ?_))
  rcases r with er | (v | _ | _ | _) <;> first
    | exact z
    | exact z.elim
    | skip
  obtain ⟨rfl, z⟩ := z
  first
    | exact wpAny_pure (wpAny_pure z)
    | (wp_walk
       exact z)
theorem callX (F : ExcBaseFacts B newId initId bmB) (hT : ∀ X : String, bm.contains (.type X) = bmB.contains (.type X)) {fI : Addr}
    (hC : h.get? C = some (excClassObj nm q C N bs bm hdct sn sub ab col dd k0 k1 k2 k3 k5 newId))
    (hi : Looks (model prog w) h (typeLookup (.ref C) "__init__") (some (.ref fI))) (hb : ∀ self, Looks (model prog w) h (bindSpecial (.ref fI) self) (.ref fI, [self])) (hrest : rest.length ≤ sizeLine)
    (hq : codeAny (model prog w) (A.under (.builtin "type.__call__" ⟨.ref C :: rest, kw⟩)) (.call (.ref fI) ⟨.ref (h.objs.size + 1) :: rest, kw⟩) (InitBack (h.objs.size + 1) R)
      ⟨(h.push (kdv_tup rest)).push (excO C h.objs.size), g, d, t, os⟩) :
    codeAny (model prog w) A (.call (.ref C) ⟨rest, kw⟩) R ⟨h, g, d, t, os⟩ := by
  have f1 := tc_lookup
  have f2 := tc_bind (.ref C)
  have isT : (⟨h, g, d, t, os⟩ : Shared).TypeIs (.ref C) "type" := ⟨_, hC, rfl⟩
  refine codeAny_of_tree ?_
  show wpAny _ _ (callAny (.ref C) _) _ _ _
  repeat (any_goals (first
    | assumption
    | with_reducible refine wpAny_loadPart_at hC ?_
    | wp_step))
  refine ⟨rfl, ?_⟩
  refine codeAny_call_builtin_at (Code.quiet_builtin _ (by decide +kernel)) entry_typeCall
    (wpAny_check_type_call_sub hC (typeCall F hT hC hi hb hrest ?_))
  refine codeAny_mono hq fun r s' z => ?_
  rcases r with e | (v | _ | _ | _) <;> exact z
end
end XV
namespace L2
open PySem PySem.Spec PyProof.Rows
/-- C(e, .., k = v, ..) of an own exception class with an __init__ of its own, as a value: n values, keywords by their names -/
def tXNewN (C : Addr) (n m : Nat) (sp : Sp) (gV : List V → List V → List V) (t tk : TA) : TE := fun σ H Q => t σ H fun vs H1 => tk σ H1 fun zs H2 => vs.length = n ∧ zs.length = m ∧
  ∀ a, H2 a = none → sp (gV (.ref a :: vs) zs) (upd H2 a (exo a C none)) (fun v H3 => v = .non ∧ Q (.ref a) H3) E0
section
variable {X : Cx} {k n : Nat} {fI C : Addr} {fd : FuncData} {ps ks : List Str} {sp : Sp} {x : Str} {p pos : Pos} {e : Expr} {es : List Expr} {kws : List Keyword} {t tk : TA} {g : List Value → List Value → List Value} {gV : List V → List V → List V}
variable {B newId initId : String} {bmB : List Value}
theorem run_xnew {pins : List (Addr × Obj)} {σ : St} {H : Hp} {s : Shared} {Q : VK} {us ws : List Value} {vs zs : List V} (T : XC X.K C bmB newId) (Y : XB B bmB newId initId) (iC : PySem.W.findIn X.K (.ref C) "__init__" = some (some (.ref fI)))
    (tI : PySem.W.typeIn X.K (.ref fI) = some (.type "function")) (F1 : FnOk X.prog X.w X.K X.mg X.base CX0 k fI fd ps sp) (hr : Room (k + 1) X.A) (hb : KBn X.K fd ps (n + 1) ks g gV)
    (I : Inv X pins σ H s) (r : Vals vs us) (rz : Vals zs ws) (l1 : vs.length = n) (l2 : zs.length = ks.length) (hn : n ≤ 1000)
    (h : ∀ a, H a = none → sp (gV (.ref a :: vs) zs) (upd H a (exo a C none)) (fun v H3 => v = .non ∧ Q (.ref a) H3) E0) :
    wpAny (model X.prog X.w) X.A (call (.ref C) us (ks.zip ws)) (EP X pins σ Q) X.xe s := by
  obtain ⟨nm, N, qn, bs, bm, hdct, sn, sub, ab, col, dd, k0, k1, k2, k3, k5, hC, hbm⟩ := PySem.W.excInit_of I.kIn T.q
  obtain ⟨hp, gs, dr, tk, os⟩ := s
  have above : hp.objs.size ≤ hp.objs.size + 1 := Nat.le_succ _
  have hq := h (hp.objs.size + 1) (I.hok.fresh above)
  have kk : ∀ b o, hp.get? b = some o → ((hp.push (PySem.W.kdv_tup us)).push (PySem.HandSPX.excO C hp.objs.size)).get? b = some o :=
    fun b o e => Heap.get?_push_of_some _ (Heap.get?_push_of_some _ e)
  have got : ((hp.push (PySem.W.kdv_tup us)).push (PySem.HandSPX.excO C hp.objs.size)).get? (hp.objs.size + 1) = some (PySem.HandSPX.excO C hp.objs.size) := by heap_get
  have I2 : Inv X pins σ (upd H (hp.objs.size + 1) (exo (hp.objs.size + 1) C none)) ⟨(hp.push (PySem.W.kdv_tup us)).push (PySem.HandSPX.excO C hp.objs.size), gs, dr, tk, os⟩ :=
    I.laid (t' := tk) (a := hp.objs.size + 1) (o := exo (hp.objs.size + 1) C none) kk above (exo_ok got)
  have r1 : Vals (V.ref (hp.objs.size + 1) :: vs) (Value.ref (hp.objs.size + 1) :: us) := .cons rfl r
  have r2 := hb.rel r1 rz
  have e1 : (Value.ref (hp.objs.size + 1) :: us).length = n + 1 := r1.length.symm.trans (congrArg Nat.succ l1)
  have e2 : ws.length = ks.length := rz.length.symm.trans l2
  have hus : us.length ≤ sizeLine := by
    have := r.length
    rw [sizeLine_eq]
    omega
  refine wpAny_call (XV.callX Y.base hbm hC (PySem.W.looks_findIn I.kIn iC) (fun self => PySem.W.bind_fn I.kIn self tI) hus
    (codeAny_mono (F1.run _ X.stack _ _ ⟨Value.ref (hp.objs.size + 1) :: us, ks.zip ws⟩ (g (Value.ref (hp.objs.size + 1) :: us) ws) _ _ E0
      (hr.make C us (ks.zip ws)) (I2.env0.make C us (ks.zip ws)) (hb.to _ (Value.ref (hp.objs.size + 1) :: us) ws I2.kIn e1 e2) r2 hq) fun r s' hq' => ?_))
  cases r with
  | error er => exact False.elim hq'
  | ok fl =>
    cases fl with
    | ret u =>
      obtain ⟨v, H', I3, rv, ev, q3⟩ := I2.after hq'
      subst ev
      exact ⟨rv, ⟨V.ref (hp.objs.size + 1), H', I3, rfl, q3⟩⟩
    | next => exact False.elim hq'
    | brk => exact False.elim hq'
    | cont => exact False.elim hq'
theorem pe_xnewP (T : XC X.K C bmB newId) (Y : XB B bmB newId initId) (iC : PySem.W.findIn X.K (.ref C) "__init__" = some (some (.ref fI)))
    (tI : PySem.W.typeIn X.K (.ref fI) = some (.type "function")) (F1 : FnOk X.prog X.w X.K X.mg X.base CX0 k fI fd ps sp) (hr : Room (k + 1) X.A) (hb : KBn X.K fd ps (n + 1) [] g gV) (hn : n ≤ 1000) (hg : Gl X x) (hm : X.mg x = some (.ref C))
    (ha : PA X (e :: es) t) (hdb : (x == ("__debug__" : Str)) = false := by decide) (he : starEach (e :: es) X.env = (false, eval e X.env) :: starEach es X.env := by rfl) (hpl : (backTo pos (starEach es X.env)).any (·.1) = false := by rfl) :
    PE X (.Call (.Name x p) (e :: es) [] pos) (tXNewN C n 0 sp gV t tNil) := by
  refine ⟨fun pins s σ H Q I h => ?_⟩
  refine wpAny_Call_Name_kw (ld_glob I hg hm ?_ hdb)
  refine PySem.W.callWith_K (h₀ := X.base) I.ok.mod.kin T.kC (thn (ha.run pos pins s σ H _ I h) fun us s1 h1 => ?_) he hpl
  obtain ⟨vs, H1, I1, r, l1, l2, q⟩ := h1
  exact ⟨I1.kIn, run_xnew (ks := []) T Y iC tI F1 hr hb I1 r .nil l1 rfl hn q⟩
theorem pe_xnewZ (T : XC X.K C bmB newId) (Y : XB B bmB newId initId) (iC : PySem.W.findIn X.K (.ref C) "__init__" = some (some (.ref fI)))
    (tI : PySem.W.typeIn X.K (.ref fI) = some (.type "function")) (F1 : FnOk X.prog X.w X.K X.mg X.base CX0 k fI fd ps sp) (hr : Room (k + 1) X.A) (hb : KBn X.K fd ps (0 + 1) [] g gV) (hg : Gl X x) (hm : X.mg x = some (.ref C))
    (hdb : (x == ("__debug__" : Str)) = false := by decide) : PE X (.Call (.Name x p) [] [] pos) (tXNewN C 0 0 sp gV tNil tNil) := by
  refine ⟨fun pins s σ H Q I h => ?_⟩
  refine wpAny_Call_Name_kw (ld_glob I hg hm ?_ hdb)
  obtain ⟨_, _, q⟩ := h
  exact PySem.W.callWith_K0 I.kIn T.kC (run_xnew (us := []) (ks := []) T Y iC tI F1 hr hb I .nil .nil rfl rfl (by decide) q)
end
end L2
namespace My
open PySem L2 Evl
set_option autoImplicit false
/-- an exception of the class at C with fields of which this is known | one without fields | one of these -/
def XF (C : Addr) (fs : List (Str × Pr)) : Pr := ⟨fun v H => ∃ (a dx : Addr) (vs : List (Str × V)), v = .ref a ∧ (H a = some (exo a C (some dx)) ∨ H a = some (exw a C (some dx))) ∧ H dx = some (exd dx vs) ∧ vs.map Prod.fst = fs.map Prod.fst ∧ AllP (fs.map Prod.snd) (vs.map Prod.snd) H,
  fun e ⟨a, dx, vs, h1, h2, h3, h4, h5⟩ => ⟨a, dx, vs, h1, h2.imp (e _ _) (e _ _), e _ _ h3, h4, AllP.m e h5⟩⟩
def X0 (C : Addr) : Pr := ⟨fun v H => ∃ a : Addr, v = .ref a ∧ (H a = some (exo a C none) ∨ H a = some (exw a C none)), fun e ⟨a, h1, h2⟩ => ⟨a, h1, h2.imp (e _ _) (e _ _)⟩⟩
def XK (C : Addr) : Pr := ⟨fun v H => ∃ a : Addr, v = .ref a ∧ ∃ d, (H a = some (exo a C d) ∨ H a = some (exw a C d)) ∧ (d = none ∨ ∃ dx fs, d = some dx ∧ H dx = some (exd dx fs)),
  fun e ⟨a, h1, d, h2, h3⟩ => ⟨a, h1, d, h2.imp (e _ _) (e _ _), h3.imp id fun ⟨dx, fs, z, h4⟩ => ⟨dx, fs, z, e _ _ h4⟩⟩⟩
/-- what an __init__ of one field promises; of two -/
def spI1 (C : Addr) (f : Str) : Sp := fun vs H Q _ => ∃ (a : Addr) (v : V), vs = [.ref a, v] ∧ H a = some (exo a C none) ∧ ∀ dx, H dx = none → dx ≠ a → Q .non (upd (upd H dx (exd dx [(f, v)])) a (exo a C (some dx)))
section
variable {te ta tb : TE} {t tk : TA} {σ : L2.St} {B : Hp} {p q : Pr} {ps qs : List Pr} {v : V} {K : PySem.W.Frag} {D : Ends} {C : Addr} {f g : Str} {n m : Nat} {gV : List V → List V → List V}
theorem look_all {H : Hp} : ∀ {fs : List (Str × Pr)} {vs : List (Str × V)}, vs.map Prod.fst = fs.map Prod.fst → AllP (fs.map Prod.snd) (vs.map Prod.snd) H → fs.lookup f = some p → ∃ v, vs.lookup f = some v ∧ p.P v H
  | [], _, _, _, h => by cases h
  | (g, r) :: fs, [], e, _, _ => by cases e
  | (g, r) :: fs, (g', w) :: vs, e, a, h => by
    obtain ⟨rfl, e'⟩ := List.cons.inj e
    rw [List.lookup_cons] at h ⊢
    by_cases c : (f == g') = true
    · rw [c] at h ⊢
      cases h
      exact ⟨w, rfl, a.1⟩
    · have c' : (f == g') = false := by simpa using c
      rw [c'] at h ⊢
      exact look_all e' a.2 h
theorem p_xat {fs : List (Str × Pr)} {bmB : List Value} {newId : String} (T : XC K C bmB newId) (hno : PySem.W.findIn K (.ref C) f = some none) (h : EvP te σ B (XF C fs)) (hl : fs.lookup f = some p) : EvP (tXAt K bmB newId f te) σ B p := fun H1 e Q k =>
  h H1 e _ fun v B2 H2 g2 b => by
    obtain ⟨a, dx, vs, rfl, h2, h3, h4, h5⟩ := b
    obtain ⟨w, hw, pw⟩ := look_all h4 h5 hl
    exact ⟨a, C, dx, vs, w, rfl, T, hno, h2.imp (g2.c _ _) (g2.c _ _), g2.c _ _ h3, hw, k w B2 H2 g2 pw⟩
theorem p_xis {bmB : List Value} {newId : String} {c : V} {cv : Value} {b : Bool} (T : XC K C bmB newId) (h : EvP te σ B (XK C)) (hc : EvP ta σ B (IsV c)) (hcv : ∀ u, RelV c u → u = cv) (hk : PySem.W.kitOne K (.ref C) cv = some b) :
    EvP (tCB (rXIs K) (tCons te (tCons ta tNil))) σ B (IsV (.bl b)) := fun H1 e Q k =>
  h H1 e _ fun v B2 H2 g2 b2 => hc H2 (g2.b.trans g2.c) _ fun w B3 H3 g3 b3 => by
    obtain rfl : w = c := b3
    obtain ⟨a, rfl, hx⟩ := (XK C).m (g2.c.trans g3.a) b2
    exact ⟨a, C, bmB, newId, w, cv, b, rfl, T, hx, hcv, hk, k _ _ _ (g2.join g3) rfl⟩
end
/-- the class D of the module, over which the built-in stands with that __init__ -/
structure XD (K : PySem.W.Frag) (mg : Str → Option Value) (x : Str) (D : Addr) (initId : String) : Prop where
  m : mg x = some (.ref D)
  s : PySem.W.specialIn K (.ref D) "__getattribute__" = some (some (.builtin "type.__getattribute__"))
  r : PySem.W.readsIn K D (.type "type") = true
  f : PySem.W.findCls K (.ref D) (.type "type") "__init__" = some (.val (.builtin initId))
  h : PySem.W.handedIn (.builtin initId) = true
end My
namespace L2
open PySem PySem.Spec PyProof.Rows
theorem pe_globR {X : Cx} {x : Str} {C : Addr} {p : Pos} (hg : Gl X x) (hm : X.mg x = some (.ref C)) (hd : (x == ("__debug__" : Str)) = false := by decide) : PE X (.Name x p) (tC (.ref C)) := by
  refine ⟨fun pins s σ H Q I h => ?_⟩
  exact ld_glob I hg hm ⟨.ref C, H, I, rfl, h⟩ hd
end L2
namespace My
set_option autoImplicit false
open PySem L2 Evl
/-- what a walk over this hands out: n things, the i-th of which P i is known -/
def Src (wi : TI) (σ : L2.St) (B : Hp) (n : Nat) (P : Nat → Pr) : Prop := ∀ H1, Ex B H1 → ∀ R : It → Hp → Prop, (∀ (J : It) (B' H2 : Hp) (G : Hp → Prop) (Y : Nat → Hp → V → Hp → Prop), Gr B H1 B' H2 → Walk J n G Y → (∀ H, Ex B' H → G H) →
  (∀ i H v H', i < n → Ex B' H → Y i H v H' → H' = H ∧ (P i).P v B') → R J H2) → wi σ H1 R
def DAt (K : PySem.W.Frag) (ds : List PyData) (i : Nat) : Pr := IsD K (ds.getD i .none)
section
variable {te ta tb : TE} {t tr : TA} {tt : TT} {σ : L2.St} {B B' H : Hp} {p q : Pr} {ps qs : List Pr} {v : V} {K : PySem.W.Frag} {D : Ends} {d e : PyData} {ds es : List PyData}
theorem dps_at : ∀ {vs : List V} {ds : List PyData} {i : Nat} {v : V}, DpAll K H vs ds → vs[i]? = some v → Dp K H v (ds.getD i .none)
  | [], [], i, v, _, h => by simp at h
  | w :: _, _ :: _, 0, v, .cons a _, h => by
    obtain rfl : w = v := Option.some.inj h
    exact a
  | _ :: _, _ :: _, i + 1, v, .cons _ b, h => dps_at (i := i) b h
theorem dps_len : ∀ {vs : List V} {ds : List PyData}, DpAll K H vs ds → vs.length = ds.length
  | [], [], _ => rfl
  | _ :: _, _ :: _, .cons _ b => congrArg Nat.succ (dps_len b)
theorem src_tup (h : EvP te σ B (IsD K (.tuple ds))) : Src (iTup K te) σ B ds.length (DAt K ds) := fun H1 a R k => h H1 a _ fun v B2 H2 g b => by
  cases b with
  | tup x y =>
    refine ⟨_, rfl, ⟨_, ex_t g.c x⟩, k _ B2 H2 _ _ g (by rw [← dps_len y]; exact walk_tup) (fun H e => ex_t e x) fun i H v H' _ e (z : H' = H ∧ _) => ⟨z.1, dps_at y z.2⟩⟩
def oneS (x : Str) (i : Nat) : Str := ⟨#[x.cps.getD i 0]⟩
theorem src_str {x : Str} (h : Ev te σ B (.str x)) : Src (iStr te) σ B x.cps.size (fun i => IsV (.str (oneS x i))) := fun H1 a R k => h H1 a _ fun H2 e =>
  ⟨x, rfl, k _ B H2 _ _ (Gr.wide a e) walk_str (fun _ _ => trivial) fun i H v H' hi _ z => by
    obtain ⟨z1, c, z2, rfl⟩ := z
    refine ⟨z1, ?_⟩
    show V.str ⟨#[c]⟩ = V.str (oneS x i)
    unfold oneS
    rw [Array.getD_eq_getD_getElem?, z2]
    rfl⟩
theorem src_rng {j : Nat} (h : EvPs t σ B [IsV (.int (j : Int))]) (hj : (j : Int) < 2 ^ 62) : Src (iRng1 t) σ B j (fun i => IsV (.int (i : Int))) := fun H1 a R k => h H1 a _ fun vs B2 H2 g b => by
  match vs, b with
  | [v], b =>
    obtain rfl : v = V.int j := b.1
    refine ⟨j, rfl, by omega, hj, ?_⟩
    rw [show ((j : Int)).toNat = j from rfl]
    refine k _ B2 H2 _ _ g walk_range (fun _ _ => trivial) fun i H v H' _ _ z => ⟨z.1, ?_⟩
    show v = V.int i
    rw [z.2]
    simp
/-- a comprehension over it, some items left out -/
theorem p_lcS {wi : TI} {n : Nat} {P : Nat → Pr} {g : TG} {vs : List Nat} (h : Src wi σ B n P) (hl : n ≤ 100000) (keep : Nat → Bool) (res : Nat → Pr)
    (step : ∀ i v B1, i < n → Ex B B1 → (P i).P v B1 → ∃ σ2, wipe σ2 vs = wipe σ vs ∧ (∀ H2 Q, Ex B1 H2 → Q σ2 H2 → g v (wipe σ vs) H2 Q) ∧ EvT tt σ2 B1 (keep i) ∧ (keep i = true → EvP te σ2 B1 (res i))) :
    EvP (tLc wi g tt te vs) σ B (LsP (((List.range n).filter keep).map res)) := fun H1 a Q k =>
  h H1 a _ fun J B2 H2 G Y gr w hG hY Dd hD => by
    refine lc_it w (fun i H3 => ∃ B3 acc, Gr B2 H2 B3 (wo Dd H3) ∧ H3 Dd = some (.lst acc) ∧ AllP (((List.range i).filter keep).map res) acc B3) ?_ ?_ ?_ ?_
    · exact ⟨B2, [], by rw [wo_new hD]; exact Gr.refl gr.c, upd_same, trivial⟩
    · rintro i H3 _ ⟨B3, acc, g3, _, _⟩
      exact hG H3 (g3.b.trans (g3.c.trans wo_ex))
    · rintro i v H3 H3' hi ⟨B3, acc, g3, hDd, hacc⟩ hy
      have exB : Ex B3 H3 := g3.c.trans wo_ex
      obtain ⟨rfl, pv⟩ := hY i H3 v H3' hi (g3.b.trans exB) hy
      have some3 : H3' Dd ≠ none := by
        rw [hDd]
        exact fun z => nomatch z
      obtain ⟨σ2, hw, hg, ht, he⟩ := step i v B3 hi (gr.b.trans g3.b) ((P i).m g3.b pv)
      refine hg H3' _ exB ⟨hw, ht H3' exB _ fun H4 e4 => ?_⟩
      have hD4 := e4 _ _ hDd
      have g4 : Gr B2 H2 B3 (wo Dd H4) := g3.side some3 (Gr.wide exB e4)
      have some4 : H4 Dd ≠ none := has e4 some3
      cases hk : keep i with
      | true =>
        rw [if_pos rfl]
        refine he hk H4 (exB.trans e4) _ fun y B5 H5 g5 hy => ?_
        have la : acc.length ≤ i := by
          rw [hacc.len, List.length_map]
          exact Nat.le_trans (List.length_filter_le _ _) (by rw [List.length_range]; exact Nat.le_refl _)
        refine ⟨acc, g5.a _ _ hD4, sz_lt (by omega), B5, acc ++ [y], by rw [wo_upd]; exact g4.side some4 g5, upd_same, ?_⟩
        rw [List.range_succ, List.filter_append, List.map_append]
        refine (hacc.m g5.b).app ?_
        have : List.filter keep [i] = [i] := by simp [hk]
        rw [this]
        exact ⟨hy, trivial⟩
      | false =>
        rw [if_neg Bool.false_ne_true]
        refine ⟨B3, acc, g4, hD4, ?_⟩
        rw [List.range_succ, List.filter_append, List.map_append]
        have : List.filter keep [i] = [] := by simp [hk]
        rw [this, List.map_nil, List.append_nil]
        exact hacc
    · rintro H3 ⟨B3, acc, g3, hDd, hacc⟩
      have hB3 : B3 Dd = none := wo_none g3.c
      refine k (.ref Dd) (upd B3 Dd (.lst acc)) H3 ⟨gr.a.trans (g3.a.trans wo_ex), gr.b.trans (g3.b.trans (Ex.new hB3)), fun b o e => ?_, fun x hb hh => ?_, fun z b ps q => ?_⟩ ⟨Dd, acc, rfl, upd_same, hacc.m (Ex.new hB3)⟩
      · by_cases n : b = Dd
        · subst n
          rw [upd_same] at e
          rw [hDd]
          exact e
        · rw [upd_ne n] at e
          exact g3.c.trans wo_ex _ _ e
      · have n : x ≠ Dd := fun z => by
          subst z
          exact has gr.a hh hD
        rw [upd_ne n]
        exact g3.d x (gr.d x hb hh) (has gr.a hh)
      · by_cases n : b = Dd
        · subst n
          rw [upd_same] at q
          cases q
        · rw [upd_ne n] at q
          exact g3.e (gr.e z) b ps q
/-- all items kept -/
theorem p_lcA {wi : TI} {n : Nat} {P : Nat → Pr} {g : TG} {vs : List Nat} (h : Src wi σ B n P) (hl : n ≤ 100000) (res : Nat → PyData)
    (step : ∀ i v B1, i < n → Ex B B1 → (P i).P v B1 → ∃ σ2, wipe σ2 vs = wipe σ vs ∧ (∀ H2 Q, Ex B1 H2 → Q σ2 H2 → g v (wipe σ vs) H2 Q) ∧ EvP te σ2 B1 (IsD K (res i))) :
    EvP (tLc wi g tYes te vs) σ B (IsD K (.list ((List.range n).map res))) := by
  have := p_lcS (tt := tYes) (te := te) h hl (fun _ => true) (fun i => IsD K (res i)) fun i v B1 hi e pv => by
    obtain ⟨σ2, a, b, c⟩ := step i v B1 hi e pv
    exact ⟨σ2, a, b, et_yes, fun _ => c⟩
  rw [List.filter_eq_self.mpr (fun _ _ => rfl)] at this
  refine d_lst (K := K) ?_
  rw [List.map_map]
  exact this
/-! ### data -/
theorem ev_in {i : Int} (h : EvP te σ B (IsD K (.int i))) : Ev te σ B (.int i) := ev_p (h.imp fun v B1 _ x => by cases x; rfl)
theorem ev_st {x : Str} (h : EvP te σ B (IsD K (.str x))) : Ev te σ B (.str x) := ev_p (h.imp fun v B1 _ x => by cases x; rfl)
theorem ed_bl {b : Bool} (h : Ev te σ B (.bl b)) : EvP te σ B (IsD K (.bool b)) := d_bl (p_ev h)
theorem ed_in {i : Int} (h : Ev te σ B (.int i)) : EvP te σ B (IsD K (.int i)) := d_int (p_ev h)
theorem ed_st {x : Str} (h : Ev te σ B (.str x)) : EvP te σ B (IsD K (.str x)) := d_str (p_ev h)
theorem ed_var {i : Nat} (h : σ[i]? = some (some v)) (hd : Dp K B v d) : EvP (tVar i) σ B (IsD K d) := p_var h hd
theorem ed_ref {a : Addr} (hd : Dp K B (.ref a) d) : EvP (tC (.ref a)) σ B (IsD K d) := fun H1 e _ k => k _ B H1 (Gr.refl e) hd
/-- the class of data -/
def tyS : PyData → String
  | .none => "NoneType"
  | .bool _ => "bool"
  | .int _ => "int"
  | .str _ => "str"
  | .list _ => "list"
  | .tuple _ => "tuple"
  | .dict _ => "dict"
theorem ty_d (h : Dp K H v d) : TyX K H v (.type (tyS d)) := by
  cases h with
  | non => exact .base .non
  | bl b => exact .base (.bl b)
  | int i => exact .base (.int i)
  | str x => exact .base (.str x)
  | lst a b =>
    rcases a with (a | ⟨o, a⟩) | ⟨o, its, n, hk, hc, _⟩
    · exact .base (.lst a)
    · exact .base (.frz a)
    · exact .kList hk hc
  | tup a b =>
    rcases a with (a | ⟨o, a⟩) | ⟨o, its, n, hk, hc, _⟩
    · exact .base (.tup a)
    · exact .fTuple a
    · exact .kTuple hk hc
theorem ev_isi {T : String} {b : Bool} (h : EvP te σ B (IsD K d)) (hk : kitB (tyS d) T = some b) : Ev (tCB (rIsi K) (tCons te (tCons (tC (.ty T)) tNil))) σ B (.bl b) := fun H1 a Q k =>
  h H1 a _ fun v B2 H2 g x => ⟨v, .ty T, .type (tyS d), .type T, b, rfl, .ty T, ty_d (dp_m g.c x), kit_ty hk, k H2 g.a⟩
theorem ev_lenD {es : List PyData} (h : EvP te σ B (IsD K d)) (hd : d = .tuple es ∨ d = .list es) : Ev (tCB (rLenS K) (tCons te tNil)) σ B (.int (es.length : Int)) := fun H1 a Q k =>
  h H1 a _ fun v B2 H2 g x => by
    rcases hd with rfl | rfl
    · cases x with
      | tup y z =>
        refine ⟨_, _, rfl, .inr (ex_t g.c y), ?_⟩
        rw [dps_len z]
        exact k H2 g.a
    · cases x with
      | lst y z =>
        refine ⟨_, _, rfl, .inl (ex_l g.c y), ?_⟩
        rw [dps_len z]
        exact k H2 g.a
theorem dps_strs : ∀ {vs : List V} {ys : List Str}, DpAll K H vs (ys.map .str) → vs = ys.map .str
  | [], [], _ => rfl
  | _ :: _, _ :: _, .cons a b => by
    cases a
    rw [dps_strs b]
    rfl
theorem dps_bls : ∀ {vs : List V} {bs : List Bool}, DpAll K H vs (bs.map .bool) → vs = bs.map .bl
  | [], [], _ => rfl
  | _ :: _, _ :: _, .cons a b => by
    cases a
    rw [dps_bls b]
    rfl
theorem inV_strs (x : Str) : ∀ ys : List Str, inV (.str x) (ys.map .str) = decide (x ∈ ys)
  | [] => rfl
  | y :: ys => by
    have ih := inV_strs x ys
    unfold inV at ih ⊢
    rw [List.map_cons, List.any_cons, ih]
    by_cases e : y = x
    · subst e
      simp [eqV]
    · have : eqV (V.str y) (V.str x) = false := by
        simp [eqV]
        exact e
      rw [this]
      simp [e, Ne.symm e, eq_comm]
theorem flat_strs (ys : List Str) : (ys.map V.str).all flatV = true := by
  rw [List.all_map, List.all_eq_true]
  intro _ _
  rfl
theorem ev_inT {x : Str} {ys : List Str} {neg : Bool} (ha : Ev ta σ B (.str x)) (hb : EvP tb σ B (IsD K (.tuple (ys.map .str)))) : Ev (tOp (rIn K neg) ta tb) σ B (.bl (if neg then !decide (x ∈ ys) else decide (x ∈ ys))) := fun H1 a Q k =>
  ha H1 a _ fun H2 e => hb H2 (a.trans e) _ fun v B2 H3 g z => by
    cases z with
    | tup y z =>
      have := dps_strs z
      subst this
      refine ⟨_, _, rfl, .inr (ex_t g.c y), rfl, flat_strs ys, ?_⟩
      rw [inV_strs]
      exact k H3 (e.trans g.a)
theorem ev_allL {bs : List Bool} (h : EvP te σ B (IsD K (.list (bs.map .bool)))) : Ev (tCB (rAll K) (tCons te tNil)) σ B (.bl (bs.all id)) := fun H1 a Q k =>
  h H1 a _ fun v B2 H2 g x => by
    cases x with
    | lst y z =>
      have := dps_bls z
      subst this
      exact ⟨_, bs, rfl, ex_l g.c y, k H2 g.a⟩
theorem dps_ix {i : Nat} {d : PyData} : ∀ {vs : List V} {ds : List PyData}, DpAll K H vs ds → ds[i]? = some d → ∃ v, vs[i]? = some v ∧ Dp K H v d := fun {vs ds} h e => by
  have hl := dps_len h
  have hi : i < vs.length := by rw [hl]; exact (List.getElem?_eq_some_iff.mp e).1
  refine ⟨vs[i], List.getElem?_eq_getElem hi, ?_⟩
  have := dps_at h (List.getElem?_eq_getElem hi)
  rw [List.getD_eq_getElem?_getD, e] at this
  exact this
theorem atI_len {α β : Type} {xs : List α} {ys : List β} {j : Int} {y : β} (hl : xs.length = ys.length) (h : atI ys j = some y) : ∃ n : Nat, ys[n]? = some y ∧ ∀ x, xs[n]? = some x → atI xs j = some x := by
  unfold atI at h ⊢
  rw [← hl] at h
  obtain ⟨n, hn, hy⟩ := Option.bind_eq_some_iff.mp h
  refine ⟨n, hy, fun x hx => ?_⟩
  rw [hn]
  exact hx
theorem ed_ixT {j : Int} (h : EvP ta σ B (IsD K (.tuple ds))) (hj : Ev tb σ B (.int j)) (hd : atI ds j = some d) : EvP (tOp (rIxT K) ta tb) σ B (IsD K d) := fun H1 a Q k =>
  h H1 a _ fun v B2 H2 g x => hj H2 (g.b.trans g.c) _ fun H3 e3 => by
    cases x with
    | tup y z =>
      obtain ⟨n, h1, h2⟩ := atI_len (dps_len z) hd
      obtain ⟨u, h3, h4⟩ := dps_ix z h1
      exact ⟨_, _, j, u, rfl, rfl, ex_t (g.c.trans e3) y, h2 u h3, k u B2 H3 (g.trans (Gr.wide g.c e3)) h4⟩
theorem ed_tup (h : EvPs t σ B (ds.map (IsD K))) (hl : ds.length ≤ 100000) : EvP (tTup t) σ B (IsD K (.tuple ds)) := d_tup (p_tup h (by rw [List.length_map]; exact hl))
theorem ed_if {b : Bool} (h : EvT tt σ B b) (h1 : b = true → EvP ta σ B p) (h2 : b = false → EvP tb σ B p) : EvP (tIf tt ta tb) σ B p := fun H1 a Q k => h H1 a _ fun H2 e2 => by
  cases b with
  | true => exact h1 rfl H2 (a.trans e2) _ fun v B3 H3 g x => k v B3 H3 ((Gr.wide a e2).trans g) x
  | false => exact h2 rfl H2 (a.trans e2) _ fun v B3 H3 g x => k v B3 H3 ((Gr.wide a e2).trans g) x
/-! ### statements -/
theorem ps_un3 {i j k : Nat} {d1 d2 d3 : PyData} (a : Ex B H) (h : EvP te σ B (IsD K (.tuple [d1, d2, d3])))
    (n : ∀ v1 v2 v3 B1 H1, Gr B H B1 H1 → Dp K B1 v1 d1 → Dp K B1 v2 d2 → Dp K B1 v3 d3 → D.nx (((σ.set i (some v1)).set j (some v2)).set k (some v3)) H1) :
    tAsg te (gTup K 3 (gCons (gName i) (gCons (gName j) (gCons (gName k) gNil)))) D σ H := h H a _ fun v B1 H1 g x => by
  cases x with
  | tup y z =>
    cases z with
    | cons z1 z =>
      cases z with
      | cons z2 z =>
        cases z with
        | cons z3 z =>
          cases z
          exact ⟨_, _, rfl, ex_t g.c y, rfl, _, _, rfl, _, _, rfl, _, _, rfl, rfl, n _ _ _ B1 H1 g z1 z2 z3⟩
/-! ### defs from data to data -/
/-- a def of the program's, as it is called -/
structure Cal (P : Program) (w : World) (K : PySem.W.Frag) (mg : Str → Option Value) (base : Heap) (x : Str) (k : Nat) (ps : List Str) (sp : Sp) (f : Addr) (fd : FuncData) : Prop where
  G : FnOk P w K mg base CX0 k f fd ps sp
  m : mg x = some (.ref f)
  k : PySem.W.keepIn K (.ref f) = true
  b : Binds K fd ps []
end
end My
namespace My
set_option autoImplicit false
open PySem PySem.Spec PyProof.Rows L2 Evl
section
variable {X : Cx}
/-- x in t, t a tuple of data of any depth -/
def rInT (K : PySem.W.Frag) : R2 := fun x y H Q => ∃ d ds, Dp K H x d ∧ Dp K H y (.tuple ds) ∧ SeqAt.shaped d = true ∧ SeqAt.shaped (.tuple ds) = true ∧ Q (.bl (ds.any fun z => PyData.eqv z d)) H
theorem op_inT (hu : X.A.units + 65 < cLine) : OpR X (compareOp .In) (rInT X.K) := by
  intro pins s σ H x y v u Q I rx ry ⟨d, ds, hd, he, sd, se, q⟩
  obtain ⟨as, r1⟩ := Dp.reads I d x v hd rx
  obtain ⟨bs, r2⟩ := Dp.reads I _ y u he ry
  exact SeqAt.in_tuple_reads r2 r1 (SeqAt.canLay_of_shaped se) (SeqAt.canLay_of_shaped sd) (room_in_shaped sd hu) ⟨.bl _, H, I, rfl, q⟩
end
section
variable {te ta tb : TE} {t tr : TA} {tt : TT} {σ : L2.St} {B B' H : Hp} {p q : Pr} {v : V} {K : PySem.W.Frag} {D : Ends} {d e : PyData} {ds es : List PyData}
theorem ev_inDT (ha : EvP ta σ B (IsD K d)) (hb : EvP tb σ B (IsD K (.tuple ds))) (hd : SeqAt.shaped d = true) (he : SeqAt.shaped (.tuple ds) = true) : Ev (tOp (rInT K) ta tb) σ B (.bl (ds.any fun z => PyData.eqv z d)) := fun H1 a Q k =>
  ha H1 a _ fun v B2 H2 g b => hb H2 (g.b.trans g.c) _ fun w B3 H3 g3 b3 => ⟨d, ds, dp_m (g.c.trans g3.a) b, dp_m g3.c b3, hd, he, k H3 (g.a.trans g3.a)⟩
end
/-! ### rankings and derivatives -/
def isNmB (x : Str) : Bool := decide (1 ≤ x.length) && decide (x.length ≤ 8) && x.cps.toList.all fun c => decide (97 ≤ c) && decide (c ≤ 122)
def IsNm (x : Str) : Prop := isNmB x = true
structure Rk where
  tot : Bool
  ns : List Str
  ax : Fin 3
def axsOf (a : Fin 3) : List Str := if a = 0 then ["x"] else if a = 1 then ["x", "y"] else ["y", "x"]
def Rk.axs (r : Rk) : List Str := axsOf r.ax
def Rk.srt (r : Rk) : Str := if r.tot then "total" else "names"
def Rk.D (r : Rk) : PyData := .tuple [.str r.srt, .tuple (r.ns.map .str), .tuple (r.axs.map .str)]
structure Rk.Ok (r : Rk) : Prop where
  ne : 1 ≤ r.ns.length
  le : r.ns.length ≤ 3
  nd : r.ns.Nodup
  nm : ∀ x ∈ r.ns, IsNm x
structure Dv where
  n : Str
  i : Int
  j : Int
deriving DecidableEq
def Dv.D (v : Dv) : PyData := .tuple [.str v.n, .int v.i, .int v.j]
structure Dv.Of (v : Dv) (r : Rk) : Prop where
  n : v.n ∈ r.ns
  i : 0 ≤ v.i
  j : 0 ≤ v.j
  y : v.j = 0 ∨ (Str.ofString "y") ∈ r.axs
def Rk.first (r : Rk) (v : Dv) : Int := if r.ax = 2 then v.j else v.i
def Rk.ahead (r : Rk) (v : Dv) : Int := -((r.ns.idxOf v.n : Nat) : Int)
def Rk.key (r : Rk) (v : Dv) : List Int := if r.tot then [v.i + v.j, r.first v, r.ahead v] else [r.ahead v, v.i + v.j, r.first v]
def cmpL (a b : List Int) : Int := if a = b then 0 else if HT.lexLt a b = true then -1 else 1
def Rk.cmp (r : Rk) (v u : Dv) : Int := cmpL (r.key v) (r.key u)

/-! ### what is known of such values -/
def NmP (ns : List Str) : Pr := ⟨fun v H => ∃ a o, v = .ref a ∧ H a = some (.frz o (.tup (ns.map .str))) ∧ o.dict = none, fun e ⟨a, o, h1, h2, h3⟩ => ⟨a, o, h1, e _ _ h2, h3⟩⟩
def DvP (u : Dv) : Pr := ⟨fun v H => ∃ a, v = .ref a ∧ H a = some (.tup [.str u.n, .int u.i, .int u.j]), fun e ⟨a, h1, h2⟩ => ⟨a, h1, e _ _ h2⟩⟩
def RkP (K : PySem.W.Frag) (r : Rk) : Pr := ⟨fun v H => ∃ a vn va, v = .ref a ∧ SqT K H a [.str r.srt, vn, va] ∧ (NmP r.ns).P vn H ∧ Dp K H va (.tuple (r.axs.map .str)), fun e ⟨a, vn, va, h1, h2, h3, h4⟩ => ⟨a, vn, va, h1, ex_t e h2, (NmP r.ns).m e h3, dp_m e h4⟩⟩
theorem dps_of_strs {K : PySem.W.Frag} {H : Hp} : ∀ ys : List Str, DpAll K H (ys.map V.str) (ys.map .str)
  | [] => .nil
  | y :: ys => .cons (.str y) (dps_of_strs ys)
theorem nm_d {K : PySem.W.Frag} {ns : List Str} {v : V} {H : Hp} (h : (NmP ns).P v H) : Dp K H v (.tuple (ns.map .str)) := by
  obtain ⟨a, o, rfl, h2, _⟩ := h
  exact .tup (.inl (.inr ⟨o, h2⟩)) (dps_of_strs ns)
theorem rk_d {K : PySem.W.Frag} {r : Rk} {v : V} {H : Hp} (h : (RkP K r).P v H) : Dp K H v r.D := by
  obtain ⟨a, vn, va, rfl, h2, h3, h4⟩ := h
  exact .tup h2 (.cons (.str _) (.cons (nm_d h3) (.cons h4 .nil)))
theorem dv_d {K : PySem.W.Frag} {u : Dv} {v : V} {H : Hp} (h : (DvP u).P v H) : Dp K H v u.D := by
  obtain ⟨a, rfl, h2⟩ := h
  exact .tup (st_of h2) (.cons (.str _) (.cons (.int _) (.cons (.int _) .nil)))
section
variable {te ta tb : TE} {t tr : TA} {tt : TT} {σ : L2.St} {B B' H : Hp} {p q : Pr} {ps : List Pr} {v : V} {K : PySem.W.Frag} {D : Ends} {r : Rk} {u : Dv}
theorem ed_rk (h : EvP te σ B (RkP K r)) : EvP te σ B (IsD K r.D) := h.imp fun _ _ _ x => rk_d x
theorem ed_dv (h : EvP te σ B (DvP u)) : EvP te σ B (IsD K u.D) := h.imp fun _ _ _ x => dv_d x
theorem ed_nm {ns : List Str} (h : EvP te σ B (NmP ns)) : EvP te σ B (IsD K (.tuple (ns.map .str))) := h.imp fun _ _ _ x => nm_d x
/-- (name, i, j), made -/
theorem p_dv {a b c : V} (ha : a = .str u.n) (hb : b = .int u.i) (hc : c = .int u.j) (h : EvPs t σ B [IsV a, IsV b, IsV c]) : EvP (tTup t) σ B (DvP u) := fun H1 e Q k =>
  h H1 e _ fun vs B2 H2 g b => by
    subst ha hb hc
    match vs, b with
    | [x, y, z], b =>
      obtain rfl : x = _ := b.1
      obtain rfl : y = _ := b.2.1
      obtain rfl : z = _ := b.2.2.1
      exact ⟨sz_of (by show 3 ≤ 100000; decide), fun w hw => k _ _ _ (g.trans (Gr.new _ g.c hw)) ⟨w, rfl, upd_same⟩⟩
/-- a ranking unpacked -/
theorem ps_unR {i j k : Nat} (a : Ex B H) (h : EvP te σ B (RkP K r))
    (n : ∀ v2 v3 B1 H1, Gr B H B1 H1 → (NmP r.ns).P v2 B1 → Dp K B1 v3 (.tuple (r.axs.map .str)) → D.nx (((σ.set i (some (.str r.srt))).set j (some v2)).set k (some v3)) H1) :
    tAsg te (gTup K 3 (gCons (gName i) (gCons (gName j) (gCons (gName k) gNil)))) D σ H := h H a _ fun v B1 H1 g x => by
  obtain ⟨p, vn, va, rfl, h2, h3, h4⟩ := x
  exact ⟨_, _, rfl, ex_t g.c h2, rfl, _, _, rfl, _, _, rfl, _, _, rfl, rfl, n _ _ B1 H1 g h3 h4⟩
theorem ps_unD {i j k : Nat} (a : Ex B H) (h : EvP te σ B (DvP u)) (n : ∀ B1 H1, Gr B H B1 H1 → D.nx (((σ.set i (some (.str u.n))).set j (some (.int u.i))).set k (some (.int u.j))) H1) :
    tAsg te (gTup K 3 (gCons (gName i) (gCons (gName j) (gCons (gName k) gNil)))) D σ H := h H a _ fun v B1 H1 g x => by
  obtain ⟨p, rfl, h2⟩ := x
  exact ⟨_, _, rfl, st_of (g.c _ _ h2), rfl, _, _, rfl, _, _, rfl, _, _, rfl, rfl, n B1 H1 g⟩
/-! ### defs by what is known of what is handed in -/
def spP (R : List Pr → Pr → Prop) : Sp := fun vs H Q _ => ∃ B ps p, Ex B H ∧ AllP ps vs B ∧ R ps p ∧ ∀ v B' H', Gr B H B' H' → p.P v B' → Q v H'
theorem p_callP {R : List Pr → Pr → Prop} (h : EvPs t σ B ps) (hr : R ps p) : EvP (tCall (spP R) [] E0 t) σ B p := fun H1 a Q k =>
  h H1 a _ fun vs B2 H2 g b => by
    rw [List.append_nil]
    exact ⟨B2, ps, p, g.c, b, hr, fun v B3 H3 g3 x => k v B3 H3 (g.trans g3) x⟩
theorem spP_len {R : List Pr → Pr → Prop} {n : Nat} (h : ∀ ps p, R ps p → ps.length = n) : ∀ vs H Q E, spP R vs H Q E → vs.length = n := fun vs H Q E ⟨B, ps, p, _, a, b, _⟩ => by rw [a.len, h ps p b]
end
/-! ### t.index(x) -/
section
open PySem PySem.Spec PyProof.Rows
variable {X : Cx}
theorem pe_tupIndex {o e : Expr} {to te : TE} {apos cpos : Pos} (ho : PE X o to) (he : PE X e te)
    (hbase : attributeBase o "index" X.env (eval o X.env) = eval o X.env := by rfl) (hline : (apos.endLine == cpos.line) = true := by rfl) (hs : starEach [e] X.env = (false, eval e X.env) :: starEach [] X.env := by rfl) (hs2 : backTo cpos (starEach [e] X.env) = [(false, eval e X.env)] := by rfl) :
    PE X (.Call (.Attribute o "index" apos) [e] [] cpos) (fun σ H Q => to σ H fun v H1 => ∃ (a : Addr) (ob : Obj) (ys : List Str), v = .ref a ∧ H1 a = some (.frz ob (.tup (ys.map .str))) ∧ ob.dict = none ∧
      te σ H1 fun y H2 => ∃ z : Str, y = .str z ∧ H2 a = some (.frz ob (.tup (ys.map .str))) ∧ z ∈ ys ∧ Q (.int ((ys.idxOf z : Nat) : Int)) H2) := by
  refine ⟨fun pins s σ H Q I h => ?_⟩
  refine wpAny_Call_method1_late hbase hline hs2 (thn (ho.run pins s σ H _ I h) fun v s1 ⟨x, H1, I1, r1, a, ob, ys, ex, h1, hd, q1⟩ => ?_)
  subst ex
  obtain rfl : v = Value.ref a := r1
  obtain ⟨g1, _, its, rv, ob2, g2, hc, _⟩ := (show ObjOk X.prog X.w H1 s1.heap a (.frz ob (.tup (ys.map .str))) from I1.hok a _ h1)
  rw [g1] at g2
  obtain rfl := Option.some.inj g2
  refine ⟨"tuple", "tuple.index", PySem.F.plainAttrs_tuple, PySem.F.slot_tuple_index, PySem.F.type_tuple_index, ⟨ob, g1, hc⟩, fun c e => ?_, ?_⟩
  · cases e
    exact ⟨ob, g1, hd⟩
  · have hA := (pa_cons he pa_nil hs).run cpos pins s1 σ H1 (fun vs H2 => ∃ y, vs = [y] ∧ ∃ z : Str, y = .str z ∧ H2 a = some (.frz ob (.tup (ys.map .str))) ∧ z ∈ ys ∧ Q (.int ((ys.idxOf z : Nat) : Int)) H2) I1
      (by
        show te σ H1 fun y H2 => ∃ y', [y] = [y'] ∧ _
        have : (fun y H2 => ∃ z : Str, y = V.str z ∧ H2 a = some (.frz ob (.tup (ys.map .str))) ∧ z ∈ ys ∧ Q (.int ((ys.idxOf z : Nat) : Int)) H2) = (fun y H2 => ∃ y', [y] = [y'] ∧ ∃ z : Str, y' = .str z ∧ H2 a = some (.frz ob (.tup (ys.map .str))) ∧ z ∈ ys ∧ Q (.int ((ys.idxOf z : Nat) : Int)) H2) := by
          funext y H2
          apply propext
          constructor
          · intro q
            exact ⟨y, rfl, q⟩
          · rintro ⟨y', e, q⟩
            obtain rfl : y = y' := by simpa using e
            exact q
        rw [← this]
        exact q1)
    rw [hs2] at hA
    refine Calls.callWith_builtin rfl (Calls.evalArgs_plain ?_)
    refine thn hA fun us s2 ⟨vs, H2, I2, r2, y, ev, z, ey, h2, hm, q2⟩ => ?_
    subst ev
    subst ey
    have hl := List.idxOf_lt_length_of_mem hm
    exact mt_tup_index pins s2 σ H2 (.ref a) [.str z] (.ref a) us Q I2 rfl r2 ⟨a, ys, z, ys.idxOf z, rfl, rfl, .inl (.inr ⟨ob, h2⟩), by rw [List.getElem?_eq_getElem hl, List.getElem_idxOf hl], fun m hm' e => by
      have hlt : m < ys.length := (List.getElem?_eq_some_iff.mp e).1
      have e2 : ys[m] = z := (List.getElem?_eq_some_iff.mp e).2
      have := List.not_of_lt_findIdx (p := fun y => y == z) (xs := ys) (i := m) (by exact hm')
      rw [e2] at this
      simp at this, q2⟩
/-- tuple(l), the new tuple known as it stands -/
theorem call_tupleF : CallR X (.type "tuple") (fun xs H Q => ∃ p ys, xs = [.ref p] ∧ SqL X.K H p ys ∧ ∀ l o, H l = none → o.dict = none → Q (.ref l) (upd H l (.frz o (.tup ys)))) := by
  intro pins s σ H xs us Q I r ⟨p, ys, ex, hq, q⟩
  subst ex
  obtain ⟨u, rfl, rx⟩ := vals1 r
  obtain rfl : u = Value.ref p := rx
  obtain ⟨its, rv, pl, hz⟩ := I.list hq
  have hlen := rv.length
  refine call_tuple_list pl.isList (fun h1 kp => ?_) (by simp only [List.size_toArray] <;> omega)
  have I1 : Inv X pins σ H { s with heap := h1 } := I.kept (t' := s.toks) kp
  have n1 := I1.hok.fresh (Nat.le_refl h1.objs.size)
  have I2 : Inv X pins σ (upd H h1.objs.size (.frz { cls := .type "tuple", data := .seq its.toArray } (.tup ys))) { s with heap := h1.push { cls := .type "tuple", data := .seq its.toArray } } :=
    I1.laid (t' := s.toks) (fun b o e => Heap.get?_push_of_some _ e) (Nat.le_refl _) ⟨Heap.get?_push_size _ rfl, hz, its, rv, IsTup.new _ _⟩
  exact ⟨.ref h1.objs.size, _, I2, rfl, q _ _ n1 rfl⟩
end
section
open PySem L2 Evl
variable {te ta tb : TE} {t tr : TA} {tt : TT} {σ : L2.St} {B B' H : Hp} {p q : Pr} {ps : List Pr} {v : V} {K : PySem.W.Frag} {D : Ends} {r : Rk} {u : Dv}
theorem ev_tupIx {x : Str} {ys : List Str} (h : EvP ta σ B (NmP ys)) (hx : Ev tb σ B (.str x)) (hm : x ∈ ys) :
    Ev (fun σ H Q => ta σ H fun v H1 => ∃ (a : Addr) (ob : Obj) (ys : List Str), v = .ref a ∧ H1 a = some (.frz ob (.tup (ys.map .str))) ∧ ob.dict = none ∧
      tb σ H1 fun y H2 => ∃ z : Str, y = .str z ∧ H2 a = some (.frz ob (.tup (ys.map .str))) ∧ z ∈ ys ∧ Q (.int ((ys.idxOf z : Nat) : Int)) H2) σ B (.int ((ys.idxOf x : Nat) : Int)) := fun H1 a Q k =>
  h H1 a _ fun v B2 H2 g b => by
    obtain ⟨p, o, rfl, h2, h3⟩ := b
    exact ⟨p, o, ys, rfl, g.c _ _ h2, h3, hx H2 (g.b.trans g.c) _ fun H3 e3 => ⟨x, rfl, e3 _ _ (g.c _ _ h2), hm, k H3 (g.a.trans e3)⟩⟩
end
end My
namespace My
set_option autoImplicit false
open PySem PySem.Spec PySem.W PySem.Calls PyProof.Rows L2 Evl
/-- the values are these texts, all unlike -/
def TxtAt (items : Array Value) (xs : List Str) : Prop := items.size = xs.length ∧ ∀ (i : Nat) (v : Value), items[i]? = some v → ∃ t x, v = .str x t ∧ xs[i]? = some x
theorem txtAt_of {xs : List Str} {us : List Value} (h : Vals (xs.map V.str) us) : TxtAt us.toArray xs := by
  refine ⟨by rw [List.size_toArray, ← h.length, List.length_map], fun i v hv => ?_⟩
  have hi : i < us.length := by
    rw [List.getElem?_toArray] at hv
    exact (List.getElem?_eq_some_iff.mp hv).1
  have hx : i < xs.length := by
    have := h.length
    rw [List.length_map] at this
    omega
  obtain ⟨u, hu, r⟩ := h.get (i := i) (x := .str xs[i]) (by rw [List.getElem?_map, List.getElem?_eq_getElem hx]; rfl)
  rw [List.getElem?_toArray, hu] at hv
  obtain rfl := Option.some.inj hv
  obtain ⟨t, rfl⟩ := r
  exact ⟨t, _, rfl, List.getElem?_eq_getElem hx⟩
section
variable {prog : Program} {w : World} {A : Around} {R : Result → Shared → Prop} {I : Addr} {fp wr : List Addr} {n : Nat} {G : Array GenState → Array GenState → Prop} {P : Nat → Value → Prop} {St : Nat → Shared → Prop}
/-- the first i of them are in the set at S -/
abbrev SetTo (prog : Program) (w : World) (h : Heap) (S : Addr) (xs : List Str) (i : Nat) : Prop := h.SetOf (PySem.strKind prog w) S (fun z => decide (z ∈ xs.take i)) i
theorem SetTo.moved {h h' : Heap} {S : Addr} {xs : List Str} {i : Nat} (x : SetTo prog w h S xs i) (k : ∀ o, h.get? S = some o → h'.get? S = some o) : SetTo prog w h' S xs i := by
  obtain ⟨ob, es, ep, tb, ho, more⟩ := x
  exact ⟨ob, es, ep, tb, k _ ho, more⟩
theorem setLoop (W : WalksS prog w A.in1 I fp wr G n P St) (S : Addr) (ns : S ∉ fp) (xs : List Str) (hlen : xs.length = n) (nd : xs.Nodup) (hbig : n + 1 < scanBound) (hv : ∀ i v, P i v → ∃ t x, v = .str x t ∧ xs[i]? = some x) :
    ∀ (m i : Nat) (s : Shared), n - i = m → i ≤ n → St i s → SetTo prog w s.heap S xs i →
      (∀ z, Moved (S :: wr) G s z → SetTo prog w z.heap S xs n → R (.ok (.ret .none)) z) → codeAny (model prog w) A (.builtin "set.update.loop" ⟨[.ref S, .ref I], []⟩) R s := by
  have nw : S ∉ wr := fun q => ns (W.sub _ q)
  have more : ∀ c ∈ wr, c ∈ S :: wr := fun c q => List.mem_cons_of_mem _ q
  intro m
  induction m with
  | zero =>
    intro i s hm hi st x k
    obtain rfl : i = n := by omega
    refine codeAny_builtin PyProof.Rows.F.entry_set_update_loop ?_
    rw [Around.under_plainId (PyProof.Rows.F.plain_set_update_loop) _]
    show wpAny _ A.in1 (pyNext (.ref I) >>= _) _ _ s
    refine wpAny_bind (W.done s _ _ st fun z mv => ?_)
    show wpAny _ _ (ret .none) _ _ z
    exact wpAny_pure (k z (mv.mono more) (x.moved fun o e => mv.heap S o nw e))
  | succ m ih =>
    intro i s hm hi st x k
    have il : i < n := by omega
    refine codeAny_builtin PyProof.Rows.F.entry_set_update_loop ?_
    rw [Around.under_plainId (PyProof.Rows.F.plain_set_update_loop) _]
    show wpAny _ A.in1 (pyNext (.ref I) >>= _) _ _ s
    refine wpAny_bind (W.item i s _ _ il st fun v z pv st1 mv => ?_)
    obtain ⟨t, y, rfl, hy⟩ := hv i v pv
    have x1 : SetTo prog w z.heap S xs i := x.moved fun o e => mv.heap S o nw e
    show wpAny _ _ (holding [Value.str y t] (setAdd S (.str y t)) >>= _) _ _ z
    refine wpAny_bind (wpAny_holding ?_)
    unfold setAdd
    refine wpAny_holding (wpAny_bind ((PySem.strKind prog w).pyHash (k := y) (strKind_is _ _ _ _) ?_))
    refine wpAny_setAddHashed_of (knd := PySem.strKind prog w) (s := { z with toks := z.toks + 1 }) (strKind_is _ _ _ _) rfl x1 (by omega) fun h1 sb x2 => ?_
    have no : y ∉ xs.take i := fun q => by
      obtain ⟨j, hj⟩ := List.mem_iff_getElem?.mp q
      rw [List.getElem?_take] at hj
      by_cases hji : j < i
      · rw [if_pos hji] at hj
        obtain ⟨a1, a2⟩ := List.getElem?_eq_some_iff.mp hj
        obtain ⟨b1, b2⟩ := List.getElem?_eq_some_iff.mp hy
        exact List.pairwise_iff_getElem.mp nd j i a1 b1 hji (a2.trans b2.symm)
      · rw [if_neg hji] at hj
        cases hj
    have x3 : SetTo prog w h1 S xs (i + 1) := PyProof.Rows.SetOf_congr x2 (fun q => by
      rw [List.take_add_one, hy]
      simp [List.mem_append]) (by simp [no])
    refine wpAny_pure ⟨plainId_quiet (PyProof.Rows.F.plain_set_update_loop) _, ih (i + 1) _ (by omega) il (W.frame _ z _ _ st1 (Nat.le_succ _) fun c hc o e => ?_) x3 fun z2 mv2 x4 => ?_⟩
    · rw [sb.2 c fun q : c = S => ns (by rw [← q]; exact hc)]
      exact e
    · refine k z2 (Moved.trans W.gtrans ((mv.mono more).then_heap (Nat.le_succ _) fun c o hc e => ?_) mv2) x4
      rw [sb.2 c fun q : c = S => hc (by rw [q]; exact List.mem_cons_self)]
      exact e
end
section
variable {prog : Program} {w : World} {A : Around} {E : Value → Shared → Prop} {s : Shared}
set_option maxHeartbeats 8000000 in
/-- set(t), t a tuple of unlike texts -/
theorem call_setT {l : Addr} {items : Array Value} {xs : List Str} {Q : Value → Shared → Prop} (hh : A.handled = none) (tup : s.heap.IsTuple l items) (tx : TxtAt items xs) (nd : xs.Nodup) (hbig : xs.length + 1 < scanBound)
    (k : ∀ (h1 : Heap) (tk : Nat), SetTo prog w h1 s.heap.objs.size xs xs.length → (∀ c o, c < s.heap.objs.size → s.heap.get? c = some o → h1.get? c = some o) → Q (.ref s.heap.objs.size) { s with heap := h1, toks := tk }) :
    wpAny (model prog w) A (call (.type "set") [.ref l]) Q E s := by
  obtain ⟨mc, mt, mro⟩ := PySem.F.called_set.mro
  have m1 := PySem.F.called_set.made
  have m2 := PySem.F.called_set.sub
  refine wpAny_call (codeAny_of_tree ?_)
  show wpAny _ _ (callAny (.type "set") ⟨[.ref l], []⟩) _ _ _
  refine wpAny_pure ⟨Code.quiet_builtin _ (by decide +kernel), codeAny_builtin (PySem.F.entry_type_call) ?_⟩
  rw [Around.under_plain (weight_type_call_type "set" [.ref l] ([] : List (Str × Value))) rfl]
  have m3 := PySem.F.called_set.notType
  have m4 := PySem.F.called_set.canCreate
  have m5 := PySem.F.typeCall_set_1 (.ref l)
  repeat (any_goals (first | assumption | wp_step))

  refine codeAny_mono (code_set_new_1 (.ref l) (E := E) (Q₁ := fun u z => ∃ led : Bool, u = .ref s.heap.objs.size ∧ z = { s with heap := s.heap.push { cls := .type "set", dict := none, data := .set #[] 0 (.fresh 0 0 led) } }) fun led => ⟨led, rfl, rfl⟩) fun r z hr => ?_
  cases r with
  | error e => exact hr
  | ok fl =>
    cases fl with
    | ret u =>
      obtain ⟨led, rfl, rfl⟩ := hr
      have at0 : (s.heap.push { cls := .type "set", dict := none, data := .set #[] 0 (.fresh 0 0 led) }).get? s.heap.objs.size = some { cls := .type "set", dict := none, data := .set #[] 0 (.fresh 0 0 led) } := Heap.get?_push_size _ rfl
      have ty0 : Shared.TypeIs { s with heap := s.heap.push { cls := .type "set", dict := none, data := .set #[] 0 (.fresh 0 0 led) } } (.ref s.heap.objs.size) "set" := ⟨_, at0, rfl⟩
      have m6 := PySem.F.called_set.init.lookup
      have m7 := PySem.F.called_set.init.bind (.ref s.heap.objs.size)
      repeat (any_goals (first | assumption | wp_step))

      refine codeAny_mono (codeAny_call_builtin (R := wants (fun r z => r = .none ∧ ∃ h1 tk, z = { s with heap := h1, toks := tk } ∧ SetTo prog w h1 s.heap.objs.size xs xs.length ∧ ∀ c o, c < s.heap.objs.size → s.heap.get? c = some o → h1.get? c = some o) E)
        (PySem.F.called_set.init.plain) (PySem.F.entry_set_init) (check_set_init_1 ty0 ?_)) fun r2 z2 hr2 => ?_
      · obtain ⟨⟨tc, td, tda, ts⟩, to, tcl, tn, tdt⟩ := tup
        simp only at tcl tdt
        subst tcl
        subst tdt
        have to' : (s.heap.push { cls := .type "set", dict := none, data := .set #[] 0 (.fresh 0 0 led) }).get? l = some { cls := .type "tuple", dict := td, data := .seq items tn, slots := ts } := Heap.get?_push_of_some _ to
        have b1 := PySem.F.sub_tuple_set
        have b2 := PySem.F.sub_tuple_frozenset
        have b3 : (Value.type "tuple" == .type "dict") = false := by decide
        have tup1 : (s.heap.push { cls := .type "set", dict := none, data := .set #[] 0 (.fresh 0 0 led) }).IsTuple l items := ⟨_, to', rfl, tn, rfl⟩
        unfold Builtin.«set.__init__» noKeywords Builtin.Frozenset.updateFrom
        generalize eIt : pyIter = It
        wp_walk
        subst eIt

        refine wpAny_pyIter_tuple tup1 ?_
        refine wpAny_bind (wpAny_runValue ?_)
        have lt : l < s.heap.objs.size := Heap.lt_size to
        have hh3 : A.in1.in1.in1.handled = none := by simp [hh]
        have z1 : (s.heap.push { cls := .type "set", dict := none, data := .set #[] 0 (.fresh 0 0 led) }).objs.size = s.heap.objs.size + 1 := Heap.size_push ..
        have d1 : l ≠ (s.heap.push { cls := .type "set", dict := none, data := .set #[] 0 (.fresh 0 0 led) }).objs.size := by
          rw [z1]
          exact Nat.ne_of_lt (Nat.lt_succ_of_lt lt)
        have d2 : s.heap.objs.size ∉ [(s.heap.push { cls := .type "set", dict := none, data := .set #[] 0 (.fresh 0 0 led) }).objs.size, l] := by
          rw [z1]
          intro q
          rcases List.mem_cons.mp q with q | q
          · exact Nat.ne_of_lt (Nat.lt_succ_self _) q
          · exact Nat.ne_of_gt lt (List.mem_singleton.mp q)
        have tx2 : ∀ (i : Nat) (v : Value), items[i]? = some v → ∃ t x, v = .str x t ∧ xs[i]? = some x := tx.2
        have z2 : items.size = xs.length := tx.1
        refine setLoop ((Walks.tuple hh3 _ l d1 items).toS) s.heap.objs.size d2 xs z2.symm nd (by omega) tx2 (items.size - 0) 0 _ (by omega) (Nat.zero_le _) ⟨⟨_, Heap.get?_push_size _ rfl, rfl, rfl⟩, tup1.push _⟩ ?_ ?_
        · have at1 : ((s.heap.push { cls := .type "set", dict := none, data := .set #[] 0 (.fresh 0 0 led) }).push { cls := .type "tuple_iterator", data := .fields #[.ref l, .int 0 0] }).get? s.heap.objs.size
              = some { cls := .type "set", dict := none, data := .set #[] 0 (.fresh 0 0 led) } := Heap.get?_push_of_some _ at0
          exact PyProof.Rows.SetOf_congr ((PyProof.Rows.setObjOf_fresh (knd := PySem.strKind prog w) led).setOf at1 (by unfold scanBound; omega)) (fun q => by simp) rfl
        · intro z mv x
          obtain ⟨h1, g1, d3, tk1, os1⟩ := z
          obtain rfl : g1 = s.gens := mv.gens
          obtain rfl : d3 = s.drawn := mv.drawn
          obtain rfl : os1 = s.os := mv.os
          show wpAny _ _ _ _ _ _
          apply wpAny_pure
          show wpAny _ _ (ret .none) _ _ _
          rw [z2] at x
          refine wpAny_pure ⟨rfl, h1, tk1, rfl, x, fun c o hc e => ?_⟩
          refine mv.heap c o (fun q => ?_) (Heap.get?_push_of_some _ (Heap.get?_push_of_some _ e))
          rcases List.mem_cons.mp q with q | q
          · exact Nat.ne_of_lt hc q
          · have q1 := List.mem_singleton.mp q
            rw [z1] at q1
            exact Nat.ne_of_lt (Nat.lt_succ_of_lt hc) q1
      · cases r2 with
        | error e => exact hr2
        | ok fl2 =>
          cases fl2 with
          | ret r =>
            obtain ⟨rfl, h1, tk, rfl, x, kp⟩ := hr2
            repeat (any_goals (first | assumption | wp_step))
            exact k _ _ x kp
          | _ => exact hr2.elim
    | _ => exact hr.elim
end
/-- len(set(t)), t a tuple of unlike texts -/
def tLenSetT (K : PySem.W.Frag) (ta : TE) : TE := fun σ H Q => ta σ H fun x H1 => ∃ (l : Addr) (xs : List Str), x = .ref l ∧ SqT K H1 l (xs.map V.str) ∧ xs.Nodup ∧ xs.length ≤ 4000 ∧ Q (.int (xs.length : Nat)) H1
theorem pe_lenSetT {X : Cx} {a : Expr} {ta : TE} {p p2 q pos : Pos} (hc : X.calm = true) (hg : Gl X "len") (hm : X.mg "len" = none) (hg2 : Gl X "set") (hm2 : X.mg "set" = none) (ha : PE X a ta)
    (na : starEach [a] X.env = (false, eval a X.env) :: starEach [] X.env := by rfl) : PE X (.Call (.Name "len" p) [.Call (.Name "set" p2) [a] [] q] [] pos) (tLenSetT X.K ta) := by
  refine ⟨fun pins s σ H Q I h => ?_⟩
  refine PyProof.Rows.Call_ (ld_blt I hg hm (PySem.boot_len) ?_)
  refine PyProof.Rows.callWith_builtin1 (PyProof.Rows.args_cons ?_ rfl) rfl rfl
  refine PyProof.Rows.Call_ (ld_blt I hg2 hm2 (u := .type "set") (by decide +kernel) ?_)
  refine PyProof.Rows.callWith_type1 (PyProof.Rows.args_cons (thn (ha.run pins s σ H _ I h) fun v s1 ⟨x, H1, I1, r1, q1⟩ => PyProof.Rows.args_nil ?_) na) na rfl
  obtain ⟨l, xs, rfl, hq, nd, hl, q1⟩ := q1
  obtain rfl : v = Value.ref l := r1
  obtain ⟨us, r, tup, hz⟩ := I1.tuple hq
  refine call_setT (I1.ok.hd hc) tup (txtAt_of r) nd (by unfold scanBound; omega) fun h1 tk x kp => ?_
  refine PyProof.Rows.args_nil ?_
  obtain ⟨o, es, ep, tb, ho, hex, hd, _, _, _, hf, hn⟩ := x
  have I2 : Inv X pins σ H1 { s1 with heap := h1, toks := tk } := I1.kept fun c o e => kp c o (Heap.lt_size e) e
  exact call_len_set ho hex hd hf (by rw [hn] <;> omega) ⟨.int xs.length, H1, I2.tok _, ⟨_, by rw [hn]⟩, q1⟩
end My
namespace My
set_option autoImplicit false
open PySem L2 Evl
section
variable {te ta tb tc : TE} {t tr : TA} {tt : TT} {σ : L2.St} {B B' H : Hp} {p q : Pr} {ps : List Pr} {v : V} {K : PySem.W.Frag} {D : Ends}
theorem ev_chain {r1 r2 : Int → Int → Bool} {i j k : Int} (ha : Ev ta σ B (.int i)) (hb : Ev tb σ B (.int j)) (hc : Ev tc σ B (.int k)) : Ev (tChain (rI0 fun i j => .bl (r1 i j)) (rI0 fun i j => .bl (r2 i j)) ta tb tc) σ B (.bl (r1 i j && r2 j k)) := fun H1 e Q q =>
  ha H1 e _ fun H2 e2 => hb H2 (e.trans e2) _ fun H3 e3 => ⟨i, j, rfl, rfl, _, rfl, by
    cases h : r1 i j with
    | true =>
      show tc σ H3 _
      refine hc H3 ((e.trans e2).trans e3) _ fun H4 e4 => ?_
      have := q H4 ((e2.trans e3).trans e4)
      rw [h] at this
      exact ⟨j, k, rfl, rfl, this⟩
    | false =>
      have := q H3 (e2.trans e3)
      rw [h] at this
      exact this⟩
theorem ev_lenS {x : Str} (h : Ev te σ B (.str x)) (hl : x.length ≤ 100000) : Ev (tCB (fun xs H Q => ∃ z : Str, xs = [.str z] ∧ z.length ≤ sizeLine ∧ Q (.int (z.length : Nat)) H) (tCons te tNil)) σ B (.int (x.length : Int)) := fun H1 e Q q =>
  h H1 e _ fun H2 e2 => ⟨x, rfl, sz_of hl, q H2 e2⟩
theorem ev_sign {c : Nat} {z : Str} (ha : Ev ta σ B (.str ⟨#[c]⟩)) (hb : Ev tb σ B (.str z)) : Ev (tOp (fun x y H Q => ∃ (c : Nat) (z : Str), x = .str ⟨#[c]⟩ ∧ y = .str z ∧ Q (.bl (decide (c ∈ z.cps.toList))) H) ta tb) σ B (.bl (decide (c ∈ z.cps.toList))) := fun H1 e Q q =>
  ha H1 e _ fun H2 e2 => hb H2 (e.trans e2) _ fun H3 e3 => ⟨c, z, rfl, rfl, q H3 (e2.trans e3)⟩
/-- an if whose test fails, without an else -/
theorem ps_ifN {tu : TS} (a : Ex B H) (h : EvT tt σ B false) (k : ∀ H1, Ex H H1 → D.nx σ H1) : tIfS tt tu tNext D σ H := h H a _ fun H1 e => by
  rw [if_neg Bool.false_ne_true]
  exact k H1 e
theorem ps_exE (a : Ex B H) (h : EvP te σ B p) (k : ∀ H1, Ex H H1 → D.nx σ H1) : tDrop te D σ H := h H a _ fun _ _ H1 g _ => k H1 g.a
theorem ev_lenSet {xs : List Str} (h : EvP te σ B (NmP xs)) (nd : xs.Nodup) (hl : xs.length ≤ 4000) : Ev (tLenSetT K te) σ B (.int (xs.length : Int)) := fun H1 e Q q =>
  h H1 e _ fun v B2 H2 g x => by
    obtain ⟨a, o, rfl, h2, _⟩ := x
    exact ⟨a, xs, rfl, .inl (.inr ⟨o, g.c _ _ h2⟩), nd, hl, q H2 g.a⟩
end
theorem k_ss : kitB "str" "str" = some true := by decide +kernel
theorem k_tt : kitB "tuple" "tuple" = some true := by decide +kernel
theorem nm_facts {x : Str} (h : IsNm x) : 1 ≤ x.length ∧ x.length ≤ 8 ∧ ∀ c ∈ x.cps, 97 ≤ c ∧ c ≤ 122 := by
  unfold IsNm isNmB at h
  simp only [Bool.and_eq_true, decide_eq_true_eq, List.all_eq_true] at h
  exact ⟨h.1.1, h.1.2, fun c hc => h.2 c (by simpa using hc)⟩
theorem let_low {c : Nat} (h1 : 97 ≤ c) (h2 : c ≤ 122) : c ∈ (Str.ofString "abcdefghijklmnopqrstuvwxyz").cps.toList := by
  have : (Str.ofString "abcdefghijklmnopqrstuvwxyz").cps.toList = (List.range 26).map (· + 97) := by decide +kernel
  rw [this]
  exact List.mem_map.mpr ⟨c - 97, List.mem_range.mpr (by omega), by omega⟩
end My
namespace My
set_option autoImplicit false
open PySem PySem.W L2 Evl
/-! ### the order of derivatives -/
def Rk.lt (r : Rk) (u v : Dv) : Prop := r.key u < r.key v
instance (r : Rk) (u v : Dv) : Decidable (r.lt u v) := inferInstanceAs (Decidable (r.key u < r.key v))
def Rk.le (r : Rk) (u v : Dv) : Bool := !decide (r.lt v u)
theorem lt3 (a b c x y z : Int) : [a, b, c] < [x, y, z] ↔ a < x ∨ (a = x ∧ (b < y ∨ (b = y ∧ c < z))) := by
  simp [List.cons_lt_cons_iff]
theorem lex3 (a b c x y z : Int) : HT.lexLt [a, b, c] [x, y, z] = decide ([a, b, c] < [x, y, z]) := by
  rw [Bool.eq_iff_iff, decide_eq_true_iff, lt3]
  unfold HT.lexLt
  by_cases h : a = x
  · rw [if_pos h]
    unfold HT.lexLt
    by_cases h2 : b = y
    · rw [if_pos h2]
      unfold HT.lexLt
      by_cases h3 : c = z
      · rw [if_pos h3]
        unfold HT.lexLt
        simp
        omega
      · rw [if_neg h3]
        simp
        omega
    · rw [if_neg h2]
      simp
      omega
  · rw [if_neg h]
    simp
    omega
theorem Rk.key3 (r : Rk) (u : Dv) : ∃ a b c, r.key u = [a, b, c] := by
  unfold Rk.key
  cases r.tot
  · exact ⟨_, _, _, rfl⟩
  · exact ⟨_, _, _, rfl⟩
theorem Rk.lt_irrefl (r : Rk) (u : Dv) : ¬ r.lt u u := by
  unfold Rk.lt
  obtain ⟨a, b, c, e⟩ := r.key3 u
  rw [e, lt3]
  omega
theorem Rk.lt_trans (r : Rk) {u v w : Dv} (h : r.lt u v) (k : r.lt v w) : r.lt u w := by
  unfold Rk.lt at *
  obtain ⟨a, b, c, e⟩ := r.key3 u
  obtain ⟨a', b', c', e'⟩ := r.key3 v
  obtain ⟨a2, b2, c2, e2⟩ := r.key3 w
  rw [e, e', lt3] at h
  rw [e', e2, lt3] at k
  rw [e, e2, lt3]
  omega
theorem Rk.tri (r : Rk) (u v : Dv) : r.lt u v ∨ r.key u = r.key v ∨ r.lt v u := by
  unfold Rk.lt
  obtain ⟨a, b, c, e⟩ := r.key3 u
  obtain ⟨a', b', c', e'⟩ := r.key3 v
  rw [e, e', lt3, lt3]
  by_cases h : a = a'
  · by_cases h2 : b = b'
    · by_cases h3 : c = c'
      · exact .inr (.inl (by rw [h, h2, h3]))
      · omega
    · omega
  · omega
theorem idx_inj {ns : List Str} {x y : Str} (hx : x ∈ ns) (hy : y ∈ ns) (h : ns.idxOf x = ns.idxOf y) : x = y := by
  have h1 := List.getElem_idxOf (List.idxOf_lt_length_of_mem hx)
  have h2 := List.getElem_idxOf (List.idxOf_lt_length_of_mem hy)
  rw [← h1, ← h2]
  congr 1
theorem Rk.key_inj (r : Rk) {u v : Dv} (hu : u.n ∈ r.ns) (hv : v.n ∈ r.ns) (h : r.key u = r.key v) : u = v := by
  obtain ⟨n, i, j⟩ := u
  obtain ⟨n', i', j'⟩ := v
  have : (i + j = i' + j') ∧ r.first ⟨n, i, j⟩ = r.first ⟨n', i', j'⟩ ∧ r.ahead ⟨n, i, j⟩ = r.ahead ⟨n', i', j'⟩ := by
    unfold Rk.key at h
    cases ht : r.tot with
    | true =>
      rw [ht, if_pos rfl, if_pos rfl] at h
      simp at h
      exact h
    | false =>
      rw [ht, if_neg Bool.false_ne_true, if_neg Bool.false_ne_true] at h
      simp at h
      exact ⟨h.2.1, h.2.2, h.1⟩
  obtain ⟨h1, h2, h3⟩ := this
  have e : n = n' := idx_inj hu hv (by unfold Rk.ahead at h3; simp only at h3; omega)
  subst e
  unfold Rk.first at h2
  by_cases hx : r.ax = 2
  · rw [if_pos hx, if_pos hx] at h2
    simp only at h2
    have : i = i' := by omega
    rw [this, h2]
  · rw [if_neg hx, if_neg hx] at h2
    simp only at h2
    have : j = j' := by omega
    rw [this, h2]
theorem Rk.cmp_lt (r : Rk) (u v : Dv) : r.cmp u v = -1 ↔ r.lt u v := by
  unfold Rk.cmp cmpL Rk.lt
  obtain ⟨a, b, c, e⟩ := r.key3 u
  obtain ⟨a', b', c', e'⟩ := r.key3 v
  rw [e, e', lex3]
  by_cases h : [a, b, c] = [a', b', c']
  · rw [if_pos h, ← h, lt3]
    omega
  · rw [if_neg h]
    by_cases k : [a, b, c] < [a', b', c']
    · simp [k]
    · simp [k]
theorem Rk.cmp_eq (r : Rk) (u v : Dv) : r.cmp u v = 0 ↔ r.key u = r.key v := by
  unfold Rk.cmp cmpL
  by_cases h : r.key u = r.key v
  · simp [h]
  · rw [if_neg h]
    constructor
    · intro k
      split at k <;> omega
    · intro k
      exact absurd k h
theorem Rk.cmp_gt (r : Rk) (u v : Dv) : r.cmp u v = 1 ↔ r.lt v u := by
  have h := r.tri u v
  have h1 := r.cmp_lt u v
  have h2 := r.cmp_eq u v
  have h3 : r.cmp u v = -1 ∨ r.cmp u v = 0 ∨ r.cmp u v = 1 := by
    unfold Rk.cmp cmpL
    split
    · exact .inr (.inl rfl)
    · split
      · exact .inl rfl
      · exact .inr (.inr rfl)
  have n1 : r.lt u v → r.lt v u → False := fun a b => r.lt_irrefl u (r.lt_trans a b)
  have n2 : r.key u = r.key v → r.lt v u → False := fun a b => by
    unfold Rk.lt at b
    rw [a] at b
    exact r.lt_irrefl v b
  constructor
  · intro k
    rcases h with h | h | h
    · rw [h1.mpr h] at k
      omega
    · rw [h2.mpr h] at k
      omega
    · exact h
  · intro k
    rcases h3 with e | e | e
    · exact (n1 (h1.mp e) k).elim
    · exact (n2 (h2.mp e) k).elim
    · exact e
/-- from u on, once more by x, or by y -/
def Dv.up (u : Dv) (x : Str) : Dv := if x = "x" then ⟨u.n, u.i + 1, u.j⟩ else ⟨u.n, u.i, u.j + 1⟩
/-! ### sorted by it -/
def Rk.sort (r : Rk) (us : List Dv) : List Dv := us.mergeSort r.le
theorem Rk.le_tot (r : Rk) (u v : Dv) : (r.le u v || r.le v u) = true := by
  unfold Rk.le
  simp
  by_cases h : r.lt v u
  · right
    intro k
    exact r.lt_irrefl u (r.lt_trans k h)
  · exact .inl h
theorem Rk.le_tr (r : Rk) (u v w : Dv) (h : r.le u v = true) (k : r.le v w = true) : r.le u w = true := by
  unfold Rk.le at *
  simp at *
  intro z
  rcases r.tri u v with a | a | a
  · exact k (r.lt_trans z a)
  · apply k
    unfold Rk.lt at *
    rw [← a]
    exact z
  · exact h a
theorem Rk.sort_le (r : Rk) (us : List Dv) : (r.sort us).Pairwise (fun u v => r.le u v = true) := List.pairwise_mergeSort (r.le_tr) (r.le_tot) us
theorem Rk.sort_perm (r : Rk) (us : List Dv) : (r.sort us).Perm us := List.mergeSort_perm us r.le
/-- strictly rising -/
theorem Rk.sort_lt (r : Rk) {us : List Dv} (hu : ∀ u ∈ us, u.n ∈ r.ns) (nd : us.Nodup) : (r.sort us).Pairwise r.lt := by
  have nd2 : (r.sort us).Nodup := (r.sort_perm us).nodup_iff.mpr nd
  have m : ∀ u ∈ r.sort us, u.n ∈ r.ns := fun u h => hu u ((r.sort_perm us).mem_iff.mp h)
  have h := r.sort_le us
  rw [List.pairwise_iff_getElem] at *
  intro i j hi hj hij
  have a := h i j hi hj hij
  have b := List.pairwise_iff_getElem.mp nd2 i j hi hj hij
  unfold Rk.le at a
  simp at a
  rcases r.tri (r.sort us)[i] (r.sort us)[j] with z | z | z
  · exact z
  · exact (b (r.key_inj (m _ (List.getElem_mem hi)) (m _ (List.getElem_mem hj)) z)).elim
  · exact (a z).elim
/-! ### what sorted with keys makes of them -/
theorem dataLt_keys (a b : List Int) : dataLt (.tuple (a.map .int)) (.tuple (b.map .int)) = decide (a < b) := by
  rw [dataLt_tuple]
  exact dataLt_ints a b
def Rk.keyD (r : Rk) (u : Dv) : PyData := .tuple ((r.key u).map .int)
theorem zip_pairs {α β γ : Type} (f : β → γ) : ∀ {xs : List α} {us : List β}, xs.length = us.length → xs.zip (us.map f) = (xs.zip us).map fun p => (p.1, f p.2)
  | [], [], _ => rfl
  | _ :: _, _ :: _, h => congrArg (_ :: ·) (zip_pairs f (by simpa using h))
theorem AllP.zip {H : Hp} (f : Dv → Pr) : ∀ {xs : List V} {us : List Dv}, AllP (us.map f) xs H → ∀ p ∈ xs.zip us, (f p.2).P p.1 H
  | [], [], _, p, h => by simp at h
  | x :: xs, u :: us, a, p, h => by
    rcases List.mem_cons.mp h with rfl | h
    · exact a.1
    · exact AllP.zip f a.2 p h
theorem AllP.of {H : Hp} (f : Dv → Pr) : ∀ {ps : List (V × Dv)}, (∀ p ∈ ps, (f p.2).P p.1 H) → AllP ((ps.map (·.2)).map f) (ps.map (·.1)) H
  | [], _ => trivial
  | p :: ps, h => ⟨h p List.mem_cons_self, AllP.of f fun q hq => h q (List.mem_cons_of_mem _ hq)⟩
theorem byKey_all (r : Rk) {H : Hp} {xs : List V} {us : List Dv} (h : AllP (us.map DvP) xs H) : AllP ((r.sort us).map DvP) (byKey xs (us.map r.keyD)) H := by
  have hl : xs.length = us.length := by
    have := h.len
    rw [List.length_map] at this
    exact this
  have e1 : xs.zip (us.map r.keyD) = (xs.zip us).map fun p => (p.1, r.keyD p.2) := zip_pairs _ hl
  have e2 : ((xs.zip us).mergeSort fun p q => r.le p.2 q.2).map (fun p => (p.1, r.keyD p.2)) = (xs.zip (us.map r.keyD)).mergeSort (dataLe false (·.2)) := by
    rw [e1]
    refine List.map_mergeSort fun p _ q _ => ?_
    rw [dataLe_eq]
    show r.le p.2 q.2 = !dataLt (r.keyD q.2) (r.keyD p.2)
    unfold Rk.keyD
    rw [dataLt_keys]
    rfl
  have e3 : ((xs.zip us).mergeSort fun p q => r.le p.2 q.2).map (·.2) = r.sort us := by
    have : us = (xs.zip us).map (·.2) := by rw [List.map_snd_zip (by omega)]
    unfold Rk.sort
    rw [this]
    simp only [List.map_snd_zip (show us.length ≤ xs.length by omega)]
    have := List.map_mergeSort (r := fun p q : V × Dv => r.le p.2 q.2) (s := r.le) (f := fun p : V × Dv => p.2) (l := xs.zip us) (fun _ _ _ _ => rfl)
    rw [this, List.map_snd_zip (by omega)]
  have e4 : byKey xs (us.map r.keyD) = ((xs.zip us).mergeSort fun p q => r.le p.2 q.2).map (·.1) := by
    unfold byKey
    rw [← e2, List.map_map]
    rfl
  rw [e4, ← e3]
  exact AllP.of DvP fun p hp => AllP.zip DvP h p ((List.mergeSort_perm _ _).mem_iff.mp hp)
end My
namespace My
set_option autoImplicit false
open PySem PySem.W L2 Evl LamX
theorem AllP.ix {H : Hp} : ∀ {ps : List Pr} {vs : List V}, ps.length = vs.length → (∀ (i : Nat) (p : Pr) (v : V), ps[i]? = some p → vs[i]? = some v → p.P v H) → AllP ps vs H
  | [], [], _, _ => trivial
  | p :: ps, v :: vs, hl, h => ⟨h 0 p v rfl rfl, AllP.ix (by simpa using hl) fun i q u a b => h (i + 1) q u a b⟩
theorem AllP.ixD {H : Hp} (f : Dv → Pr) {us : List Dv} {vs : List V} {i : Nat} {v : V} (h : AllP (us.map f) vs H) (hv : vs[i]? = some v) : ∃ u, us[i]? = some u ∧ (f u).P v H := by
  obtain ⟨p, hp, k⟩ := h.get hv
  rw [List.getElem?_map] at hp
  cases e : us[i]? with
  | none =>
    rw [e] at hp
    cases hp
  | some u =>
    rw [e] at hp
    obtain rfl : f u = p := Option.some.inj hp
    exact ⟨u, rfl, k⟩
/-- tables of code: what of the heap they lean on -/
theorem exN_ex {B H H2 : Hp} (e : Ex B H) (n : NoTab B) (k : ExtN H H2) : Ex B H2 := fun b o h => k b o (e b o h) fun ps z => n b ps (by rw [← z]; exact h)
theorem exN_of {H H' : Hp} (e : Ex H H') : ExtN H H' := fun b o h _ => e b o h
theorem nt_upd {B : Hp} {a : Addr} {o : HO} (n : NoTab B) (ho : ∀ ps, o ≠ .tbl ps) : NoTab (upd B a o) := fun b ps q => by
  by_cases h : b = a
  · subst h
    rw [upd_same] at q
    exact ho ps (Option.some.inj q)
  · rw [upd_ne h] at q
    exact n b ps q
/-! ### a for over what is known -/
section
variable {te ta tb : TE} {t tr : TA} {tt : TT} {σ : L2.St} {B B' H : Hp} {p q : Pr} {ps : List Pr} {v : V} {K : PySem.W.Frag} {D : Ends}
theorem ps_forS {wi : TI} {n : Nat} {P : Nat → Pr} {g : TG} {tbd : TS} (a : Ex B H) (h : Src wi σ B n P)
    (k : ∀ B1 H1, Gr B H B1 H1 → ∃ Pv : Nat → L2.St → Hp → Prop, Pv 0 σ H1 ∧ (∀ i σ' H', i ≤ n → Pv i σ' H' → Ex B1 H') ∧
      (∀ i v σ' H', i < n → Pv i σ' H' → (P i).P v B1 → g v σ' H' fun σ2 H2 => tbd { D with nx := Pv (i + 1), ct := Pv (i + 1), bk := D.nx } σ2 H2) ∧ ∀ σ' H', Pv n σ' H' → D.nx σ' H') :
    tFor wi g tbd D σ H := h H a _ fun J B1 H1 G Y gr w hG hY => by
  obtain ⟨Pv, h0, hE, hs, hd⟩ := k B1 H1 gr
  refine for_it w Pv h0 (fun i σ' H' hi pv => hG H' (hE i σ' H' hi pv)) (fun i x σ' H' H2 hi pv y => ?_) hd
  obtain ⟨rfl, px⟩ := hY i H' x H2 hi (hE i σ' H' (Nat.le_of_lt hi) pv) y
  exact hs i x σ' H2 hi pv px
theorem src_lq (h : EvP te σ B (LqP K ps)) : Src (iList K te) σ B ps.length (fun i => ps.getD i (IsV .non)) := fun H1 a R k => h H1 a _ fun v B2 H2 g b => by
  obtain ⟨l, xs, rfl, hx, al⟩ := b
  refine ⟨l, rfl, ⟨xs, ex_l g.c hx⟩, k _ B2 H2 _ _ g (by rw [← al.len]; exact walk_list) (fun H e => ex_l e hx) fun i H v H' _ e (z : H' = H ∧ _) => ⟨z.1, ?_⟩⟩
  obtain ⟨p, hp, k2⟩ := al.get z.2
  show (ps.getD i (IsV .non)).P v B2
  rw [List.getD_eq_getElem?_getD, hp]
  exact k2
end
/-! ### dicts by derivatives -/
def dvK (u : Dv) : List Key := [.inr u.n, .inl u.i, .inl u.j]
def addD (ds : List Dv) (u : Dv) : List Dv := if u ∈ ds then ds else ds ++ [u]
def asK (ds : List Dv) : List (List Key × V) := ds.map fun u => (dvK u, .bl true)
/-! ### all derivatives to an order -/
def Rk.most (r : Rk) (o i : Nat) : Nat := if (Str.ofString "y") ∈ r.axs then o - i else 0
def Rk.row (r : Rk) (o : Nat) (n : Str) (i : Nat) : List Dv := (List.range (r.most o i + 1)).map fun (j : Nat) => ⟨n, (i : Int), (j : Int)⟩
def Rk.rowsN (r : Rk) (o : Nat) (n : Str) (m : Nat) : List Dv := (List.range m).flatMap (r.row o n)
def Rk.rowsT (r : Rk) (o m : Nat) : List Dv := (r.ns.take m).flatMap fun n => r.rowsN o n (o + 1)
def Rk.all (r : Rk) (o : Nat) : List Dv := r.ns.flatMap fun n => r.rowsN o n (o + 1)
theorem Rk.mem_row {r : Rk} {o i : Nat} {n : Str} {u : Dv} (h : u ∈ r.row o n i) : u.n = n ∧ u.i = i ∧ 0 ≤ u.j ∧ u.j ≤ r.most o i := by
  unfold Rk.row at h
  obtain ⟨j, hj, rfl⟩ := List.mem_map.mp h
  have := List.mem_range.mp hj
  exact ⟨rfl, rfl, by simp, by simp; omega⟩
theorem Rk.mem_all {r : Rk} {o : Nat} {u : Dv} (h : u ∈ r.all o) : u.Of r := by
  unfold Rk.all Rk.rowsN at h
  obtain ⟨n, hn, h⟩ := List.mem_flatMap.mp h
  obtain ⟨i, hi, h⟩ := List.mem_flatMap.mp h
  obtain ⟨h1, h2, h3, h4⟩ := Rk.mem_row h
  refine ⟨by rw [h1]; exact hn, by rw [h2]; simp, h3, ?_⟩
  unfold Rk.most at h4
  by_cases hy : (Str.ofString "y") ∈ r.axs
  · exact .inr hy
  · rw [if_neg hy] at h4
    exact .inl (by simp at h4; omega)
theorem nd_flat {α β : Type} {f : α → List β} : ∀ {l : List α}, l.Nodup → (∀ a ∈ l, (f a).Nodup) → (∀ a ∈ l, ∀ b ∈ l, ∀ x, x ∈ f a → x ∈ f b → a = b) → (l.flatMap f).Nodup
  | [], _, _, _ => List.nodup_nil
  | a :: l, nd, h1, h2 => by
    rw [List.flatMap_cons, List.nodup_append]
    refine ⟨h1 a List.mem_cons_self, nd_flat (List.nodup_cons.mp nd).2 (fun b hb => h1 b (List.mem_cons_of_mem _ hb)) (fun b hb c hc => h2 b (List.mem_cons_of_mem _ hb) c (List.mem_cons_of_mem _ hc)), fun x hx y hy => ?_⟩
    rintro rfl
    obtain ⟨b, hb, hx2⟩ := List.mem_flatMap.mp hy
    have := h2 a List.mem_cons_self b (List.mem_cons_of_mem _ hb) x hx hx2
    subst this
    exact (List.nodup_cons.mp nd).1 hb
theorem Rk.all_nd {r : Rk} (o : Nat) (h : r.ns.Nodup) : (r.all o).Nodup := by
  unfold Rk.all
  refine nd_flat h (fun n _ => ?_) fun a _ b _ x hx hy => ?_
  · unfold Rk.rowsN
    refine nd_flat List.nodup_range (fun i _ => ?_) fun a _ b _ x hx hy => ?_
    · unfold Rk.row
      rw [List.nodup_iff_pairwise_ne, List.pairwise_map]
      refine List.Pairwise.imp ?_ (List.pairwise_lt_range)
      intro a b hab e
      simp at e
      omega
    · have := (Rk.mem_row hx).2.1
      have := (Rk.mem_row hy).2.1
      omega
  · unfold Rk.rowsN at hx hy
    obtain ⟨i, _, hx⟩ := List.mem_flatMap.mp hx
    obtain ⟨j, _, hy⟩ := List.mem_flatMap.mp hy
    rw [← (Rk.mem_row hx).1, (Rk.mem_row hy).1]
theorem flat_len {α β : Type} {f : α → List β} {m : Nat} : ∀ {l : List α}, (∀ a ∈ l, (f a).length ≤ m) → (l.flatMap f).length ≤ l.length * m
  | [], _ => by simp
  | a :: l, h => by
    rw [List.flatMap_cons, List.length_append, List.length_cons, Nat.add_mul]
    have := h a List.mem_cons_self
    have := flat_len (l := l) fun b hb => h b (List.mem_cons_of_mem _ hb)
    omega
theorem Rk.rowsN_len (r : Rk) {o : Nat} (n : Str) {m : Nat} (hm : m ≤ 13) (ho : o ≤ 12) : (r.rowsN o n m).length ≤ 169 := by
  have : (r.rowsN o n m).length ≤ (List.range m).length * 13 := flat_len fun i _ => by
    unfold Rk.row Rk.most
    rw [List.length_map, List.length_range]
    split <;> omega
  rw [List.length_range] at this
  have : m * 13 ≤ 13 * 13 := Nat.mul_le_mul_right 13 hm
  omega
theorem Rk.rowsT_len (r : Rk) {o m : Nat} (ho : o ≤ 12) (hr : r.ns.length ≤ 3) : (r.rowsT o m).length ≤ 507 := by
  have : (r.rowsT o m).length ≤ (r.ns.take m).length * 169 := flat_len fun n _ => r.rowsN_len n (by omega) ho
  have h2 : (r.ns.take m).length ≤ 3 := by rw [List.length_take]; omega
  have : (r.ns.take m).length * 169 ≤ 3 * 169 := Nat.mul_le_mul_right 169 h2
  omega
theorem Rk.rowsT_all (r : Rk) (o : Nat) : r.rowsT o r.ns.length = r.all o := by
  unfold Rk.rowsT Rk.all
  rw [List.take_length]
theorem Rk.rowsT_succ (r : Rk) (o m : Nat) (h : m < r.ns.length) : r.rowsT o (m + 1) = r.rowsT o m ++ r.rowsN o r.ns[m] (o + 1) := by
  unfold Rk.rowsT
  rw [List.take_add_one, List.getElem?_eq_getElem h, List.flatMap_append]
  simp
theorem Rk.rowsN_succ (r : Rk) (o : Nat) (n : Str) (m : Nat) : r.rowsN o n (m + 1) = r.rowsN o n m ++ r.row o n m := by
  unfold Rk.rowsN
  rw [List.range_succ]
  simp
end My
namespace My
open PySem L2 Evl
end My
namespace My
set_option autoImplicit false
open PySem L2 Evl
theorem p_lcP {te : TE} {σ : L2.St} {B : Hp} {wi : TI} {n : Nat} {P : Nat → Pr} {g : TG} {vs : List Nat} (h : Src wi σ B n P) (hl : n ≤ 100000) (res : Nat → Pr)
    (step : ∀ i v B1, i < n → Ex B B1 → (P i).P v B1 → ∃ σ2, wipe σ2 vs = wipe σ vs ∧ (∀ H2 Q, Ex B1 H2 → Q σ2 H2 → g v (wipe σ vs) H2 Q) ∧ EvP te σ2 B1 (res i)) :
    EvP (tLc wi g tYes te vs) σ B (LsP ((List.range n).map res)) := by
  have := p_lcS (tt := tYes) (te := te) h hl (fun _ => true) res fun i v B1 hi e pv => by
    obtain ⟨σ2, a, b, c⟩ := step i v B1 hi e pv
    exact ⟨σ2, a, b, et_yes, fun _ => c⟩
  rw [List.filter_eq_self.mpr (fun _ _ => rfl)] at this
  exact this
end My
namespace My
set_option autoImplicit false
open PySem PySem.Spec PyProof.Rows L2
def signsOf (x : Str) : List Str := (List.range x.cps.size).map (oneS x)
/-- list(x) of a text -/
theorem call_listS {X : Cx} (hc : X.calm = true) : CallR X (.type "list") (fun xs H Q => ∃ x : Str, xs = [.str x] ∧ x.length ≤ 100000 ∧ ∀ l, H l = none → Q (.ref l) (upd H l (.lst ((signsOf x).map V.str)))) := by
  intro pins s σ H xs us Q I r ⟨x, ex, hx, q⟩
  subst ex
  obtain ⟨u, rfl, rx⟩ := vals1 r
  obtain ⟨t, rfl⟩ := rx
  have hz : x.cps.size ≤ sizeLine := Evl.sz_of hx
  refine call_list_str (I.ok.hd hc) x t (fun h1 tk acc c kp at1 items => ?_) hz
  have hl : ((signsOf x).map V.str).length = x.cps.size := by
    unfold signsOf
    rw [List.length_map, List.length_map, List.length_range]
  refine ⟨.ref s.heap.objs.size, _, I.laid kp (Nat.le_refl _) (show ObjOk X.prog X.w _ _ _ (.lst ((signsOf x).map V.str)) from ⟨by rw [hl]; exact hz, acc.toList, c, ?_, by simpa using at1⟩), rfl, q _ (I.hok.fresh (Nat.le_refl _))⟩
  have ha : acc.toList.length = acc.size := by simp
  refine vals_of_at (by rw [hl, ha, items.1]) fun j v w h1 h2 => ?_
  obtain hs := items.2 j w (by rw [← Array.getElem?_toList]; exact h2)
  have hj : j < x.cps.size := by
    have := (List.getElem?_eq_some_iff.mp h1).1
    rw [hl] at this
    exact this
  have hv : v = .str (oneS x j) := by
    unfold signsOf at h1
    rw [List.getElem?_map, List.getElem?_map, List.getElem?_range hj] at h1
    exact (Option.some.inj h1).symm
  subst hv
  obtain ⟨c, tk2, hc2, rfl⟩ := hs
  refine ⟨tk2, ?_⟩
  unfold oneS
  rw [Array.getD_eq_getD_getElem?, hc2]
  rfl
end My
namespace My
set_option autoImplicit false
open PySem PySem.W L2 Evl LamX
section
variable {te ta tb : TE} {t tr : TA} {tt : TT} {σ : L2.St} {B B' H : Hp} {p q : Pr} {ps : List Pr} {v : V} {K : PySem.W.Frag} {D : Ends}
theorem AllP.take {H : Hp} : ∀ {ps : List Pr} {vs : List V} (n : Nat), AllP ps vs H → AllP (ps.take n) (vs.take n) H
  | _, _, 0, _ => trivial
  | [], [], _ + 1, _ => trivial
  | _ :: _, _ :: _, n + 1, h => ⟨h.1, AllP.take n h.2⟩
/-- the first k of a list -/
theorem p_sl {k : Nat} (h : EvP te σ B (LqP K ps)) (hk : Ev tb σ B (.int (k : Int))) : EvP (tSl (rSlL K) te tNoPart (tPart tb)) σ B (LsP (ps.take k)) := fun H1 a Q q =>
  h H1 a _ fun v B2 H2 g x => hk H2 (g.b.trans g.c) _ fun H3 e3 => ⟨k, rfl, by
    obtain ⟨l, xs, rfl, hl, al⟩ := x
    refine ⟨l, xs, rfl, ex_l (g.c.trans e3) hl, fun r hr => ?_⟩
    rw [cutTo]
    have g2 := (g.trans (Gr.wide g.c e3)).trans (Gr.new (.lst (xs.take k)) (g.c.trans e3) hr)
    exact q _ _ _ g2 ⟨r, _, rfl, upd_same, (al.take k).m (Ex.new (fresh_back (g.c.trans e3) hr))⟩⟩
theorem ev_lenQ (h : EvP te σ B (LqP K ps)) : Ev (tCB (rLenS K) (tCons te tNil)) σ B (.int (ps.length : Int)) := fun H1 a Q k =>
  h H1 a _ fun v B2 H2 g x => by
    obtain ⟨l, xs, rfl, hl, al⟩ := x
    refine ⟨l, xs, rfl, .inl (ex_l g.c hl), ?_⟩
    rw [al.len]
    exact k H2 g.a
end
/-- which of a rising row is below the k-th -/
theorem Rk.below {r : Rk} {us : List Dv} (h : us.Pairwise r.lt) {i k : Nat} (hi : i < us.length) (hk : k < us.length) : decide (r.cmp us[i] us[k] < 0) = decide (i < k) := by
  rw [List.pairwise_iff_getElem] at h
  by_cases e : i < k
  · rw [decide_eq_true e, (r.cmp_lt _ _).mpr (h i k hi hk e)]
    rfl
  · rw [decide_eq_false e, decide_eq_false_iff_not]
    by_cases e2 : i = k
    · subst e2
      rw [(r.cmp_eq _ _).mpr rfl]
      decide
    · rw [(r.cmp_gt _ _).mpr (h k i hk hi (by omega))]
      decide
/-- an object at d, a dict, left out -/
theorem wo_at {d b : Addr} {H : Hp} {o : HO} {kvs : List (Key × V)} (hd : H d = some (.dK kvs)) (h : H b = some o) (n : ∀ kvs, o ≠ .dK kvs) : wo d H b = some o := by
  rw [wo_ne fun z => by
    subst z
    rw [hd] at h
    exact n kvs (Option.some.inj h).symm]
  exact h
/-- all but d and the tables of code -/
def ExtB (d : Addr) (H H' : Hp) : Prop := ∀ b o, b ≠ d → H b = some o → (∀ ps, o ≠ .tbl ps) → H' b = some o
theorem ExtB.of {d : Addr} {H H' : Hp} (h : ExtN H H') : ExtB d H H' := fun b o _ e n => h b o e n
theorem ExtB.trans {d : Addr} {H H1 H2 : Hp} (a : ExtB d H H1) (b : ExtB d H1 H2) : ExtB d H H2 := fun c o h e n => b c o h (a c o h e n) n
theorem ExtB.ex {d : Addr} {B H H' : Hp} (h : ExtB d H H') (e : Ex B H) (n : NoTab B) (hd : B d = none) : Ex B H' := fun b o k => h b o (ne_of_none k hd) (e b o k) fun ps z => n b ps (by rw [← z]; exact k)
theorem tabs_but {T : List (Addr × Str)} {d : Addr} {H H' : Hp} {kvs : List (Key × V)} (t : Tabs T H) (hd : H d = some (.dK kvs)) (s : ∀ b o, b ≠ d → H b = some o → H' b = some o) : Tabs T H' := by
  have e : ∀ b o, wo d H b = some o → H' b = some o := fun b o k => by
    obtain ⟨n, q⟩ := wo_some k
    exact s b o n q
  refine Tabs.ext (H := wo d H) (fun p hp => ?_) e
  obtain ⟨ps, h1, h2, h3⟩ := t p hp
  refine ⟨ps, (wo_at hd h1 (fun _ z => nomatch z)), h2, fun pos cv hc => ?_⟩
  obtain ⟨c, e1, e2⟩ := h3 pos cv hc
  exact ⟨c, e1, wo_at hd e2 fun kvs z => by unfold CodeO at z; cases z⟩
end My
namespace My
set_option autoImplicit false
open PySem PySem.W L2 Evl LamX
section
variable {te ta tb : TE} {t tr : TA} {tt : TT} {σ : L2.St} {B B' H : Hp} {p q : Pr} {ps : List Pr} {v : V} {K : PySem.W.Frag} {D : Ends}
/-- a pair unpacked -/
theorem ps_un2 {i j : Nat} (a : Ex B H) (h : EvP te σ B (TuP K [p, q])) (n : ∀ v w B1 H1, Gr B H B1 H1 → p.P v B1 → q.P w B1 → D.nx ((σ.set i (some v)).set j (some w)) H1) :
    tAsg te (gTup K 2 (gCons (gName i) (gCons (gName j) gNil))) D σ H := h H a _ fun v B1 H1 g x => by
  obtain ⟨l, xs, rfl, h2, h3⟩ := x
  match xs, h3 with
  | [v, w], h3 => exact ⟨_, _, rfl, ex_t g.c h2, rfl, _, _, rfl, _, _, rfl, rfl, n v w B1 H1 g h3.1 h3.2.1⟩
theorem ev_notR {a : Addr} {i : Nat} (h : σ[i]? = some (some (.ref a))) : Ev (tOp (fun x y H Q => y = V.non ∧ Q (.bl (!decide (x = V.non))) H) (tVar i) (tC .non)) σ B (.bl true) := fun H1 _ Q k =>
  ⟨.ref a, h, rfl, k H1 (Ex.refl H1)⟩
end
end My
namespace My
set_option autoImplicit false
open PySem PySem.W L2 Evl
/-! ### which one is above, told otherwise -/
/-! ### rising, one put in behind the other -/
/-- where a derivative is put -/
def Rk.spot (r : Rk) (us : List Dv) (a : Dv) : Nat := (us.filter fun b => decide (r.lt b a)).length
def Rk.put (r : Rk) (us : List Dv) (a : Dv) : List Dv := if a ∈ us then us else us.insertIdx (r.spot us a) a
theorem Rk.spot_le (r : Rk) (us : List Dv) (a : Dv) : r.spot us a ≤ us.length := List.length_filter_le _ _
theorem ins_eq {α : Type} (a : α) : ∀ (n : Nat) (l : List α), n ≤ l.length → l.insertIdx n a = l.take n ++ a :: l.drop n
  | 0, l, _ => by simp
  | n + 1, x :: l, h => by
    rw [List.insertIdx_succ_cons, ins_eq a n l (by simpa using h)]
    simp
theorem Rk.put_len (r : Rk) (us : List Dv) (a : Dv) : (r.put us a).length ≤ us.length + 1 := by
  unfold Rk.put
  split
  · omega
  · rw [ins_eq _ _ _ (r.spot_le us a), List.length_append, List.length_cons, List.length_take, List.length_drop]
    have := r.spot_le us a
    omega
/-- strictly rising rows of the same derivatives are the same -/
theorem Rk.rise_one (r : Rk) {us vs : List Dv} (h : us.Pairwise r.lt) (k : vs.Pairwise r.lt) (e : ∀ v, v ∈ us ↔ v ∈ vs) : us = vs := by
  have nd : ∀ {l : List Dv}, l.Pairwise r.lt → l.Nodup := fun {l} h => List.Pairwise.imp (fun {a b} z e => by
    subst e
    exact r.lt_irrefl _ z) h
  refine List.Perm.eq_of_pairwise (le := r.lt) (fun u v _ _ a b => (r.lt_irrefl u (r.lt_trans a b)).elim) h k ((List.perm_ext_iff_of_nodup (nd h) (nd k)).mpr e)
/-! ### all to an order, told otherwise -/
def Rk.line (r : Rk) (n : Str) (t : Nat) : List Dv := (List.range (if r.axs.length = 2 then t + 1 else 1)).map fun (j : Nat) => ⟨n, (t : Int) - j, (j : Int)⟩
/-- those of the order 0, rising -/
theorem Rk.zero (r : Rk) (hn : r.ns.Nodup) : r.sort (r.all 0) = r.ns.reverse.map fun n => ⟨n, 0, 0⟩ := by
  have e0 : r.all 0 = r.ns.map fun n => (⟨n, 0, 0⟩ : Dv) := by
    unfold Rk.all Rk.rowsN Rk.row Rk.most
    induction r.ns with
    | nil => rfl
    | cons n ns ih =>
      rw [List.flatMap_cons, ih, List.map_cons]
      split <;> simp [List.range_succ]
  refine r.rise_one (r.sort_lt (fun u hu => (Rk.mem_all hu).n) (r.all_nd 0 hn)) ?_ fun v => ?_
  · rw [List.pairwise_map, List.pairwise_reverse]
    rw [List.pairwise_iff_getElem]
    intro i j hi hj hij
    unfold Rk.lt Rk.key Rk.first Rk.ahead
    have ix : ∀ (k : Nat) (hk : k < r.ns.length), r.ns.idxOf r.ns[k] = k := fun k hk => by
      have h1 := List.idxOf_lt_length_of_mem (List.getElem_mem hk)
      have h2 := List.getElem_idxOf h1
      by_cases e : r.ns.idxOf r.ns[k] = k
      · exact e
      · exact ((List.nodup_iff_pairwise_ne.mp hn) |> fun hp => by
          rw [List.pairwise_iff_getElem] at hp
          rcases Nat.lt_or_gt_of_ne e with z | z
          · exact (hp _ _ h1 hk z h2).elim
          · exact (hp _ _ hk h1 z h2.symm).elim)
    have e1 := ix i hi
    have e2 := ix j hj
    simp only [e1, e2]
    cases r.tot
    · simp [lt3]
      omega
    · simp only [if_true, lt3]
      exact .inr ⟨trivial, .inr ⟨trivial, by omega⟩⟩
  · rw [(r.sort_perm _).mem_iff, e0]
    simp
end My
namespace Gd
set_option autoImplicit false
open PySem PySem.Spec PyProof.Rows L2 LamX My
/-- a def's promise, where no repr is under way -/
structure FnG (P : Program) (w : World) (K : PySem.W.Frag) (mg : Str → Option Value) (base : Heap) (k : Nat) (f : Addr) (fd : FuncData) (ps : List Str) (sp : Sp) : Prop where
  len : ∀ vs H Q E, sp vs H Q E → vs.length = ps.length
  run : ∀ (A : Around) (outer : List Env) (s : Shared) (H : Hp) (args : Args) (us : List Value) (vs : List V) (Q : VK) (E : XK), Room k A → A.guards = some [] → Env0 P w K mg base A outer s H → BindsTo s fd args (ps.zip us) → Vals vs us → sp vs H Q E →
    codeAny (model P w) A (.call (.ref f) args) (CR CX0 outer P w H s Q E) s
section
variable {P : Program} {w : World} {K : PySem.W.Frag} {mg : Str → Option Value} {base : Heap} {k : Nat} {f : Addr} {fd : FuncData} {ps : List Str} {sp : Sp}
theorem FnG.of (F : FnOk P w K mg base CX0 k f fd ps sp) : FnG P w K mg base k f fd ps sp := ⟨F.len, fun A outer s H args us vs Q E hr _ => F.run A outer s H args us vs Q E hr⟩
theorem fnG_of {name qual : Str} {params : Arguments} {body : List Stmt} {scope : Scope} {dV kV doc pm cdv ct oc : Value} {an od : Option Addr} {osl : Array (Option Value)} {N : List Str}
    (lk : K.lookup f = some ⟨oc, od, .func (PySem.W.fnOf name qual params body scope dV kV doc pm an cdv ct), osl⟩) (hcd : PySem.W.codeIn K cdv qual = true) (S : FnScope N ps scope) (len : ∀ vs H Q E, sp vs H Q E → vs.length = ps.length)
    (go : ∀ (A : Around) (outer : List Env) (s : Shared) (H : Hp) (vs : List V) (Q : VK) (E : XK), Room k (A.deeper (envOfC qual scope s.heap.objs.size f cdv)) → (A.deeper (envOfC qual scope s.heap.objs.size f cdv)).guards = some [] → sp vs H Q E →
      ∃ t, PSs (cxOf CX0 P w K mg base N qual scope f cdv A outer s H E) body t ∧ t { nx := fun _ H' => Q .non H', rt := Q } (start N vs) H) :
    FnG P w K mg base (k + 1) f (PySem.W.fnOf name qual params body scope dV kV doc pm an cdv ct) ps sp := by
  refine ⟨len, fun A outer s H args us vs Q E hr hg e0 hb r hsp => ?_⟩
  have old := fun (b : Addr) (o : Obj) (e : base.get? b = some o) => (e0.bs b o e).1
  have inK : K.In s.heap := e0.mod.kin.keeps old
  have local_ := fun (y : Str × Value) (hy : y ∈ ps.zip us) => (S.par y.1 (List.of_mem_zip hy).1).imp id fun q => (⟨q, PySem.W.cellsFrom_some _ _ _ (.inl q)⟩ : scope.names.lookup y.1 = some .cell ∧ ((cellsFrom (s.heap.objs.size + 1) scope.names []).lookup y.1).isSome = true)
  refine codeAny_call_function hr.depth (inK _ _ lk) rfl S.co S.gen rfl (PySem.W.codeRec_of inK hcd) (hb _ _ _ _ (wpAny_newFunctionEnv_cells S.kind local_ fun env he s1 x => ?_))
  subst he
  obtain ⟨t, ht, hq⟩ := go A outer s H vs Q E (hr.deeper _) hg hsp
  refine ⟨(e0.mod.nolimit.keeps old).keeps x.toInCall.keep, codeAny_func (wpAny_mono (ht.run [] s1 _ H _ (inv_start S hr.hd e0 (len _ _ _ _ hsp) r x) hq) (fun fl s' hs => ?_) fun e s' hs => hs)⟩
  cases fl with
  | ret u => exact let ⟨v, _, H', J, rv, q⟩ := hs; ⟨v, H', J.os, J.bare, J.base, J.hok, rv, q⟩
  | next => exact let ⟨_, H', J, q⟩ := hs; ⟨V.non, H', J.os, J.bare, J.base, J.hok, rfl, q⟩
  | brk => exact let ⟨_, _, _, q⟩ := hs; q.elim
  | cont => exact let ⟨_, _, _, q⟩ := hs; q.elim
/-- a def as it is called -/
structure CalG (P : Program) (w : World) (K : PySem.W.Frag) (mg : Str → Option Value) (base : Heap) (x : Str) (k : Nat) (ps : List Str) (sp : Sp) (f : Addr) (fd : FuncData) : Prop where
  G : FnG P w K mg base k f fd ps sp
  m : mg x = some (.ref f)
  k : PySem.W.keepIn K (.ref f) = true
  b : Binds K fd ps []
end
section
variable {X : Cx} {k : Nat} {f : Addr} {fd : FuncData} {ps : List Str} {sp : Sp} {dvs : List V} {ds : List Value} {E : XK} {x : Str} {p pos : Pos} {e : Expr} {es : List Expr} {t : TA}
end
/-! ### repr of data -/
mutual
theorem dp_nd {K : PySem.W.Frag} {H : Hp} : ∀ {d : PyData} {v : V}, Dp K H v d → d.hasDict = false
  | _, _, .non => by simp only [PyData.hasDict]
  | _, _, .bl b => by simp only [PyData.hasDict]
  | _, _, .int i => by simp only [PyData.hasDict]
  | _, _, .str x => by simp only [PyData.hasDict]
  | _, _, .lst _ b => by simp only [PyData.hasDict]; exact dps_nd b
  | _, _, .tup _ b => by simp only [PyData.hasDict]; exact dps_nd b
theorem dps_nd {K : PySem.W.Frag} {H : Hp} : ∀ {ds : List PyData} {vs : List V}, DpAll K H vs ds → PyData.hasDictAll ds = false
  | _, _, .nil => by simp only [PyData.hasDictAll]
  | _, _, .cons a b => by simp only [PyData.hasDictAll, dp_nd a, dps_nd b, Bool.or_self]
end
def rRepr (K : PySem.W.Frag) : List V → Hp → VK → Prop := fun xs H Q => ∃ x d, xs = [x] ∧ Dp K H x d ∧ d.showable = true ∧ d.depth ≤ 60 ∧ d.shown.length ≤ 1000000 ∧ Q (.str d.shown) H
theorem call_reprG {X : Cx} (hG : X.A.guards = some []) (hu : X.A.units + 64 < cLine) : CallR X (.builtin "repr") (rRepr X.K) := by
  intro pins s σ H xs us Q I r ⟨x, d, e, hd, hs, hp, hz, q⟩
  subst e
  obtain ⟨u, rfl, rx⟩ := vals1 r
  have hz' : d.shown.length ≤ sizeLine := Nat.le_trans hz (by decide)
  have hn := dp_nd hd
  have fin : ∀ {a : Addr}, u = .ref a → wpAny (model X.prog X.w) X.A (call (.builtin "repr") [u]) (EP X pins σ Q) X.xe s := fun {a} e => by
    subst e
    obtain ⟨as, ra⟩ := Dp.reads I d x _ hd rx
    exact repr_of_reads' ra hs (PyData.noDict_hsm hn) hG (by omega) (fun _ _ e => e) (fun h' u tk hk => ⟨.str d.shown, H, I.kept (t' := tk) hk, ⟨u, rfl⟩, q⟩) hz'
  cases hd with
  | non =>
    obtain rfl : u = Value.none := rx
    simp only [PyData.shown] at q
    exact PySem.P.repr_of_none ⟨.str _, H, I.tok _, ⟨_, rfl⟩, q⟩
  | bl b =>
    obtain rfl : u = Value.bool b := rx
    simp only [PyData.shown] at q
    exact PySem.P.repr_of_bool ⟨.str _, H, I.tok _, ⟨_, rfl⟩, q⟩
  | int i =>
    obtain ⟨t, rfl⟩ := rx
    simp only [PyData.shown] at q
    refine PySem.P.repr_of_int ?_ ⟨.str _, H, I.tok _, ⟨_, rfl⟩, q⟩
    simpa only [PyData.showable, decide_eq_true_eq] using hs
  | str y =>
    obtain ⟨t, rfl⟩ := rx
    simp only [PyData.shown] at q hz'
    exact PySem.P.repr_of_str ⟨.str _, H, I.tok _, ⟨_, rfl⟩, q⟩ hz'
  | lst a b => exact fin rx
  | tup a b => exact fin rx
end Gd
namespace Gd
set_option autoImplicit false
open PySem PySem.Spec PyProof.Rows L2 LamX My
/-- the abstract heap at the law's call: the script where it isn't written, the empty tables -/
def scrO (vs : List Value) : Obj := { cls := .type "list", data := .seq vs.toArray }
def tabO : Obj := { cls := .none, data := .fields #[] }
open Classical in
noncomputable def H0 (K : PySem.W.Frag) (a : Addr) (vs : List Value) (ns : List Int) (ts : List Addr) : Hp := fun b => if b ∈ ts then some (.tbl #[]) else if b = a ∧ K.lookup a = none then some (.frz (scrO vs) (.lst (ns.map V.int))) else none
theorem H0_t {K : PySem.W.Frag} {a : Addr} {vs : List Value} {ns : List Int} {ts : List Addr} {b : Addr} (h : b ∈ ts) : H0 K a vs ns ts b = some (.tbl #[]) := if_pos h
theorem H0_some {K : PySem.W.Frag} {a : Addr} {vs : List Value} {ns : List Int} {ts : List Addr} {b : Addr} {u : HO} (h : H0 K a vs ns ts b = some u) : (b ∈ ts ∧ u = .tbl #[]) ∨ (b = a ∧ K.lookup a = none ∧ u = .frz (scrO vs) (.lst (ns.map V.int))) := by
  unfold H0 at h
  split at h
  · rename_i q
    exact .inl ⟨q, (Option.some.inj h).symm⟩
  · split at h
    · rename_i q
      exact .inr ⟨q.1, q.2, (Option.some.inj h).symm⟩
    · cases h
section
variable {P : Program} {w : World} {K : PySem.W.Frag} {mg mb : Str → Option Value} {k : Nat} {fa a : Addr} {cs : List (Addr × Addr)} {fd : FuncData} {x : Str} {sp : Sp} {s1 : Shared} {vs : List Value} {ns : List Int}
theorem lawG (KX : K.In s1.heap) (hns : s1.heap.Ns mainGlobals mg) (hb : s1.heap.Ns builtinsNs mb) (hbb : ∀ x : Str, x ≠ "__name__" → mb x = bootBuiltins x) (hlim : s1.heap.NoLimit) (hgen : s1.gens = #[])
    (hT : ∀ p ∈ cs, s1.heap.get? p.2 = some tabO) (nT : ∀ p ∈ cs, K.lookup p.2 = none) (hC : ∀ p ∈ cs, PySem.W.CodeHd s1.heap p.1 p.2)
    (hbm : ∃ (bm : Addr) (ob : Obj), mg "__builtins__" = some (.ref bm) ∧ bm ≠ builtinsNs ∧ s1.heap.get? bm = some ob ∧ ob.cls = .type "module" ∧ ob.dict = some builtinsNs ∧ ob.data = .plain)
    (ha : s1.heap.get? a = some (scrO vs)) (hi : IntsAre vs ns) (hl : ns.length ≤ sizeLine) (hr : Room k callerA)
    (F : ∀ base : Heap, K.In base → base.Ns mainGlobals mg → (∀ p ∈ cs, TabB base mg p.1 p.2) → FnG P w K mg base k fa fd [x] sp) (hbind : ∀ (s : Shared) (u : Value), BindsTo s fd ⟨[u], []⟩ [(x, u)])
    (hsp : ∀ H : Hp, (∀ p ∈ cs, H p.2 = some (.tbl #[])) → SqL K H a (ns.map V.int) → sp [.ref a] H (fun v _ => v = .bl true) fun _ _ _ => False) :
    codeAny (model P w) callerA (.call (.ref fa) ⟨[.ref a], []⟩) (fun r s' => r = .ok (.ret (.bool true)) ∧ OldK s1.heap s'.heap ∧ s'.os = s1.os ∧ AllBare s'.gens) s1 := by
  let ts := cs.map (·.2)
  have tab : ∀ b ∈ ts, ∃ p ∈ cs, p.2 = b := fun b q => by
    obtain ⟨p, h1, h2⟩ := List.mem_map.mp q
    exact ⟨p, h1, h2⟩
  have inT : ∀ p ∈ cs, p.2 ∈ ts := fun p q => List.mem_map.mpr ⟨p, q, rfl⟩
  have tAt : ∀ b ∈ ts, s1.heap.get? b = some tabO := fun b q => by
    obtain ⟨p, h1, rfl⟩ := tab b q
    exact hT p h1
  have aT : a ∉ ts := fun q => by
    have := tAt a q
    rw [ha] at this
    exact nomatch congrArg Obj.data (Option.some.inj this)
  generalize hH : H0 K a vs ns ts = H
  have at1 : ∀ {b u}, H b = some u → (b ∈ ts ∧ u = .tbl #[]) ∨ (b = a ∧ K.lookup a = none ∧ u = .frz (scrO vs) (.lst (ns.map V.int))) := fun {b u} q => by
    rw [← hH] at q
    exact H0_some q
  have atT : ∀ p ∈ cs, H p.2 = some (.tbl #[]) := fun p q => by
    rw [← hH]
    exact H0_t (inT p q)
  -- what is neither a list of that kind nor a table is not tracked
  have free : ∀ {b : Addr} {o : Obj}, s1.heap.get? b = some o → (∀ us m, o.data ≠ .seq us m) → o.data ≠ .fields #[] → H b = none := fun {b o} e n1 n2 => by
    cases q : H b with
    | none => rfl
    | some u =>
      rcases at1 q with ⟨h1, _⟩ | ⟨h1, _⟩
      · have := tAt b h1
        rw [e] at this
        exact absurd (congrArg Obj.data (Option.some.inj this)) n2
      · rw [h1, ha] at e
        exact absurd (congrArg Obj.data (Option.some.inj e)).symm (n1 _ _)
  have ground : ∀ {b : Addr} {m : Str → Option Value}, s1.heap.Ns b m → (hidT s1.heap H).Ns b m := fun {b m} h => by
    obtain ⟨o, es, ep, e, d, r⟩ := h
    exact ⟨o, es, ep, hidT_get e (free e (fun us m z => by rw [d] at z; cases z) fun z => by rw [d] at z; cases z), d, r⟩
  have KB : K.In (hidT s1.heap H) := fun b o e => hidT_get (KX b o e) <| by
    cases q : H b with
    | none => rfl
    | some u =>
      rcases at1 q with ⟨h1, _⟩ | ⟨h1, h2, _⟩
      · obtain ⟨p, hp, rfl⟩ := tab b h1
        rw [nT p hp] at e
        cases e
      · rw [h1, h2] at e
        cases e
  have TB : ∀ p ∈ cs, TabB (hidT s1.heap H) mg p.1 p.2 := fun p hp => by
    have t1 := hT p hp
    have gne : mainGlobals ≠ p.2 := fun z => by
      obtain ⟨o, es, ep, e, hd, _⟩ := hns
      rw [z, t1] at e
      cases e
      cases hd
    refine ⟨?_, ?_, gne⟩
    · obtain ⟨o, us, fi, tf, fl, tg, inF, tx, tt, e1, r1, r2, r3, rest⟩ := hC p hp
      exact ⟨o, us, fi, tf, fl, tg, inF, tx, tt, hidT_get e1 (free e1 (fun us m z => by rw [r2] at z; cases z) fun z => by rw [r2] at z; cases z; simp at r3), r1, r2, r3, rest⟩
    · obtain ⟨bm, ob, b1, b2, b3, b4, b5, b6⟩ := hbm
      refine ⟨bm, ob, b1, b2, fun z => ?_, fun z => ?_, hidT_get b3 (free b3 (fun us m z => by rw [b6] at z; cases z) fun z => by rw [b6] at z; cases z), b4, b5, b6⟩
      · obtain ⟨o, es, ep, e, hd, _⟩ := hns
        rw [← z, b3] at e
        cases e
        rw [b6] at hd
        cases hd
      · rw [z, t1] at b3
        cases b3
        cases b6
  have rv := vals_ints hi
  have hvs := hi.length
  have sq : SqL K H a (ns.map V.int) := by
    cases q : K.lookup a with
    | none => exact .inl (.inr ⟨scrO vs, by rw [← hH]; exact (if_neg aT).trans (if_pos ⟨rfl, q⟩)⟩)
    | some o =>
      have e := KX a o q
      rw [ha] at e
      cases e
      exact .inr ⟨scrO vs, vs.toArray, _, q, rfl, rfl, rfl, by rw [List.size_toArray, hvs]; exact hl, by simpa using rv⟩
  have hok : HOk P w H s1.heap := fun b u q => by
    rcases at1 q with ⟨h1, rfl⟩ | ⟨rfl, _, rfl⟩
    · exact tAt b h1
    · exact ⟨ha, by rw [List.length_map]; exact hl, vs, _, rv, ha⟩
  have env : Env0 P w K mg (hidT s1.heap H) callerA [] s1 H := ⟨rfl, ⟨KB, ground hns, ⟨mb, ground hb, hbb⟩, (let ⟨mc, h1, h2⟩ := hlim; ⟨mc, ground h1, h2⟩)⟩, fun b o e => of_hidT e, Nat.le_of_eq (hidT_size _ _), trivial, fun b z => (nomatch z), hok, .of_eq hgen⟩
  refine codeAny_mono ((F _ KB (ground hns) TB).run callerA [] s1 H ⟨[.ref a], []⟩ [.ref a] [.ref a] _ _ hr rfl env (hbind s1 (.ref a)) (.cons rfl .nil) (hsp H atT sq)) fun r s' h => ?_
  match r, h with
  | .ok (.ret u), h =>
    obtain ⟨v, H', os, bare, un, hok', r', q⟩ := h
    obtain rfl : v = .bl true := q
    obtain rfl : u = Value.bool true := r'
    have more : ∀ b ∈ ts, ∃ m : Array Value, s'.heap.get? b = some { cls := .none, data := .fields m } := fun b hb => by
      obtain ⟨p, hp, rfl⟩ := tab b hb
      obtain ⟨m, z⟩ := un.tbls _ #[] (atT p hp)
      exact ⟨_, hok' _ _ z⟩
    have stay : ∀ b o, b ∉ ts → s1.heap.get? b = some o → s'.heap.get? b = some o := fun b o nb e => by
      cases q : H b with
      | none => exact un.keep b o e q (fun z => (nomatch z)) (fun z => (nomatch z))
      | some u =>
        rcases at1 q with ⟨h1, _⟩ | ⟨_, _, rfl⟩
        · exact absurd h1 nb
        · have e1 := (hok b _ q).1
          have e2 := (hok' b _ (un.frzs b _ _ q)).1
          rw [e1] at e
          cases e
          exact e2
    refine ⟨rfl, ⟨fun b o e => ?_, fun b o e => ?_⟩, os, bare⟩
    · by_cases hbt : b ∈ ts
      · obtain ⟨m, hm⟩ := more b hbt
        obtain ⟨p, hp, rfl⟩ := tab b hbt
        have t1 := hT p hp
        rw [t1] at e
        cases e
        exact .inr (.inl ⟨((hC p hp).tab t1).isCodeTable, rfl, #[], m, rfl, by rw [Array.empty_append]; exact hm⟩)
      · exact .inl (stay b o hbt e)
    · by_cases hbt : b ∈ ts
      · exact let ⟨m, hm⟩ := more b hbt; ⟨_, hm⟩
      · exact ⟨o, stay b o hbt e⟩
/-- what the end asks, at the head's heap -/
def LawAtG (l : PySem.W.OpenLaw) (w : World) (K : PySem.W.Frag) (k n : Nat) (x : Str) (mg : Str → Option Value) (fa : Addr) (h : Heap) : Prop :=
  ∃ (fd : FuncData) (cs : List (Addr × Addr)) (sp : Sp), (∀ p ∈ cs, h.get? p.2 = some tabO) ∧ (∀ p ∈ cs, K.lookup p.2 = none) ∧ (∀ p ∈ cs, PySem.W.CodeHd h p.1 p.2) ∧ (∀ (s : Shared) (u : Value), BindsTo s fd ⟨[u], []⟩ [(x, u)]) ∧
    (∀ (H : Hp) (a : Addr) (ns : List Int), ns.length ≤ n → (∀ z ∈ ns, Builtin.Int.intBits z ≤ 1048576) → (∀ p ∈ cs, H p.2 = some (.tbl #[])) → SqL K H a (ns.map V.int) → sp [.ref a] H (fun v _ => v = .bl true) fun _ _ _ => False) ∧
    ∀ base : Heap, K.In base → base.Ns mainGlobals mg → (∀ p ∈ cs, TabB base mg p.1 p.2) → FnG l.prog w K mg base k fa fd [x] sp
end
end Gd
namespace Gd
set_option autoImplicit false
open PySem PySem.Spec PyProof.Rows L2 LamX My Evl
/-! ### how long what repr tells is -/
theorem small_int {i : Int} (h0 : -100 ≤ i) (h1 : i ≤ 100) : ((toString i : String) : Str).length ≤ 4 ∧ i.natAbs.log2 < 1920 := by
  have : ∀ k : Fin 201, ((toString ((k.val : Int) - 100) : String) : Str).length ≤ 4 ∧ ((k.val : Int) - 100).natAbs.log2 < 1920 := by decide +kernel
  have := this ⟨(i + 100).toNat, by omega⟩
  have e : (((i + 100).toNat : Nat) : Int) - 100 = i := by omega
  simp only [e] at this
  exact this
theorem all_len {ds : List PyData} {m : Nat} (h : ∀ d ∈ ds, d.shown.length ≤ m) : ((PyData.shownAll ds).map (·.length)).sum ≤ ds.length * m ∧ (PyData.shownAll ds).length = ds.length := by
  induction ds with
  | nil => simp [PyData.shownAll]
  | cons d ds ih =>
    obtain ⟨h1, h2⟩ := ih fun e he => h e (List.mem_cons_of_mem _ he)
    simp only [PyData.shownAll, List.map_cons, List.sum_cons, List.length_cons, h2, Nat.add_mul]
    have := h d List.mem_cons_self
    refine ⟨by omega, trivial⟩
theorem shown_lst {ds : List PyData} {m : Nat} (h : ∀ d ∈ ds, d.shown.length ≤ m) : (PyData.list ds).shown.length ≤ ds.length * (m + 2) + 3 := by
  simp only [PyData.shown]
  have h1 := listText_len_le (PyData.shownAll ds)
  obtain ⟨h2, h3⟩ := all_len h
  rw [h3] at h1
  rw [Nat.mul_add]
  omega
theorem shown_tup {ds : List PyData} {m : Nat} (h : ∀ d ∈ ds, d.shown.length ≤ m) : (PyData.tuple ds).shown.length ≤ ds.length * (m + 2) + 3 := by
  simp only [PyData.shown]
  have h1 := tupleText_len_le (PyData.shownAll ds)
  obtain ⟨h2, h3⟩ := all_len h
  rw [h3] at h1
  rw [Nat.mul_add]
  omega
theorem shown_int {i : Int} (h0 : -100 ≤ i) (h1 : i ≤ 100) : (PyData.int i).shown.length ≤ 4 ∧ (PyData.int i).showable = true := by
  obtain ⟨a, b⟩ := small_int h0 h1
  refine ⟨by simp only [PyData.shown]; exact a, ?_⟩
  simp only [PyData.showable, decide_eq_true_eq]
  exact b
theorem shown_nm {x : Str} (h : My.IsNm x) : (PyData.str x).shown.length ≤ 82 := by
  obtain ⟨h1, h2, h3⟩ := nm_facts h
  simp only [PyData.shown]
  have := StrLaws.reprText_len x fun c hc => by
    have := h3 c (by simpa using hc)
    omega
  omega
theorem nm_okS {x : Str} (h : My.IsNm x) : PyData.strOk x = true := by
  have h2 := (nm_facts h).2.2
  unfold PyData.strOk
  rw [Array.all_eq_true']
  intro c hc
  have := h2 c hc
  simp
  omega
theorem shp_dv {r : Rk} {u : Dv} (hr : r.Ok) (h : u.Of r) : SeqAt.shaped u.D = true := by
  have := nm_okS (hr.nm _ h.n)
  unfold Dv.D SeqAt.shaped
  simp [PyData.canLay0, PyData.canLayAll0, PyData.depth, PyData.depthAll, this]
theorem show_dv {r : Rk} {u : Dv} (hr : r.Ok) (h : u.Of r) (hi : u.i ≤ 20) (hj : u.j ≤ 20) : u.D.shown.length ≤ 300 ∧ u.D.showable = true := by
  have i0 := h.i
  have j0 := h.j
  have h1 := shown_nm (hr.nm _ h.n)
  obtain ⟨h2, h4⟩ := shown_int (i := u.i) (by omega) (by omega)
  obtain ⟨h3, h5⟩ := shown_int (i := u.j) (by omega) (by omega)
  unfold Dv.D
  refine ⟨?_, ?_⟩
  · have := shown_tup (ds := [.str u.n, .int u.i, .int u.j]) (m := 82) fun d hd => by
      simp only [List.mem_cons, List.not_mem_nil, or_false] at hd
      rcases hd with rfl | rfl | rfl <;> omega
    simp only [List.length_cons, List.length_nil] at this
    omega
  · simp only [PyData.showable, PyData.showableAll, Bool.and_true, Bool.true_and] at h4 h5 ⊢
    rw [h4, h5]
    rfl
section
variable {te : TE} {σ : L2.St} {B : Hp} {K : PySem.W.Frag} {d : PyData}
/-- repr of what is known -/
theorem ev_repr (h : EvP te σ B (IsD K d)) (hs : d.showable = true) (hp : d.depth ≤ 60) (hz : d.shown.length ≤ 1000000) : Ev (tCB (rRepr K) (tCons te tNil)) σ B (.str d.shown) := fun H1 a Q k =>
  h H1 a _ fun v B2 H2 g x => ⟨v, d, rfl, dp_m g.c x, hs, hp, hz, k H2 g.a⟩
end
end Gd
namespace Gd
set_option autoImplicit false
open PySem PySem.Spec PyProof.Rows L2 LamX My
section
variable {X : Cx} {k n : Nat} {f : Addr} {fd : FuncData} {ps ks : List Str} {sp : Sp} {E : XK} {x : Str} {p pos : Pos} {kws : List Keyword} {tk : TA} {g : List Value → List Value → List Value} {gV : List V → List V → List V}
end
section
variable {K : PySem.W.Frag} {x qual : Str} {st : Stmt} {f : Addr} {fd : FuncData} {ps ks : List Str} {n : Nat}
end
end Gd
namespace Gd
set_option autoImplicit false
open PySem PySem.Spec PyProof.Rows L2 My HT
section
variable {prog : Program} {w : World} {A : Around} {E : Value → Shared → Prop} {s : Shared}
end
/-! ### t[::-1] of a tuple -/
end Gd
namespace Nd
set_option autoImplicit false
open PySem PySem.Spec PyProof.Rows L2 My
/-! ### data as keys -/
mutual
def nk : PyData → NestedKey
  | .none => .none
  | .bool b => .num (if b = true then 1 else 0)
  | .int i => .num i
  | .str x => .text x
  | .tuple ds => .tup (nkAll ds)
  | .list _ => .none
  | .dict _ => .none
def nkAll : List PyData → List NestedKey
  | [] => []
  | d :: ds => nk d :: nkAll ds
end
mutual
def keyish : PyData → Bool
  | .none => true
  | .bool _ => true
  | .int _ => true
  | .str _ => true
  | .tuple ds => keyishAll ds
  | .list _ => false
  | .dict _ => false
def keyishAll : List PyData → Bool
  | [] => true
  | d :: ds => keyish d && keyishAll ds
end
section
variable {X : Cx} {pins : List (Addr × Obj)} {σ : L2.St} {H : Hp} {s : Shared}
mutual
theorem dp_nk (I : Inv X pins σ H s) : ∀ {d : PyData} {v : V} {u : Value}, Dp X.K H v d → keyish d = true → RelV v u → NestedIs s.heap (nk d) u
  | _, _, u, .non, _, r => by
    obtain rfl : u = Value.none := r
    simp only [nk]
    exact .none
  | _, _, u, .bl b, _, r => by
    obtain rfl : u = Value.bool b := r
    simp only [nk]
    exact .bool rfl
  | _, _, u, .int i, _, r => by
    obtain ⟨t, rfl⟩ := r
    simp only [nk]
    exact .int i t
  | _, _, u, .str x, _, r => by
    obtain ⟨t, rfl⟩ := r
    simp only [nk]
    exact .text x t
  | _, _, u, .lst _ _, h, _ => by simp [keyish] at h
  | _, _, u, .tup (a := a) x y, h, r => by
    obtain rfl : u = Value.ref a := r
    obtain ⟨its, rv, ⟨o, h1, h2, n, h3⟩, _⟩ := I.tuple x
    simp only [nk]
    simp only [keyish] at h
    exact .tup h1 h2 h3 (by simpa using dps_nk I y h rv)
theorem dps_nk (I : Inv X pins σ H s) : ∀ {ds : List PyData} {vs : List V} {us : List Value}, DpAll X.K H vs ds → keyishAll ds = true → Vals vs us → NestedAll s.heap (nkAll ds) us
  | _, _, [], .nil, _, .nil => by
    simp only [nkAll]
    exact .nil
  | _, _, _ :: _, .cons a b, h, .cons r1 r2 => by
    simp only [keyishAll, Bool.and_eq_true] at h
    simp only [nkAll]
    exact .cons (dp_nk I a h.1 r1) (dps_nk I b h.2 r2)
end
end
/-! ### a dict by such keys -/
abbrev NV := NestedKey × Addr × V
def lay : List NV → List Value → List (NestedKey × Addr × Value)
  | [], _ => []
  | _ :: _, [] => []
  | x :: xs, u :: us => (x.1, x.2.1, u) :: lay xs us
/-- what stands at a key -/
def look (xs : List NV) (k : NestedKey) : Option V := (xs.find? fun x => decide (x.1 = k)).map (·.2.2)
def hasN (xs : List NV) (k : NestedKey) : Bool := xs.any fun x => decide (x.1 = k)
def putN (xs : List NV) (k : NestedKey) (a : Addr) (v : V) : List NV := if hasN xs k then xs.map fun x => if x.1 = k then (x.1, x.2.1, v) else x else xs ++ [(k, a, v)]
def DNf (P : Program) (w : World) (d : Addr) (xs : List NV) : Heap → Prop := fun h => (d == sysModules) = false ∧ xs.length ≤ sizeLine ∧ ∃ (us : List Value) (o : Obj) (es : Array DictEntry) (ep : Nat), Vals (xs.map (·.2.2)) us ∧ h.get? d = some o ∧ o.ExactDict ∧ o.data = .dict es ep ∧ es.toList = (lay xs us).map (entryOfKey (nestedKind P w)) ∧ (xs.map (·.1)).Nodup
/-- a dict by nested keys, in the order of insertion -/
def DN (P : Program) (w : World) (d : Addr) (xs : List NV) : HO := .ext (DNf P w d xs)
/-- the object at a is such a key -/
def KeyAt (K : PySem.W.Frag) (H : Hp) (a : Addr) (k : NestedKey) : Prop := ∃ d, Dp K H (.ref a) d ∧ keyish d = true ∧ nk d = k ∧ k.depth ≤ 8
def KeysOk (K : PySem.W.Frag) (H : Hp) (xs : List NV) : Prop := ∀ x ∈ xs, KeyAt K H x.2.1 x.1
theorem KeyAt.ex {K : PySem.W.Frag} {H H' : Hp} {a : Addr} {k : NestedKey} (h : KeyAt K H a k) (e : Evl.Ex H H') : KeyAt K H' a k := let ⟨d, x, y⟩ := h; ⟨d, dp_m e x, y⟩
theorem KeysOk.ex {K : PySem.W.Frag} {H H' : Hp} {xs : List NV} (h : KeysOk K H xs) (e : Evl.Ex H H') : KeysOk K H' xs := fun x hx => (h x hx).ex e
section
variable {X : Cx} {pins : List (Addr × Obj)} {σ : L2.St} {H : Hp} {s : Shared} {d a : Addr} {xs : List NV} {k : NestedKey}
end
end Nd
namespace Nd
set_option autoImplicit false
open PySem PySem.Spec PyProof.Rows L2 My Evl
section
variable {X : Cx}
def rLeD (K : PySem.W.Frag) : R2 := fun x y H Q => ∃ d e, Dp K H x d ∧ Dp K H y e ∧ PySem.W.alike d e = true ∧ d ≠ .none ∧ min d.depth e.depth ≤ 50 ∧ Q (.bl (!PySem.W.dataLt e d)) H
theorem op_leD (hu : X.A.units + 65 < cLine) : OpR X (compareOp .LtE) (rLeD X.K) := by
  intro pins s σ H x y v u Q I rx ry ⟨d, e, hd, he, al, hn, hm, q⟩
  obtain ⟨as, r1⟩ := Dp.reads I d x v hd rx
  obtain ⟨bs, r2⟩ := Dp.reads I e y u he ry
  exact PySem.W.le_data r1 r2 al hn (by omega) ⟨.bl _, H, I, rfl, q⟩
end
section
variable {te ta tb : TE} {σ : L2.St} {B : Hp} {K : PySem.W.Frag} {d e : PyData}
theorem ev_leD (ha : EvP ta σ B (IsD K d)) (hb : EvP tb σ B (IsD K e)) (al : PySem.W.alike d e = true) (hn : d ≠ .none) (hm : min d.depth e.depth ≤ 50) : Ev (tOp (rLeD K) ta tb) σ B (.bl (!PySem.W.dataLt e d)) := fun H1 a Q k =>
  ha H1 a _ fun v B2 H2 g b => hb H2 (g.b.trans g.c) _ fun w B3 H3 g3 b3 => ⟨d, e, dp_m (g.c.trans g3.a) b, dp_m g3.c b3, al, hn, hm, k H3 (g.a.trans g3.a)⟩
end
end Nd
namespace Nd
set_option autoImplicit false
open PySem PySem.Spec PyProof.Rows L2 My Evl
/-! ### enumerate of a tuple -/
/-- an enumerate object over the iterator n, nothing drawn yet -/
abbrev enO (n : Addr) : Obj := { cls := .type "enumerate", data := .fields #[.none, .bool false, .ref n, rawInt 0, .none, .none] }
set_option maxHeartbeats 1000000 in
theorem en_new {v : Value} {o : Obj} {G : Heap → Prop} (B : Begins v o G) :
    Meets (Builtin.«enumerate.__new__» ⟨[.type "enumerate", v], []⟩) (fun _ R s => G s.heap ∧ R (.ok (.ret (.ref (s.heap.push o).objs.size))) { s with heap := (s.heap.push o).push (enO s.heap.objs.size) }) := .of_wp fun prog w A R s h => by
  obtain ⟨hp, gg, dd, tt, oo⟩ := s
  obtain ⟨h1, h2⟩ := h
  have sb := sub_enumerate
  have q1 : ∀ {A' : Around} {E Q : Value → Shared → Prop}, Q (.ref hp.objs.size) ⟨hp.push o, gg, dd, tt, oo⟩ → wpAny (model prog w) A' (pyIter v) Q E ⟨hp, gg, dd, tt, oo⟩ := fun q => B.iter prog w _ _ ⟨hp, gg, dd, tt, oo⟩ _ h1 q
  wp_walk using q1
  refine wpAny_stack_any fun st => wpAny_pure ?_
  split
  · rename_i c _ _ _ _ _
    cases (c == Value.type "enumerate") <;> (wp_walk using q1; exact ⟨_, rfl, h2⟩)
  · wp_walk using q1
    exact ⟨_, rfl, h2⟩
theorem en_call {P : Program} {w : World} {A : Around} {E : Value → Shared → Prop} {s : Shared} {v : Value} {o : Obj} {G : Heap → Prop} {Q : Value → Shared → Prop} (B : Begins v o G) (h1 : G s.heap)
    (h : ∀ h', IsEnum h' (s.heap.objs.size + 1) s.heap.objs.size 0 .none → h'.get? s.heap.objs.size = some o → (∀ b o, s.heap.get? b = some o → h'.get? b = some o) → Q (.ref (s.heap.objs.size + 1)) { s with heap := h' }) :
    wpAny (model P w) A (call (.type "enumerate") [v]) Q E s := by
  refine callType_new F.called_enumerate (by decide) (F.typeCall_enumerate_1 _) (F.newCall_enumerate_1 _) (fun x => F.args_object_init_2 x _) F.entry_enumerate_new (en_new B) ⟨h1, ?_⟩
  have z : (s.heap.push o).objs.size = s.heap.objs.size + 1 := Heap.size_push ..
  show _ ∧ _
  rw [z]
  have e : IsEnum ((s.heap.push o).push (enO s.heap.objs.size)) (s.heap.objs.size + 1) s.heap.objs.size 0 .none := by
    have := Heap.get?_push_size (s.heap.push o) (o := enO s.heap.objs.size) rfl
    rw [z] at this
    exact this
  exact ⟨⟨_, e, rfl⟩, h _ e (Heap.get?_push_of_some _ (Heap.get?_push_size _ B.free)) fun b o x => Heap.get?_push_of_some _ (Heap.get?_push_of_some _ x)⟩
/-- the tuple at a, each item in a new pair -/
def IteT (K : PySem.W.Frag) (a : Addr) : It :=
  ⟨fun i H => ∃ (xs : List V) (x : V), SqT K H a xs ∧ xs[i]? = some x,
   fun i H v H' => ∃ T x, v = .ref T ∧ H T = none ∧ H' = upd H T (.tup [.int (i : Nat), x]) ∧ ∀ xs, SqT K H a xs → xs[i]? = some x,
   fun i H => ∃ xs : List V, SqT K H a xs ∧ xs.length = i⟩
theorem tup_ne_it {h : Heap} {a it : Addr} {its : Array Value} {i : Nat} (p : h.IsTuple a its) (k : h.IsTupleIter it a i) : a ≠ it := by
  rintro rfl
  obtain ⟨o, h1, h2, _⟩ := p
  obtain ⟨o', k1, k2, _⟩ := k
  rw [h1] at k1
  cases k1
  rw [h2] at k2
  exact absurd k2 (by decide)
theorem tup_ne_en {h : Heap} {a e it : Addr} {its : Array Value} {i : Int} {old : Value} (p : h.IsTuple a its) (k : IsEnum h e it i old) : e ≠ a := by
  rintro rfl
  obtain ⟨o, h1, h2, _⟩ := p
  have k : h.get? e = some _ := k
  rw [h1] at k
  cases k
  have h2 : Value.type "enumerate" = Value.type "tuple" := h2
  injection h2 with z
  exact absurd z (by decide)
theorem turn_enT {P : Program} {w : World} {K : PySem.W.Frag} {elts : List Expr} {kk : Nat} {tpos : Pos} (a e it : Addr) :
    Turn P w K (.Tuple elts kk tpos) (IteT K a) [e, it] e (fun i h => (∃ old, IsEnum h e it ((i : Nat) : Int) old) ∧ h.IsTupleIter it a i ∧ e ≠ it) where
  mem := by simp
  obj := fun i h st b hb => by
    obtain ⟨⟨old, he⟩, ⟨o, ho, hc, hd⟩, _⟩ := st
    rcases (by simpa using hb : b = e ∨ b = it) with rfl | rfl
    · exact ⟨_, he, fun v q => nomatch q⟩
    · exact ⟨o, ho, fun v q => by rw [hd] at q; cases q⟩
  keep := fun i h h' st k => by
    obtain ⟨⟨old, he⟩, hi, hne⟩ := st
    exact ⟨⟨old, k e (by simp) _ he⟩, hi.at fun o q => k it (by simp) o q, hne⟩
  item := by
    intro X hP hw hK hc i pins s σ H E I hf st hg
    subst hP hw hK
    obtain ⟨⟨old, he⟩, hit, hne⟩ := st
    obtain ⟨xs, x, hq, hx⟩ := hg
    obtain ⟨its, rv, p, hz⟩ := I.tuple hq
    obtain ⟨u, hu, ru⟩ := rv.get hx
    have hel : e < s.heap.objs.size := Heap.lt_size he
    have hil : it < s.heap.objs.size := by
      obtain ⟨_, q, _⟩ := hit
      exact Heap.lt_size q
    have hit0 := hit
    refine wpAny_pyNext_enum_itemD (Draws.tuple (by exact I.ok.hd hc) it a (tup_ne_it p hit) its.toArray) he ⟨hit, p⟩ (i := i) (by
      have := (List.getElem?_eq_some_iff.mp hu).1
      simpa using this) hne (by simp [hne, tup_ne_en p he]) fun y h' tk hy ho hst' hT hsz hk => ?_
    obtain rfl : u = y := by
      have hy : its.toArray[i]? = some y := hy
      rw [List.getElem?_toArray, hu] at hy
      exact Option.some.inj hy
    refine ⟨_, rfl, wpAny_letOwnedTupleGo_enum (s := { s with heap := h', toks := tk + 1 }) ho fun h'' he' sb => ?_⟩
    have hT2 : h''.get? s.heap.objs.size = some { cls := .type "tuple", data := .seq #[.int i tk, u] } := (sb.2 _ (Nat.ne_of_gt hel)).trans hT
    have new : ObjOk X.prog X.w (upd H s.heap.objs.size (.tup [.int (i : Nat), x])) h'' s.heap.objs.size (.tup [.int (i : Nat), x]) :=
      ⟨by show 2 ≤ sizeLine; decide, [.int i tk, u], .cons ⟨_, rfl⟩ (.cons ru .nil), ⟨_, hT2, rfl, _, rfl⟩⟩
    have I1 : Inv X pins σ (upd H s.heap.objs.size (.tup [.int (i : Nat), x])) { s with heap := h'', toks := tk + 1 } :=
      I.turnedNew (ch := [e, it]) (fun b ob hb q => by
        have b1 : b ≠ e := fun z => hb (by simp [z])
        have b2 : b ≠ it := fun z => hb (by simp [z])
        exact (sb.2 b b1).trans (hk b ob b1 b2 q)) hf (Nat.le_refl _) new
    refine ⟨.ref s.heap.objs.size, _, I1, rfl, ⟨_, x, rfl, I.hok.fresh (Nat.le_refl _), rfl, fun ys hy => by rw [I.tuple_inj hy hq]; exact hx⟩, ⟨⟨u, ?_⟩, hst'.1.at fun o q => (sb.2 it (Ne.symm hne)).trans q, hne⟩, fun b hb => ?_⟩
    · rw [show ((i + 1 : Nat) : Int) = (i : Int) + 1 by omega]
      exact he'
    · have hb' : b < s.heap.objs.size := by
        rcases (by simpa using hb : b = e ∨ b = it) with rfl | rfl
        · exact hel
        · exact hil
      rw [upd_ne (Nat.ne_of_lt hb')]
      exact (hf b hb).1
  done := by
    intro X hP hw hK hc i pins s σ H E I hf st hg
    subst hP hw hK
    obtain ⟨⟨old, he⟩, hit, hne⟩ := st
    obtain ⟨xs, hq, rfl⟩ := hg
    obtain ⟨its, rv, p, hz⟩ := I.tuple hq
    obtain ⟨f0, f1, f2, f3, f4, f5⟩ := hf it (by simp)
    have hl := rv.length
    refine wpAny_pyNext_enum_endD (Draws.tuple (by exact I.ok.hd hc) it a (tup_ne_it p hit) its.toArray) he ⟨by rw [show its.toArray.size = xs.length by simp [hl]]; exact hit, p⟩ fun h' eb => ⟨rfl, I.turned (t' := s.toks) (fun b o hb q => eb b o hb q) f0 f1 f3 f4 f5⟩
  self := fun A i s Q E st h => by
    obtain ⟨⟨_, he⟩, _⟩ := st
    exact wpAny_pyIter_enum he h
def iEnumT (K : PySem.W.Frag) (ta : TA) : TI := fun σ H R => ta σ H fun vs H1 => ∃ a xs, vs = [.ref a] ∧ SqT K H1 a xs ∧ R (IteT K a) H1
theorem pi_enumT {X : Cx} {e : Expr} {ta : TA} {p pos tpos : Pos} {elts : List Expr} {kk : Nat} (hg : Gl X "enumerate") (hm : X.mg "enumerate" = none) (ha : PA X [e] ta) (hs : starEach [e] X.env = [(false, eval e X.env)] := by rfl) :
    PI X (.Tuple elts kk tpos) (.Call (.Name "enumerate" p) [e] [] pos) (iEnumT X.K ta) := by
  refine ⟨fun pins s σ H R I h => ?_⟩
  refine Call_ (ld_blt I hg hm boot_enumerate (PyProof.Rows.callWith_type1 (thn (ha.run pos pins s σ H _ I h) fun us s1 ⟨vs, H1, I1, r1, q1⟩ => ?_) hs rfl))
  obtain ⟨a, xs, rfl, hq, q⟩ := q1
  cases r1 with
  | cons r rr =>
    cases rr
    cases r
    obtain ⟨its, rv, p', hz⟩ := I1.tuple hq
    refine en_call (begins_tuple a its.toArray) p' fun h' he ho hk => wpAny_pyIter_enum he ?_
    have I2 : Inv X pins σ H1 { s1 with heap := h' } := I1.kept (t' := s1.toks) hk
    refine ⟨s1.heap.objs.size + 1, [s1.heap.objs.size + 1, s1.heap.objs.size], _, _, H1, rfl, I2, turn_enT a (s1.heap.objs.size + 1) s1.heap.objs.size, ⟨⟨.none, he⟩, ⟨_, ho, rfl, rfl⟩, Nat.succ_ne_self _⟩, fun b hb => ?_, q⟩
    have hle : s1.heap.objs.size ≤ b := by
      rcases (by simpa using hb : b = s1.heap.objs.size + 1 ∨ b = s1.heap.objs.size) with z | z
      · rw [z]
        exact Nat.le_succ _
      · rw [z]
        exact Nat.le_refl _
    exact I1.fpOk hle (I1.hok.fresh hle)
theorem walk_enT {K : PySem.W.Frag} {a : Addr} {xs : List V} : Walk (IteT K a) xs.length (fun H => SqT K H a xs) (YPair (fun i => some (.int (i : Nat))) (fun i => xs[i]?)) := by
  refine ⟨fun i _ hi q => ⟨xs, xs[i], q, by simp [hi]⟩, fun _ q => ⟨xs, q, rfl⟩, fun i H v H' _ q y => ?_⟩
  obtain ⟨T, x, h1, h2, h3, h4⟩ := y
  exact ⟨T, .int (i : Nat), x, h1, h2, h3, rfl, h4 xs q⟩
/-- n pairs of a number and a thing of which P i is known -/
def SrcE (wi : TI) (σ : L2.St) (B : Hp) (n : Nat) (P : Nat → Pr) : Prop := ∀ H1, Ex B H1 → ∀ R : It → Hp → Prop, (∀ (J : It) (B' H2 : Hp) (G : Hp → Prop) (Y : Nat → Hp → V → Hp → Prop), Gr B H1 B' H2 → Walk J n G Y → (∀ H, Ex B' H → G H) →
  (∀ i H v H', i < n → Ex B' H → Y i H v H' → ∃ T x, v = .ref T ∧ H T = none ∧ H' = upd H T (.tup [.int (i : Nat), x]) ∧ (P i).P x B') → R J H2) → wi σ H1 R
section
variable {te : TE} {σ : L2.St} {B H : Hp} {ps : List Pr} {K : PySem.W.Frag} {D : Ends} {ta : TA}
theorem pair_of {xs : List V} {B' : Hp} (al : AllP ps xs B') {i : Nat} {H : Hp} {v : V} {H' : Hp} (y : YPair (fun i => some (.int (i : Nat))) (fun i => xs[i]?) i H v H') :
    ∃ T x, v = .ref T ∧ H T = none ∧ H' = upd H T (.tup [.int (i : Nat), x]) ∧ (ps.getD i (IsV .non)).P x B' := by
  obtain ⟨T, y1, x, h1, h2, h3, h4, h5⟩ := y
  obtain rfl : V.int (i : Nat) = y1 := Option.some.inj h4
  obtain ⟨p, hp, k2⟩ := al.get h5
  refine ⟨T, x, h1, h2, h3, ?_⟩
  rw [List.getD_eq_getElem?_getD, hp]
  exact k2
theorem one_of {p : Pr} {vs : List V} {B' : Hp} (h : AllP [p] vs B') : ∃ v, vs = [v] ∧ p.P v B' := by
  match vs, h with
  | [v], h => exact ⟨v, rfl, h.1⟩
theorem src_enT (h : EvPs ta σ B [TuP K ps]) : SrcE (iEnumT K ta) σ B ps.length (fun i => ps.getD i (IsV .non)) := fun H1 a R k => h H1 a _ fun vs B2 H2 g b => by
  obtain ⟨v, rfl, l, xs, rfl, hx, al⟩ := one_of b
  exact ⟨l, xs, rfl, ex_t g.c hx, k _ B2 H2 _ _ g (by rw [← al.len]; exact walk_enT) (fun H e => ex_t e hx) fun i H v H' _ e z => pair_of al z⟩
theorem ps_forE {wi : TI} {n : Nat} {P : Nat → Pr} {g : TG} {tbd : TS} (a : Ex B H) (h : SrcE wi σ B n P)
    (k : ∀ B1 H1, Gr B H B1 H1 → ∃ Pv : Nat → L2.St → Hp → Prop, Pv 0 σ H1 ∧ (∀ i σ' H', i ≤ n → Pv i σ' H' → Ex B1 H') ∧
      (∀ i v T σ' H', i < n → Pv i σ' H' → (P i).P v B1 → H' T = none → g (.ref T) σ' (upd H' T (.tup [.int (i : Nat), v])) fun σ2 H2 => tbd { D with nx := Pv (i + 1), ct := Pv (i + 1), bk := D.nx } σ2 H2) ∧ ∀ σ' H', Pv n σ' H' → D.nx σ' H') :
    tFor wi g tbd D σ H := h H a _ fun J B1 H1 G Y gr w hG hY => by
  obtain ⟨Pv, h0, hE, hs, hd⟩ := k B1 H1 gr
  refine for_it w Pv h0 (fun i σ' H' hi pv => hG H' (hE i σ' H' hi pv)) (fun i x σ' H' H2 hi pv y => ?_) hd
  obtain ⟨T, v, rfl, hT, rfl, px⟩ := hY i H' x H2 hi (hE i σ' H' (Nat.le_of_lt hi) pv) y
  exact hs i v T σ' H' hi pv px hT
end
end Nd
namespace Nd
set_option autoImplicit false
open PySem PySem.W L2 My Evl
/-! ### monomials, fractions, polynomials, chains -/
abbrev Mo := List (Dv × Int)
abbrev Fr := Int × Int
abbrev Po := List (Mo × Fr)
def pwD (x : Dv × Int) : PyData := .tuple [x.1.D, .int x.2]
def moD (m : Mo) : PyData := .tuple (m.map pwD)
def frD (f : Fr) : PyData := .tuple [.int f.1, .int f.2]
def pwP (K : PySem.W.Frag) (x : Dv × Int) : Pr := TuP K [DvP x.1, IsV (.int x.2)]
def moP (K : PySem.W.Frag) (m : Mo) : Pr := TuP K (m.map (pwP K))
def frP (K : PySem.W.Frag) (f : Fr) : Pr := TuP K [IsV (.int f.1), IsV (.int f.2)]
section
variable {K : PySem.W.Frag}
theorem to_dv (u : Dv) : To K (DvP u) u.D := fun _ _ h => dv_d h
theorem to_pw (x : Dv × Int) : To K (pwP K x) (pwD x) := to_tup (.cons (to_dv x.1) (.cons to_int .nil))
theorem to_mo (m : Mo) : To K (moP K m) (moD m) := to_tup (toAll_map m fun x => to_pw x)
theorem to_fr (f : Fr) : To K (frP K f) (frD f) := to_tup (.cons to_int (.cons to_int .nil))
end
/-! ### which are good -/
/-- each is less than what follows it, as Python compares -/
def Ups {α : Type} (f : α → PyData) (l : List α) : Prop := ∀ i (h : i + 1 < l.length), dataLt (f (l[i]'(Nat.lt_of_succ_lt h))) (f l[i + 1]) = true
structure MoOk (r : Rk) (m : Mo) : Prop where
  of : ∀ x ∈ m, x.1.Of r ∧ 0 < x.2
  up : Ups (fun x => x.1.D) m
structure FrOk (f : Fr) : Prop where
  bot : 0 < f.2
  low : Nat.gcd f.1.natAbs f.2.natAbs = 1
structure PoOk (r : Rk) (p : Po) : Prop where
  of : ∀ t ∈ p, MoOk r t.1 ∧ FrOk t.2 ∧ t.2.1 ≠ 0
  up : Ups (fun t => moD t.1) p
theorem alike_dv (u v : Dv) : alike u.D v.D = true := by simp [Dv.D, alike, alikeAll]
theorem alike_pw (x y : Dv × Int) : alike (pwD x) (pwD y) = true := by
  unfold pwD
  rw [alike, alikeAll, alikeAll, alikeAll, alike_dv]
  simp [alike]
theorem alike_map {α : Type} {f : α → PyData} (h : ∀ x y, alike (f x) (f y) = true) : ∀ l m : List α, alikeAll (l.map f) (m.map f) = true
  | [], _ => by rw [List.map_nil, alikeAll]
  | _ :: _, [] => by rw [List.map_nil, List.map_cons, alikeAll]
  | x :: l, y :: m => by rw [List.map_cons, List.map_cons, alikeAll, h x y, alike_map h l m, Bool.and_self]
theorem alike_mo (m n : Mo) : alike (moD m) (moD n) = true := by
  unfold moD
  rw [alike]
  exact alike_map alike_pw m n
theorem deep_dv (u : Dv) : u.D.depth = 1 := by simp [Dv.D, PyData.depth, PyData.depthAll]
section
variable {te ta tb : TE} {σ : L2.St} {B H : Hp} {ps : List Pr} {K : PySem.W.Frag}
theorem ev_gcd {i j : Int} (ha : Ev ta σ B (.int i)) (hb : Ev tb σ B (.int j)) : Ev (tCB rGcd (tCons ta (tCons tb tNil))) σ B (.int ((Nat.gcd i.natAbs j.natAbs : Nat) : Int)) := fun H1 e Q q =>
  ha H1 e _ fun H2 e2 => hb H2 (e.trans e2) _ fun H3 e3 => ⟨i, j, rfl, q H3 (e2.trans e3)⟩
theorem src_tu (h : EvP te σ B (TuP K ps)) : Src (iTup K te) σ B ps.length (fun i => ps.getD i (IsV .non)) := fun H1 a R k => h H1 a _ fun v B2 H2 g b => by
  obtain ⟨l, xs, rfl, hx, al⟩ := b
  refine ⟨l, rfl, ⟨xs, ex_t g.c hx⟩, k _ B2 H2 _ _ g (by rw [← al.len]; exact walk_tup) (fun H e => ex_t e hx) fun i H v H' _ e (z : H' = H ∧ _) => ⟨z.1, ?_⟩⟩
  have z2 : xs[i]? = some v := z.2
  obtain ⟨p, hp, k2⟩ := al.get z2
  show (ps.getD i (IsV .non)).P v B2
  rw [List.getD_eq_getElem?_getD, hp]
  exact k2
theorem getD_map {α : Type} {f : α → Pr} {l : List α} {i : Nat} (h : i < l.length) : (l.map f).getD i (IsV .non) = f l[i] := by
  rw [List.getD_eq_getElem?_getD, List.getElem?_map, List.getElem?_eq_getElem h]
  rfl
end
/-! ### promises of defs -/
end Nd
namespace Nd
set_option autoImplicit false
open PySem PySem.Spec PySem.W PySem.Calls PyProof.Rows L2 My Evl
theorem each_zip {R : Value → PyData → Prop} : ∀ {vs : List Value} {ks : List PyData} {xs : List V}, EachIs R vs ks → ks.length = xs.length → EachIs (fun v (p : V × PyData) => R v p.2) vs (xs.zip ks)
  | _, _, [], .nil, _ => .nil
  | _, _, [], .cons _ _, h => by simp at h
  | _, _, _ :: _, .nil, h => by simp at h
  | _, _, _ :: _, .cons a b, h => .cons a (each_zip b (by simpa using h))
section
variable {X : Cx} {pins : List (Addr × Obj)} {σ : L2.St} {H : Hp} {s : Shared} {A : Around} {E : Value → Shared → Prop}
end
end Nd
namespace Nd
set_option autoImplicit false
open PySem PySem.W L2 My Evl
/-! ### derivatives in order, as Python compares -/
def leD (u v : Dv) : Bool := !dataLt v.D u.D
def srtD (us : List Dv) : List Dv := us.mergeSort leD
def dvs (p : Po) : List Dv := p.flatMap fun t => t.1.map (·.1)
theorem byKey_dv {H : Hp} {xs : List V} {us : List Dv} (h : AllP (us.map DvP) xs H) : AllP ((srtD us).map DvP) (byKey xs (us.map Dv.D)) H := by
  have hl : xs.length = us.length := by
    have := h.len
    rw [List.length_map] at this
    exact this
  have e1 : xs.zip (us.map Dv.D) = (xs.zip us).map fun p => (p.1, p.2.D) := zip_pairs _ hl
  have e2 : ((xs.zip us).mergeSort fun p q => leD p.2 q.2).map (fun p => (p.1, p.2.D)) = (xs.zip (us.map Dv.D)).mergeSort (dataLe false (·.2)) := by
    rw [e1]
    refine List.map_mergeSort fun p _ q _ => ?_
    rw [dataLe_eq]
    rfl
  have e3 : ((xs.zip us).mergeSort fun p q => leD p.2 q.2).map (·.2) = srtD us := by
    have := List.map_mergeSort (r := fun p q : V × Dv => leD p.2 q.2) (s := leD) (f := fun p : V × Dv => p.2) (l := xs.zip us) (fun _ _ _ _ => rfl)
    rw [this, List.map_snd_zip (by omega)]
    rfl
  have e4 : byKey xs (us.map Dv.D) = ((xs.zip us).mergeSort fun p q => leD p.2 q.2).map (·.1) := by
    unfold byKey
    rw [← e2, List.map_map]
    rfl
  rw [e4, ← e3]
  exact AllP.of DvP fun p hp => AllP.zip DvP h p ((List.mergeSort_perm _ _).mem_iff.mp hp)
/-! ### derived of -/
section
variable {te ta tb : TE} {σ : L2.St} {B H : Hp} {ps : List Pr} {K : PySem.W.Frag} {t : TA}
end
end Nd
namespace Nd
set_option autoImplicit false
open PySem PySem.Spec PyProof.Rows L2 My Evl
section
variable {X : Cx} {pins : List (Addr × Obj)} {σ : L2.St} {H : Hp} {s : Shared}
theorem put_len {xs : List NV} {k : NestedKey} {a : Addr} {v : V} : (putN xs k a v).length ≤ xs.length + 1 := by
  unfold putN
  split
  · rw [List.length_map]
    exact Nat.le_succ _
  · rw [List.length_append]
    exact Nat.le_refl _
end
/-! ### derivatives as keys -/
theorem nk_dv (u : Dv) : nk u.D = .tup [.text u.n, .num u.i, .num u.j] := by simp [Dv.D, nk, nkAll]
theorem nk_inj {u v : Dv} (h : nk u.D = nk v.D) : u = v := by
  rw [nk_dv, nk_dv] at h
  injection h with h
  injection h with h1 h
  injection h with h2 h
  injection h with h3 _
  injection h1 with h1
  injection h2 with h2
  injection h3 with h3
  cases u
  cases v
  simp_all
structure KeyL (us : List Dv) (xs : List NV) (B : Hp) : Prop where
  keys : xs.map (·.1) = us.map fun u => nk u.D
  refs : AllP (us.map DvP) (xs.map fun x => V.ref x.2.1) B
theorem KeyL.has {us : List Dv} {xs : List NV} {B : Hp} (h : KeyL us xs B) (u : Dv) : hasN xs (nk u.D) = decide (u ∈ us) := by
  have e : hasN xs (nk u.D) = (xs.map (·.1)).any fun k => decide (k = nk u.D) := by
    unfold hasN
    rw [List.any_map]
    rfl
  rw [e, h.keys, List.any_map]
  by_cases hm : u ∈ us
  · rw [decide_eq_true hm, List.any_eq_true]
    exact ⟨u, hm, by simp⟩
  · rw [decide_eq_false hm, List.any_eq_false]
    intro v hv
    simp only [Function.comp, decide_eq_true_eq]
    intro z
    exact hm (nk_inj z ▸ hv)
theorem KeyL.put {us : List Dv} {xs : List NV} {B : Hp} {u : Dv} {a : Addr} {v : V} (h : KeyL us xs B) (ha : (DvP u).P (.ref a) B) : KeyL (addD us u) (putN xs (nk u.D) a v) B := by
  unfold addD putN
  rw [h.has u]
  by_cases hm : u ∈ us
  · rw [if_pos hm, decide_eq_true hm, if_pos rfl]
    refine ⟨?_, ?_⟩
    · rw [← h.keys, List.map_map]
      refine List.map_congr_left fun x _ => ?_
      show (if x.1 = nk u.D then (x.1, x.2.1, v) else x).1 = x.1
      split <;> rfl
    · have : ((xs.map fun x => if x.1 = nk u.D then (x.1, x.2.1, v) else x).map fun x => V.ref x.2.1) = xs.map fun x => V.ref x.2.1 := by
        rw [List.map_map]
        refine List.map_congr_left fun x _ => ?_
        show V.ref (if x.1 = nk u.D then (x.1, x.2.1, v) else x).2.1 = V.ref x.2.1
        split <;> rfl
      rw [this]
      exact h.refs
  · rw [if_neg hm, decide_eq_false hm, if_neg Bool.false_ne_true]
    refine ⟨?_, ?_⟩
    · rw [List.map_append, List.map_append, h.keys]
      rfl
    · rw [List.map_append, List.map_append]
      exact h.refs.app ⟨ha, trivial⟩
theorem deep_nk (u : Dv) : (nk u.D).depth ≤ 8 := by
  rw [nk_dv]
  simp [NestedKey.depth, NestedKey.depthAll]
theorem key_dv {K : PySem.W.Frag} {H : Hp} {u : Dv} {a : Addr} (h : (DvP u).P (.ref a) H) : KeyAt K H a (nk u.D) := ⟨u.D, dv_d h, by simp [Dv.D, keyish, keyishAll], rfl, deep_nk u⟩
theorem KeyL.ok {K : PySem.W.Frag} {us : List Dv} {xs : List NV} {B H : Hp} (h : KeyL us xs B) (e : Evl.Ex B H) : KeysOk K H xs := fun x hx => by
  obtain ⟨i, hi, rfl⟩ := List.mem_iff_getElem.mp hx
  have hl : xs.length = us.length := by simpa using congrArg List.length h.keys
  have h1 := h.refs.m e
  obtain ⟨p, hp, k⟩ := h1.get (i := i) (v := V.ref xs[i].2.1) (by rw [List.getElem?_map, List.getElem?_eq_getElem hi]; rfl)
  rw [List.getElem?_map, List.getElem?_eq_getElem (by omega : i < us.length)] at hp
  obtain rfl : DvP us[i] = p := Option.some.inj hp
  have hk : xs[i].1 = nk us[i].D := by
    have := congrArg (fun l => l[i]?) h.keys
    simp only [List.getElem?_map, List.getElem?_eq_getElem hi, List.getElem?_eq_getElem (by omega : i < us.length)] at this
    exact Option.some.inj this
  rw [hk]
  exact key_dv k
theorem KeyL.len {us : List Dv} {xs : List NV} {B : Hp} (h : KeyL us xs B) : xs.length = us.length := by simpa using congrArg List.length h.keys
theorem dps_dv {K : PySem.W.Frag} {H : Hp} : ∀ {us : List Dv} {vs : List V}, AllP (us.map DvP) vs H → DpAll K H vs (us.map Dv.D)
  | [], [], _ => .nil
  | _ :: _, _ :: _, h => .cons (dv_d h.1) (dps_dv h.2)
end Nd
namespace Nd
set_option autoImplicit false
open PySem PySem.W L2 My Evl
/-! ### a list under way: made at H0, filled by append and extend -/
structure AccAt (B H0 : Hp) (d : Addr) (ps : List Pr) (Bi H : Hp) : Prop where
  g : Gr B H0 Bi (wo d H)
  at_ : ∃ xs, H d = some (.lst xs) ∧ AllP ps xs Bi
section
variable {B H0 Bi B2 H H2 : Hp} {d : Addr} {ps qs : List Pr} {p : Pr} {K : PySem.W.Frag} {σ : L2.St} {D : Ends} {te : TE} {i : Nat}
theorem acc_new (e : Ex B H) (hd : H d = none) : AccAt B H d [] B (upd H d (.lst [])) := ⟨by rw [wo_new hd]; exact Gr.refl e, [], upd_same, trivial⟩
theorem AccAt.ex (A : AccAt B H0 d ps Bi H) : Ex Bi H := A.g.c.trans wo_ex
theorem AccAt.on (A : AccAt B H0 d ps Bi H) : H d ≠ none := by
  obtain ⟨xs, h, _⟩ := A.at_
  rw [h]
  exact fun z => nomatch z
theorem AccAt.step (A : AccAt B H0 d ps Bi H) (k : Gr Bi H B2 H2) : AccAt B H0 d ps B2 H2 := by
  obtain ⟨xs, h, al⟩ := A.at_
  exact ⟨A.g.side A.on k, xs, k.a _ _ h, al.m k.b⟩
theorem AccAt.fin (A : AccAt B H0 d ps Bi H) (h0 : H0 d = none) : ∃ B', Gr B H0 B' H ∧ (LsP ps).P (.ref d) B' := by
  obtain ⟨xs, hd, al⟩ := A.at_
  have hB : Bi d = none := wo_none A.g.c
  refine ⟨upd Bi d (.lst xs), ⟨A.g.a.trans wo_ex, A.g.b.trans (Ex.new hB), fun b o e => ?_, fun x hb hh => ?_, fun z b qs q => ?_⟩, d, xs, rfl, upd_same, al.m (Ex.new hB)⟩
  · by_cases n : b = d
    · subst n
      rw [upd_same] at e
      rw [hd]
      exact e
    · rw [upd_ne n] at e
      exact A.g.c.trans wo_ex _ _ e
  · have n : x ≠ d := fun z => hh (by rw [z]; exact h0)
    rw [upd_ne n]
    exact A.g.d x hb hh
  · by_cases n : b = d
    · subst n
      rw [upd_same] at q
      cases q
    · rw [upd_ne n] at q
      exact A.g.e z b qs q
/-- told.append(e) -/
theorem ps_app (hs : σ[i]? = some (some (.ref d))) (A : AccAt B H0 d ps Bi H) (he : EvP te σ Bi p) (hl : ps.length < 100000) (k : ∀ B2 H2, Ex Bi B2 → AccAt B H0 d (ps ++ [p]) B2 H2 → D.nx σ H2) :
    tDrop (tBM K "list" rAppend (tVar i) (tCons te tNil)) D σ H := by
  obtain ⟨xs, hd, al⟩ := A.at_
  refine ⟨.ref d, hs, ?_, ?_⟩
  · exact .inl ⟨rfl, xs, sq_of hd⟩
  refine he H A.ex _ fun v B2 H2 g pv => ?_
  have hd2 := g.a _ _ hd
  have := al.len
  refine ⟨d, xs, v, rfl, rfl, hd2, sz_lt (by omega), k B2 _ g.b ⟨?_, xs ++ [v], upd_same, (al.m g.b).app ⟨pv, trivial⟩⟩⟩
  rw [wo_upd]
  exact A.g.side A.on g
end
section
variable {B H0 Bi H : Hp} {d : Addr} {ps qs : List Pr} {K : PySem.W.Frag} {σ : L2.St} {D : Ends} {te : TE} {i : Nat}
end
/-- tuple(list) -/
theorem p_tupOf {te : TE} {σ : L2.St} {B : Hp} {ps : List Pr} {K : PySem.W.Frag} (h : EvP te σ B (LqP K ps)) :
    EvP (tCB (fun xs H Q => ∃ p ys, xs = [.ref p] ∧ ((SqL K H p ys ∧ ∀ l, H l = none → Q (.ref l) (upd H l (.tup ys))) ∨ (SqT K H p ys ∧ Q (.ref p) H))) (tCons te tNil)) σ B (TuP K ps) := fun H1 a Q k => h H1 a _ fun v B2 H2 g x => by
  obtain ⟨l, xs, rfl, hl, al⟩ := x
  exact ⟨l, xs, rfl, .inl ⟨ex_l g.c hl, fun m hm => k _ _ _ (g.trans (Gr.new (.tup xs) g.c hm)) ⟨m, xs, rfl, st_of upd_same, al.m (Ex.new (fresh_back g.c hm))⟩⟩⟩
section
variable {te : TE} {σ : L2.St} {B : Hp} {K : PySem.W.Frag} {x : Int} {xs : List Int}
end
end Nd
namespace Nd
set_option autoImplicit false
open PySem PySem.W L2 My Evl
/-! ### comprehensions of two fors -/
theorem flat_range {α : Type} (f : Nat → List α) (i : Nat) : (List.range (i + 1)).flatMap f = (List.range i).flatMap f ++ f i := by
  rw [List.range_succ, List.flatMap_append, List.flatMap_cons, List.flatMap_nil, List.append_nil]
theorem flat_le {α : Type} (f : Nat → List α) {i n : Nat} (h : i ≤ n) : ((List.range i).flatMap f).length ≤ ((List.range n).flatMap f).length := by
  obtain ⟨k, rfl⟩ := Nat.exists_eq_add_of_le h
  induction k with
  | zero => exact Nat.le_refl _
  | succ k ih =>
    rw [← Nat.add_assoc, flat_range, List.length_append]
    have := ih (by omega)
    omega
end Nd
namespace Nd
set_option autoImplicit false
open PySem PySem.W L2 My Evl LamX NdefX
/-- a def that makes a lambda: its code object is known -/
structure FunC (K : PySem.W.Frag) (x qual : Str) (st : Stmt) (c f : Addr) (fd : FuncData) : Prop where
  ex : ∃ (oc : Value) (od : Option Addr) (kV doc pm : Value) (an : Option Addr) (ct : Value) (osl : Array (Option Value)),
    fd = PySem.W.fnOf x qual (defArgs st) (defBody st) (defScope st) .none kV doc pm an (.ref c) ct ∧ K.lookup f = some ⟨oc, od, .func fd, osl⟩ ∧ PySem.W.codeIn K (.ref c) qual = true
theorem FunC.ok {P : Program} {w : World} {K : PySem.W.Frag} {mg : Str → Option Value} {base : Heap} {x qual : Str} {st : Stmt} {c f : Addr} {fd : FuncData} {N ps : List Str} {k : Nat} {sp : Sp} (F : FunC K x qual st c f fd) (S : FnScope N ps (defScope st)) (len : ∀ vs H Q E, sp vs H Q E → vs.length = ps.length)
    (hbody : ∀ (A : Around) (outer : List Env) (s : Shared) (H : Hp) (vs : List V) (Q : VK) (E : XK), Room k (A.deeper (PyProof.Rows.envOfC qual (defScope st) s.heap.objs.size f (.ref c))) → sp vs H Q E →
      ∃ t, PSs (cxOf CX0 P w K mg base N qual (defScope st) f (.ref c) A outer s H E).nox (defBody st) t ∧ t { nx := fun _ H' => Q .non H', rt := Q } (L2.start N vs) H) : FnOk P w K mg base CX0 (k + 1) f fd ps sp := by
  obtain ⟨oc, od, kV, doc, pm, an, ct, osl, e, lk, hcd⟩ := F.ex
  subst e
  exact fn_of lk hcd S len fun A outer s H vs Q E hr hsp => by
    obtain ⟨t, h1, h2⟩ := hbody A outer s H vs Q E hr hsp
    exact ⟨t, h1.nox, h2⟩
/-- the table at tb is for lambdas of this name -/
def TO (T : List (Addr × Str)) (tb : Addr) (q : Str) : Prop := (tb, q) ∈ T ∧ ∀ p ∈ T, p.1 = tb → p.2 = q
/-- what is known in B of a heap H with tables T -/
structure Kn (T : List (Addr × Str)) (B H : Hp) : Prop where
  e : Ex B H
  n : NoTab B
  t : Tabs T H
theorem Kn.next {T : List (Addr × Str)} {B H H2 : Hp} (k : Kn T B H) (e : ExtN H H2) (t : Tabs T H2) : Kn T B H2 := ⟨exN_ex k.e k.n e, k.n, t⟩
theorem Kn.gr {T : List (Addr × Str)} {B H B2 H2 : Hp} (k : Kn T B H) (g : Gr B H B2 H2) : Kn T B2 H2 := ⟨g.c, g.e k.n, k.t.ext g.a⟩
theorem Kn.ex {T : List (Addr × Str)} {B H H2 : Hp} (k : Kn T B H) (e : Ex H H2) : Kn T B H2 := ⟨k.e.trans e, k.n, k.t.ext e⟩
/-- all stays but the tables; what is known of B' leans on nothing else that stood in H -/
structure GT (T : List (Addr × Str)) (B H B' H' : Hp) : Prop where
  a : ExtN H H'
  b : Ex B B'
  c : Ex B' H'
  f : ∀ x o, B x = none → H x = some o → (∀ ps, o ≠ .tbl ps) → B' x = none
  e : NoTab B → NoTab B'
  t : Tabs T H → Tabs T H'
section
variable {T : List (Addr × Str)} {B H B1 H1 B2 H2 : Hp}
theorem GT.trans (g : GT T B H B1 H1) (k : GT T B1 H1 B2 H2) : GT T B H B2 H2 :=
  ⟨g.a.trans k.a, g.b.trans k.b, k.c, fun x o hb hh n => k.f x o (g.f x o hb hh n) (g.a x o hh n) n, fun z => k.e (g.e z), fun z => k.t (g.t z)⟩
theorem GT.gr (g : Gr B H B1 H1) : GT T B H B1 H1 := ⟨exN_of g.a, g.b, g.c, fun x o hb hh _ => g.d x hb (by rw [hh]; exact fun z => nomatch z), g.e, fun z => z.ext g.a⟩
theorem GT.xn (k : Kn T B H) (e : ExtN H H1) (t : Tabs T H1) : GT T B H B H1 := ⟨e, Ex.refl B, exN_ex k.e k.n e, fun _ _ h _ _ => h, id, fun _ => t⟩
theorem Kn.gt (k : Kn T B H) (g : GT T B H B1 H1) : Kn T B1 H1 := ⟨g.c, g.e k.n, g.t k.t⟩
end
/-- a display of a tuple, its object known as it stands -/
def tTupF (t : TA) : TE := fun σ H Q => t σ H fun xs H1 => xs.length ≤ sizeLine ∧ ∀ p o, H1 p = none → o.dict = none → Q (.ref p) (upd H1 p (.frz o (.tup xs)))
theorem pe_tupF {X : Cx} {es : List Expr} {t : TA} {pos : Pos} {kk : Nat} (h : PA X es t) : PE X (.Tuple es kk pos) (tTupF t) := by
  refine ⟨fun pins s σ H Q I hq => ?_⟩
  refine PySem.wpAny_Tuple_spliced (thn (h.run pos pins s σ H _ I hq) fun us s1 ⟨xs, H1, I1, r, z, q⟩ => ⟨by rw [← r.length]; exact z, ?_⟩)
  have hf : H1 s1.heap.objs.size = none := I1.hok.fresh (Nat.le_refl _)
  refine ⟨.ref s1.heap.objs.size, upd H1 s1.heap.objs.size (.frz { cls := .type "tuple", data := .seq us.toArray } (.tup xs)), I1.laid (t' := s1.toks) (fun b u e => Heap.get?_push_of_some _ e) (Nat.le_refl _) ?_, rfl, q _ _ hf rfl⟩
  exact ⟨Heap.get?_push_size _ rfl, z, us, r, PyProof.Rows.IsTup.new _ _⟩
theorem p_tupF {t : TA} {σ : L2.St} {B : Hp} {ns : List Str} (h : EvPs t σ B (ns.map fun n => IsV (.str n))) (hl : ns.length ≤ 100000) : EvP (tTupF t) σ B (NmP ns) := fun H1 a Q k =>
  h H1 a _ fun vs B2 H2 g b => by
    have hv : vs = ns.map V.str := by
      clear h k hl g
      induction ns generalizing vs with
      | nil =>
        match vs, b with
        | [], _ => rfl
      | cons n ns ih =>
        match vs, b with
        | v :: vs, b =>
          obtain rfl : v = .str n := b.1
          rw [ih vs b.2]
          rfl
    subst hv
    refine ⟨sz_of (by rw [List.length_map]; exact hl), fun r o hr ho => k _ _ _ (g.trans (Gr.new _ g.c hr)) ⟨r, o, rfl, upd_same, ho⟩⟩
end Nd
namespace Nd
set_option autoImplicit false
open PySem PySem.Spec PySem.W PySem.Calls PyProof.Rows L2 My Evl
section
variable {X : Cx}
end
end Nd
namespace Nd
set_option autoImplicit false
open PySem PySem.W L2 My Evl PyProof.Rows
/-! ### sorting by data -/
theorem dlt_tr {x y z : PyData} (h : dataLt x z = true) : dataLt x y = true ∨ dataLt y z = true := lex_negTrans _ _ _ h
theorem dlt_as {x y : PyData} (h : dataLt x y = true) : dataLt y x = false := by
  cases e : dataLt y x with
  | false => rfl
  | true =>
    have := lex_trans _ _ _ h e
    rw [lex_irrefl] at this
    cases this
/-! ### monomials as data -/
theorem eqv_dv0 (u v : Dv) : PyData.eqv u.D v.D = decide (u = v) := by
  obtain ⟨n, i, j⟩ := u
  obtain ⟨n', i', j'⟩ := v
  unfold Dv.D
  rw [PyData.eqv, Bool.eq_iff_iff]
  simp [PyData.eqvAll, PyData.eqv]
theorem eqv_pw (x y : Dv × Int) : PyData.eqv (pwD x) (pwD y) = decide (x = y) := by
  obtain ⟨u, i⟩ := x
  obtain ⟨v, j⟩ := y
  unfold pwD
  rw [PyData.eqv, PyData.eqvAll, PyData.eqvAll, PyData.eqvAll, eqv_dv0, PyData.eqv, Bool.eq_iff_iff]
  simp
theorem eqv_pws : ∀ m n : Mo, PyData.eqvAll (m.map pwD) (n.map pwD) = decide (m = n)
  | [], [] => by simp [PyData.eqvAll]
  | [], y :: n => by simp [PyData.eqvAll]
  | x :: m, [] => by simp [PyData.eqvAll]
  | x :: m, y :: n => by
    rw [List.map_cons, List.map_cons, PyData.eqvAll, eqv_pw, eqv_pws m n, Bool.eq_iff_iff]
    simp
theorem eqv_mo (m n : Mo) : PyData.eqv (moD m) (moD n) = decide (m = n) := by
  unfold moD
  rw [PyData.eqv]
  exact eqv_pws m n
theorem dlt_ne {x y : PyData} (h : alike x y = true) (e : PyData.eqv x y = false) : dataLt x y = true ∨ dataLt y x = true := by
  cases a : dataLt x y with
  | true => exact .inl rfl
  | false =>
    cases b : dataLt y x with
    | true => exact .inr rfl
    | false =>
      exfalso
      have t : keyToks x = keyToks y := lex_total _ _ a b
      have := (toks_eqv x y h).2 e [.inl 0] [.inl 1]
      rw [t, lex_pre, lex_irrefl] at this
      revert this
      decide
/-! ### monomials as keys -/
theorem nk_pw (x : Dv × Int) : nk (pwD x) = .tup [nk x.1.D, .num x.2] := by simp [pwD, nk, nkAll]
theorem nkAll_inj : ∀ {m n : Mo}, nkAll (m.map pwD) = nkAll (n.map pwD) → m = n
  | [], [], _ => rfl
  | [], _ :: _, h => by simp [nkAll] at h
  | _ :: _, [], h => by simp [nkAll] at h
  | x :: m, y :: n, h => by
    rw [List.map_cons, List.map_cons, nkAll, nkAll] at h
    injection h with h1 h2
    rw [nk_pw, nk_pw] at h1
    injection h1 with h1
    injection h1 with h3 h4
    injection h4 with h4 _
    injection h4 with h4
    obtain ⟨u, i⟩ := x
    obtain ⟨v, j⟩ := y
    have := nk_inj h3
    simp_all
    exact nkAll_inj h2
theorem nkm_inj {m n : Mo} (h : nk (moD m) = nk (moD n)) : m = n := by
  unfold moD at h
  rw [nk, nk] at h
  injection h with h
  exact nkAll_inj h
theorem keyish_mo (m : Mo) : keyish (moD m) = true := by
  unfold moD
  rw [keyish]
  induction m with
  | nil => rfl
  | cons x m ih =>
    rw [List.map_cons, keyishAll, ih]
    simp [pwD, keyish, keyishAll, Dv.D]
theorem deep_nkm (m : Mo) : (nk (moD m)).depth ≤ 8 := by
  have : ∀ m : Mo, NestedKey.depthAll (nkAll (m.map pwD)) ≤ 5 := by
    intro m
    induction m with
    | nil => simp [nkAll, NestedKey.depthAll]
    | cons x m ih =>
      rw [List.map_cons, nkAll, NestedKey.depthAll, nk_pw, nk_dv]
      simp [NestedKey.depth, NestedKey.depthAll]
      omega
  unfold moD
  rw [nk, NestedKey.depth]
  have := this m
  omega
/-- what a dict from monomials to fractions holds, as the dict has it -/
def KM (K : PySem.W.Frag) : Po → List NV → Hp → Prop
  | [], [], _ => True
  | z :: zs, x :: xs, B => (x.1 = nk (moD z.1) ∧ (moP K z.1).P (.ref x.2.1) B ∧ (frP K z.2).P x.2.2 B) ∧ KM K zs xs B
  | [], _ :: _, _ => False
  | _ :: _, [], _ => False
def putZ (zs : Po) (m : Mo) (f : Fr) : Po := if m ∈ zs.map (·.1) then zs.map fun z => if z.1 = m then (z.1, f) else z else zs ++ [(m, f)]
section
variable {K : PySem.W.Frag} {B B' H : Hp}
theorem KM.m (e : Ex B B') : ∀ {zs : Po} {xs : List NV}, KM K zs xs B → KM K zs xs B'
  | [], [], _ => trivial
  | _ :: _, _ :: _, h => ⟨⟨h.1.1, (moP K _).m e h.1.2.1, (frP K _).m e h.1.2.2⟩, KM.m e h.2⟩
theorem KM.len : ∀ {zs : Po} {xs : List NV}, KM K zs xs B → xs.length = zs.length
  | [], [], _ => rfl
  | _ :: _, _ :: _, h => congrArg Nat.succ (KM.len h.2)
theorem KM.at : ∀ {zs : Po} {xs : List NV} {i : Nat} {x : NV}, KM K zs xs B → xs[i]? = some x → ∃ z, zs[i]? = some z ∧ x.1 = nk (moD z.1) ∧ (moP K z.1).P (.ref x.2.1) B ∧ (frP K z.2).P x.2.2 B
  | [], [], i, x, _, h => by simp at h
  | z :: _, y :: _, 0, x, h, e => by
    obtain rfl := Option.some.inj e
    exact ⟨z, rfl, h.1⟩
  | _ :: _, _ :: _, i + 1, x, h, e => KM.at (i := i) h.2 e
theorem KM.has (m : Mo) : ∀ {zs : Po} {xs : List NV}, KM K zs xs B → hasN xs (nk (moD m)) = decide (m ∈ zs.map (·.1))
  | [], [], _ => by simp [hasN]
  | z :: zs, x :: xs, h => by
    have ih := KM.has m h.2
    unfold hasN at *
    rw [List.any_cons, ih, h.1.1, List.map_cons, Bool.eq_iff_iff]
    simp only [Bool.or_eq_true, decide_eq_true_eq, List.mem_cons]
    constructor
    · rintro (a | a)
      · exact .inl (nkm_inj a).symm
      · exact .inr a
    · rintro (a | a)
      · exact .inl (by rw [a])
      · exact .inr a
theorem KM.app : ∀ {zs ys : Po} {xs us : List NV}, KM K zs xs B → KM K ys us B → KM K (zs ++ ys) (xs ++ us) B
  | [], _, [], _, _, h => h
  | _ :: _, _, _ :: _, _, a, h => ⟨a.1, KM.app a.2 h⟩
theorem KM.set {m : Mo} {f : Fr} {v : V} (hf : (frP K f).P v B) : ∀ {zs : Po} {xs : List NV}, KM K zs xs B → KM K (zs.map fun z => if z.1 = m then (z.1, f) else z) (xs.map fun x => if x.1 = nk (moD m) then (x.1, x.2.1, v) else x) B
  | [], [], _ => trivial
  | z :: zs, x :: xs, h => by
    refine ⟨?_, KM.set hf h.2⟩
    dsimp only
    by_cases e : z.1 = m
    · rw [if_pos e, if_pos (by rw [h.1.1, e])]
      exact ⟨h.1.1, h.1.2.1, hf⟩
    · rw [if_neg e, if_neg (fun k => e (nkm_inj (h.1.1.symm.trans k)))]
      exact h.1
theorem KM.put {m : Mo} {f : Fr} {a : Addr} {v : V} {zs : Po} {xs : List NV} (h : KM K zs xs B) (ha : (moP K m).P (.ref a) B) (hf : (frP K f).P v B) : KM K (putZ zs m f) (putN xs (nk (moD m)) a v) B := by
  unfold putZ putN
  rw [h.has m]
  by_cases e : m ∈ zs.map (·.1)
  · rw [if_pos e, decide_eq_true e, if_pos rfl]
    exact h.set hf
  · rw [if_neg e, decide_eq_false e, if_neg Bool.false_ne_true]
    exact h.app ⟨⟨rfl, ha, hf⟩, trivial⟩
theorem key_mo {m : Mo} {a : Addr} (h : (moP K m).P (.ref a) H) : KeyAt K H a (nk (moD m)) := ⟨moD m, to_mo m _ _ h, keyish_mo m, rfl, deep_nkm m⟩
theorem KM.ok {zs : Po} {xs : List NV} (h : KM K zs xs B) (e : Ex B H) : KeysOk K H xs := fun x hx => by
  obtain ⟨i, hi⟩ := List.mem_iff_getElem?.mp hx
  obtain ⟨z, _, h1, h2, _⟩ := (h.m e).at hi
  rw [h1]
  exact key_mo h2
end
end Nd
namespace Nd
set_option autoImplicit false
open PySem PySem.W L2 My Evl
/-! ### two lists under way -/
structure A2 (B H0 : Hp) (a b : Addr) (ps qs : List Pr) (C H : Hp) : Prop where
  g : Gr B H0 C (wo a (wo b H))
  fa : ∃ xs, H a = some (.lst xs) ∧ AllP ps xs C
  fb : ∃ ys, H b = some (.lst ys) ∧ AllP qs ys C
  ne : a ≠ b
section
variable {B H0 C H C2 H2 : Hp} {a b r : Addr} {ps qs ps' qs' : List Pr} {p : Pr} {xs ys zs : List V} {y : V}
theorem A2.ex (A : A2 B H0 a b ps qs C H) : Ex C H := (A.g.c.trans wo_ex).trans wo_ex
theorem A2.new (e : Ex B H) (ha : H a = none) (hb : upd H a (.lst []) b = none) : A2 B H a b [] [] B (upd (upd H a (.lst [])) b (.lst [])) := by
  have ne : a ≠ b := ne_of_none upd_same hb
  refine ⟨?_, ⟨[], by rw [upd_ne ne]; exact upd_same, trivial⟩, ⟨[], upd_same, trivial⟩, ne⟩
  rw [wo_new hb, wo_new ha]
  exact Gr.refl e
theorem A2.na (A : A2 B H0 a b ps qs C H) : C a = none ∧ C b = none := ⟨wo_none A.g.c, wo_none (A.g.c.trans wo_ex)⟩
theorem A2.step (A : A2 B H0 a b ps qs C H) (k : Gr C H C2 H2) : A2 B H0 a b ps qs C2 H2 := by
  obtain ⟨xs, hx, ax⟩ := A.fa
  obtain ⟨ys, hy, ay⟩ := A.fb
  have k1 : Gr C (wo b H) C2 (wo b H2) := (Gr.refl (A.g.c.trans wo_ex)).side (by rw [hy]; exact fun z => nomatch z) k
  have k2 : Gr B H0 C2 (wo a (wo b H2)) := A.g.side (by rw [wo_ne A.ne, hx]; exact fun z => nomatch z) k1
  exact ⟨k2, ⟨xs, k.a _ _ hx, ax.m k.b⟩, ⟨ys, k.a _ _ hy, ay.m k.b⟩, A.ne⟩
theorem A2.wide (A : A2 B H0 a b ps qs C H) (e : Ex H H2) : A2 B H0 a b ps qs C H2 := A.step (Gr.wide A.ex e)
theorem A2.fin (A : A2 B H0 a b ps qs C H) (ha : H0 a = none) (hb : H0 b = none) : ∃ C', Gr B H0 C' H ∧ (LsP ps).P (.ref a) C' ∧ (LsP qs).P (.ref b) C' := by
  obtain ⟨xs, hx, ax⟩ := A.fa
  obtain ⟨ys, hy, ay⟩ := A.fb
  obtain ⟨na, nb⟩ := A.na
  have e1 : Ex C (upd C a (.lst xs)) := Ex.new na
  have nb2 : (upd C a (.lst xs)) b = none := by rw [upd_ne A.ne.symm]; exact nb
  have e2 : Ex (upd C a (.lst xs)) (upd (upd C a (.lst xs)) b (.lst ys)) := Ex.new nb2
  refine ⟨upd (upd C a (.lst xs)) b (.lst ys), ⟨(A.g.a.trans wo_ex).trans wo_ex, A.g.b.trans (e1.trans e2), fun x o e => ?_, fun x h1 h2 => ?_, fun z x qs' q => ?_⟩, ⟨a, xs, rfl, e2 _ _ upd_same, ax.m (e1.trans e2)⟩, ⟨b, ys, rfl, upd_same, ay.m (e1.trans e2)⟩⟩
  · by_cases n : x = b
    · subst n
      rw [upd_same] at e
      rw [hy]
      exact e
    · rw [upd_ne n] at e
      by_cases m : x = a
      · subst m
        rw [upd_same] at e
        rw [hx]
        exact e
      · rw [upd_ne m] at e
        exact A.ex x o e
  · rw [upd_ne (fun z => h2 (by rw [z]; exact hb)), upd_ne (fun z => h2 (by rw [z]; exact ha))]
    exact A.g.d x h1 h2
  · by_cases n : x = b
    · subst n
      rw [upd_same] at q
      cases q
    · rw [upd_ne n] at q
      by_cases m : x = a
      · subst m
        rw [upd_same] at q
        cases q
      · rw [upd_ne m] at q
        exact A.g.e z x qs' q
end
/-! ### x is True -/
section
variable {X : Cx}
end
end Nd
namespace L2
set_option autoImplicit false
open PySem PySem.Spec PyProof.Rows
/-! ### exceptions that were raised, as values -/
section
variable {X : Cx} {pins : List (Addr × Obj)} {σ : St} {H : Hp} {s : Shared}
/-- an exception that stands in the heap is known from now on -/
theorem Inv.track {a C : Addr} {d : Option Addr} {oe : Obj} {vs : Array Value} (I : Inv X pins σ H s) (ea : s.heap.get? a = some oe) (z : Zc (.ref C) d oe) (f : oe.data = .fields vs) (na : H a = none) (n0 : X.s_0.heap.get? a = none) (nl : a ≠ X.env.locals) (np : ∀ p ∈ X.pn ++ pins, p.1 ≠ a) : Inv X pins σ (upd H a (exw a C d)) s := by
  have far : ∀ b u, H b = some u → b ≠ a := fun b u e q => by
    rw [q, na] at e
    cases e
  have old : ∀ b o, X.s_0.heap.get? b = some o → b ≠ a := fun b o e q => by
    rw [q, n0] at e
    cases e
  have U : Un X.fs X.ex X.H_0 (upd H a (exw a C d)) X.s_0.heap s.heap :=
    { keep := I.base.keep
      slot := I.base.slot
      free := fun b o e n hx => by
        rw [upd_ne (old b o e)]
        exact I.base.free b o e n hx
      there := I.base.there
      tups := fun b xs e => by
        have t := I.base.tups b xs e
        rw [upd_ne (far b _ t)]
        exact t
      frzs := fun b o u e => by
        have t := I.base.frzs b o u e
        rw [upd_ne (far b _ t)]
        exact t
      tbls := fun b ps e => by
        obtain ⟨m, t⟩ := I.base.tbls b ps e
        exact ⟨m, by rw [upd_ne (far b _ t)]; exact t⟩ }
  refine ⟨I.ok, I.os, I.bare, U, I.loc, I.cell, by rw [upd_ne nl.symm]; exact I.free, fun x c e => ?_, fun p hp => ?_, I.hok.laidN (fun _ _ e => e) na (exw_ok ea z f), I.len⟩
  · rw [upd_ne]
    · exact I.freeC x c e
    · intro q
      obtain ⟨v, o, h1, h2⟩ := I.cell x c e
      rw [q, ea] at h1
      cases h1
      rw [f] at h2
      cases h2
  · obtain ⟨h1, h2, h3, h4, h5⟩ := I.pin p hp
    exact ⟨h1, by rw [upd_ne (np p hp)]; exact h2, h3, h4, h5⟩
end
/-- what the clause «except x as n: m = n» wishes of an exception of the body -/
def wKeep (K : PySem.W.Frag) (c : Value) (N i j : Nat) (Wout : WX) (D : Ends) : WX := fun cls d σ H =>
  ∃ b, PySem.W.exmOne K cls c = some b ∧ (b = true → ∃ C, cls = .ref C ∧ (σ.length = N → ∀ a, H a = none → D.nx (((σ.set i (some (.ref a))).set j (some (.ref a))).set i none) (upd H a (exw a C d)))) ∧ (b = false → Wout cls d σ H)
section
variable {X : Cx} {x n m : Str} {c : Value} {i j : Nat} {body : List Stmt} {np pos pos' q1 q2 q3 : Pos} {tb : WX → TS} {Wout : WX}
/-- try: .. except x as n: m = n -/
theorem ps_try_keep (hst : X.stack = X.env :: X.outer) (hfm : X.env.frame = some X.env.locals) (hex : X.ex = []) (hN : X.N.Nodup) (hi : X.N[i]? = some n) (hj : X.N[j]? = some m) (hln : X.env.kindOf n = some .local) (hlm : X.env.kindOf m = some .local) (hc : Names X x c) (tk : Takes X Wout)
    (hii : ∀ σ : St, σ.length = X.N.length → (σ.set i (some (V.ref 0)))[i]? = some (some (V.ref 0))) (hdn : (n == ("__debug__" : Str)) = false := by decide) (hcn : (n == ("__classdict__" : Str)) = false := by decide)
    (hsw : swapsWith (.Name n q2) (some (.Name m q1)) q3.line X.env = pure false)
    (hb : ∀ (W : WX) (pn : List (Addr × Obj)) (xe : Value → Shared → Prop), Takes (X.tr pn xe) W → PassesOwn (model X.prog X.w) X.A X.env xe → PSs (X.tr pn xe) body (tb W)) :
    PS X (.Try body [.ExceptHandler (some (.Name x np)) (some n) [.Assign [.Name m q1] (.Name n q2) q3] pos'] [] [] pos) (fun D σ H => tb (wKeep X.K c X.N.length i j Wout D) D σ H) := by
  refine ⟨fun pins s σ H D I h => ?_⟩
  have ok := I.ok
  have frames : X.A.frames = some (X.env :: X.outer) := ok.frames.trans (congrArg some hst)
  refine wpAny_Try_except (wpAny_mono ((hb (wKeep X.K c X.N.length i j Wout D) (X.pn ++ pins) _ (fun u s' air => ?_) PassesOwn.looking).run [] s σ H D (I.toTry _) h) (fun fl s1 done => ?_) fun _ _ z => z)
  · obtain ⟨a, B, sI, pinsI, σ', H', cls, d, rfl, JI, ground, up, sky, na, os, ag, b, asked, yes, no⟩ := air
    have J : Inv X pins σ' H' sI := JI.ofTry ok
    show wpAny (model X.prog X.w) X.A (noteFrame (.ref a) X.env) _ _ _
    refine Sky.land Zc.steady frames hfm (by rw [← hst]; exact sky) fun h3 fly up3 => ?_
    have J3 : Inv X pins σ' H' { s' with heap := h3 } := J.landed ground fly.1 (up.trans up3) os ag
    obtain ⟨o3, v3, e3, z3, d3⟩ := fly.there
    have noFrame : a ∉ frs (X.env :: X.outer) := fun mem => by
      obtain ⟨_, o', e', ns⟩ := fly.2.2.1.mem mem
      rw [e3] at e'
      cases e'
      exact ns _ d3
    have nL : a ≠ X.env.locals := fun z => noFrame (List.mem_filterMap.mpr ⟨X.env, List.mem_cons_self, hfm.trans (congrArg some z.symm)⟩)
    have nF : a ∉ X.fs := fun mem => by
      obtain ⟨e, he, q⟩ := List.mem_filterMap.mp mem
      exact noFrame (List.mem_filterMap.mpr ⟨e, List.mem_cons_of_mem _ he, q⟩)
    -- it is new
    have notI : sI.heap.get? a = none := by
      cases e : sI.heap.get? a with
      | none => rfl
      | some o =>
        have g := ground a o e (by rw [hst]; exact noFrame)
        rw [fly.2.1] at g
        cases g
    have not0 : X.s_0.heap.get? a = none := by
      cases e : X.s_0.heap.get? a with
      | none => rfl
      | some o =>
        obtain ⟨o', g⟩ := J.base.there a o e (by rw [hex]; exact List.not_mem_nil)
        rw [notI] at g
        cases g
    have notP : ∀ p ∈ X.pn ++ pins, p.1 ≠ a := fun p hp z => by
      have g := (J.pin p hp).1
      rw [z, notI] at g
      cases g
    have S3 := J3.suite e3 d3 na nL nF
    refine wpAny_handleBy_cons (codeAny_handlers_test ?_) (fun q => nomatch q)
    have looksT : PySem.W.Looks (model X.prog X.w) h3 (typeOf (.ref a)) cls := fun A Q E s k q => wpAny_typeOf_ref (k _ _ e3) (by rw [z3.1]; exact q)
    have looksM := PySem.W.exm_one (M := model X.prog X.w) J3.kIn looksT asked
    have nameOf : ∀ {Q : Value → Shared → Prop} {E : Value → Shared → Prop}, Q c { s' with heap := h3 } → wpAny (model X.prog X.w) (X.A.mark (some (.ref a))) (eval (.Name x np) X.env) Q E { s' with heap := h3 } := fun {Q E} q => by
      obtain ⟨hg, hdbg, hm | ⟨hm, hv, hnn⟩⟩ := hc
      · exact ld_glob (X := X.suite a ((a, o3) :: (X.pn ++ pins))) S3 hg hm q hdbg
      · exact ld_blt (X := X.suite a ((a, o3) :: (X.pn ++ pins))) S3 hg hm hv q hnn hdbg
    refine nameOf (looksM.here ?_)
    cases b with
    | true =>
      obtain ⟨C, rfl, yes2⟩ := yes rfl
      refine codeAny_handlers_suite_as (HandSPX.lands_againZ fly fun h4 fly4 up4 => ?_)
      have J4 : Inv X pins σ' H' { s' with heap := h4 } := J.landed ground fly4.1 ((up.trans up3).trans up4) os ag
      obtain ⟨o4, v4, e4, z4, d4⟩ := fly4.there
      have S4 := J4.suite e4 d4 na nL nF
      refine store_ok (X := X.suite a ((a, o4) :: (X.pn ++ pins))) (v := .ref a) S4 hN hi (.inl hln) rfl (fun s5 S5 => ?_) (.inr hln)
      let D5 : Ends := { nx := fun σ6 H6 => σ6 = (σ'.set i (some (.ref a))).set j (some (.ref a)) ∧ H6 = H', rt := fun _ _ => False }
      have suite : PSs (X.suite a ((a, o4) :: (X.pn ++ pins))) [.Assign [.Name m q1] (.Name n q2) q3] _ :=
        pss_one (ps_set (X := X.suite a ((a, o4) :: (X.pn ++ pins))) (i := j) hN hj (.inl hlm) (pe_var (X := X.suite a ((a, o4) :: (X.pn ++ pins))) (i := i) hi (.inl hln) hdn hcn) hsw (.inr hlm))
      have at_i : (σ'.set i (some (V.ref a)))[i]? = some (some (V.ref a)) := by
        have l := hii σ' J.len
        have lt : i < σ'.length := by
          by_cases q : i < σ'.length
          · exact q
          · rw [List.getElem?_eq_none (by rw [List.length_set]; omega)] at l
            cases l
        rw [List.getElem?_set_self lt]
      refine wpAny_mono (suite.run [] s5 _ H' D5 S5 ⟨.ref a, at_i, rfl, rfl⟩) (fun fl s6 done => ?_) fun _ _ z => False.elim z
      cases fl with
      | next =>
        obtain ⟨σ6, H6, S6, r1, r2⟩ := done
        subst r1 r2
        obtain ⟨p1, p2, _⟩ := S6.pin (a, o4) (List.mem_append_left _ List.mem_cons_self)
        have J6 := (S6.unsuite ok).track p1 z4 d4 p2 not0 nL notP
        exact gone_ok J6 hN hi hln fun s7 J7 => ⟨_, _, J7, yes2 J.len a na⟩
      | brk =>
        obtain ⟨_, _, _, z⟩ := done
        exact False.elim z
      | cont =>
        obtain ⟨_, _, _, z⟩ := done
        exact False.elim z
      | ret u =>
        obtain ⟨_, _, _, _, _, z⟩ := done
        exact False.elim z
    | false =>
      show wpAny _ X.A (handleBy (.ref a) X.env []) _ _ _
      refine wpAny_handleBy_nil ?_
      obtain ⟨_, _, _, oe, vs, T, oT, ts', he, hz, hd, hT, _⟩ := id fly
      unfold PySem.passOn
      refine wpAny_bind (wpAny_field he hd hT ?_)
      rw [if_neg (show ¬ ((Value.ref T == Value.none) = true) from by simp)]
      have last : wpAny (model X.prog X.w) X.A (setFlight (.ref a) X.env.frame) (fun _ s4 => wpAny (model X.prog X.w) X.A (throw (.ref a) : Sem Flow) (SP X pins D) X.xe s4) X.xe { s' with heap := h3 } := by
        rw [hfm]
        exact HandSPX.setFlight_upZ fly fun h4 held up4 => wpAny_throw (tk _ _ ⟨a, B, sI, pins, σ', H', cls, d, rfl, J, ground, (up.trans up3).trans up4, .inr (.inr (by rw [hst]; exact held)), na, os, ag, no rfl⟩)
      first
        | exact wpAny_bind (wpAny_pure (wpAny_bind last))
        | exact wpAny_bind last
  · cases fl with
    | next =>
      obtain ⟨σ', H', J', q⟩ := done
      exact wpAny_execs_nil ⟨σ', H', J'.ofTry ok, q⟩
    | brk =>
      obtain ⟨σ', H', J', q⟩ := done
      exact ⟨σ', H', J'.ofTry ok, q⟩
    | cont =>
      obtain ⟨σ', H', J', q⟩ := done
      exact ⟨σ', H', J'.ofTry ok, q⟩
    | ret u =>
      obtain ⟨v, σ', H', J', r, q⟩ := done
      exact ⟨v, σ', H', J'.ofTry ok, r, q⟩
end
end L2
namespace L2
set_option autoImplicit false
open PySem PySem.Spec PyProof.Rows
section
variable {X : Cx} {e : Expr} {te : TE}
/-- what gives a new own exception makes one that is raised -/
theorem pmk_val (hx : X.ex = []) (he : PE X e te) : PMk X e (fun σ H Q => te σ H fun x H1 => ∃ (a C : Addr) (d : Option Addr), x = .ref a ∧ H1 a = some (exo a C d) ∧ Fr0 X.H_0 a ∧ Raises X (.ref C) ∧ Q (.ref C) d (delH H1 a)) := by
  intro pins s σ H Q I h
  refine wpAny_mono (he.run pins s σ H _ I h) (fun u s1 done => ?_) fun _ _ z => z
  obtain ⟨v, H1, I1, r1, a, C, d, rfl, ha, h0, hr, q⟩ := done
  obtain rfl : u = Value.ref a := r1
  obtain ⟨t1, ho⟩ := exo_at I1.hok ha
  obtain ⟨G, gs, ga, J⟩ := I1.untrack (φ := fun h => ∃ t1 : Addr, h.get? a = some ({ cls := .ref C, dict := d, data := .fields #[.ref t1, .none, .none, .none, .bool false, .none] } : Obj)) ha h0 hx
  exact ⟨a, _, _, { s1 with heap := G }, delH H1 a, .ref C, d, rfl, J, gs, ga, ho, ⟨rfl, rfl⟩, rfl, rfl, delH_same, rfl, I1.bare, hr, q⟩
end
end L2
namespace Nd
set_option autoImplicit false
open PySem PySem.W L2 My Evl LamX
/-- how a def may end: what is known of what it tells, or the class and the fields of what it raises -/
inductive Out
  | ret (p : Pr)
  | exc (C : Addr) (fs : List (Str × Pr))
/-- of the dict of an exception with such fields -/
def ExcD (fs : List (Str × Pr)) (d : Option Addr) (B : Hp) : Prop := match fs with
  | [] => d = none
  | f :: r => ∃ (dx : Addr) (vs : List (Str × V)), d = some dx ∧ B dx = some (exd dx vs) ∧ vs.map Prod.fst = (f :: r).map Prod.fst ∧ AllP ((f :: r).map Prod.snd) (vs.map Prod.snd) B
theorem ExcD.m {fs : List (Str × Pr)} {d : Option Addr} {B B' : Hp} (e : Ex B B') (h : ExcD fs d B) : ExcD fs d B' := by
  match fs, h with
  | [], h => exact h
  | _ :: _, ⟨dx, vs, h1, h2, h3, h4⟩ => exact ⟨dx, vs, h1, e _ _ h2, h3, h4.m e⟩
def OutOk (o : Out) (B H : Hp) (Q : VK) (E : XK) : Prop := match o with
  | .ret p => ∀ v B' H', Gr B H B' H' → p.P v B' → Q v H'
  | .exc C fs => ∀ d B' H', Gr B H B' H' → ExcD fs d B' → E (.ref C) d H'
def OutT (T : List (Addr × Str)) (o : Out) (B H : Hp) (Q : VK) (E : XK) : Prop := match o with
  | .ret p => ∀ v B' H', GT T B H B' H' → p.P v B' → Q v H'
  | .exc C fs => ∀ d B' H', GT T B H B' H' → ExcD fs d B' → E (.ref C) d H'
/-- what a def promises that may raise | that may raise, and fills tables -/
def spO (R : List Pr → Out → Prop) : Sp := fun vs H Q E => ∃ B ps o, Ex B H ∧ AllP ps vs B ∧ R ps o ∧ OutOk o B H Q E
def spOT (T : List (Addr × Str)) (R : List Pr → Out → Prop) : Sp := fun vs H Q E => ∃ B ps o, Kn T B H ∧ AllP ps vs B ∧ R ps o ∧ OutT T o B H Q E
theorem spO_len {R : List Pr → Out → Prop} {n : Nat} (h : ∀ ps o, R ps o → ps.length = n) : ∀ vs H Q E, spO R vs H Q E → vs.length = n := fun vs H Q E ⟨B, ps, p, _, a, b, _⟩ => by rw [a.len]; exact h _ _ b
theorem spOT_len {T : List (Addr × Str)} {R : List Pr → Out → Prop} {n : Nat} (h : ∀ ps o, R ps o → ps.length = n) : ∀ vs H Q E, spOT T R vs H Q E → vs.length = n := fun vs H Q E ⟨B, ps, p, _, a, b, _⟩ => by rw [a.len]; exact h _ _ b
section
variable {T : List (Addr × Str)} {R : List Pr → Out → Prop} {t : TA} {σ : L2.St} {B H : Hp} {ps : List Pr} {o : Out} {Q : VK} {E : L2.St → XK} {D : Ends}
/-- such a call -/
theorem o_call (e : Ex B H) (h : EvPs t σ B ps) (hr : R ps o) (q : OutOk o B H Q (E σ)) : tCallS (spO R) E t σ H Q :=
  h H e _ fun vs B2 H2 g b => ⟨B2, ps, o, g.c, b, hr, by
    cases o with
    | ret p => exact fun v B3 H3 g3 hp => q v B3 H3 (g.trans g3) hp
    | exc C fs => exact fun d B3 H3 g3 hd => q d B3 H3 (g.trans g3) hd⟩
theorem o_callT (k : Kn T B H) (h : EvPs t σ B ps) (hr : R ps o) (q : OutT T o B H Q (E σ)) : tCallS (spOT T R) E t σ H Q :=
  h H k.e _ fun vs B2 H2 g b => ⟨B2, ps, o, k.gr g, b, hr, by
    cases o with
    | ret p => exact fun v B3 H3 g3 hp => q v B3 H3 ((GT.gr g).trans g3) hp
    | exc C fs => exact fun d B3 H3 g3 hd => q d B3 H3 ((GT.gr g).trans g3) hd⟩
theorem OutOk.to {o : Out} {B H B2 H2 : Hp} {Q : VK} {E : XK} (g : Gr B H B2 H2) (q : OutOk o B H Q E) : OutOk o B2 H2 Q E := by
  cases o with
  | ret p => exact fun v B3 H3 g3 hp => q v B3 H3 (g.trans g3) hp
  | exc C fs => exact fun d B3 H3 g3 hd => q d B3 H3 (g.trans g3) hd
theorem OutT.to {o : Out} {B H B2 H2 : Hp} {Q : VK} {E : XK} (g : GT T B H B2 H2) (q : OutT T o B H Q E) : OutT T o B2 H2 Q E := by
  cases o with
  | ret p => exact fun v B3 H3 g3 hp => q v B3 H3 (g.trans g3) hp
  | exc C fs => exact fun d B3 H3 g3 hd => q d B3 H3 (g.trans g3) hd
/-- of no tables -/
theorem OutT.ok {o : Out} {B H : Hp} {Q : VK} {E : XK} (q : OutT T o B H Q E) : OutOk o B H Q E := by
  cases o with
  | ret p => exact fun v B3 H3 g3 hp => q v B3 H3 (GT.gr g3) hp
  | exc C fs => exact fun d B3 H3 g3 hd => q d B3 H3 (GT.gr g3) hd
end
/-- a class whose instances are raised -/
structure RC (K : PySem.W.Frag) (C : Addr) : Prop where
  b : PySem.W.subIn K (.ref C) (.type "BaseException") = some true
  t : PySem.W.typeIn K (.ref C) = some (.type "type")
theorem RC.r {X : Cx} {C : Addr} (h : RC X.K C) : Raises X (.ref C) := raises_own h.b h.t
section
variable {X : Cx} {t tk : TA} {σ : L2.St} {B H H0 : Hp} {p : Pr} {C : Addr} {f : Str} {n m : Nat} {gV : List V → List V → List V} {Q : XK}
/-- raise C(..), C with an __init__ of one field -/
theorem x_raise1 {ps zs : List Pr} (rc : Raises X (.ref C)) (e : Ex B H) (h0 : Ex H0 H) (h : EvPs t σ B ps) (hk : EvPs tk σ B zs) (hn : ps.length = n) (hm : zs.length = m) (hg : ∀ (a : Addr) (vs ws : List V) (B1 : Hp), AllP ps vs B1 → AllP zs ws B1 → ∃ v, gV (.ref a :: vs) ws = [.ref a, v] ∧ p.P v B1)
    (q : ∀ d B' H', Gr B H B' H' → ExcD [(f, p)] d B' → Q (.ref C) d H') :
    tXNewN C n m (spI1 C f) gV t tk σ H fun x H1 => ∃ (a C' : Addr) (d : Option Addr), x = .ref a ∧ H1 a = some (exo a C' d) ∧ Fr0 H0 a ∧ Raises X (.ref C') ∧ Q (.ref C') d (delH H1 a) :=
  h H e _ fun vs B2 H2 g2 b2 => hk H2 (g2.b.trans g2.c) _ fun ws B3 H3 g3 b3 => ⟨by rw [b2.len, hn], by rw [b3.len, hm], fun a ha => by
    have gj := g2.join g3
    obtain ⟨v, ev, pv⟩ := hg a vs ws (both B2 B3) (b2.m both_l) (b3.m (both_r (g2.c.trans g3.a) g3.c))
    refine ⟨a, v, ev, upd_same, fun dx hd ne => ⟨rfl, a, C, some dx, rfl, upd_same, fr0_none ?_, rc, ?_⟩⟩
    · cases z : H0 a with
      | none => rfl
      | some o =>
        have := gj.a _ _ (h0 _ _ z)
        rw [ha] at this
        cases this
    · have hdx : H3 dx = none := by
        rw [← upd_ne (H := H3) (o := exo a C none) ne]
        exact hd
      have same : delH (upd (upd (upd H3 a (exo a C none)) dx (exd dx [(f, v)])) a (exo a C (some dx))) a = upd H3 dx (exd dx [(f, v)]) := funext fun b => by
        by_cases n1 : b = a
        · subst n1
          rw [delH_same, upd_ne ne.symm, ha]
        · rw [delH_ne n1, upd_ne n1]
          by_cases n2 : b = dx
          · subst n2
            rw [upd_same, upd_same]
          · rw [upd_ne n2, upd_ne n1, upd_ne n2]
      rw [same]
      have gn := Gr.new (.ext fun h => ∃ mA, h.Ns1 dx mA ∧ ∀ g, RelO ([(f, v)].lookup g) (mA g)) gj.c hdx
      exact q (some dx) _ _ (gj.trans gn) ⟨dx, [(f, v)], rfl, upd_same, rfl, p.m gn.b pv, trivial⟩⟩
end
end Nd
namespace Nd
open PySem PySem.W L2 My Evl LamX
set_option autoImplicit false
def testsOf (cx : Nat → Addr) : List Value := [.ref (cx 0), .ref (cx 1), .ref (cx 2), .ref (cx 3), .ref (cx 4), .ref (cx 5), .ref (cx 6), .ref (cx 12), .ref (cx 13), .ref (cx 14), .ref (cx 7), .ref (cx 8), .ref (cx 9), .ref (cx 15), .ref (cx 10), .ref (cx 11), .ref (cx 16), .type "ValueError", .ref (cx 17), .type "LookupError", .ref (cx 18), .type "RuntimeError"]
def nmOf : List Str := ["row", "polynomial", "ranking", "chain", "data", "jet", "paper", "twice", "place", "great", "unknown", "equation", "case", "nothing", "contradicted", "knotted", "ours", "value", "miss", "lookup", "end", "runtime"]
def kb : Nat → List Bool
  | 0 => [true, false, false, false, false, false, false, false, false, false, false, false, false, false, false, false, true, true, false, false, false, false]
  | 1 => [false, true, false, false, false, false, false, false, false, false, false, false, false, false, false, false, true, true, false, false, false, false]
  | 2 => [false, false, true, false, false, false, false, false, false, false, false, false, false, false, false, false, true, true, false, false, false, false]
  | 3 => [false, false, false, true, false, false, false, false, false, false, false, false, false, false, false, false, true, true, false, false, false, false]
  | 4 => [false, false, false, false, true, false, false, false, false, false, false, false, false, false, false, false, true, true, false, false, false, false]
  | 5 => [false, false, false, false, false, true, false, false, false, false, false, false, false, false, false, false, true, true, false, false, false, false]
  | 6 => [false, false, false, false, false, false, true, false, false, false, false, false, false, false, false, false, true, true, false, false, false, false]
  | 7 => [false, false, false, false, false, false, false, false, false, false, true, false, false, false, false, false, false, false, true, true, false, false]
  | 8 => [false, false, false, false, false, false, false, false, false, false, false, true, false, false, false, false, false, false, true, true, false, false]
  | 9 => [false, false, false, false, false, false, false, false, false, false, false, false, true, false, false, false, false, false, true, true, false, false]
  | 10 => [false, false, false, false, false, false, false, false, false, false, false, false, false, false, true, false, false, false, false, false, true, true]
  | 11 => [false, false, false, false, false, false, false, false, false, false, false, false, false, false, false, true, false, false, false, false, true, true]
  | 12 => [false, false, false, false, false, false, false, true, false, false, false, false, false, false, false, false, true, true, false, false, false, false]
  | 13 => [false, false, false, false, false, false, false, false, true, false, false, false, false, false, false, false, true, true, false, false, false, false]
  | 14 => [false, false, false, false, false, false, false, false, false, true, false, false, false, false, false, false, true, true, false, false, false, false]
  | 15 => [false, false, false, false, false, false, false, false, false, false, false, false, false, true, false, false, false, false, true, true, false, false]
  | _ => []
def bmI : Nat → List Value
  | 0 => [.type "ValueError", .type "Exception", .type "BaseException", .type "object"]
  | 1 => [.type "ValueError", .type "Exception", .type "BaseException", .type "object"]
  | 2 => [.type "ValueError", .type "Exception", .type "BaseException", .type "object"]
  | 3 => [.type "ValueError", .type "Exception", .type "BaseException", .type "object"]
  | 4 => [.type "ValueError", .type "Exception", .type "BaseException", .type "object"]
  | 5 => [.type "ValueError", .type "Exception", .type "BaseException", .type "object"]
  | 6 => [.type "ValueError", .type "Exception", .type "BaseException", .type "object"]
  | 7 => [.type "LookupError", .type "Exception", .type "BaseException", .type "object"]
  | 8 => [.type "LookupError", .type "Exception", .type "BaseException", .type "object"]
  | 9 => [.type "LookupError", .type "Exception", .type "BaseException", .type "object"]
  | 10 => [.type "RuntimeError", .type "Exception", .type "BaseException", .type "object"]
  | 11 => [.type "RuntimeError", .type "Exception", .type "BaseException", .type "object"]
  | 12 => [.type "ValueError", .type "Exception", .type "BaseException", .type "object"]
  | 13 => [.type "ValueError", .type "Exception", .type "BaseException", .type "object"]
  | 14 => [.type "ValueError", .type "Exception", .type "BaseException", .type "object"]
  | 15 => [.type "LookupError", .type "Exception", .type "BaseException", .type "object"]
  | _ => []
def nwI : Nat → String
  | 0 => "ValueError.__new__"
  | 1 => "ValueError.__new__"
  | 2 => "ValueError.__new__"
  | 3 => "ValueError.__new__"
  | 4 => "ValueError.__new__"
  | 5 => "ValueError.__new__"
  | 6 => "ValueError.__new__"
  | 7 => "LookupError.__new__"
  | 8 => "LookupError.__new__"
  | 9 => "LookupError.__new__"
  | 10 => "RuntimeError.__new__"
  | 11 => "RuntimeError.__new__"
  | 12 => "ValueError.__new__"
  | 13 => "ValueError.__new__"
  | 14 => "ValueError.__new__"
  | 15 => "LookupError.__new__"
  | _ => ""
/-- the module's classes: where they stand, what is known of them -/
structure XT (K : PySem.W.Frag) (mg : Str → Option Value) (cx : Nat → Addr) : Prop where
  xc : ∀ i, i < 16 → XC K (cx i) (bmI i) (nwI i)
  qc : ∀ i, i < 16 → 12 ≤ i → PySem.W.excIn K (cx i) (bmI i) (nwI i) = true
  f_0_row : PySem.W.findIn K (.ref (cx 0)) "row" = some none
  f_0_word : PySem.W.findIn K (.ref (cx 0)) "word" = some none
  f_1_number : PySem.W.findIn K (.ref (cx 1)) "number" = some none
  f_2_place : PySem.W.findIn K (.ref (cx 2)) "place" = some none
  f_3_place : PySem.W.findIn K (.ref (cx 3)) "place" = some none
  f_4_place : PySem.W.findIn K (.ref (cx 4)) "place" = some none
  f_5_place : PySem.W.findIn K (.ref (cx 5)) "place" = some none
  f_6_place : PySem.W.findIn K (.ref (cx 6)) "place" = some none
  f_7_name : PySem.W.findIn K (.ref (cx 7)) "name" = some none
  f_8_number : PySem.W.findIn K (.ref (cx 8)) "number" = some none
  f_9_number : PySem.W.findIn K (.ref (cx 9)) "number" = some none
  f_10_number : PySem.W.findIn K (.ref (cx 10)) "number" = some none
  f_11_number : PySem.W.findIn K (.ref (cx 11)) "number" = some none
  kt : ∀ i, i < 16 → (testsOf cx).map (PySem.W.kitOne K (.ref (cx i))) = (kb i).map some
  g_BadRow : mg "BadRow" = some (.ref (cx 0))
  g_BadPolynomial : mg "BadPolynomial" = some (.ref (cx 1))
  g_BadRanking : mg "BadRanking" = some (.ref (cx 2))
  g_BadChain : mg "BadChain" = some (.ref (cx 3))
  g_BadData : mg "BadData" = some (.ref (cx 4))
  g_BadJet : mg "BadJet" = some (.ref (cx 5))
  g_BadPaper : mg "BadPaper" = some (.ref (cx 6))
  g_NoUnknown : mg "NoUnknown" = some (.ref (cx 7))
  g_NoEquation : mg "NoEquation" = some (.ref (cx 8))
  g_NoCase : mg "NoCase" = some (.ref (cx 9))
  g_Contradicted : mg "Contradicted" = some (.ref (cx 10))
  g_Knotted : mg "Knotted" = some (.ref (cx 11))
  g_Twice : mg "Twice" = some (.ref (cx 12))
  g_OutOfPlace : mg "OutOfPlace" = some (.ref (cx 13))
  g_TooGreat : mg "TooGreat" = some (.ref (cx 14))
  g_Nothing : mg "Nothing" = some (.ref (cx 15))
  g_ChainError : mg "ChainError" = some (.ref (cx 16))
  g_MissError : mg "MissError" = some (.ref (cx 17))
  g_CaseError : mg "CaseError" = some (.ref (cx 18))
  n_isinstance : mg "isinstance" = none
  n_ValueError : mg "ValueError" = none
  n_LookupError : mg "LookupError" = none
  n_RuntimeError : mg "RuntimeError" = none
theorem kb_len {i : Nat} (hi : i < 16) : (kb i).length = 22 := (by decide : ∀ i, i < 16 → (kb i).length = 22) i hi
theorem XT.k {K : PySem.W.Frag} {mg : Str → Option Value} {cx : Nat → Addr} (T : XT K mg cx) {i : Nat} (hi : i < 16) (j : Nat) (hj : j < 22) : PySem.W.kitOne K (.ref (cx i)) ((testsOf cx).getD j .none) = some ((kb i).getD j false) := by
  have h := congrArg (fun l => l[j]?) (T.kt i hi)
  have l1 : j < (testsOf cx).length := hj
  have l2 : j < (kb i).length := by rw [kb_len hi]; exact hj
  simp only [List.getElem?_map, List.getElem?_eq_getElem l1, List.getElem?_eq_getElem l2, Option.map_some] at h
  rw [List.getD_eq_getElem?_getD, List.getD_eq_getElem?_getD, List.getElem?_eq_getElem l1, List.getElem?_eq_getElem l2]
  exact Option.some.inj h
section
variable {P : Program} {w : World} {K : PySem.W.Frag} {mg : Str → Option Value} {base : Heap}
end
/-- what is known of an exception with such fields -/
def excP (C : Addr) (fs : List (Str × Pr)) : Pr := match fs with
  | [] => X0 C
  | f :: r => XF C (f :: r)
/-- a caught exception that is kept: from B within H -/
theorem exc_grow {B H : Hp} {a C : Addr} {d : Option Addr} {fs : List (Str × Pr)} (e : Ex B H) (na : H a = none) (hd : ExcD fs d B) : ∃ B', Gr B H B' (upd H a (exw a C d)) ∧ (excP C fs).P (.ref a) B' := by
  have g : Gr B H (upd B a (exw a C d)) (upd H a (exw a C d)) := Gr.new (exw a C d) e na
  refine ⟨_, g, ?_⟩
  cases fs with
  | nil =>
    obtain rfl : d = none := hd
    exact ⟨a, rfl, .inr upd_same⟩
  | cons f r =>
    obtain ⟨dx, vs, rfl, h2, h3, h4⟩ := hd
    exact ⟨a, dx, vs, rfl, .inr upd_same, g.b _ _ h2, h3, h4.m g.b⟩
theorem five {σ : L2.St} (h : σ.length = 5) : ∃ a b c d e, σ = [a, b, c, d, e] := by
  match σ, h with
  | [a, b, c, d, e], _ => exact ⟨a, b, c, d, e, rfl⟩
end Nd
namespace Nd
set_option autoImplicit false
open PySem PySem.W L2 My Evl LamX
/-! ### which data are good, as the program asks -/
def it (k : Nat) : PyData → PyData
  | .tuple xs => xs.getD k .none
  | _ => .none
def tupN (n : Nat) : PyData → Bool
  | .tuple xs => xs.length == n
  | _ => false
def isTu : PyData → Bool
  | .tuple _ => true
  | _ => false
def intOf : PyData → Int
  | .int i => i
  | _ => 0
def wholeB : PyData → Bool
  | .int _ => true
  | _ => false
def nameB : PyData → Bool
  | .str x => isNmB x
  | _ => false
def dvB (d : PyData) : Bool := tupN 3 d && (nameB (it 0 d) && (wholeB (it 1 d) && (wholeB (it 2 d) && (decide (0 ≤ intOf (it 1 d)) && decide (0 ≤ intOf (it 2 d))))))
def frB (d : PyData) : Bool := tupN 2 d && (wholeB (it 0 d) && (wholeB (it 1 d) && (decide (0 < intOf (it 1 d)) && decide (Nat.gcd (intOf (it 0 d)).natAbs (intOf (it 1 d)).natAbs = 1))))
theorem tupN_ex {n : Nat} {d : PyData} (h : tupN n d = true) : ∃ xs, d = .tuple xs ∧ xs.length = n := by
  cases d <;> simp only [tupN] at h <;> try exact absurd h (by decide)
  exact ⟨_, rfl, by simpa using h⟩
theorem tpl2 {d : PyData} (h : tupN 2 d = true) : d = .tuple [it 0 d, it 1 d] := by
  obtain ⟨xs, rfl, hl⟩ := tupN_ex h
  match xs, hl with
  | [a, b], _ => rfl
theorem tpl3 {d : PyData} (h : tupN 3 d = true) : d = .tuple [it 0 d, it 1 d, it 2 d] := by
  obtain ⟨xs, rfl, hl⟩ := tupN_ex h
  match xs, hl with
  | [a, b, c], _ => rfl
theorem wholeB_ex {d : PyData} (h : wholeB d = true) : d = .int (intOf d) := by
  cases d <;> simp only [wholeB] at h <;> try exact absurd h (by decide)
  rfl
theorem nameB_ex {d : PyData} (h : nameB d = true) : ∃ x, d = .str x ∧ IsNm x := by
  cases d <;> simp only [nameB] at h <;> try exact absurd h (by decide)
  exact ⟨_, rfl, h⟩
theorem dvB_ex {d : PyData} (h : dvB d = true) : ∃ u : Dv, d = u.D ∧ IsNm u.n ∧ 0 ≤ u.i ∧ 0 ≤ u.j := by
  unfold dvB at h
  simp only [Bool.and_eq_true, decide_eq_true_eq] at h
  obtain ⟨h0, h1, h2, h3, h4, h5⟩ := h
  obtain ⟨x, hx, hn⟩ := nameB_ex h1
  exact ⟨⟨x, intOf (it 1 d), intOf (it 2 d)⟩, by rw [tpl3 h0, hx, wholeB_ex h2, wholeB_ex h3]; rfl, hn, h4, h5⟩
theorem dvB_of {u : Dv} (hn : IsNm u.n) (hi : 0 ≤ u.i) (hj : 0 ≤ u.j) : dvB u.D = true := by
  show (true && (isNmB u.n && (true && (true && (decide (0 ≤ u.i) && decide (0 ≤ u.j)))))) = true
  rw [show isNmB u.n = true from hn]
  simp [hi, hj]
theorem frB_of {f : Fr} (h : FrOk f) : frB (frD f) = true := by
  show (true && (true && (true && (decide (0 < f.2) && decide (Nat.gcd f.1.natAbs f.2.natAbs = 1))))) = true
  simp [h.bot, h.low]
theorem of_B {r : Rk} {u : Dv} (h : r.Ok) (k : u.Of r) : dvB u.D = true := dvB_of (h.nm _ k.n) k.i k.j
mutual
/-- no text in it is long -/
def smB : PyData → Bool
  | .str x => decide (x.length ≤ 100000)
  | .tuple xs => smAll xs
  | .list xs => smAll xs
  | _ => true
def smAll : List PyData → Bool
  | [] => true
  | x :: r => smB x && smAll r
end
theorem smAll_mem : ∀ {xs : List PyData}, smAll xs = true → ∀ x ∈ xs, smB x = true
  | [], _, x, hx => absurd hx List.not_mem_nil
  | y :: r, h, x, hx => by
    unfold smAll at h
    rw [Bool.and_eq_true] at h
    rcases List.mem_cons.mp hx with rfl | hx
    · exact h.1
    · exact smAll_mem h.2 x hx
theorem smAll_of : ∀ {xs : List PyData}, (∀ x ∈ xs, smB x = true) → smAll xs = true
  | [], _ => by rw [smAll]
  | y :: r, h => by
    rw [smAll, h y List.mem_cons_self, smAll_of fun x hx => h x (List.mem_cons_of_mem _ hx)]
    rfl
theorem smd_tu {xs : List PyData} (h : smB (.tuple xs) = true) : ∀ x ∈ xs, smB x = true := by
  unfold smB at h
  exact smAll_mem h
theorem smd_non : smB .none = true := by rw [smB] <;> (intro _ z; cases z)
theorem smd_int {i : Int} : smB (.int i) = true := by rw [smB] <;> (intro _ z; cases z)
theorem smd_str {x : Str} (h : x.length ≤ 100000) : smB (.str x) = true := by rw [smB]; exact decide_eq_true h
theorem smd_it {d : PyData} (h : smB d = true) (k : Nat) : smB (it k d) = true := by
  cases d with
  | tuple xs =>
    show smB (xs.getD k .none) = true
    rw [List.getD_eq_getElem?_getD]
    cases e : xs[k]? with
    | none => exact smd_non
    | some x => exact smd_tu h x (List.mem_of_getElem? e)
  | _ => exact smd_non
theorem smd_of {xs : List PyData} (h : ∀ x ∈ xs, smB x = true) : smB (.tuple xs) = true := by
  rw [smB]
  exact smAll_of h
theorem smd_dv {u : Dv} (h : u.n.length ≤ 100000) : smB u.D = true := smd_of fun x hx => by
  rcases List.mem_cons.mp hx with rfl | hx
  · exact smd_str h
  · rcases List.mem_cons.mp hx with rfl | hx
    · exact smd_int
    · obtain rfl := List.mem_singleton.mp hx
      exact smd_int
/-- whether a good derivative is of a ranking -/
def Rk.stB (r : Rk) (u : Dv) : Bool := decide (u.n ∈ r.ns) && (decide (u.j = 0) || decide ((Str.ofString "y") ∈ r.axs))
def dvOf (d : PyData) : Dv := match d with
  | .tuple [.str n, .int i, .int j] => ⟨n, i, j⟩
  | _ => ⟨Str.empty, 0, 0⟩
theorem dvOf_D (u : Dv) : dvOf u.D = u := rfl
def fitsB (r : Rk) (d : PyData) : Bool := dvB d && Rk.stB r (dvOf d)
theorem low_let {c : Nat} : decide (c ∈ (Str.ofString "abcdefghijklmnopqrstuvwxyz").cps.toList) = (decide (97 ≤ c) && decide (c ≤ 122)) := by
  have e : (Str.ofString "abcdefghijklmnopqrstuvwxyz").cps.toList = (List.range 26).map (· + 97) := by decide +kernel
  rw [Bool.eq_iff_iff, decide_eq_true_iff, Bool.and_eq_true, decide_eq_true_iff, decide_eq_true_iff]
  constructor
  · intro h
    rw [e] at h
    obtain ⟨k, hk, rfl⟩ := List.mem_map.mp h
    have := List.mem_range.mp hk
    omega
  · exact fun h => let_low h.1 h.2
theorem all_cps (x : Str) (f : Nat → Bool) : (((List.range x.cps.size).map fun i => f (x.cps.getD i 0)).all id) = x.cps.toList.all f := by
  have : ((List.range x.cps.size).map fun i => f (x.cps.getD i 0)) = x.cps.toList.map f := by
    apply List.ext_getElem?
    intro i
    rw [List.getElem?_map, List.getElem?_map]
    by_cases h : i < x.cps.size
    · rw [List.getElem?_range h, Array.getElem?_toList, Array.getElem?_eq_getElem h]
      simp [Array.getD_eq_getD_getElem?, Array.getElem?_eq_getElem h]
    · rw [List.getElem?_eq_none (by rw [List.length_range]; omega), Array.getElem?_toList, Array.getElem?_eq_none (by omega)]
      rfl
  rw [this, List.all_map]
  rfl
/-- of what may be anything: what a test of it tells -/
def RB (K : PySem.W.Frag) (f : PyData → Bool) : List Pr → Pr → Prop := fun ps p => ∃ (q : Pr) (d : PyData), To K q d ∧ smB d = true ∧ ps = [q] ∧ p = IsV (.bl (f d))
def RB2 (K : PySem.W.Frag) (f : Rk → PyData → Bool) : List Pr → Pr → Prop := fun ps p => ∃ (r : Rk) (q : Pr) (d : PyData), r.Ok ∧ To K q d ∧ smB d = true ∧ ps = [RkP K r, q] ∧ p = IsV (.bl (f r d))
theorem to_id {K : PySem.W.Frag} {d : PyData} : To K (IsD K d) d := fun _ _ h => h
/-! ### data, as what is known -/
section
variable {K : PySem.W.Frag} {te ta tb : TE} {σ : L2.St} {B H : Hp} {q : Pr} {d : PyData} {ds : List PyData} {v : V}
theorem tu_d (h : Dp K H v (.tuple ds)) : (TuP K (ds.map (IsD K))).P v H := by
  cases h with
  | tup a b => exact ⟨_, _, rfl, a, dps_to b⟩
theorem ev_isTu (h : EvP te σ B (IsD K d)) : Ev (tCB (rIsi K) (tCons te (tCons (tC (.ty "tuple")) tNil))) σ B (.bl (isTu d)) :=
  ev_isi h (by cases d <;> (dsimp only [tyS, isTu]; decide +kernel))
theorem et_tupN {n : Nat} (h : EvP te σ B (IsD K d)) : EvT (tOr (tNot (tTest (tCB (rIsi K) (tCons te (tCons (tC (.ty "tuple")) tNil))))) (tTest (tOp rNe (tCB (rLenS K) (tCons te tNil)) (tC (.int (n : Int)))))) σ B (!tupN n d) := by
  refine et_is (et_or (a := !isTu d) (b := !tupN n d) (et_not (et_test (ev_isTu h))) fun e => ?_) ?_
  · obtain ⟨xs, rfl⟩ : ∃ xs, d = .tuple xs := by
      cases d <;> first | exact ⟨_, rfl⟩ | exact absurd e (by simp [isTu])
    refine et_is (et_test (ev_op (ev_lenD h (.inl rfl)) ev_c (rv_ne rfl))) ?_
    show (!decide (V.int (xs.length : Int) = V.int (n : Int))) = !(xs.length == n)
    by_cases q : xs.length = n
    · subst q
      simp
    · have : ¬ V.int (xs.length : Int) = V.int (n : Int) := fun z => q (by cases z; rfl)
      rw [decide_eq_false this]
      simp [q]
  · cases d <;> first | rfl | simp [isTu, tupN]
end
end Nd
namespace Nd
set_option autoImplicit false
open PySem PySem.W L2 My Evl LamX
def rP (us _ws : List Value) : List Value := us
def rPV (vs _zs : List V) : List V := vs
def rZV (vs _zs : List V) : List V := vs ++ [.non]
/-- a class of refusals with an __init__ of its own, of one field, over ValueError -/
structure RP (P : Program) (w : World) (K : PySem.W.Frag) (mg : Str → Option Value) (base : Heap) (x : Str) (C : Addr) (f : Str) (fI : Addr) (fd : FuncData) (gZ : List Value → List Value → List Value) : Prop where
  T : XC K C (bmI 1) (nwI 1)
  rc : RC K C
  m : mg x = some (.ref C)
  iC : PySem.W.findIn K (.ref C) "__init__" = some (some (.ref fI))
  tI : PySem.W.typeIn K (.ref fI) = some (.type "function")
  G : FnOk P w K mg base CX0 1 fI fd ["self", f] (spI1 C f)
  kP : KBn K fd ["self", f] 2 [] rP rPV
  kZ : KBn K fd ["self", f] 1 [] gZ rZV
/-- one without -/
structure RQ (K : PySem.W.Frag) (mg : Str → Option Value) (x : Str) (C : Addr) : Prop where
  q : PySem.W.excIn K C (bmI 13) (nwI 13) = true
  k : PySem.W.keepIn K (.ref C) = true
  rc : RC K C
  m : mg x = some (.ref C)
section
variable {X : Cx} {x f : Str} {C fI : Addr} {fd : FuncData} {gZ : List Value → List Value → List Value} {W : WX} {t : TA} {e : Expr} {p pos pos' : Pos}
theorem ps_raiseP (R : RP X.prog X.w X.K X.mg X.base x C f fI fd gZ) (hc : X.calm = true) (hx : X.ex = []) (tk : Takes X W) (hr : Room 2 X.A) (hg : Gl X x) (ha : PA X [e] t) (hdb : (x == ("__debug__" : Str)) = false := by decide)
    (he : starEach (e :: []) X.env = (false, eval e X.env) :: starEach [] X.env := by rfl) (hpl : (backTo pos (starEach [] X.env)).any (·.1) = false := by rfl) :
    PS X (.Raise (some (.Call (.Name x p) [e] [] pos)) none pos') (fun _ σ H => tXNewN C 1 0 (spI1 C f) rPV t tNil σ H fun y H1 => ∃ (a C' : Addr) (d : Option Addr), y = .ref a ∧ H1 a = some (exo a C' d) ∧ Fr0 X.H_0 a ∧ Raises X (.ref C') ∧ W (.ref C') d σ (delH H1 a)) :=
  ps_raise hc tk (pmk_val hx (pe_xnewP R.T xbV R.iC R.tI R.G hr R.kP (by decide) hg R.m ha hdb he hpl))
theorem ps_raiseZ (R : RP X.prog X.w X.K X.mg X.base x C f fI fd gZ) (hc : X.calm = true) (hx : X.ex = []) (tk : Takes X W) (hr : Room 2 X.A) (hg : Gl X x) (hdb : (x == ("__debug__" : Str)) = false := by decide) :
    PS X (.Raise (some (.Call (.Name x p) [] [] pos)) none pos') (fun _ σ H => tXNewN C 0 0 (spI1 C f) rZV tNil tNil σ H fun y H1 => ∃ (a C' : Addr) (d : Option Addr), y = .ref a ∧ H1 a = some (exo a C' d) ∧ Fr0 X.H_0 a ∧ Raises X (.ref C') ∧ W (.ref C') d σ (delH H1 a)) :=
  ps_raise hc tk (pmk_val hx (pe_xnewZ R.T xbV R.iC R.tI R.G hr R.kZ hg R.m hdb))
theorem ps_raiseQ {m : Str} {j : Nat} {p2 : Pos} (R : RQ X.K X.mg x C) (hc : X.calm = true) (tk : Takes X W) (hg : Gl X x) (hdb : (x == ("__debug__" : Str)) = false := by decide) :
    PS X (.Raise (some (.Call (.Name x p) [.Constant (.str m) j p2] [] pos)) none pos') (fun _ σ H => W (.ref C) none σ H) :=
  ps_raise hc tk (pmk_own F.excBase_ValueError R.q R.m R.k R.rc.r hg hdb)
end
section
variable {X : Cx} {t : TA} {σ : L2.St} {B H H0 : Hp} {p : Pr} {C : Addr} {f : Str} {W : WX}
theorem x_rsP (rc : Raises X (.ref C)) (e : Ex B H) (h0 : Ex H0 H) (h : EvPs t σ B [p]) (q : ∀ d B' H', Gr B H B' H' → ExcD [(f, p)] d B' → W (.ref C) d σ H') :
    tXNewN C 1 0 (spI1 C f) rPV t tNil σ H fun y H1 => ∃ (a C' : Addr) (d : Option Addr), y = .ref a ∧ H1 a = some (exo a C' d) ∧ Fr0 H0 a ∧ Raises X (.ref C') ∧ W (.ref C') d σ (delH H1 a) :=
  x_raise1 (n := 1) (m := 0) (gV := rPV) (f := f) (Q := fun c d H => W c d σ H) rc e h0 h q_nil rfl rfl (fun a vs ws B1 hv _ => by
    match vs, hv with
    | [v], hv => exact ⟨v, rfl, hv.1⟩) q
theorem x_rsZ (rc : Raises X (.ref C)) (e : Ex B H) (h0 : Ex H0 H) (q : ∀ d B' H', Gr B H B' H' → ExcD [(f, IsV .non)] d B' → W (.ref C) d σ H') :
    tXNewN C 0 0 (spI1 C f) rZV tNil tNil σ H fun y H1 => ∃ (a C' : Addr) (d : Option Addr), y = .ref a ∧ H1 a = some (exo a C' d) ∧ Fr0 H0 a ∧ Raises X (.ref C') ∧ W (.ref C') d σ (delH H1 a) :=
  x_raise1 (p := IsV .non) (n := 0) (m := 0) (gV := rZV) (f := f) (Q := fun c d H => W c d σ H) rc e h0 q_nil q_nil rfl rfl (fun a vs ws B1 hv _ => by
    match vs, hv with
    | [], hv => exact ⟨.non, rfl, rfl⟩) q
end
/-- a def of the program's that may raise, as it is called -/
structure CalX (P : Program) (w : World) (K : PySem.W.Frag) (mg : Str → Option Value) (base : Heap) (x : Str) (k : Nat) (ps : List Str) (sp : Sp) (f : Addr) (fd : FuncData) : Prop where
  G : FnOk P w K mg base (L2.CX P w) k f fd ps sp
  m : mg x = some (.ref f)
  k : PySem.W.keepIn K (.ref f) = true
  b : Binds K fd ps []
end Nd
namespace Nd
set_option autoImplicit false
open PySem PySem.W L2 My Evl LamX
/-- the thing ahead of another one: none yet, or such data -/
def AhP (K : PySem.W.Frag) (ah : Option PyData) (y : V) (B : Hp) : Prop := (ah = none ∧ y = .non) ∨ ∃ a, ah = some a ∧ Dp K B y a ∧ ∃ xs, a = .tuple xs
theorem AhP.m {K : PySem.W.Frag} {ah : Option PyData} {y : V} {B B' : Hp} (e : Ex B B') (h : AhP K ah y B) : AhP K ah y B' := h.imp id fun ⟨a, h1, h2, h3⟩ => ⟨a, h1, dp_m e h2, h3⟩
theorem et_ah {K : PySem.W.Frag} {ah : Option PyData} {y : V} {B : Hp} {σ : L2.St} {i : Nat} {te : TE} {d : PyData} (hi : σ[i]? = some (some y)) (h : AhP K ah y B) (he : EvP te σ B (IsD K d)) (al : ∀ a, ah = some a → alike d a = true) (hn : d ≠ .none) (hm : d.depth ≤ 50) :
    EvT (tAnd (tTest (tOp (fun x y H Q => y = V.non ∧ Q (.bl (!decide (x = V.non))) H) (tVar i) (tC .non))) (tTest (tOp (rLeD K) te (tVar i)))) σ B (!ah.all fun a => dataLt a d) := by
  rcases h with ⟨rfl, rfl⟩ | ⟨a, rfl, ha, xs, rfl⟩
  · exact et_is (et_and (a := false) (b := false) (et_test (ev_notN (p_varV hi))) (fun z => nomatch z)) rfl
  · obtain ⟨r, rfl⟩ : ∃ r, y = .ref r := by cases ha; exact ⟨_, rfl⟩
    exact et_is (et_and (a := true) (b := !dataLt (.tuple xs) d) (et_test (ev_notR hi)) fun _ => et_test (ev_leD (K := K) (d := d) (e := .tuple xs) he (p_var hi ha) (al _ rfl) hn (by omega))) rfl
end Nd
namespace Nd
set_option autoImplicit false
open PySem PySem.Spec PySem.W PyProof.Rows L2 My Evl
section
variable {X : Cx}
end
end Nd
namespace Nd
set_option autoImplicit false
open scoped Rat
/-! ### fractions are the rationals -/
def fr (r : Rat) : Int × Int := (r.num, (r.den : Int))
theorem fr_eq {n d : Int} (hd : 0 < d) (hg : Int.gcd n d = 1) : fr (n /. d) = (n, d) := by
  unfold fr
  rw [Rat.num_divInt, Rat.den_divInt, Int.gcd_comm, hg, if_neg (by omega), Int.sign_eq_one_of_pos hd]
  simp
  omega
theorem fr_pos (r : Rat) : 0 < (fr r).2 := by
  have := r.den_pos
  show (0 : Int) < (r.den : Int)
  omega
theorem fr_low (r : Rat) : Int.gcd (fr r).1 (fr r).2 = 1 := by
  have := r.reduced
  show Nat.gcd r.num.natAbs (r.den : Int).natAbs = 1
  rw [Int.natAbs_natCast]
  exact this
theorem fr_val (r : Rat) : (fr r).1 /. (fr r).2 = r := Rat.num_divInt_den r
theorem fr_num0 (r : Rat) : (fr r).1 = 0 ↔ r = 0 := Rat.num_eq_zero
/-- lowest terms of any fraction -/
theorem fr_lowest {n d : Int} (hd : 0 < d) : fr (n /. d) = (n / (Int.gcd n d : Int), d / (Int.gcd n d : Int)) := by
  have g0 : Int.gcd n d ≠ 0 := fun h => by
    have := (Int.gcd_eq_zero_iff.mp h).2
    omega
  have hn := Int.gcd_dvd_left (a := n) (b := d)
  have hd2 := Int.gcd_dvd_right (a := n) (b := d)
  have e : n /. d = (n / (Int.gcd n d : Int)) /. (d / (Int.gcd n d : Int)) := by
    have h1 : (n / (Int.gcd n d : Int)) * (Int.gcd n d : Int) = n := Int.ediv_mul_cancel hn
    have h2 : (d / (Int.gcd n d : Int)) * (Int.gcd n d : Int) = d := Int.ediv_mul_cancel hd2
    have := Rat.divInt_mul_right (n := n / (Int.gcd n d : Int)) (d := d / (Int.gcd n d : Int)) (a := (Int.gcd n d : Int)) (by omega)
    rw [h1, h2] at this
    exact this
  have hp : 0 < d / (Int.gcd n d : Int) := Int.ediv_pos_of_pos_of_dvd hd (by omega) hd2
  rw [e]
  refine fr_eq hp ?_
  exact Int.gcd_ediv_gcd_ediv_gcd (by omega)
theorem cop_mul {a b c : Int} (h : Int.gcd a b = 1) (k : Int.gcd a c = 1) : Int.gcd a (b * c) = 1 := by
  have h1 : Nat.Coprime a.natAbs b.natAbs := h
  have h2 : Nat.Coprime a.natAbs c.natAbs := k
  show Nat.gcd a.natAbs (b * c).natAbs = 1
  rw [Int.natAbs_mul]
  exact Nat.Coprime.mul_right h1 h2
theorem cop_mul' {a b c : Int} (h : Int.gcd b a = 1) (k : Int.gcd c a = 1) : Int.gcd (b * c) a = 1 := by
  rw [Int.gcd_comm] at h k ⊢
  exact cop_mul h k
theorem cop_dvd {a b c : Int} (h : Int.gcd a b = 1) (k : c ∣ b) : Int.gcd a c = 1 := by
  have h1 : Nat.Coprime a.natAbs b.natAbs := h
  exact Nat.Coprime.coprime_dvd_right (Int.natAbs_dvd_natAbs.mpr k) h1
theorem cop_dvd' {a b c : Int} (h : Int.gcd a b = 1) (k : c ∣ a) : Int.gcd c b = 1 := by
  rw [Int.gcd_comm] at h ⊢
  exact cop_dvd h k
/-- the product as the program has it -/
theorem fr_mul (r s : Rat) : fr (r * s) = ((fr r).1 / (Int.gcd (fr r).1 (fr s).2 : Int) * ((fr s).1 / (Int.gcd (fr s).1 (fr r).2 : Int)), (fr r).2 / (Int.gcd (fr s).1 (fr r).2 : Int) * ((fr s).2 / (Int.gcd (fr r).1 (fr s).2 : Int))) := by
  have hr := fr_low r
  have hs := fr_low s
  have pr := fr_pos r
  have ps := fr_pos s
  have er := fr_val r
  have es := fr_val s
  generalize (fr r).1 = a at *
  generalize (fr r).2 = b at *
  generalize (fr s).1 = c at *
  generalize (fr s).2 = d at *
  have l0 : (Int.gcd a d : Int) ≠ 0 := fun h => by
    have := (Int.gcd_eq_zero_iff.mp (Int.ofNat_eq_zero.mp h)).2
    omega
  have r0 : (Int.gcd c b : Int) ≠ 0 := fun h => by
    have := (Int.gcd_eq_zero_iff.mp (Int.ofNat_eq_zero.mp h)).2
    omega
  have la := Int.gcd_dvd_left (a := a) (b := d)
  have ld := Int.gcd_dvd_right (a := a) (b := d)
  have rc := Int.gcd_dvd_left (a := c) (b := b)
  have rb := Int.gcd_dvd_right (a := c) (b := b)
  have h1 := Int.ediv_mul_cancel la
  have h2 := Int.ediv_mul_cancel ld
  have h3 := Int.ediv_mul_cancel rc
  have h4 := Int.ediv_mul_cancel rb
  have c1 : Int.gcd (a / (Int.gcd a d : Int)) (d / (Int.gcd a d : Int)) = 1 := Int.gcd_ediv_gcd_ediv_gcd (by omega)
  have c2 : Int.gcd (c / (Int.gcd c b : Int)) (b / (Int.gcd c b : Int)) = 1 := Int.gcd_ediv_gcd_ediv_gcd (by omega)
  have p1 : 0 < d / (Int.gcd a d : Int) := Int.ediv_pos_of_pos_of_dvd ps (by omega) ld
  have p2 : 0 < b / (Int.gcd c b : Int) := Int.ediv_pos_of_pos_of_dvd pr (by omega) rb
  generalize a / (Int.gcd a d : Int) = a' at *
  generalize d / (Int.gcd a d : Int) = d' at *
  generalize c / (Int.gcd c b : Int) = c' at *
  generalize b / (Int.gcd c b : Int) = b' at *
  generalize (Int.gcd a d : Int) = l at *
  generalize (Int.gcd c b : Int) = m at *
  have e : r * s = (a' * c') /. (b' * d') := by
    rw [← er, ← es, Rat.divInt_mul_divInt, ← h1, ← h3, ← h4, ← h2]
    have : a' * l * (c' * m) = (a' * c') * (l * m) := by grind
    rw [this]
    have : b' * m * (d' * l) = (b' * d') * (l * m) := by grind
    rw [this]
    exact Rat.divInt_mul_right (Int.mul_ne_zero l0 r0)
  rw [e]
  refine fr_eq (Int.mul_pos p2 p1) ?_
  have ab : Int.gcd a' b' = 1 := cop_dvd (cop_dvd' hr ⟨l, h1.symm⟩) ⟨m, h4.symm⟩
  have cd : Int.gcd c' d' = 1 := cop_dvd (cop_dvd' hs ⟨m, h3.symm⟩) ⟨l, h2.symm⟩
  exact cop_mul (cop_mul' ab c2) (cop_mul' c1 cd)
/-- the sum as the program has it -/
theorem fr_add1 {r s : Rat} (h : (fr r).2 = 1) (k : (fr s).2 = 1) : fr (r + s) = ((fr r).1 + (fr s).1, 1) := by
  have er := fr_val r
  have es := fr_val s
  rw [h] at er
  rw [k] at es
  generalize (fr r).1 = a at *
  generalize (fr s).1 = c at *
  rw [← er, ← es, Rat.divInt_add_divInt _ _ (by omega) (by omega)]
  have : a * 1 + c * 1 = a + c := by omega
  rw [this]
  exact fr_eq (by omega) (Int.gcd_one_right (a + c))
theorem fr_add (r s : Rat) : fr (r + s) =
    (((fr r).1 * ((fr s).2 / (Int.gcd (fr r).2 (fr s).2 : Int)) + (fr s).1 * ((fr r).2 / (Int.gcd (fr r).2 (fr s).2 : Int))) / (Int.gcd ((fr r).1 * ((fr s).2 / (Int.gcd (fr r).2 (fr s).2 : Int)) + (fr s).1 * ((fr r).2 / (Int.gcd (fr r).2 (fr s).2 : Int))) (Int.gcd (fr r).2 (fr s).2 : Int) : Int),
     ((fr r).2 / (Int.gcd (fr r).2 (fr s).2 : Int)) * ((fr s).2 / (Int.gcd ((fr r).1 * ((fr s).2 / (Int.gcd (fr r).2 (fr s).2 : Int)) + (fr s).1 * ((fr r).2 / (Int.gcd (fr r).2 (fr s).2 : Int))) (Int.gcd (fr r).2 (fr s).2 : Int) : Int))) := by
  have hr := fr_low r
  have hs := fr_low s
  have pr := fr_pos r
  have ps := fr_pos s
  have er := fr_val r
  have es := fr_val s
  generalize (fr r).1 = a at *
  generalize (fr r).2 = b at *
  generalize (fr s).1 = c at *
  generalize (fr s).2 = d at *
  have g0 : (Int.gcd b d : Int) ≠ 0 := fun h => by
    have := (Int.gcd_eq_zero_iff.mp (Int.ofNat_eq_zero.mp h)).2
    omega
  have gb := Int.gcd_dvd_left (a := b) (b := d)
  have gd := Int.gcd_dvd_right (a := b) (b := d)
  have h1 := Int.ediv_mul_cancel gb
  have h2 := Int.ediv_mul_cancel gd
  have c1 : Int.gcd (b / (Int.gcd b d : Int)) (d / (Int.gcd b d : Int)) = 1 := Int.gcd_ediv_gcd_ediv_gcd (by omega)
  have p1 : 0 < b / (Int.gcd b d : Int) := Int.ediv_pos_of_pos_of_dvd pr (by omega) gb
  have p2 : 0 < d / (Int.gcd b d : Int) := Int.ediv_pos_of_pos_of_dvd ps (by omega) gd
  have gp : (0 : Int) < (Int.gcd b d : Int) := by omega
  generalize b / (Int.gcd b d : Int) = b' at *
  generalize d / (Int.gcd b d : Int) = d' at *
  generalize (Int.gcd b d : Int) = g at *
  -- the top, and what it has in common with g
  have tb : Int.gcd (a * d' + c * b') b' = 1 := by
    have : Int.gcd (a * d' + c * b') b' = Int.gcd (a * d') b' := by
      rw [Int.gcd_comm, Int.gcd_comm (a * d')]
      exact Int.gcd_add_mul_right_right ..
    rw [this]
    exact cop_mul' (cop_dvd hr ⟨g, h1.symm⟩) (by rw [Int.gcd_comm]; exact c1)
  have td : Int.gcd (a * d' + c * b') d' = 1 := by
    have : Int.gcd (a * d' + c * b') d' = Int.gcd (c * b') d' := by
      rw [Int.add_comm, Int.gcd_comm, Int.gcd_comm (c * b')]
      exact Int.gcd_add_mul_right_right ..
    rw [this]
    exact cop_mul' (cop_dvd hs ⟨g, h2.symm⟩) c1
  have ev : r + s = (a * d' + c * b') /. (b' * (d' * g)) := by
    rw [← er, ← es, Rat.divInt_add_divInt _ _ (by omega) (by omega), ← h1, ← h2]
    have : a * (d' * g) + c * (b' * g) = (a * d' + c * b') * g := by grind
    rw [this]
    have : b' * g * (d' * g) = (b' * (d' * g)) * g := by grind
    rw [this]
    exact Rat.divInt_mul_right g0
  generalize a * d' + c * b' = t at *
  have q0 : (Int.gcd t g : Int) ≠ 0 := fun h => by
    have := (Int.gcd_eq_zero_iff.mp (Int.ofNat_eq_zero.mp h)).2
    omega
  have qt := Int.gcd_dvd_left (a := t) (b := g)
  have qg := Int.gcd_dvd_right (a := t) (b := g)
  have h3 := Int.ediv_mul_cancel qt
  have h4 := Int.ediv_mul_cancel qg
  have c3 : Int.gcd (t / (Int.gcd t g : Int)) (g / (Int.gcd t g : Int)) = 1 := Int.gcd_ediv_gcd_ediv_gcd (by omega)
  have p3 : 0 < g / (Int.gcd t g : Int) := Int.ediv_pos_of_pos_of_dvd gp (by omega) qg
  have ed : d / (Int.gcd t g : Int) = d' * (g / (Int.gcd t g : Int)) := by
    rw [← h2, Int.mul_ediv_assoc _ qg]
  rw [ed]
  generalize t / (Int.gcd t g : Int) = t' at *
  generalize g / (Int.gcd t g : Int) = g' at *
  generalize (Int.gcd t g : Int) = q at *
  have e2 : r + s = t' /. (b' * (d' * g')) := by
    rw [ev, ← h3, ← h4]
    have : b' * (d' * (g' * q)) = b' * (d' * g') * q := by grind
    rw [this]
    exact Rat.divInt_mul_right q0
  rw [e2]
  refine fr_eq (Int.mul_pos p1 (Int.mul_pos p2 p3)) ?_
  exact cop_mul (cop_dvd' tb ⟨q, h3.symm⟩) (cop_mul (cop_dvd' td ⟨q, h3.symm⟩) c3)
end Nd
namespace Nd
set_option autoImplicit false
set_option linter.unusedSectionVars false
/-! ### sums by keys, in order -/
class Od (κ : Type) [DecidableEq κ] where
  lt : κ → κ → Bool
  irr : ∀ a, lt a a = false
  tr : ∀ {a b c}, lt a b = true → lt b c = true → lt a c = true
  tri : ∀ {a b}, a ≠ b → lt a b = true ∨ lt b a = true
open Lean.Grind
section
variable {κ : Type} [DecidableEq κ] {β : Type} [CommRing β]
theorem z_add (a : β) : 0 + a = a := by grind
theorem a_zero (a : β) : a + 0 = a := by grind
/-- what all pairs of a key come to -/
def co : List (κ × β) → κ → β
  | [], _ => 0
  | z :: l, k => (if z.1 = k then z.2 else 0) + co l k
@[simp] theorem co_nil (k : κ) : co ([] : List (κ × β)) k = 0 := rfl
theorem co_cons (z : κ × β) (l : List (κ × β)) (k : κ) : co (z :: l) k = (if z.1 = k then z.2 else 0) + co l k := rfl
theorem co_none {k : κ} : ∀ {l : List (κ × β)}, (∀ z ∈ l, z.1 ≠ k) → co l k = 0
  | [], _ => rfl
  | z :: l, h => by
    rw [co_cons, if_neg (h z List.mem_cons_self), co_none fun y hy => h y (List.mem_cons_of_mem _ hy), z_add]
theorem co_one {l : List (κ × β)} (nd : (l.map (·.1)).Nodup) {z : κ × β} (h : z ∈ l) : co l z.1 = z.2 := by
  induction l with
  | nil => cases h
  | cons y l ih =>
    rw [List.map_cons, List.nodup_cons] at nd
    rw [co_cons]
    rcases List.mem_cons.mp h with rfl | h
    · rw [if_pos rfl, co_none (fun x hx e => nd.1 (List.mem_map.mpr ⟨x, hx, e⟩)), a_zero]
    · rw [ih nd.2 h, if_neg (fun e => nd.1 (List.mem_map.mpr ⟨z, h, e.symm⟩)), z_add]
/-- a sum over all pairs of what is additive -/
def lin {γ : Type} [CommRing γ] (f : κ → β → γ) : List (κ × β) → γ
  | [] => 0
  | z :: l => f z.1 z.2 + lin f l
variable [Od κ]
/-- rising, and nothing is nought -/
structure Cn (l : List (κ × β)) : Prop where
  up : l.Pairwise fun a b => Od.lt a.1 b.1 = true
  nz : ∀ z ∈ l, z.2 ≠ 0
theorem Cn.tl {z : κ × β} {l : List (κ × β)} (h : Cn (z :: l)) : Cn l := ⟨(List.pairwise_cons.mp h.up).2, fun y hy => h.nz y (List.mem_cons_of_mem _ hy)⟩
theorem lt_ne {a b : κ} (h : Od.lt a b = true) : a ≠ b := fun e => by
  subst e
  rw [Od.irr] at h
  cases h
theorem Cn.nd {l : List (κ × β)} (h : Cn l) : (l.map (·.1)).Nodup := List.pairwise_map.mpr (h.up.imp fun k => lt_ne k)
theorem Cn.hd {z : κ × β} {l : List (κ × β)} (h : Cn (z :: l)) : co (z :: l) z.1 = z.2 := co_one h.nd List.mem_cons_self
theorem Cn.tl0 {z : κ × β} {l : List (κ × β)} (h : Cn (z :: l)) : co l z.1 = 0 := co_none fun y hy => (lt_ne ((List.pairwise_cons.mp h.up).1 y hy)).symm
theorem Cn.low {y : κ × β} {l : List (κ × β)} {k : κ} (h : Cn (y :: l)) (e : Od.lt k y.1 = true) : co (y :: l) k = 0 := co_none fun x hx => by
  rcases List.mem_cons.mp hx with rfl | hx
  · exact (lt_ne e).symm
  · exact (lt_ne (Od.tr e ((List.pairwise_cons.mp h.up).1 x hx))).symm
theorem cn_ext : ∀ {l m : List (κ × β)}, Cn l → Cn m → (∀ k, co l k = co m k) → l = m
  | [], [], _, _, _ => rfl
  | [], y :: m, _, b, h => absurd ((h y.1).trans b.hd).symm (b.nz y List.mem_cons_self)
  | z :: l, [], a, _, h => absurd (a.hd.symm.trans (h z.1)) (a.nz z List.mem_cons_self)
  | z :: l, y :: m, a, b, h => by
    by_cases e : z.1 = y.1
    · have h2 : z.2 = y.2 := by rw [← a.hd, ← b.hd, h z.1, e]
      have ez : z = y := Prod.ext e h2
      subst ez
      rw [cn_ext a.tl b.tl fun k => ?_]
      by_cases ek : z.1 = k
      · subst ek
        rw [a.tl0, b.tl0]
      · have := h k
        rw [co_cons, co_cons, if_neg ek, z_add, z_add] at this
        exact this
    · rcases Od.tri e with k | k
      · exact absurd (a.hd.symm.trans ((h z.1).trans (b.low k))) (a.nz z List.mem_cons_self)
      · exact absurd (b.hd.symm.trans ((h y.1).symm.trans (a.low k))) (b.nz y List.mem_cons_self)
def ins [DecidableEq β] (k : κ) (v : β) : List (κ × β) → List (κ × β)
  | [] => if v = 0 then [] else [(k, v)]
  | z :: l => if z.1 = k then (if z.2 + v = 0 then l else (k, z.2 + v) :: l) else if Od.lt k z.1 = true then (if v = 0 then z :: l else (k, v) :: z :: l) else z :: ins k v l
variable [DecidableEq β]
/-- the sums by keys: rising, none of them nought -/
def cf (l : List (κ × β)) : List (κ × β) := l.foldr (fun z a => ins z.1 z.2 a) []
theorem ins_mem {k : κ} {v : β} {x : κ × β} : ∀ {l : List (κ × β)}, x ∈ ins k v l → x.1 = k ∨ x ∈ l
  | [], h => by
    unfold ins at h
    split at h
    · cases h
    · exact .inl (by rw [List.mem_singleton.mp h])
  | z :: l, h => by
    unfold ins at h
    split at h
    · split at h
      · exact .inr (List.mem_cons_of_mem _ h)
      · rcases List.mem_cons.mp h with rfl | h
        · exact .inl rfl
        · exact .inr (List.mem_cons_of_mem _ h)
    · split at h
      · split at h
        · exact .inr h
        · rcases List.mem_cons.mp h with rfl | h
          · exact .inl rfl
          · exact .inr h
      · rcases List.mem_cons.mp h with rfl | h
        · exact .inr List.mem_cons_self
        · exact (ins_mem h).imp_right (List.mem_cons_of_mem _)
theorem cn_ins {k : κ} {v : β} : ∀ {l : List (κ × β)}, Cn l → Cn (ins k v l)
  | [], _ => by
    unfold ins
    split
    · exact ⟨.nil, fun _ h => by cases h⟩
    · rename_i e
      exact ⟨List.pairwise_singleton _ _, fun z h => by rw [List.mem_singleton.mp h]; exact e⟩
  | z :: l, h => by
    have hp := List.pairwise_cons.mp h.up
    unfold ins
    split
    · rename_i e
      split
      · exact h.tl
      · rename_i n
        exact ⟨List.pairwise_cons.mpr ⟨fun y hy => e ▸ hp.1 y hy, hp.2⟩, fun y hy => by
          rcases List.mem_cons.mp hy with rfl | hy
          · exact n
          · exact h.nz y (List.mem_cons_of_mem _ hy)⟩
    · rename_i e
      split
      · rename_i lt
        split
        · exact h
        · rename_i n
          exact ⟨List.pairwise_cons.mpr ⟨fun y hy => by
            rcases List.mem_cons.mp hy with rfl | hy
            · exact lt
            · exact Od.tr lt (hp.1 y hy), h.up⟩, fun y hy => by
            rcases List.mem_cons.mp hy with rfl | hy
            · exact n
            · exact h.nz y hy⟩
      · rename_i nl
        have ih := cn_ins (k := k) (v := v) h.tl
        refine ⟨List.pairwise_cons.mpr ⟨fun y hy => ?_, ih.up⟩, fun y hy => ?_⟩
        · rcases ins_mem hy with a | a
          · rw [a]
            rcases Od.tri e with b | b
            · exact b
            · exact absurd b nl
          · exact hp.1 y a
        · rcases List.mem_cons.mp hy with rfl | hy
          · exact h.nz _ List.mem_cons_self
          · exact ih.nz y hy
theorem lin_ins {γ : Type} [CommRing γ] {f : κ → β → γ} (f0 : ∀ k, f k 0 = 0) (fa : ∀ k a b, f k (a + b) = f k a + f k b) {k : κ} {v : β} : ∀ l : List (κ × β), lin f (ins k v l) = lin f l + f k v
  | [] => by
    unfold ins
    split
    · rename_i e
      rw [e, f0]
      exact (a_zero _).symm
    · show f k v + 0 = 0 + f k v
      grind
  | z :: l => by
    unfold ins
    split
    · rename_i e
      split
      · rename_i n
        show lin f l = f z.1 z.2 + lin f l + f k v
        have : f k (z.2 + v) = 0 := by rw [n, f0]
        rw [fa] at this
        rw [e]
        have h2 : f k z.2 + lin f l + f k v = (f k z.2 + f k v) + lin f l := by grind
        rw [h2, this, z_add]
      · show f k (z.2 + v) + lin f l = f z.1 z.2 + lin f l + f k v
        rw [fa, e]
        grind
    · split
      · split
        · rename_i n
          rw [n, f0, a_zero]
        · show f k v + (f z.1 z.2 + lin f l) = f z.1 z.2 + lin f l + f k v
          grind
      · show f z.1 z.2 + lin f (ins k v l) = f z.1 z.2 + lin f l + f k v
        rw [lin_ins f0 fa l]
        grind
theorem cn_cf : ∀ l : List (κ × β), Cn (cf l)
  | [] => ⟨.nil, fun _ h => by cases h⟩
  | z :: l => cn_ins (cn_cf l)
theorem lin_cf {γ : Type} [CommRing γ] {f : κ → β → γ} (f0 : ∀ k, f k 0 = 0) (fa : ∀ k a b, f k (a + b) = f k a + f k b) : ∀ l : List (κ × β), lin f (cf l) = lin f l
  | [] => rfl
  | z :: l => by
    show lin f (ins z.1 z.2 (cf l)) = f z.1 z.2 + lin f l
    rw [lin_ins f0 fa, lin_cf f0 fa l]
    grind
theorem co_lin (k : κ) : ∀ l : List (κ × β), co l k = lin (fun k' (v : β) => if k' = k then v else 0) l
  | [] => rfl
  | z :: l => by
    rw [co_cons, co_lin k l]
    rfl
theorem co_cf (l : List (κ × β)) (k : κ) : co (cf l) k = co l k := by
  rw [co_lin, co_lin, lin_cf]
  · intro k'
    split <;> rfl
  · intro k' a b
    split
    · rfl
    · exact (z_add _).symm
theorem cf_cn {l : List (κ × β)} (h : Cn l) : cf l = l := cn_ext (cn_cf l) h fun k => co_cf l k
end
end Nd
namespace Nd
set_option autoImplicit false
set_option linter.unusedSectionVars false
open scoped Rat
/-! ### how great the numbers are -/
/-- r times D is whole -/
def Wh (D : Nat) (r : Rat) : Prop := ∃ z : Int, r * ((D : Int) : Rat) = (z : Rat)
def ab (D : Nat) (r : Rat) : Nat := (r * ((D : Int) : Rat)).num.natAbs
theorem ab_of {D : Nat} {r : Rat} {z : Int} (h : r * ((D : Int) : Rat) = (z : Rat)) : ab D r = z.natAbs := by
  unfold ab
  rw [h, Rat.num_intCast]
theorem wh_nul {D : Nat} : Wh D 0 := ⟨0, by rw [Rat.zero_mul]; rfl⟩
theorem ab_nul {D : Nat} : ab D 0 = 0 := by rw [ab_of (z := 0) (by rw [Rat.zero_mul]; rfl)]; rfl
theorem wh_add {D : Nat} {r s : Rat} (h : Wh D r) (k : Wh D s) : Wh D (r + s) ∧ ab D (r + s) ≤ ab D r + ab D s := by
  obtain ⟨a, ha⟩ := h
  obtain ⟨b, hb⟩ := k
  have e : (r + s) * ((D : Int) : Rat) = ((a + b : Int) : Rat) := by rw [Rat.add_mul, ha, hb, Rat.intCast_add]
  refine ⟨⟨_, e⟩, ?_⟩
  rw [ab_of e, ab_of ha, ab_of hb]
  exact Int.natAbs_add_le a b
theorem wh_mul {D E : Nat} {r s : Rat} (h : Wh D r) (k : Wh E s) : Wh (D * E) (r * s) ∧ ab (D * E) (r * s) = ab D r * ab E s := by
  obtain ⟨a, ha⟩ := h
  obtain ⟨b, hb⟩ := k
  have e : (r * s) * (((D * E : Nat) : Int) : Rat) = ((a * b : Int) : Rat) := by
    rw [Rat.intCast_mul, ← ha, ← hb, Int.natCast_mul, Rat.intCast_mul]
    grind
  refine ⟨⟨_, e⟩, ?_⟩
  rw [ab_of e, ab_of ha, ab_of hb, Int.natAbs_mul]
theorem wh_c {c : Nat} : Wh c 1 ∧ ab c 1 = c := by
  have e : (1 : Rat) * ((c : Int) : Rat) = ((c : Int) : Rat) := Rat.one_mul _
  exact ⟨⟨_, e⟩, by rw [ab_of e]; rfl⟩
theorem wh_up {D : Nat} (c : Nat) {r : Rat} (h : Wh D r) : Wh (D * c) r ∧ ab (D * c) r = ab D r * c := by
  have := wh_mul h (wh_c (c := c)).1
  rw [Rat.mul_one, wh_c.2] at this
  exact this
theorem ab_small {D : Nat} (hD : 0 < D) {r : Rat} (h : Wh D r) : r.num.natAbs ≤ ab D r ∧ r.den ≤ D := by
  obtain ⟨z, hz⟩ := h
  rw [ab_of hz]
  have dp := r.den_pos
  have e0 : r = z /. (D : Int) := by
    have h1 : ((D : Int) : Rat) ≠ 0 := by
      intro h
      have := Rat.intCast_inj.mp (h.trans rfl : ((D : Int) : Rat) = ((0 : Int) : Rat))
      omega
    rw [Rat.divInt_eq_div, ← hz, Rat.mul_div_cancel h1]
  have e1 : r.num * (D : Int) = z * (r.den : Int) := by
    have h1 : r.num /. (r.den : Int) = z /. (D : Int) := (Rat.num_divInt_den r).trans e0
    exact (Rat.divInt_eq_divInt_iff (by omega) (by omega)).mp h1
  have e2 : r.num.natAbs * D = z.natAbs * r.den := by
    have := congrArg Int.natAbs e1
    rw [Int.natAbs_mul, Int.natAbs_mul, Int.natAbs_natCast, Int.natAbs_natCast] at this
    exact this
  have dv : r.den ∣ D := by
    have : r.den ∣ r.num.natAbs * D := ⟨z.natAbs, by rw [e2, Nat.mul_comm]⟩
    exact (Nat.Coprime.symm r.reduced).dvd_of_dvd_mul_left this
  refine ⟨?_, Nat.le_of_dvd hD dv⟩
  obtain ⟨c, hc⟩ := dv
  have hc0 : 0 < c := by
    rcases Nat.eq_zero_or_pos c with h | h
    · rw [h] at hc
      omega
    · exact h
  have : z.natAbs = r.num.natAbs * c := by
    have h3 : r.den * z.natAbs = r.den * (r.num.natAbs * c) := by
      rw [Nat.mul_comm r.den z.natAbs, ← e2, hc, Nat.mul_left_comm]
    exact Nat.eq_of_mul_eq_mul_left dp h3
  rw [this]
  exact Nat.le_mul_of_pos_right _ hc0
section
variable {κ : Type} [DecidableEq κ]
def wt (D : Nat) (p : List (κ × Rat)) : Nat := (p.map fun t => ab D t.2).sum
structure Lim (D N : Nat) (p : List (κ × Rat)) : Prop where
  w : ∀ t ∈ p, Wh D t.2
  s : wt D p ≤ N
variable {D E N M : Nat} {p q : List (κ × Rat)}
theorem wt_cons (t : κ × Rat) : wt D (t :: p) = ab D t.2 + wt D p := by unfold wt; rw [List.map_cons, List.sum_cons]
theorem wt_app : wt D (p ++ q) = wt D p + wt D q := by unfold wt; rw [List.map_append, List.sum_append]
theorem Lim.le (h : Lim D N p) (k : N ≤ M) : Lim D M p := ⟨h.w, Nat.le_trans h.s k⟩
theorem Lim.nil : Lim D N ([] : List (κ × Rat)) := ⟨fun _ h => (by cases h), Nat.zero_le _⟩
theorem Lim.app (h : Lim D N p) (k : Lim D M q) : Lim D (N + M) (p ++ q) := ⟨fun t ht => by
  rcases List.mem_append.mp ht with a | a
  · exact h.w t a
  · exact k.w t a, by rw [wt_app]; exact Nat.add_le_add h.s k.s⟩
theorem Lim.l (h : Lim D N (p ++ q)) : Lim D N p := ⟨fun t ht => h.w t (List.mem_append_left _ ht), by have := h.s; rw [wt_app] at this; omega⟩
theorem Lim.r (h : Lim D N (p ++ q)) : Lim D N q := ⟨fun t ht => h.w t (List.mem_append_right _ ht), by have := h.s; rw [wt_app] at this; omega⟩
theorem Lim.at (h : Lim D N p) {t : κ × Rat} (ht : t ∈ p) : Wh D t.2 ∧ ab D t.2 ≤ N := by
  refine ⟨h.w t ht, Nat.le_trans ?_ h.s⟩
  obtain ⟨a, b, rfl⟩ := List.append_of_mem ht
  rw [wt_app, wt_cons]
  omega
theorem Lim.co (h : Lim D N p) (k : κ) : Wh D (co p k) ∧ ab D (co p k) ≤ N := by
  suffices ∀ p : List (κ × Rat), (∀ t ∈ p, Wh D t.2) → Wh D (Nd.co p k) ∧ ab D (Nd.co p k) ≤ wt D p by
    obtain ⟨a, b⟩ := this p h.w
    exact ⟨a, Nat.le_trans b h.s⟩
  intro p hp
  induction p with
  | nil => exact ⟨wh_nul, by rw [co_nil, ab_nul]; exact Nat.zero_le _⟩
  | cons t p ih =>
    obtain ⟨i1, i2⟩ := ih fun x hx => hp x (List.mem_cons_of_mem _ hx)
    have h1 := hp t List.mem_cons_self
    rw [co_cons, wt_cons]
    by_cases e : t.1 = k
    · rw [if_pos e]
      obtain ⟨j1, j2⟩ := wh_add h1 i1
      exact ⟨j1, by omega⟩
    · rw [if_neg e]
      obtain ⟨j1, j2⟩ := wh_add (wh_nul (D := D)) i1
      rw [ab_nul] at j2
      exact ⟨j1, by omega⟩
theorem Lim.up (h : Lim D N p) (c : Nat) : Lim (D * c) (N * c) p := by
  refine ⟨fun t ht => (wh_up c (h.w t ht)).1, Nat.le_trans (Nat.le_of_eq ?_) (Nat.mul_le_mul_right c h.s)⟩
  have hw := h.w
  clear h
  induction p with
  | nil => unfold wt; simp
  | cons t p ih =>
    rw [wt_cons, wt_cons, (wh_up c (hw t List.mem_cons_self)).2, ih fun x hx => hw x (List.mem_cons_of_mem _ hx), Nat.add_mul]
theorem Lim.map {ι : Type} [DecidableEq ι] {f : κ × Rat → ι × Rat} {c : Nat} (h : Lim D N p) (hf : ∀ t ∈ p, Wh D t.2 → Wh E (f t).2 ∧ ab E (f t).2 ≤ ab D t.2 * c) : Lim E (N * c) (p.map f) := by
  refine ⟨fun x hx => ?_, Nat.le_trans ?_ (Nat.mul_le_mul_right c h.s)⟩
  · obtain ⟨t, ht, rfl⟩ := List.mem_map.mp hx
    exact (hf t ht (h.w t ht)).1
  · have hw := h.w
    clear h
    induction p with
    | nil => unfold wt; simp
    | cons t p ih =>
      rw [List.map_cons, wt_cons, wt_cons, Nat.add_mul]
      exact Nat.add_le_add (hf t List.mem_cons_self (hw t List.mem_cons_self)).2 (ih (fun x hx => hf x (List.mem_cons_of_mem _ hx)) fun x hx => hw x (List.mem_cons_of_mem _ hx))
theorem Lim.filter (h : Lim D N p) (f : κ × Rat → Bool) : Lim D N (p.filter f) := by
  refine ⟨fun t ht => h.w t (List.mem_filter.mp ht).1, Nat.le_trans ?_ h.s⟩
  clear h
  induction p with
  | nil => exact Nat.le_refl _
  | cons t p ih =>
    rw [List.filter_cons, wt_cons]
    split
    · rw [wt_cons]
      omega
    · omega
variable [Od κ]
theorem lim_ins {k : κ} {v : Rat} (hv : Wh D v) (hw : ∀ t ∈ p, Wh D t.2) : (∀ t ∈ ins k v p, Wh D t.2) ∧ wt D (ins k v p) ≤ ab D v + wt D p := by
  induction p with
  | nil =>
    unfold ins
    split
    · exact ⟨fun _ h => (by cases h), Nat.zero_le _⟩
    · exact ⟨fun t h => by rw [List.mem_singleton.mp h]; exact hv, by rw [wt_cons]; exact Nat.le_refl _⟩
  | cons t p ih =>
    obtain ⟨i1, i2⟩ := ih fun x hx => hw x (List.mem_cons_of_mem _ hx)
    have h0 := hw t List.mem_cons_self
    have h1 : ∀ x ∈ p, Wh D x.2 := fun x hx => hw x (List.mem_cons_of_mem _ hx)
    obtain ⟨j1, j2⟩ := wh_add h0 hv
    unfold ins
    rw [wt_cons]
    split
    · split
      · exact ⟨h1, by omega⟩
      · refine ⟨fun x hx => ?_, by rw [wt_cons]; dsimp only; omega⟩
        rcases List.mem_cons.mp hx with rfl | hx
        · exact j1
        · exact h1 x hx
    · split
      · split
        · exact ⟨hw, by rw [wt_cons]; omega⟩
        · refine ⟨fun x hx => ?_, by rw [wt_cons, wt_cons]; exact Nat.le_refl _⟩
          rcases List.mem_cons.mp hx with rfl | hx
          · exact hv
          · exact hw x hx
      · refine ⟨fun x hx => ?_, by rw [wt_cons]; omega⟩
        rcases List.mem_cons.mp hx with rfl | hx
        · exact h0
        · exact i1 x hx
theorem Lim.cf (h : Lim D N p) : Lim D N (cf p) := by
  suffices ∀ p : List (κ × Rat), (∀ t ∈ p, Wh D t.2) → (∀ t ∈ Nd.cf p, Wh D t.2) ∧ wt D (Nd.cf p) ≤ wt D p by
    obtain ⟨a, b⟩ := this p h.w
    exact ⟨a, Nat.le_trans b h.s⟩
  intro p hp
  induction p with
  | nil => exact ⟨hp, Nat.le_refl _⟩
  | cons t p ih =>
    obtain ⟨i1, i2⟩ := ih fun x hx => hp x (List.mem_cons_of_mem _ hx)
    obtain ⟨j1, j2⟩ := lim_ins (k := t.1) (hp t List.mem_cons_self) i1
    refine ⟨j1, Nat.le_trans j2 ?_⟩
    rw [wt_cons]
    omega
end
/-- small enough to be divided by -/
def Sm (r : Rat) : Prop := r.num.natAbs < 2 ^ 4000 ∧ r.den < 2 ^ 4000
theorem sm_of {D N : Nat} {r : Rat} (h : Wh D r) (k : ab D r ≤ N) (hD : 0 < D) (hD2 : D < 2 ^ 4000) (hN : N < 2 ^ 4000) : Sm r := by
  obtain ⟨a, b⟩ := ab_small hD h
  exact ⟨Nat.lt_of_le_of_lt (Nat.le_trans a k) hN, Nat.lt_of_le_of_lt b hD2⟩
/-- limits under which all is done -/
structure LimB (D N : Nat) : Prop where
  p : 0 < D
  d : D < 2 ^ 4000
  n : N < 2 ^ 4000
theorem Lim.sm {κ : Type} [DecidableEq κ] {D N : Nat} {p : List (κ × Rat)} (h : Lim D N p) (b : LimB D N) {t : κ × Rat} (ht : t ∈ p) : Sm t.2 := sm_of (h.at ht).1 (h.at ht).2 b.p b.d b.n
end Nd
namespace Nd
set_option autoImplicit false
open PySem PySem.W L2 My Evl PyProof.Rows Lean.Grind
/-! ### derivatives and monomials in order -/
instance : Od Dv where
  lt u v := dataLt u.D v.D
  irr u := lex_irrefl _
  tr h k := lex_trans _ _ _ h k
  tri {u v} h := dlt_ne (alike_dv u v) (by rw [eqv_dv0, decide_eq_false h])
instance : Od Mo where
  lt m n := dataLt (moD m) (moD n)
  irr m := lex_irrefl _
  tr h k := lex_trans _ _ _ h k
  tri {m n} h := dlt_ne (alike_mo m n) (by rw [eqv_mo, decide_eq_false h])
abbrev Pq := List (Mo × Rat)
/-- a monomial as it should be -/
structure MoC (m : Mo) : Prop where
  c : Cn m
  p : ∀ x ∈ m, 0 < x.2
structure PoC (p : Pq) : Prop where
  c : Cn p
  m : ∀ t ∈ p, MoC t.1
def tq (t : Mo × Rat) : Mo × Fr := (t.1, fr t.2)
def toPo (p : Pq) : Po := p.map tq
/-- monomials together -/
def mm (m n : Mo) : Mo := cf (m ++ n)
theorem mm_nil {m : Mo} (h : MoC m) : mm [] m = m := cf_cn h.c
/-- all terms of a product, one by one -/
def rowP (t : Mo × Rat) (q : Pq) : Pq := q.map fun s => (mm t.1 s.1, t.2 * s.2)
def mulR (p q : Pq) : Pq := p.flatMap fun t => rowP t q
def mulP (p q : Pq) : Pq := cf (mulR p q)
theorem mem_row {t : Mo × Rat} {q : Pq} {z : Mo × Rat} (h : z ∈ rowP t q) : ∃ s ∈ q, z.1 = mm t.1 s.1 := by
  obtain ⟨s, hs, rfl⟩ := List.mem_map.mp h
  exact ⟨s, hs, rfl⟩
theorem one_mul {p : Pq} (h : PoC p) : mulP [([], 1)] p = p := by
  unfold mulP
  have : mulR [([], 1)] p = p := by
    show rowP ([], 1) p ++ [] = p
    rw [List.append_nil]
    unfold rowP
    conv => rhs; rw [← List.map_id p]
    refine List.map_congr_left fun s hs => ?_
    show (mm [] s.1, (1 : Rat) * s.2) = s
    rw [mm_nil (h.m s hs), Rat.one_mul]
  rw [this]
  exact cf_cn h.c
/-! ### deriving -/
end Nd
namespace Nd
set_option autoImplicit false
open PySem PySem.Spec PySem.W PySem.Calls PyProof.Rows L2 My Evl
/-! ### dicts by nested keys: read -/
section
variable {X : Cx} {o i f : Expr} {pos apos cpos : Pos} {td ty tx : TE}
end
end Nd
namespace Nd
set_option autoImplicit false
open PySem PySem.Spec PySem.W PySem.Calls PyProof.Rows L2 My Evl
/-! ### dicts by nested keys: comprehensions -/
section
variable {X : Cx}
end
end Nd
namespace Nd
set_option autoImplicit false
open PySem PySem.W L2 My Evl Lean.Grind
/-! ### what a dict by nested keys holds -/
structure Ky (K : PySem.W.Frag) (κ : Type) where
  kp : κ → Pr
  kd : κ → PyData
  to : ∀ k, To K (kp k) (kd k)
  rf : ∀ {k : κ} {v : V} {H : Hp}, (kp k).P v H → ∃ a, v = .ref a
  ks : ∀ k, keyish (kd k) = true
  inj : ∀ {a b : κ}, nk (kd a) = nk (kd b) → a = b
  dp : ∀ k, (nk (kd k)).depth ≤ 8
section
variable {κ β : Type} [DecidableEq κ]
def KG {K : PySem.W.Frag} (ky : Ky K κ) (vp : β → Pr) : List (κ × β) → List NV → Hp → Prop
  | [], [], _ => True
  | z :: zs, x :: xs, B => (x.1 = nk (ky.kd z.1) ∧ (ky.kp z.1).P (.ref x.2.1) B ∧ (vp z.2).P x.2.2 B) ∧ KG ky vp zs xs B
  | [], _ :: _, _ => False
  | _ :: _, [], _ => False
def hasG (zs : List (κ × β)) (k : κ) : Bool := zs.any fun z => decide (z.1 = k)
def putG (zs : List (κ × β)) (k : κ) (v : β) : List (κ × β) := if hasG zs k = true then zs.map fun z => if z.1 = k then (z.1, v) else z else zs ++ [(k, v)]
def valG (zs : List (κ × β)) (k : κ) : Option β := (zs.find? fun z => decide (z.1 = k)).map (·.2)
variable {K : PySem.W.Frag} {ky : Ky K κ} {vp : β → Pr} {B B' H : Hp}
theorem KG.m (e : Ex B B') : ∀ {zs : List (κ × β)} {xs : List NV}, KG ky vp zs xs B → KG ky vp zs xs B'
  | [], [], _ => trivial
  | _ :: _, _ :: _, h => ⟨⟨h.1.1, (ky.kp _).m e h.1.2.1, (vp _).m e h.1.2.2⟩, KG.m e h.2⟩
theorem KG.len : ∀ {zs : List (κ × β)} {xs : List NV}, KG ky vp zs xs B → xs.length = zs.length
  | [], [], _ => rfl
  | _ :: _, _ :: _, h => congrArg Nat.succ (KG.len h.2)
theorem KG.at : ∀ {zs : List (κ × β)} {xs : List NV} {i : Nat} {x : NV}, KG ky vp zs xs B → xs[i]? = some x → ∃ z, zs[i]? = some z ∧ x.1 = nk (ky.kd z.1) ∧ (ky.kp z.1).P (.ref x.2.1) B ∧ (vp z.2).P x.2.2 B
  | [], [], i, x, _, h => by simp at h
  | z :: _, y :: _, 0, x, h, e => by
    obtain rfl := Option.some.inj e
    exact ⟨z, rfl, h.1⟩
  | _ :: _, _ :: _, i + 1, x, h, e => KG.at (i := i) h.2 e
theorem KG.has (k : κ) : ∀ {zs : List (κ × β)} {xs : List NV}, KG ky vp zs xs B → hasN xs (nk (ky.kd k)) = hasG zs k
  | [], [], _ => rfl
  | z :: zs, x :: xs, h => by
    have ih := KG.has k h.2
    unfold hasN hasG at *
    rw [List.any_cons, List.any_cons, ih, h.1.1]
    congr 1
    rw [Bool.eq_iff_iff, decide_eq_true_eq, decide_eq_true_eq]
    exact ⟨ky.inj, fun e => by rw [e]⟩
theorem KG.app : ∀ {zs ys : List (κ × β)} {xs us : List NV}, KG ky vp zs xs B → KG ky vp ys us B → KG ky vp (zs ++ ys) (xs ++ us) B
  | [], _, [], _, _, h => h
  | _ :: _, _, _ :: _, _, a, h => ⟨a.1, KG.app a.2 h⟩
theorem KG.set {k : κ} {f : β} {v : V} (hf : (vp f).P v B) : ∀ {zs : List (κ × β)} {xs : List NV}, KG ky vp zs xs B → KG ky vp (zs.map fun z => if z.1 = k then (z.1, f) else z) (xs.map fun x => if x.1 = nk (ky.kd k) then (x.1, x.2.1, v) else x) B
  | [], [], _ => trivial
  | z :: zs, x :: xs, h => by
    refine ⟨?_, KG.set hf h.2⟩
    dsimp only
    by_cases e : z.1 = k
    · rw [if_pos e, if_pos (by rw [h.1.1, e])]
      exact ⟨h.1.1, h.1.2.1, hf⟩
    · rw [if_neg e, if_neg (fun q => e (ky.inj (h.1.1.symm.trans q)))]
      exact h.1
theorem KG.put {k : κ} {f : β} {a : Addr} {v : V} {zs : List (κ × β)} {xs : List NV} (h : KG ky vp zs xs B) (ha : (ky.kp k).P (.ref a) B) (hf : (vp f).P v B) : KG ky vp (putG zs k f) (putN xs (nk (ky.kd k)) a v) B := by
  unfold putG putN
  rw [h.has k]
  cases hasG zs k with
  | true => exact h.set hf
  | false => exact h.app ⟨⟨rfl, ha, hf⟩, trivial⟩
theorem Ky.at_ {k : κ} {a : Addr} (ky : Ky K κ) (h : (ky.kp k).P (.ref a) H) : KeyAt K H a (nk (ky.kd k)) := ⟨ky.kd k, ky.to k _ _ h, ky.ks k, rfl, ky.dp k⟩
theorem KG.ok {zs : List (κ × β)} {xs : List NV} (h : KG ky vp zs xs B) (e : Ex B H) : KeysOk K H xs := fun x hx => by
  obtain ⟨i, hi⟩ := List.mem_iff_getElem?.mp hx
  obtain ⟨z, _, h1, h2, _⟩ := (h.m e).at hi
  rw [h1]
  exact ky.at_ h2
theorem KG.look (k : κ) : ∀ {zs : List (κ × β)} {xs : List NV}, KG ky vp zs xs B → (valG zs k = none ∧ look xs (nk (ky.kd k)) = none) ∨ ∃ f v, valG zs k = some f ∧ look xs (nk (ky.kd k)) = some v ∧ (vp f).P v B
  | [], [], _ => .inl ⟨rfl, rfl⟩
  | z :: zs, x :: xs, h => by
    have ih := KG.look k h.2
    unfold valG Nd.look at *
    rw [List.find?_cons, List.find?_cons]
    by_cases e : z.1 = k
    · rw [_root_.decide_eq_true e, _root_.decide_eq_true (by rw [h.1.1, e])]
      exact .inr ⟨_, _, rfl, rfl, h.1.2.2⟩
    · rw [decide_eq_false e, decide_eq_false (fun q => e (ky.inj (h.1.1.symm.trans q)))]
      exact ih
variable [CommRing β]
end
end Nd
namespace Nd
set_option autoImplicit false
open PySem PySem.Spec PySem.W PySem.Calls PyProof.Rows L2 My Evl
/-! ### d.items() walked, d a dict by nested keys that is locked -/
end Nd
namespace Nd
set_option autoImplicit false
open PySem PySem.W L2 My Evl
/-! ### a dict under way: made at H0, at d -/
section
variable {κ β : Type} [DecidableEq κ] {P : Program} {w : World} {K : PySem.W.Frag} {ky : Ky K κ} {vp : β → Pr}
structure DcAt (P : Program) (w : World) {K : PySem.W.Frag} (ky : Ky K κ) (vp : β → Pr) (B H0 : Hp) (d : Addr) (zs : List (κ × β)) (Bi H : Hp) : Prop where
  g : Gr B H0 Bi (wo d H)
  at_ : ∃ xs, H d = some (DN P w d xs) ∧ KG ky vp zs xs Bi
/-- a dict that holds this, as it is known -/
def DcP (P : Program) (w : World) {K : PySem.W.Frag} (ky : Ky K κ) (vp : β → Pr) (zs : List (κ × β)) : Pr :=
  ⟨fun v B => ∃ (d : Addr) (xs : List NV) (B0 : Hp), v = .ref d ∧ B d = some (DN P w d xs) ∧ B0 d = none ∧ Ex B0 B ∧ KG ky vp zs xs B0, fun e h => by
    obtain ⟨d, xs, B0, h1, h2, h3, h4, h5⟩ := h
    exact ⟨d, xs, B0, h1, e _ _ h2, h3, h4.trans e, h5⟩⟩
variable {B H0 Bi B2 H H2 : Hp} {d : Addr} {zs : List (κ × β)} {k : κ} {f f0 : β} {σ : L2.St} {D : Ends} {te ta tb ty tx tv : TE} {t tr : TA} {i : Nat} {p q : Pr} {ps qs : List Pr} {v : V}
theorem DcAt.ex (A : DcAt P w ky vp B H0 d zs Bi H) : Ex Bi H := A.g.c.trans wo_ex
theorem DcAt.no (A : DcAt P w ky vp B H0 d zs Bi H) : Bi d = none := wo_none A.g.c
theorem DcAt.on (A : DcAt P w ky vp B H0 d zs Bi H) : H d ≠ none := by
  obtain ⟨xs, h, _⟩ := A.at_
  rw [h]
  exact fun z => nomatch z
theorem DcAt.step (A : DcAt P w ky vp B H0 d zs Bi H) (k : Gr Bi H B2 H2) : DcAt P w ky vp B H0 d zs B2 H2 := by
  obtain ⟨xs, h, al⟩ := A.at_
  exact ⟨A.g.side A.on k, xs, k.a _ _ h, al.m k.b⟩
theorem DcAt.new (e : Ex B H) (hd : H d = none) : DcAt P w ky vp B H d [] B (upd H d (DN P w d [])) := ⟨by rw [wo_new hd]; exact Gr.refl e, [], upd_same, trivial⟩
theorem DcAt.put {xs : List NV} {a : Addr} (A : DcAt P w ky vp B H0 d zs Bi H) (h : H d = some (DN P w d xs)) (hx : KG ky vp zs xs Bi) (hk : (ky.kp k).P (.ref a) Bi) (hf : (vp f).P v Bi) :
    DcAt P w ky vp B H0 d (putG zs k f) Bi (upd H d (DN P w d (putN xs (nk (ky.kd k)) a v))) := ⟨by rw [wo_upd]; exact A.g, _, upd_same, hx.put hk hf⟩
theorem DcAt.fin (A : DcAt P w ky vp B H0 d zs Bi H) (h0 : H0 d = none) : ∃ B', Gr B H0 B' H ∧ (DcP P w ky vp zs).P (.ref d) B' := by
  obtain ⟨xs, hd, al⟩ := A.at_
  have hB := A.no
  refine ⟨upd Bi d (DN P w d xs), ⟨A.g.a.trans wo_ex, A.g.b.trans (Ex.new hB), fun b o e => ?_, fun x hb hh => ?_, fun z b qs q => ?_⟩, d, xs, Bi, rfl, upd_same, hB, Ex.new hB, al⟩
  · by_cases n : b = d
    · subst n
      rw [upd_same] at e
      rw [hd]
      exact e
    · rw [upd_ne n] at e
      exact A.ex _ _ e
  · have n : x ≠ d := fun z => hh (by rw [z]; exact h0)
    rw [upd_ne n]
    exact A.g.d x hb hh
  · by_cases n : b = d
    · subst n
      rw [upd_same] at q
      cases q
    · rw [upd_ne n] at q
      exact A.g.e z b qs q
end
end Nd
namespace Nd
set_option autoImplicit false
open PySem PySem.W L2 My Evl
section
variable {κ β : Type} [DecidableEq κ] {P : Program} {w : World} {K : PySem.W.Frag} {ky : Ky K κ} {vp : β → Pr}
variable {B H : Hp} {σ : L2.St} {te tk tv : TE} {g : TG} {tt : TT} {vs : List Nat} {ps : List Pr} {Q : VK}
end
end Nd
namespace Nd
set_option autoImplicit false
open PySem PySem.Spec PySem.W PySem.Calls PyProof.Rows L2 My Evl
/-! ### sorted of a list, by data -/
section
variable {X : Cx}
end
end Nd
namespace Nd
set_option autoImplicit false
open PySem PySem.W L2 My Evl PyProof.Rows
section
variable {te : TE} {σ : L2.St} {B H : Hp} {K : PySem.W.Frag} {ps : List Pr}
end
/-! ### sorting by data, any things -/
section
variable {α : Type}
end
section
variable {κ β : Type} [DecidableEq κ] [Od κ] [Lean.Grind.CommRing β] [DecidableEq β]
end
open Classical in
section
variable {C H : Hp}
end
end Nd
namespace My
set_option autoImplicit false
open PySem PySem.Spec PySem.W PySem.Calls PyProof.Rows L2 Evl NdefX LamX
section
variable {X : Cx} {pins : List (Addr × Obj)} {σ : L2.St} {A : Around} {f S I l : Addr} {fo : Obj} {R : Result → Shared → Prop} {xs : List V} {ks : List PyData} {H0 : Hp}
end
end My
namespace My
set_option autoImplicit false
open PySem PySem.Spec PySem.W PySem.Calls PyProof.Rows L2 Evl NdefX LamX
end My
namespace Nd
set_option autoImplicit false
open PySem PySem.Spec PySem.W PySem.Calls PyProof.Rows L2 My Evl
section
variable {X : Cx}
end
/-! ### a tuple, its object known as it stands -/
section
variable {κ β : Type} [DecidableEq κ] {P : Program} {w : World} {K : PySem.W.Frag} {ky : Ky K κ} {vp : β → Pr}
end
end Nd
namespace PySem.W
set_option autoImplicit false
open PySem PySem.Calls PyProof.Rows PySem.SeqAt
theorem keyLt'_general (x y : Value) : keyLt' general' x y = oneLt' false x y := rfl
section
variable {prog : Program} {w : World} {A : Around} {E : Value → Shared → Prop} {s : Shared}
/-- the call of tuple's own __lt__, as sorting makes it -/
theorem call_tuple_lt {Q : Value → Shared → Prop} {l b : Addr} {items items2 : Array Value} {e r : Nat → Bool} (hl : s.heap.IsTuple l items) (hb : s.heap.IsTuple b items2)
    (he : ∀ j (h1 : j < items.size) (h2 : j < items2.size), EqAt A.in1 s items[j] items2[j] (e j)) (hr : ∀ j (h1 : j < items.size) (h2 : j < items2.size), e j = false → RcLt A.in1 s items[j] items2[j] (r j))
    (h : Q (.bool (firstLt e r (decide (items.size < items2.size)) (List.range (min items.size items2.size)))) s) : wpAny (model prog w) A (call (.builtin "tuple.__lt__") [.ref l, .ref b]) Q E s := by
  obtain ⟨⟨cls, dd, data, sl⟩, ho, hc, n, hd⟩ := id hl
  obtain ⟨⟨cls2, dd2, data2, sl2⟩, ho2, hc2, n2, hd2⟩ := id hb
  simp only at hc hd hc2 hd2
  subst hc hd hc2 hd2
  exact call_meets F.slot_tuple_lt ⟨_, ho, rfl⟩ F.entry_tuple_lt (F.args_tuple_lt_2 _ _) (tuple_ltAt l b items items2 n n2 dd dd2 sl sl2 e r) ⟨ho, ho2, he, hr, h⟩
theorem oneLt_tup {xs ys : List PyData} {a b : Value} {as bs : List Addr} {Q : Bool → Shared → Prop} (ra : Reads s.heap a (.tuple xs) as) (rb : Reads s.heap b (.tuple ys) bs) (h : alike (.tuple xs) (.tuple ys) = true)
    (hu : A.units + min (PyData.tuple xs).depth (PyData.tuple ys).depth < cLine) (hq : Q (dataLt (.tuple xs) (.tuple ys)) s) : wpAny (model prog w) A (oneLt' true a b) Q E s := by
  have hal : alikeAll xs ys = true := by simpa [alike] using h
  cases ra with
  | @tuple l o vs n _ as₁ h1 h2 h3 h4 =>
    cases rb with
    | @tuple l' o' vs' n' _ bs₁ k1 k2 k3 k4 =>
      have n1 : vs.size = xs.length := by simpa using SeqAt.ReadsAll.length _ _ _ h4
      have n2 : vs'.size = ys.length := by simpa using SeqAt.ReadsAll.length _ _ _ k4
      rw [dataLt_tuple, ← firstLt_toks xs ys hal, ← n1, ← n2] at hq
      rw [oneLt'_eq]
      simp only [if_true]
      refine wpAny_bind (wpAny_cRoomFor (room_here hu) ?_)
      refine wpAny_bind (wpAny_callSpecialIfBound?_slot (T := "tuple") ⟨_, h1, h2⟩ F.slot_tuple_lt (call_tuple_lt (e := pairEq xs ys) (r := fun j => dataLt (xs.getD j .none) (ys.getD j .none)) ⟨_, h1, h2, _, h3⟩ ⟨_, k1, k2, _, k3⟩ (fun j j1 j2 => ?_) (fun j j1 j2 hj => ?_) ?_))
      · have := eqAt_alikeAll xs ys A.in1 s vs.toList vs'.toList _ _ h4 k4 hal (room_in hu) j (by simpa using j1) (by simpa using j2)
        simpa using this
      · have := rcLt_alikeAll xs ys A.in1 s vs.toList vs'.toList _ _ h4 k4 hal (room_in hu) j (by simpa using j1) (by simpa using j2) hj
        simpa using this
      · exact wpAny_truthy_bool hq
theorem each_right {α β : Type} {R : α → β → Prop} : ∀ {as : List α} {bs : List β}, EachIs R as bs → ∀ b ∈ bs, ∃ a ∈ as, R a b
  | _, _, .nil, b, h => absurd h (by simp)
  | _, _, .cons (a := x) h t, b, hb => by
    rcases List.mem_cons.mp hb with rfl | hb
    · exact ⟨x, List.mem_cons_self .., h⟩
    · obtain ⟨a, ha, r⟩ := each_right t b hb
      exact ⟨a, List.mem_cons_of_mem _ ha, r⟩
theorem tup_first {h : Heap} {xs : List PyData} {v : Value} {as : List Addr} (r : Reads h v (.tuple xs) as) : ∃ a o vs n, v = .ref a ∧ h.get? a = some o ∧ o.cls = .type "tuple" ∧ o.data = .seq vs n ∧ (vs[0]?.isSome = true ↔ xs ≠ []) := by
  cases r with
  | @tuple l o vs n _ as₁ h1 h2 h3 h4 =>
    have n1 : vs.size = xs.length := by simpa using SeqAt.ReadsAll.length _ _ _ h4
    refine ⟨l, o, vs, n, rfl, h1, h2, h3, ?_⟩
    cases xs with
    | nil =>
      have : vs[0]? = none := Array.getElem?_eq_none (by rw [n1]; exact Nat.le_refl _)
      rw [this]
      simp
    | cons x r =>
      have : vs[0]? = some (vs[0]'(by rw [n1]; exact Nat.succ_pos _)) := Array.getElem?_eq_getElem _
      rw [this]
      simp
theorem each_firsts {M : Model} : ∀ {vs : List Value} {ds : List PyData}, EachIs (fun v d => ∃ as, Reads s.heap v d as) vs ds → (∀ d ∈ ds, ∃ xs, d = .tuple xs) →
    ∃ fs : List (Option Value), (∀ (Q : List (Option Value) → Shared → Prop), Q fs s → wpAny M A (vs.mapM firstOfTuple') Q E s) ∧ EachIs (fun f d => f.isSome = true ↔ d ≠ .tuple []) fs ds
  | _, _, .nil, _ => ⟨[], fun Q q => by rw [List.mapM_nil]; exact wpAny_pure q, .nil⟩
  | _, _, .cons (b := d) ⟨as, r⟩ t, ht => by
    obtain ⟨fs, h1, h2⟩ := each_firsts (M := M) t fun d hd => ht d (List.mem_cons_of_mem _ hd)
    obtain ⟨xs, rfl⟩ := ht d (List.mem_cons_self ..)
    obtain ⟨a, o, vs, n, rfl, ho, hc, hd, hf⟩ := tup_first r
    refine ⟨vs[0]? :: fs, fun Q q => ?_, .cons ?_ h2⟩
    · rw [List.mapM_cons]
      refine wpAny_bind ?_
      rw [kas_first_eq]
      refine wpAny_bind (Looks.here (show Looks M s.heap (typeOf (.ref a)) o.cls from (Looks.ld ho).andThen .now) ?_)
      rw [hc, if_neg (by first | decide | simp)]
      refine wpAny_bind (listItems_at ho hd (wpAny_pure ?_))
      exact wpAny_bind (h1 (fun bs s' => wpAny M A (pure (vs[0]? :: bs)) Q E s') (wpAny_pure q))
    · rw [hf]
      constructor
      · intro h e
        injection e with e
        exact h e
      · intro h e
        exact h (by rw [e])
/-- tuples, some of them empty, can be sorted -/
theorem SortsAt.tups {vs : List Value} {ds : List PyData} (e : EachIs (fun v d => ∃ as, Reads s.heap v d as) vs ds) (hal : AllAlike ds) (hk : ∀ d ∈ ds, ∃ xs, d = PyData.tuple xs) (hu : ∀ d, d ∈ ds → A.units + d.depth < cLine) : SortsAt prog w A s (dataKind s.heap ds) vs := by
  by_cases hne : ∀ d ∈ ds, d ≠ PyData.tuple []
  · refine SortsAt.data e hal (.inl fun d hd => ?_) hu
    obtain ⟨xs, rfl⟩ := hk d hd
    cases xs with
    | nil => exact absurd rfl (hne _ hd)
    | cons x r => exact ⟨x, r, rfl⟩
  · have room : ∀ {d d' : PyData}, d ∈ ds → A.units + min d.depth d'.depth < cLine := fun {d d'} hd => Nat.lt_of_le_of_lt (Nat.add_le_add_left (Nat.min_le_left _ _) _) (hu d hd)
    have hsome : ∃ d ∈ ds, d = PyData.tuple [] := Classical.byContradiction fun hn => hne fun d hd he => hn ⟨d, hd, he⟩
    have kind : ∃ f : Bool, ∀ (E : Value → Shared → Prop) {Q : SortKind → Shared → Prop}, Q (cond f general' oneType') s → wpAny (model prog w) A (keyKind' vs.toArray) Q E s := by
      obtain ⟨fs, -, h2⟩ := each_firsts (A := A) (E := fun _ _ => True) (M := model prog w) e hk
      have hnall : (fs.toArray.all fun x => x.isSome) = false := by
        rw [List.all_toArray, List.all_eq_false]
        obtain ⟨d, hd, he⟩ := hsome
        obtain ⟨f, hf, hfd⟩ := each_right h2 d hd
        exact ⟨f, hf, fun q => hfd.mp q he⟩
      refine ⟨(fs.toArray[0]?.bind id).isSome, fun E Q hq => ?_⟩
      obtain ⟨fs', h1, h2'⟩ := each_firsts (A := A) (E := E) (M := model prog w) e hk
      rw [keyKind'_eq, List.mapM_toArray, map_eq_pure_bind]
      refine wpAny_bind (wpAny_bind (h1 _ (wpAny_pure ?_)))
      have hnall' : (fs'.toArray.all fun x => x.isSome) = false := by
        rw [List.all_toArray, List.all_eq_false]
        obtain ⟨d, hd, he⟩ := hsome
        obtain ⟨f, hf, hfd⟩ := each_right h2' d hd
        exact ⟨f, hf, fun q => hfd.mp q he⟩
      rw [hnall']
      rw [if_neg Bool.false_ne_true]
      have hsame : (fs'.toArray[0]?.bind id).isSome = (fs.toArray[0]?.bind id).isSome := by
        cases h2 with
        | nil =>
          cases h2'
          rfl
        | cons a b =>
          cases h2' with
          | cons a' b' =>
            simp only [List.getElem?_toArray, List.getElem?_cons_zero, Option.bind_some, id]
            rw [Bool.eq_iff_iff]
            exact a'.trans a.symm
      rw [hsame]
      cases hb : (fs.toArray[0]?.bind id).isSome with
      | true =>
        rw [hb] at hq
        rw [if_pos rfl]
        exact wpAny_pure hq
      | false =>
        rw [hb] at hq
        rw [if_neg Bool.false_ne_true]
        have looks : ∀ v ∈ vs, Looks (model prog w) s.heap (typeOf v) (Value.type "tuple") := fun v hv => by
          obtain ⟨d, hd, as, r⟩ := e.left v hv
          obtain ⟨xs, rfl⟩ := hk d hd
          exact looks_reads r
        have hpos : 0 < vs.length := by
          obtain ⟨d, hd, he⟩ := hsome
          obtain ⟨v, hv, -⟩ := each_right e d hd
          exact List.length_pos_of_mem hv
        rw [oneTypeOnly'_eq, List.mapM_toArray, map_eq_pure_bind]
        refine wpAny_bind (wpAny_bind (wpAny_bind (kas_mapM (r := Value.type "tuple") _ (fun v hv Q' hq => (looks v hv).here hq) (wpAny_pure ?_))))
        have hall : ((List.map (fun _ => Value.type "tuple") vs).toArray.all fun x => x == Value.type "tuple") = true := by
          simp only [List.all_toArray, List.all_map, List.all_eq_true]
          intro _ _
          rfl
        have h0 : (List.map (fun _ => Value.type "tuple") vs).toArray[0]? = some (Value.type "tuple") := by
          cases vs with
          | nil => exact absurd hpos (Nat.lt_irrefl _)
          | cons v vs => simp
        rw [h0]
        simp only [hall, if_true]
        exact wpAny_pure (wpAny_pure hq)
    obtain ⟨f, hkind⟩ := kind
    refine ⟨fun v hv => ?_, cond f general' oneType', ?_, fun _ E Q hq => hkind E hq⟩
    · obtain ⟨d, hd, as, r⟩ := e.left v hv
      exact ⟨_, dataKind_some hal hd r⟩
    · intro E x y a b Q ha hb hq
      obtain ⟨d, as, hd, ra, rfl⟩ := dataKind_inv ha
      obtain ⟨d', as', hd', rb, rfl⟩ := dataKind_inv hb
      obtain ⟨xs, rfl⟩ := hk d hd
      obtain ⟨ys, rfl⟩ := hk d' hd'
      cases f with
      | true =>
        show wpAny (model prog w) A (keyLt' general' x y) Q E s
        rw [keyLt'_general]
        exact oneLt_alike (fun h => absurd h Bool.false_ne_true) ra rb (hal _ hd _ hd') (fun h => nomatch h) (room hd) hq
      | false =>
        show wpAny (model prog w) A (keyLt' oneType' x y) Q E s
        rw [keyLt'_oneType]
        exact oneLt_tup ra rb (hal _ hd _ hd') (room hd) hq
end
end PySem.W
-- PART2
namespace Nd
set_option autoImplicit false
open PySem PySem.Spec PySem.W PySem.Calls PyProof.Rows L2 My Evl
section
variable {X : Cx} {pins : List (Addr × Obj)} {σ : L2.St} {H : Hp} {s : Shared} {A : Around} {E : Value → Shared → Prop}
end
section
variable {X : Cx} {pins : List (Addr × Obj)} {σ : L2.St} {H : Hp} {s : Shared}
end
end Nd
local macro_rules | `(tactic| walk_at "cond") => `(tactic| (refine My.isP ?_; first
  | decide
  | omega
  | (dsimp only; first | omega | decide)
  | exact ⟨by decide, by decide, by decide⟩
  | exact ⟨by decide, by decide⟩
  | exact ⟨by omega, by omega⟩
  | exact Or.inl ⟨by omega, by omega⟩
  | exact Or.inr ⟨by omega, by omega⟩))
local macro_rules | `(tactic| walk_at "go") => `(tactic| repeat (first
  | refine ⟨_, _, rfl, rfl, (by (walk_at "cond"); done), ?_⟩
  | refine ⟨_, _, rfl, rfl, ?_⟩
  | refine ⟨_, rfl, ?_⟩
  | refine ⟨rfl, ?_⟩
  | refine ⟨⟨_, rfl⟩, ?_⟩))
namespace K12
set_option autoImplicit false
open PySem PySem.W L2 Evl My Nd
def topS (i : Nat) : Stmt := PySem.Challenge.pw_rankedchains_k57_jets_cut_and_added.main.body.getD i (.Pass ⟨0, 0, 0, 0⟩)
def Ramong : List Pr → Pr → Prop := fun ps p => ∃ t l m : Int, ps = [IsV (.int t), IsV (.int l), IsV (.int m)] ∧ p = IsV (.bl (decide (l ≤ t) && decide (t ≤ m)))
def Raxis : List Pr → Pr → Prop := fun ps p => ∃ x : Str, ps = [IsV (.str x)] ∧ x ∈ [("x" : Str), "y"] ∧ p = IsV (.bl true)
def RnamesA (K : PySem.W.Frag) : List Pr → Pr → Prop := fun ps p => ∃ r : Rk, r.Ok ∧ ps = [NmP r.ns] ∧ p = IsV (.bl true)
def RaxesA (K : PySem.W.Frag) : List Pr → Pr → Prop := fun ps p => ∃ r : Rk, ps = [IsD K (.tuple (r.axs.map .str))] ∧ p = IsV (.bl true)
def Rrd (K : PySem.W.Frag) (q : Rk → Dv → Pr) : List Pr → Pr → Prop := fun ps p => ∃ (r : Rk) (u : Dv), r.Ok ∧ u.Of r ∧ ps = [RkP K r, DvP u] ∧ p = q r u
theorem all1 {p : Pr} {vs : List V} {H : Hp} (h : AllP [p] vs H) : ∃ v, vs = [v] ∧ p.P v H := by
  match vs, h with
  | [v], h => exact ⟨v, rfl, h.1⟩
theorem all2 {p q : Pr} {vs : List V} {H : Hp} (h : AllP [p, q] vs H) : ∃ v u, vs = [v, u] ∧ p.P v H ∧ q.P u H := by
  match vs, h with
  | [v, u], h => exact ⟨v, u, rfl, h.1, h.2.1⟩
theorem all3 {p q r : Pr} {vs : List V} {H : Hp} (h : AllP [p, q, r] vs H) : ∃ v u t, vs = [v, u, t] ∧ p.P v H ∧ q.P u H ∧ r.P t H := by
  match vs, h with
  | [v, u, t], h => exact ⟨v, u, t, rfl, h.1, h.2.1, h.2.2.1⟩
theorem dec_axes (r : Rk) : ([PyData.tuple [.str "x"], .tuple [.str "x", .str "y"], .tuple [.str "y", .str "x"]].any fun z => PyData.eqv z (.tuple (r.axs.map .str))) = true := by
  have : ∀ a : Fin 3, ([PyData.tuple [.str "x"], .tuple [.str "x", .str "y"], .tuple [.str "y", .str "x"]].any fun z => PyData.eqv z (.tuple ((axsOf a).map .str))) = true := by decide +kernel
  exact this r.ax
section
variable {P : Program} {w : World} {K : PySem.W.Frag} {mg : Str → Option Value} {base : Heap}

/-- is_whole -/
abbrev s_is_whole : Stmt := topS 10
abbrev N_is_whole : List Str := ["thing"]
theorem sc_is_whole : FnScope N_is_whole ["thing"] (defScope s_is_whole) := ⟨rfl, rfl, rfl, by decide +kernel, rfl, by decide +kernel, by decide +kernel⟩
theorem ok_is_whole {f : Addr} {fd : FuncData} (F : Fun K "is_whole" "is_whole" s_is_whole f fd)   (n_isinstance : mg "isinstance" = none) (n_int : mg "int" = none) (n_bool : mg "bool" = none)  :
    FnOk P w K mg base CX0 2 f fd ["thing"] (spP (RB K wholeB)) := by
  refine F.ok sc_is_whole (spP_len (by rintro _ _ ⟨_, _, _, _, rfl, rfl⟩; rfl)) (fun cdv A outer s H vs Q E hr h => ?_)
  obtain ⟨B, ps, p, eB, hv, ⟨qd, d, tq, hs, rfl, rfl⟩, q⟩ := h
  obtain ⟨v, rfl, h1⟩ := all1 hv
  have hu := hu_of hr
  refine ⟨_, (pss_one (ps_ret (pe_and (pe_callB call_isi (by rfl) n_isinstance (by decide +kernel) (pa_cons (pv 0) (pa_cons (pe_bltn (v := .ty "int") (u := .type "int") (by rfl) n_int (by decide +kernel) rfl) pa_nil))) (pe_one (pe_not (pe_callB call_isi (by rfl) n_isinstance (by decide +kernel) (pa_cons (pv 0) (pa_cons (pe_bltn (v := .ty "bool") (u := .type "bool") (by rfl) n_bool (by decide +kernel) rfl) pa_nil)))))))), ?_⟩
  have hd : EvP (tVar 0) [some v] B (IsD K d) := p_to (p_var rfl h1) tq
  refine My.ps_ret eB (p_ev (v := .bl (wholeB d)) (ev_is (ev_andV (a := (match d with | .int _ => true | .bool _ => true | _ => false)) (b := (match d with | .bool _ => false | _ => true)) (ev_isi (K := K) hd ?_) fun _ => ev_is (ev_notV (a := (match d with | .bool _ => true | _ => false)) (ev_isi (K := K) hd ?_)) ?_) ?_)) fun v B1 H1 g hp => q v B1 H1 g hp
  · cases d <;> (dsimp only [tyS]; decide +kernel)
  · cases d <;> (dsimp only [tyS]; decide +kernel)
  · cases d <;> rfl
  · cases d <;> rfl

/-- is_name -/
abbrev s_is_name : Stmt := topS 12
abbrev N_is_name : List Str := ["thing", "sign"]
theorem sc_is_name : FnScope N_is_name ["thing"] (defScope s_is_name) := ⟨rfl, rfl, rfl, by decide +kernel, rfl, by decide +kernel, by decide +kernel⟩
theorem ok_is_name {f : Addr} {fd : FuncData} (F : Fun K "is_name" "is_name" s_is_name f fd)   (n_isinstance : mg "isinstance" = none) (n_str : mg "str" = none) (n_len : mg "len" = none) (n_all : mg "all" = none) {tk1 tk2 : Nat} (g_MOST_LETTERS : mg "MOST_LETTERS" = some (.int 8 tk1)) (g_LETTERS : mg "LETTERS" = some (.str "abcdefghijklmnopqrstuvwxyz" tk2)) :
    FnOk P w K mg base CX0 2 f fd ["thing"] (spP (RB K nameB)) := by
  refine F.ok sc_is_name (spP_len (by rintro _ _ ⟨_, _, _, _, rfl, rfl⟩; rfl)) (fun cdv A outer s H vs Q E hr h => ?_)
  obtain ⟨B, ps, p, eB, hv, ⟨qd, d, tq, hs, rfl, rfl⟩, q⟩ := h
  obtain ⟨v, rfl, h1⟩ := all1 hv
  have hu := hu_of hr
  refine ⟨_, (pss_cons (ps_if (PW.pt (pw_or (pt_not (pt_val (pe_callB call_isi (by rfl) n_isinstance (by decide +kernel) (pa_cons (pv 0) (pa_cons (pe_bltn (v := .ty "str") (u := .type "str") (by rfl) n_str (by decide +kernel) rfl) pa_nil))))) (pw_or1 (pt_not (pt_chain op_le op_le pe_int (pe_callB call_len_str (by rfl) n_len (by decide +kernel) (pa_cons (pv 0) pa_nil)) (pe_glob (by rfl) (v := .int 8) g_MOST_LETTERS ⟨_, rfl⟩)))))) (pss_one (ps_ret pe_bl)) pss_nil)
    (pss_one (ps_ret (pe_callB (cr_all rfl) (by rfl) n_all (by decide +kernel) (pa_cons (pe_lc (own := [("sign", 1)]) rfl sc_is_name.nd (pi_str (pv 0)) (blkOk_by (N := N_is_name) (sc := defScope s_is_name) (by decide +kernel)) (fun _ _ _ _ _ => (pg_name (i := 1) sc_is_name.nd rfl (Or.inl rfl))) (fun _ _ _ _ _ => pts_nil) (fun _ _ _ _ _ => (pe_cmpR op_in_sign (pv 1) (pe_glob (by rfl) (v := .str "abcdefghijklmnopqrstuvwxyz") g_LETTERS ⟨_, rfl⟩) (by rfl)))) pa_nil))))), ?_⟩
  have hd : Dp K B v d := tq _ _ h1
  have isS : Ev (tCB (rIsi K) (tCons (tVar 0) (tCons (tC (.ty "str")) tNil))) [some v] B (.bl (match d with | .str _ => true | _ => false)) := ev_isi (K := K) (p_var (p := IsD K d) rfl hd) (by cases d <;> (dsimp only [tyS]; decide +kernel))
  by_cases hx : ∃ x, d = .str x
  · obtain ⟨x, rfl⟩ := hx
    obtain rfl : v = .str x := by cases hd; rfl
    have hl : x.length ≤ 100000 := by
      have := hs
      unfold smB at this
      exact of_decide_eq_true this
    cases hb : decide ((1 : Int) ≤ (x.length : Int)) && decide ((x.length : Int) ≤ 8) with
    | false =>
      refine ps_ifT eB (et_is (et_or (a := false) (b := true) (et_is (et_not (et_test isS)) rfl) fun _ => et_is (et_not (et_test (ev_chain (r1 := fun i j => decide (i ≤ j)) (r2 := fun i j => decide (i ≤ j)) ev_c (ev_lenS (x := x) (ev_var rfl) hl) ev_c))) (by rw [hb]; rfl)) rfl) fun H1 e1 => ?_
      refine My.ps_ret (eB.trans e1) (p_c (v := .bl false)) fun v B1 H2 g hp => q v B1 H2 ((Gr.wide eB e1).trans g) ?_
      have : nameB (.str x) = false := by
        show (decide (1 ≤ x.length) && decide (x.length ≤ 8) && _) = false
        have e1 : (decide (1 ≤ x.length) && decide (x.length ≤ 8)) = false := by
          rw [← hb]
          congr 1 <;> (apply decide_eq_decide.mpr; omega)
        rw [e1]
        rfl
      rw [this]
      exact hp
    | true =>
      refine ps_ifN eB (et_is (et_or (a := false) (b := false) (et_is (et_not (et_test isS)) rfl) fun _ => et_is (et_not (et_test (ev_chain (r1 := fun i j => decide (i ≤ j)) (r2 := fun i j => decide (i ≤ j)) ev_c (ev_lenS (x := x) (ev_var rfl) hl) ev_c))) (by rw [hb]; rfl)) rfl) fun H1 e1 => ?_
      dsimp only
      simp only [Bool.and_eq_true, decide_eq_true_eq] at hb
      refine My.ps_ret (eB.trans e1) (p_ev (v := .bl (nameB (.str x))) (ev_is (ev_allL (K := K) (bs := (List.range x.cps.size).map fun i => decide (x.cps.getD i 0 ∈ (Str.ofString "abcdefghijklmnopqrstuvwxyz").cps.toList)) ?_) ?_)) fun v B1 H2 g hp => q v B1 H2 ((Gr.wide eB e1).trans g) hp
      rotate_left
      · rw [all_cps x fun c => decide (c ∈ (Str.ofString "abcdefghijklmnopqrstuvwxyz").cps.toList)]
        refine congrArg V.bl ?_
        show _ = isNmB x
        unfold isNmB
        rw [decide_eq_true (show 1 ≤ x.length by omega), decide_eq_true (show x.length ≤ 8 by omega)]
        exact congrArg (x.cps.toList.all) (funext fun c => low_let)
      rw [List.map_map]
      refine p_lcA (K := K) (src_str (x := x) (ev_var rfl)) (by show x.length ≤ _; omega) (fun i => .bool (decide (x.cps.getD i 0 ∈ (Str.ofString "abcdefghijklmnopqrstuvwxyz").cps.toList))) fun i v B1 hi e pv => ?_
      obtain rfl : v = .str (oneS x i) := pv
      exact ⟨[some (.str x), some (.str (oneS x i))], rfl, fun H2 Q e q => q, ed_bl (ev_sign (c := x.cps.getD i 0) (z := "abcdefghijklmnopqrstuvwxyz") (ev_var rfl) ev_c)⟩
  · have hn : nameB d = false := by cases d <;> first | rfl | exact absurd ⟨_, rfl⟩ hx
    refine ps_ifT eB (et_is (et_or (a := true) (b := true) (et_is (et_not (et_test isS)) (by cases d <;> first | rfl | exact absurd ⟨_, rfl⟩ hx)) fun z => nomatch z) rfl) fun H1 e1 => ?_
    refine My.ps_ret (eB.trans e1) (p_c (v := .bl false)) fun v B1 H2 g hp => q v B1 H2 ((Gr.wide eB e1).trans g) ?_
    rw [hn]
    exact hp

/-- is_axis -/
abbrev s_is_axis : Stmt := topS 13
abbrev N_is_axis : List Str := ["thing"]
theorem sc_is_axis : FnScope N_is_axis ["thing"] (defScope s_is_axis) := ⟨rfl, rfl, rfl, by decide +kernel, rfl, by decide +kernel, by decide +kernel⟩
theorem ok_is_axis {f : Addr} {fd : FuncData} (F : Fun K "is_axis" "is_axis" s_is_axis f fd)   (n_isinstance : mg "isinstance" = none) (n_str : mg "str" = none) {aA : Addr} (g_AXES : mg "AXES" = some (.ref aA)) (v_AXES : ∀ H, Dp K H (.ref aA) (.tuple ([("x" : Str), "y"].map .str))) :
    FnOk P w K mg base CX0 1 f fd ["thing"] (spP Raxis) := by
  refine F.ok sc_is_axis (spP_len (by rintro _ _ ⟨x, rfl, _, rfl⟩; rfl)) (fun cdv A outer s H vs Q E hr h => ?_)
  obtain ⟨B, ps, p, eB, hv, ⟨x, rfl, hx, rfl⟩, q⟩ := h
  obtain ⟨v, rfl, h1⟩ := all1 hv
  obtain rfl : v = .str x := h1
  have hu := hu_of hr
  refine ⟨_, (pss_one (ps_ret (pe_and (pe_callB call_isi (by rfl) n_isinstance (by decide +kernel) (pa_cons (pv 0) (pa_cons (pe_bltn (v := .ty "str") (u := .type "str") (by rfl) n_str (by decide +kernel) rfl) pa_nil))) (pe_one (pe_cmpR op_in_seq (pv 0) (pe_glob (by rfl) (v := .ref aA) g_AXES rfl) (by rfl)))))), ?_⟩
  refine ps_ret eB (p_ev (v := .bl true) (ev_andV (a := true) (b := true) (ev_isi (K := K) (d := .str x) (ed_st (ev_var rfl)) k_ss) fun _ => ev_is (ev_inT (neg := false) (ys := ["x", "y"]) (ev_var rfl) (ed_ref (v_AXES B))) ?_)) fun v B1 H1 g hp => q v B1 H1 g hp
  simp only [Bool.false_eq_true, if_false]
  rw [decide_eq_true hx]

end
end K12
namespace K12
set_option autoImplicit false
open PySem PySem.W L2 Evl My Nd
section
variable {P : Program} {w : World} {K : PySem.W.Frag} {mg : Str → Option Value} {base : Heap}
/-- is_derivative -/
abbrev s_is_derivative : Stmt := topS 19
abbrev N_is_derivative : List Str := ["thing", "name", "by_x", "by_y"]
theorem sc_is_derivative : FnScope N_is_derivative ["thing"] (defScope s_is_derivative) := ⟨rfl, rfl, rfl, by decide +kernel, rfl, by decide +kernel, by decide +kernel⟩
theorem ok_is_derivative {f : Addr} {fd : FuncData} (F : Fun K "is_derivative" "is_derivative" s_is_derivative f fd)  {f_is_name : Addr} {d_is_name : FuncData} (c_is_name : Cal P w K mg base "is_name" 2 ["thing"] (spP (RB K nameB)) f_is_name d_is_name) {f_is_whole : Addr} {d_is_whole : FuncData} (c_is_whole : Cal P w K mg base "is_whole" 2 ["thing"] (spP (RB K wholeB)) f_is_whole d_is_whole) (n_isinstance : mg "isinstance" = none) (n_tuple : mg "tuple" = none) (n_len : mg "len" = none)  :
    FnOk P w K mg base CX0 3 f fd ["thing"] (spP (RB K dvB)) := by
  refine F.ok sc_is_derivative (spP_len (by rintro _ _ ⟨_, _, _, _, rfl, rfl⟩; rfl)) (fun cdv A outer s H vs Q E hr h => ?_)
  obtain ⟨B, ps, p, eB, hv, ⟨qd, d, tq, hs, rfl, rfl⟩, q⟩ := h
  obtain ⟨v, rfl, h1⟩ := all1 hv
  have hu := hu_of hr
  refine ⟨_, (pss_cons (ps_if (PW.pt (pw_or (pt_not (pt_val (pe_callB call_isi (by rfl) n_isinstance (by decide +kernel) (pa_cons (pv 0) (pa_cons (pe_bltn (v := .ty "tuple") (u := .type "tuple") (by rfl) n_tuple (by decide +kernel) rfl) pa_nil))))) (pw_or1 (pt_cmpR op_ne (pe_callB call_len_seq (by rfl) n_len (by decide +kernel) (pa_cons (pv 0) pa_nil)) pe_int (nomark _))))) (pss_one (ps_ret pe_bl)) pss_nil)
    (pss_cons (ps_asg (pv 0) (pg_tup (by rfl) (pgs_cons (pg_name (i := 1) sc_is_derivative.nd rfl (by first | exact .inl rfl | exact .inr rfl)) (pgs_cons (pg_name (i := 2) sc_is_derivative.nd rfl (by first | exact .inl rfl | exact .inr rfl)) (pgs_cons (pg_name (i := 3) sc_is_derivative.nd rfl (by first | exact .inl rfl | exact .inr rfl)) pgs_nil)))))
    (pss_one (ps_ret (pe_and (pe_call c_is_name.G (hr.mono (by decide)) (by rfl) c_is_name.m c_is_name.k c_is_name.b .nil pass0 (pa_cons (pv 1) pa_nil)) (pe_and (pe_call c_is_whole.G (hr.mono (by decide)) (by rfl) c_is_whole.m c_is_whole.k c_is_whole.b .nil pass0 (pa_cons (pv 2) pa_nil)) (pe_and (pe_call c_is_whole.G (hr.mono (by decide)) (by rfl) c_is_whole.m c_is_whole.k c_is_whole.b .nil pass0 (pa_cons (pv 3) pa_nil)) (pe_and (pe_cmpR op_ge (pv 2) pe_int (nomark _)) (pe_one (pe_cmpR op_ge (pv 3) pe_int (nomark _))))))))))), ?_⟩
  have hd : Dp K B v d := tq _ _ h1
  cases ht : tupN 3 d with
  | false =>
    refine ps_ifT eB (et_is (et_tupN (n := 3) (p_var (p := IsD K d) rfl hd)) (by rw [ht]; rfl)) fun H1 e1 => ?_
    refine My.ps_ret (eB.trans e1) (p_c (v := .bl false)) fun v B1 H2 g hp => q v B1 H2 ((Gr.wide eB e1).trans g) ?_
    rw [show dvB d = false from by unfold dvB; rw [ht]; rfl]
    exact hp
  | true =>
    refine ps_ifN eB (et_is (et_tupN (n := 3) (p_var (p := IsD K d) rfl hd)) (by rw [ht]; rfl)) fun H1 e1 => ?_
    dsimp only
    have s0 := smd_it hs 0
    have s1 := smd_it hs 1
    have s2 := smd_it hs 2
    have ed : dvB d = (nameB (it 0 d) && (wholeB (it 1 d) && (wholeB (it 2 d) && (decide (0 ≤ intOf (it 1 d)) && decide (0 ≤ intOf (it 2 d)))))) := by unfold dvB; rw [ht]; rfl
    refine ps_un3 (K := K) (eB.trans e1) (p_var (p := IsD K (.tuple [it 0 d, it 1 d, it 2 d])) rfl (by rw [← tpl3 ht]; exact hd)) fun w1 w2 w3 B2 H2 g2 n1 n2 n3 => ?_
    dsimp only
    refine My.ps_ret g2.c (p_ev (v := .bl (dvB d)) (ev_is (ev_andV (a := nameB (it 0 d)) (b := (wholeB (it 1 d) && (wholeB (it 2 d) && (decide (0 ≤ intOf (it 1 d)) && decide (0 ≤ intOf (it 2 d)))))) (ev_p (p_callP (ps := [IsD K (it 0 d)]) (q_cons (p_var rfl n1) q_nil) ⟨_, _, to_id, s0, rfl, rfl⟩)) fun _ =>
      ev_andV (ev_p (p_callP (ps := [IsD K (it 1 d)]) (q_cons (p_var rfl n2) q_nil) ⟨_, _, to_id, s1, rfl, rfl⟩)) fun k1 => ev_andV (ev_p (p_callP (ps := [IsD K (it 2 d)]) (q_cons (p_var rfl n3) q_nil) ⟨_, _, to_id, s2, rfl, rfl⟩)) fun k2 =>
      ev_andV (ev_op (ev_in (K := K) (p_var (p := IsD K (.int (intOf (it 1 d)))) rfl (by rw [← wholeB_ex k1]; exact n2))) ev_c rv_I0) fun _ => ev_op (ev_in (K := K) (p_var (p := IsD K (.int (intOf (it 2 d)))) rfl (by rw [← wholeB_ex k2]; exact n3))) ev_c rv_I0) (by rw [ed]))) fun v B3 H3 g hp => q v B3 H3 (((Gr.wide eB e1).trans g2).trans g) hp

/-- _are_names -/
abbrev s__are_names : Stmt := topS 26
abbrev N__are_names : List Str := ["thing", "name"]
theorem sc__are_names : FnScope N__are_names ["thing"] (defScope s__are_names) := ⟨rfl, rfl, rfl, by decide +kernel, rfl, by decide +kernel, by decide +kernel⟩
theorem ok__are_names {f : Addr} {fd : FuncData} (F : Fun K "_are_names" "_are_names" s__are_names f fd)  {f_is_name : Addr} {d_is_name : FuncData} (c_is_name : Cal P w K mg base "is_name" 2 ["thing"] (spP (RB K nameB)) f_is_name d_is_name) (n_isinstance : mg "isinstance" = none) (n_tuple : mg "tuple" = none) (n_len : mg "len" = none) (n_all : mg "all" = none) (n_set : mg "set" = none) {tk1 : Nat} (g_MOST_NAMES : mg "MOST_NAMES" = some (.int 3 tk1)) :
    FnOk P w K mg base CX0 3 f fd ["thing"] (spP (RnamesA K)) := by
  refine F.ok sc__are_names (spP_len (by rintro _ _ ⟨r, _, rfl, rfl⟩; rfl)) (fun cdv A outer s H vs Q E hr h => ?_)
  obtain ⟨B, ps, p, eB, hv, ⟨r, hr0, rfl, rfl⟩, q⟩ := h
  obtain ⟨v, rfl, h1⟩ := all1 hv
  have hu := hu_of hr
  refine ⟨_, (pss_cons (ps_if (PW.pt (pw_or (pt_not (pt_val (pe_callB call_isi (by rfl) n_isinstance (by decide +kernel) (pa_cons (pv 0) (pa_cons (pe_bltn (v := .ty "tuple") (u := .type "tuple") (by rfl) n_tuple (by decide +kernel) rfl) pa_nil))))) (pw_or1 (pt_not (pt_chain op_le op_le pe_int (pe_callB call_len_seq (by rfl) n_len (by decide +kernel) (pa_cons (pv 0) pa_nil)) (pe_glob (by rfl) (v := .int 3) g_MOST_NAMES ⟨_, rfl⟩)))))) (pss_one (ps_ret pe_bl)) pss_nil)
    (pss_one (ps_ret (pe_and (pe_callB (cr_all rfl) (by rfl) n_all (by decide +kernel) (pa_cons (pe_lc (own := [("name", 1)]) rfl sc__are_names.nd (pi_tup (pv 0)) (blkOk_by (N := N__are_names) (sc := defScope s__are_names) (by decide +kernel)) (fun _ _ _ _ _ => (pg_name (i := 1) sc__are_names.nd rfl (Or.inl rfl))) (fun _ _ _ _ _ => pts_nil) (fun _ _ _ _ _ => (pe_call c_is_name.G (hr.mono (by decide)) (by rfl) c_is_name.m c_is_name.k c_is_name.b .nil pass0 (pa_cons (pv 1) pa_nil)))) pa_nil)) (pe_one (pe_cmpR op_eq (pe_lenSetT rfl (by rfl) n_len (by rfl) n_set (pv 0)) (pe_callB call_len_seq (by rfl) n_len (by decide +kernel) (pa_cons (pv 0) pa_nil)) (nomark _))))))), ?_⟩
  have hne := hr0.ne
  have hle := hr0.le
  refine ps_ifN eB (et_is (et_or (a := false) (b := false) (et_is (et_not (et_test (ev_isi (K := K) (d := .tuple (r.ns.map .str)) (ed_nm (p_var rfl h1)) k_tt))) rfl) fun _ => et_is (et_not (et_test (ev_chain (r1 := fun i j => decide (i ≤ j)) (r2 := fun i j => decide (i ≤ j)) ev_c (ev_lenD (K := K) (ed_nm (p_var rfl h1)) (.inl rfl)) ev_c))) (by simp; omega)) rfl) fun H1 e1 => ?_
  dsimp only
  refine My.ps_ret (eB.trans e1) (p_ev (v := .bl true) (ev_is (ev_andV (a := true) (b := true) (ev_is (ev_allL (K := K) (bs := (List.range (r.ns.map PyData.str).length).map fun _ => true) ?_) ?_) fun _ => ev_is (ev_op (ev_lenSet (xs := r.ns) (p_var rfl h1) hr0.nd (by omega)) (ev_lenD (K := K) (ed_nm (p_var rfl h1)) (.inl rfl)) (rv_eq rfl)) (by simp)) rfl)) fun v B1 H2 g hp => q v B1 H2 ((Gr.wide eB e1).trans g) hp
  rotate_left
  · simp
  rw [List.map_map]
  refine p_lcA (K := K) (src_tup (ed_nm (p_var rfl h1))) (by rw [List.length_map]; omega) (fun _ => .bool true) fun i v1 B1 hi e pv => ?_
  rw [List.length_map] at hi
  have ed : (r.ns.map PyData.str).getD i .none = .str r.ns[i] := by
    rw [List.getD_eq_getElem?_getD, List.getElem?_map, List.getElem?_eq_getElem hi]
    rfl
  obtain rfl : v1 = .str r.ns[i] := by
    have pv : Dp K B1 v1 ((r.ns.map PyData.str).getD i .none) := pv
    rw [ed] at pv
    cases pv
    rfl
  refine ⟨[some v, some (.str r.ns[i])], rfl, fun H2 Q e q => q, ed_bl (ev_p (p_callP (ps := [IsV (.str r.ns[i])]) (q_cons (p_varV rfl) q_nil) ⟨_, .str r.ns[i], to_str, smd_str (by have := (nm_facts (hr0.nm _ (List.getElem_mem hi))).2.1; omega), rfl, by rw [show nameB (.str r.ns[i]) = true from hr0.nm _ (List.getElem_mem hi)]⟩))⟩

/-- _are_axes -/
abbrev s__are_axes : Stmt := topS 27
abbrev N__are_axes : List Str := ["thing", "axis"]
theorem sc__are_axes : FnScope N__are_axes ["thing"] (defScope s__are_axes) := ⟨rfl, rfl, rfl, by decide +kernel, rfl, by decide +kernel, by decide +kernel⟩
theorem ax_len (r : Rk) : r.axs.length ≤ 2 := by
  have : ∀ a : Fin 3, (axsOf a).length ≤ 2 := by decide +kernel
  exact this r.ax
theorem ax_mem (r : Rk) : ∀ x ∈ r.axs, x ∈ [("x" : Str), "y"] := by
  have : ∀ a : Fin 3, ∀ x ∈ axsOf a, x ∈ [("x" : Str), "y"] := by decide +kernel
  exact this r.ax
theorem ax_shaped (r : Rk) : SeqAt.shaped (.tuple (r.axs.map .str)) = true := by
  have : ∀ a : Fin 3, SeqAt.shaped (.tuple ((axsOf a).map .str)) = true := by decide +kernel
  exact this r.ax
theorem ok__are_axes {f : Addr} {fd : FuncData} (F : Fun K "_are_axes" "_are_axes" s__are_axes f fd)  {f_is_axis : Addr} {d_is_axis : FuncData} (c_is_axis : Cal P w K mg base "is_axis" 1 ["thing"] (spP Raxis) f_is_axis d_is_axis) (n_isinstance : mg "isinstance" = none) (n_tuple : mg "tuple" = none) (n_all : mg "all" = none) {aL : Addr} (g_ALL : mg "AXES_ALL" = some (.ref aL)) (v_ALL : ∀ H, Dp K H (.ref aL) (.tuple [PyData.tuple [.str "x"], .tuple [.str "x", .str "y"], .tuple [.str "y", .str "x"]])) :
    FnOk P w K mg base CX0 2 f fd ["thing"] (spP (RaxesA K)) := by
  refine F.ok sc__are_axes (spP_len (by rintro _ _ ⟨r, rfl, rfl⟩; rfl)) (fun cdv A outer s H vs Q E hr h => ?_)
  obtain ⟨B, ps, p, eB, hv, ⟨r, rfl, rfl⟩, q⟩ := h
  obtain ⟨v, rfl, h1⟩ := all1 hv
  have hu := hu_of hr
  refine ⟨_, (pss_one (ps_ret (pe_and (pe_callB call_isi (by rfl) n_isinstance (by decide +kernel) (pa_cons (pv 0) (pa_cons (pe_bltn (v := .ty "tuple") (u := .type "tuple") (by rfl) n_tuple (by decide +kernel) rfl) pa_nil))) (pe_and (pe_callB (cr_all rfl) (by rfl) n_all (by decide +kernel) (pa_cons (pe_lc (own := [("axis", 1)]) rfl sc__are_axes.nd (pi_tup (pv 0)) (blkOk_by (N := N__are_axes) (sc := defScope s__are_axes) (by decide +kernel)) (fun _ _ _ _ _ => (pg_name (i := 1) sc__are_axes.nd rfl (Or.inl rfl))) (fun _ _ _ _ _ => pts_nil) (fun _ _ _ _ _ => (pe_call c_is_axis.G (hr.mono (by decide)) (by rfl) c_is_axis.m c_is_axis.k c_is_axis.b .nil pass0 (pa_cons (pv 1) pa_nil)))) pa_nil)) (pe_one (pe_cmpR (op_inT (by have h := hr.un; show (A.deeper _).units + 65 < cLine; omega)) (pv 0) (pe_glob (by rfl) (v := .ref aL) g_ALL rfl) (by rfl))))))), ?_⟩
  refine My.ps_ret eB (p_ev (v := .bl true) (ev_is (ev_andV (a := true) (b := true && true) (ev_isi (K := K) (d := .tuple (r.axs.map .str)) (ed_var rfl h1) k_tt) fun _ => ev_andV (ev_is (ev_allL (K := K) (bs := (List.range (r.axs.map PyData.str).length).map fun _ => true) ?_) ?_) fun _ => ev_is (ev_inDT (ed_var rfl h1) (ed_ref (v_ALL B)) (ax_shaped r) (by decide +kernel)) ?_) rfl)) fun v B1 H2 g hp => q v B1 H2 g hp
  · rw [List.map_map]
    have hl := ax_len r
    refine p_lcA (K := K) (src_tup (ed_var rfl h1)) (by rw [List.length_map]; omega) (fun _ => .bool true) fun i v1 B1 hi e pv => ?_
    rw [List.length_map] at hi
    have ed : (r.axs.map PyData.str).getD i .none = .str r.axs[i] := by
      rw [List.getD_eq_getElem?_getD, List.getElem?_map, List.getElem?_eq_getElem hi]
      rfl
    obtain rfl : v1 = .str r.axs[i] := by
      have pv : Dp K B1 v1 ((r.axs.map PyData.str).getD i .none) := pv
      rw [ed] at pv
      cases pv
      rfl
    refine ⟨[some v, some (.str r.axs[i])], rfl, fun H2 Q e q => q, ed_bl (ev_p (p_callP (ps := [IsV (.str r.axs[i])]) (q_cons (p_varV rfl) q_nil) ⟨r.axs[i], rfl, ax_mem r _ (List.getElem_mem hi), rfl⟩))⟩
  · simp
  · rw [dec_axes]

/-- need_ranking -/
abbrev s_need_ranking : Stmt := topS 25
abbrev N_need_ranking : List Str := ["ranking", "sort", "names", "axes"]
theorem sc_need_ranking : FnScope N_need_ranking ["ranking"] (defScope s_need_ranking) := ⟨rfl, rfl, rfl, by decide +kernel, rfl, by decide +kernel, by decide +kernel⟩
theorem srt_mem (r : Rk) : r.srt ∈ [("total" : Str), "names"] := by
  unfold Rk.srt
  cases r.tot <;> simp
def RrkO (K : PySem.W.Frag) (CR : Addr) : List Pr → Out → Prop := fun ps o => (∃ r : Rk, r.Ok ∧ ps = [RkP K r] ∧ o = .ret (IsV .non)) ∨ ∃ (qd : Pr) (d : PyData), To K qd d ∧ tupN 3 d = false ∧ ps = [qd] ∧ o = .exc CR [("place", IsV .non)]
theorem ok_need_ranking {f : Addr} {fd : FuncData} (F : Fun K "need_ranking" "need_ranking" s_need_ranking f fd)  {f__are_names : Addr} {d__are_names : FuncData} (c__are_names : Cal P w K mg base "_are_names" 3 ["thing"] (spP (RnamesA K)) f__are_names d__are_names) {f__are_axes : Addr} {d__are_axes : FuncData} (c__are_axes : Cal P w K mg base "_are_axes" 2 ["thing"] (spP (RaxesA K)) f__are_axes d__are_axes) (n_isinstance : mg "isinstance" = none) (n_tuple : mg "tuple" = none) (n_len : mg "len" = none) (n_str : mg "str" = none) {aS : Addr} (g_SORTS : mg "SORTS" = some (.ref aS)) (v_SORTS : ∀ H, Dp K H (.ref aS) (.tuple ([("total" : Str), "names"].map .str))) {aBR i_BR : Addr} {d_BR : FuncData} {gZ_BR : List Value → List Value → List Value} (R_BR : RP P w K mg base "BadRanking" aBR "place" i_BR d_BR gZ_BR) :
    FnOk P w K mg base (L2.CX P w) 4 f fd ["ranking"] (spO (RrkO K aBR)) := by
  refine F.okX sc_need_ranking (spO_len (by rintro _ _ (⟨r, _, rfl, rfl⟩ | ⟨_, _, _, _, rfl, rfl⟩) <;> rfl)) (fun cdv A outer s H vs Q E hr h => ?_)
  obtain ⟨B, ps, o, eB, hv, ho, q⟩ := h
  have hu := hu_of hr
  have tk : Takes (cxOf (L2.CX P w) P w K mg base N_need_ranking "need_ranking" (defScope s_need_ranking) f cdv A outer s H E) (fun cls d _ H => E cls d H) := L2.takes_of rfl rfl rfl rfl
  refine ⟨_, (pss_cons (ps_if (PW.pt (pw_or (pt_not (pt_val (pe_callB call_isi (by rfl) n_isinstance (by decide +kernel) (pa_cons (pv 0) (pa_cons (pe_bltn (v := .ty "tuple") (u := .type "tuple") (by rfl) n_tuple (by decide +kernel) rfl) pa_nil))))) (pw_or1 (pt_cmpR op_ne (pe_callB call_len_seq (by rfl) n_len (by decide +kernel) (pa_cons (pv 0) pa_nil)) pe_int (nomark _))))) (pss_one (ps_raiseZ R_BR rfl rfl tk (hr.mono (by decide)) (by rfl))) pss_nil)
    (pss_cons (ps_asg (pv 0) (pg_tup (by rfl) (pgs_cons (pg_name (i := 1) sc_need_ranking.nd rfl (by first | exact .inl rfl | exact .inr rfl)) (pgs_cons (pg_name (i := 2) sc_need_ranking.nd rfl (by first | exact .inl rfl | exact .inr rfl)) (pgs_cons (pg_name (i := 3) sc_need_ranking.nd rfl (by first | exact .inl rfl | exact .inr rfl)) pgs_nil)))))
    (pss_cons (ps_if (PW.pt (pw_or (pt_not (pt_val (pe_callB call_isi (by rfl) n_isinstance (by decide +kernel) (pa_cons (pv 1) (pa_cons (pe_bltn (v := .ty "str") (u := .type "str") (by rfl) n_str (by decide +kernel) rfl) pa_nil))))) (pw_or1 (pt_cmpR op_notIn_seq (pv 1) (pe_glob (by rfl) (v := .ref aS) g_SORTS rfl) (by rfl))))) (pss_one ps_never) pss_nil)
    (pss_cons (ps_if (pt_not (pt_val (pe_call c__are_names.G (hr.mono (by decide)) (by rfl) c__are_names.m c__are_names.k c__are_names.b .nil pass0 (pa_cons (pv 2) pa_nil)))) (pss_one ps_never) pss_nil)
    (pss_one (ps_if (pt_not (pt_val (pe_call c__are_axes.G (hr.mono (by decide)) (by rfl) c__are_axes.m c__are_axes.k c__are_axes.b .nil pass0 (pa_cons (pv 3) pa_nil)))) (pss_one ps_never) pss_nil)))))), ?_⟩
  rcases ho with ⟨r, hr0, rfl, rfl⟩ | ⟨qd, d, tq, ht, rfl, rfl⟩
  · obtain ⟨v, rfl, h1⟩ := all1 hv
    refine ps_ifN eB (et_is (et_or (a := false) (b := false) (et_is (et_not (et_test (ev_isi (K := K) (d := r.D) (ed_rk (p_var rfl h1)) k_tt))) rfl) fun _ => et_is (et_test (ev_op (ev_lenD (K := K) (ed_rk (p_var rfl h1)) (.inl rfl)) ev_c (rv_ne rfl))) rfl) rfl) fun H1 e1 => ?_
    dsimp only
    refine ps_unR (K := K) (eB.trans e1) (p_var rfl h1) fun v2 v3 B2 H2 g2 n2 n3 => ?_
    dsimp only
    refine ps_ifN g2.c (et_is (et_or (a := false) (b := false) (et_is (et_not (et_test (ev_isi (K := K) (d := .str r.srt) (ed_st (ev_var rfl)) k_ss))) rfl) fun _ => et_is (et_test (ev_inT (neg := true) (ys := ["total", "names"]) (ev_var rfl) (ed_ref (v_SORTS B2)))) ?_) rfl) fun H3 e3 => ?_
    · rw [if_pos rfl, decide_eq_true (srt_mem r)]
      rfl
    dsimp only
    refine ps_ifN (g2.c.trans e3) (et_is (et_not (et_test (ev_p (p_callP (ps := [NmP r.ns]) (q_cons (p_var rfl n2) q_nil) ⟨r, hr0, rfl, rfl⟩)))) rfl) fun H4 e4 => ?_
    dsimp only
    refine ps_ifN ((g2.c.trans e3).trans e4) (et_is (et_not (et_test (ev_p (p_callP (ps := [IsD K (.tuple (r.axs.map .str))]) (q_cons (p_var rfl n3) q_nil) ⟨r, rfl, rfl⟩)))) rfl) fun H5 e5 => ?_
    exact q .non B2 H5 ((Gr.wide eB e1).trans (g2.trans (Gr.wide g2.c ((e3.trans e4).trans e5)))) rfl
  · obtain ⟨v, rfl, h1⟩ := all1 hv
    refine ps_ifT eB (et_is (et_tupN (n := 3) (p_var (p := IsD K d) rfl (tq _ _ h1))) (by rw [ht]; rfl)) fun H1 e1 => ?_
    exact x_rsZ (W := fun cls d _ H => E cls d H) R_BR.rc.r (eB.trans e1) e1 fun d2 B2 H2 g hd => q d2 B2 H2 ((Gr.wide eB e1).trans g) hd

/-- _stands_there -/
abbrev s__stands_there : Stmt := topS 29
abbrev N__stands_there : List Str := ["ranking", "derivative", "_", "names", "axes", "name", "by_y"]
theorem sc__stands_there : FnScope N__stands_there ["ranking", "derivative"] (defScope s__stands_there) := ⟨rfl, rfl, rfl, by decide +kernel, rfl, by decide +kernel, by decide +kernel⟩
def Rst (K : PySem.W.Frag) : List Pr → Pr → Prop := fun ps p => ∃ (r : Rk) (qd : Pr) (u : Dv), To K qd u.D ∧ ps = [RkP K r, qd] ∧ p = IsV (.bl (Rk.stB r u))
theorem ok__stands_there {f : Addr} {fd : FuncData} (F : Fun K "_stands_there" "_stands_there" s__stands_there f fd)     :
    FnOk P w K mg base CX0 1 f fd ["ranking", "derivative"] (spP (Rst K)) := by
  refine F.ok sc__stands_there (spP_len (by rintro _ _ ⟨r, _, u, _, rfl, rfl⟩; rfl)) (fun cdv A outer s H vs Q E hr h => ?_)
  obtain ⟨B, ps, p, eB, hv, ⟨r, qd, u, tq, rfl, rfl⟩, q⟩ := h
  obtain ⟨v1, v2, rfl, h1, h2⟩ := all2 hv
  have hu := hu_of hr
  refine ⟨_, (pss_cons (ps_asg (pv 0) (pg_tup (by rfl) (pgs_cons (pg_name (i := 2) sc__stands_there.nd rfl (by first | exact .inl rfl | exact .inr rfl)) (pgs_cons (pg_name (i := 3) sc__stands_there.nd rfl (by first | exact .inl rfl | exact .inr rfl)) (pgs_cons (pg_name (i := 4) sc__stands_there.nd rfl (by first | exact .inl rfl | exact .inr rfl)) pgs_nil)))))
    (pss_cons (ps_asg (pv 1) (pg_tup (by rfl) (pgs_cons (pg_name (i := 5) sc__stands_there.nd rfl (by first | exact .inl rfl | exact .inr rfl)) (pgs_cons (pg_name (i := 2) sc__stands_there.nd rfl (by first | exact .inl rfl | exact .inr rfl)) (pgs_cons (pg_name (i := 6) sc__stands_there.nd rfl (by first | exact .inl rfl | exact .inr rfl)) pgs_nil)))))
    (pss_one (ps_ret (pe_and (pe_cmpR op_in_seq (pv 5) (pv 3) (by rfl)) (pe_one (pe_or (pe_cmpR op_eq (pv 6) pe_int (nomark _)) (pe_one (pe_cmpR op_in_seq pe_str (pv 4) (by rfl)))))))))), ?_⟩
  refine ps_unR (K := K) eB (p_var rfl h1) fun w2 w3 B2 H2 g2 n2 n3 => ?_
  dsimp only
  refine ps_un3 (K := K) g2.c (p_var (p := IsD K (.tuple [.str u.n, .int u.i, .int u.j])) rfl (dp_m g2.b (tq _ _ h2))) fun z1 z2 z3 B3 H3 g3 k1 k2 k3 => ?_
  obtain rfl : z1 = .str u.n := by cases k1; rfl
  obtain rfl : z3 = .int u.j := by cases k3; rfl
  dsimp only
  have m2 := nm_d (K := K) ((NmP r.ns).m g3.b n2)
  have m3 := dp_m g3.b n3
  refine My.ps_ret g3.c (p_ev (v := .bl (Rk.stB r u)) (ev_is (ev_andV (a := decide (u.n ∈ r.ns)) (b := decide (u.j = 0) || decide ((Str.ofString "y") ∈ r.axs)) (ev_is (ev_inT (neg := false) (ys := r.ns) (ev_var rfl) (ed_var rfl m2)) ?_) fun _ => ev_orV (ev_is (ev_op (ev_var rfl) ev_c (rv_eq rfl)) ?_) fun _ => ev_is (ev_inT (neg := false) (ys := r.axs) ev_c (ed_var rfl m3)) ?_) ?_)) fun v B4 H4 g hp => q v B4 H4 ((g2.trans g3).trans g) hp
  · rw [if_neg Bool.false_ne_true]
  · by_cases e : u.j = 0 <;> simp [e]
  · rw [if_neg Bool.false_ne_true]
  · rfl

/-- derivative_fits -/
abbrev s_derivative_fits : Stmt := topS 28
abbrev N_derivative_fits : List Str := ["ranking", "thing"]
theorem sc_derivative_fits : FnScope N_derivative_fits ["ranking", "thing"] (defScope s_derivative_fits) := ⟨rfl, rfl, rfl, by decide +kernel, rfl, by decide +kernel, by decide +kernel⟩
theorem ok_derivative_fits {f : Addr} {fd : FuncData} (F : Fun K "derivative_fits" "derivative_fits" s_derivative_fits f fd)  {f_is_derivative : Addr} {d_is_derivative : FuncData} (c_is_derivative : Cal P w K mg base "is_derivative" 3 ["thing"] (spP (RB K dvB)) f_is_derivative d_is_derivative) {f__stands_there : Addr} {d__stands_there : FuncData} (c__stands_there : Cal P w K mg base "_stands_there" 1 ["ranking", "derivative"] (spP (Rst K)) f__stands_there d__stands_there)   :
    FnOk P w K mg base CX0 4 f fd ["ranking", "thing"] (spP (RB2 K fitsB)) := by
  refine F.ok sc_derivative_fits (spP_len (by rintro _ _ ⟨r, _, _, _, _, _, rfl, rfl⟩; rfl)) (fun cdv A outer s H vs Q E hr h => ?_)
  obtain ⟨B, ps, p, eB, hv, ⟨r, qd, d, hr0, tq, hs, rfl, rfl⟩, q⟩ := h
  obtain ⟨v1, v2, rfl, h1, h2⟩ := all2 hv
  have hu := hu_of hr
  refine ⟨_, (pss_one (ps_ret (pe_and (pe_call c_is_derivative.G (hr.mono (by decide)) (by rfl) c_is_derivative.m c_is_derivative.k c_is_derivative.b .nil pass0 (pa_cons (pv 1) pa_nil)) (pe_one (pe_call c__stands_there.G (hr.mono (by decide)) (by rfl) c__stands_there.m c__stands_there.k c__stands_there.b .nil pass0 (pa_cons (pv 0) (pa_cons (pv 1) pa_nil))))))), ?_⟩
  refine My.ps_ret eB (p_ev (v := .bl (fitsB r d)) (ev_andV (a := dvB d) (b := Rk.stB r (dvOf d)) (ev_p (p_callP (ps := [qd]) (q_cons (p_var rfl h2) q_nil) ⟨_, _, tq, hs, rfl, rfl⟩)) fun k => ev_p (p_callP (ps := [RkP K r, qd]) (q_cons (p_var rfl h1) (q_cons (p_var rfl h2) q_nil)) ?_))) fun v B4 H4 g hp => q v B4 H4 g hp
  obtain ⟨u, rfl, _⟩ := dvB_ex k
  exact ⟨r, qd, u, tq, rfl, rfl⟩


/-- rank_key -/
abbrev s_rank_key : Stmt := topS 30
abbrev N_rank_key : List Str := ["ranking", "derivative", "sort", "names", "axes", "name", "by_x", "by_y", "ahead", "first"]
theorem sc_rank_key : FnScope N_rank_key ["ranking", "derivative"] (defScope s_rank_key) := ⟨rfl, rfl, rfl, by decide +kernel, rfl, by decide +kernel, by decide +kernel⟩
theorem key_len (r : Rk) (u : Dv) : (r.key u).length = 3 := by
  unfold Rk.key
  cases r.tot <;> rfl
theorem ax_first (r : Rk) : atI (r.axs.map PyData.str) 0 = some (.str (r.axs.getD 0 "")) := by
  have : ∀ a : Fin 3, atI ((axsOf a).map PyData.str) 0 = some (.str ((axsOf a).getD 0 "")) := by
    intro a
    match a with
    | 0 => rfl
    | 1 => rfl
    | 2 => rfl
  exact this r.ax
theorem ax_dec (r : Rk) : decide (V.str (r.axs.getD 0 "") = V.str "x") = decide (r.ax ≠ 2) := by
  have : ∀ a : Fin 3, decide (V.str ((axsOf a).getD 0 "") = V.str "x") = decide (a ≠ 2) := by
    intro a
    match a with
    | 0 => simp [axsOf]
    | 1 => simp [axsOf]
    | 2 => simp [axsOf]; decide +kernel
  exact this r.ax
theorem ok_rank_key {f : Addr} {fd : FuncData} (F : Fun K "rank_key" "rank_key" s_rank_key f fd)     :
    FnOk P w K mg base CX0 1 f fd ["ranking", "derivative"] (spP (Rrd K fun r u => IsD K (.tuple ((r.key u).map .int)))) := by
  refine F.ok sc_rank_key (spP_len (by rintro _ _ ⟨r, u, _, _, rfl, rfl⟩; rfl)) (fun cdv A outer s H vs Q E hr h => ?_)
  obtain ⟨B, ps, p, eB, hv, ⟨r, u, hr0, hu0, rfl, rfl⟩, q⟩ := h
  obtain ⟨v1, v2, rfl, h1, h2⟩ := all2 hv
  have hu := hu_of hr
  refine ⟨_, (pss_cons (ps_asg (pv 0) (pg_tup (by rfl) (pgs_cons (pg_name (i := 2) sc_rank_key.nd rfl (by first | exact .inl rfl | exact .inr rfl)) (pgs_cons (pg_name (i := 3) sc_rank_key.nd rfl (by first | exact .inl rfl | exact .inr rfl)) (pgs_cons (pg_name (i := 4) sc_rank_key.nd rfl (by first | exact .inl rfl | exact .inr rfl)) pgs_nil)))))
    (pss_cons (ps_asg (pv 1) (pg_tup (by rfl) (pgs_cons (pg_name (i := 5) sc_rank_key.nd rfl (by first | exact .inl rfl | exact .inr rfl)) (pgs_cons (pg_name (i := 6) sc_rank_key.nd rfl (by first | exact .inl rfl | exact .inr rfl)) (pgs_cons (pg_name (i := 7) sc_rank_key.nd rfl (by first | exact .inl rfl | exact .inr rfl)) pgs_nil)))))
    (pss_cons (ps_set (i := 8) sc_rank_key.nd rfl (by first | exact .inl rfl | exact .inr rfl) (pe_un un_neg (pe_tupIndex (pv 3) (pv 5))))
    (pss_cons (ps_set (i := 9) sc_rank_key.nd rfl (by first | exact .inl rfl | exact .inr rfl) (pe_ifExp (pt_cmpR op_eq (pe_ix ix_tup (pv 4) pe_int (fun _ _ => rfl)) pe_str (nomark _)) (pv 6) (pv 7)))
    (pss_cons (ps_if (pt_cmpR op_eq (pv 2) pe_str (nomark _)) (pss_one (ps_ret (pe_tup (pa_cons (pe_op op_add (pv 6) (pv 7)) (pa_cons (pv 9) (pa_cons (pv 8) pa_nil)))))) pss_nil)
    (pss_one (ps_ret (pe_tup (pa_cons (pv 8) (pa_cons (pe_op op_add (pv 6) (pv 7)) (pa_cons (pv 9) pa_nil))))))))))), ?_⟩
  refine ps_unR (K := K) eB (p_var rfl h1) fun w2 w3 B2 H2 g2 n2 n3 => ?_
  dsimp only
  refine ps_unD (K := K) g2.c (p_var rfl ((DvP u).m g2.b h2)) fun B3 H3 g3 => ?_
  dsimp only
  have m2 := (NmP r.ns).m g3.b n2
  have m3 := dp_m g3.b n3
  refine ps_asgN (fun x => [some v1, some v2, some (.str r.srt), some w2, some w3, some (.str u.n), some (.int u.i), some (.int u.j), some x, none]) g3.c (p_ev (v := .int (r.ahead u)) (ev_un (ev_tupIx (p_var rfl m2) (ev_var rfl) hu0.n) ru_neg)) (fun x B4 H4 g4 hx => ?_) (fun _ => rfl)
  obtain rfl : x = .int (r.ahead u) := hx
  dsimp only
  refine ps_asgN (fun x => [some v1, some v2, some (.str r.srt), some w2, some w3, some (.str u.n), some (.int u.i), some (.int u.j), some (.int (r.ahead u)), some x]) g4.c (p_ev (v := .int (r.first u)) (ev_if (b := decide (r.ax ≠ 2)) (et_is (et_test (ev_op (ev_st (ed_ixT (ed_var rfl (dp_m g4.b m3)) ev_c (ax_first r))) ev_c (rv_eq rfl))) (ax_dec r)) (fun hb => ev_is (ev_var rfl) (by unfold Rk.first; rw [if_neg (of_decide_eq_true hb)])) fun hb => ev_is (ev_var rfl) (by unfold Rk.first; rw [if_pos (Decidable.not_not.mp (of_decide_eq_false hb))]))) (fun x B5 H5 g5 hx => ?_) (fun _ => rfl)
  obtain rfl : x = .int (r.first u) := hx
  dsimp only
  have gg := (g2.trans g3).trans (g4.trans g5)
  have srt : EvT (tTest (tOp rEq (tVar 2) (tC (.str "total")))) [some v1, some v2, some (.str r.srt), some w2, some w3, some (.str u.n), some (.int u.i), some (.int u.j), some (.int (r.ahead u)), some (.int (r.first u))] B5 r.tot :=
    et_is (et_test (ev_op (ev_var rfl) ev_c (rv_eq rfl))) (by unfold Rk.srt; cases r.tot <;> decide +kernel)
  cases ht : r.tot with
  | true =>
    rw [ht] at srt
    refine My.ps_ifT g5.c srt fun H6 e6 => ?_
    refine My.ps_ret (g5.c.trans e6) (ed_tup (ds := (r.key u).map .int) ?_ (by rw [List.length_map, key_len]; decide)) fun v B7 H7 g7 hp => q v B7 H7 ((gg.trans (Gr.wide g5.c e6)).trans g7) hp
    have : r.key u = [u.i + u.j, r.first u, r.ahead u] := by unfold Rk.key; rw [ht, if_pos rfl]
    rw [this]
    exact q_cons (ed_in (ev_op (ev_var rfl) (ev_var rfl) rv_I0)) (q_cons (ed_in (ev_var rfl)) (q_cons (ed_in (ev_var rfl)) q_nil))
  | false =>
    rw [ht] at srt
    refine ps_ifN g5.c srt fun H6 e6 => ?_
    dsimp only
    refine My.ps_ret (g5.c.trans e6) (ed_tup (ds := (r.key u).map .int) ?_ (by rw [List.length_map, key_len]; decide)) fun v B7 H7 g7 hp => q v B7 H7 ((gg.trans (Gr.wide g5.c e6)).trans g7) hp
    have : r.key u = [r.ahead u, u.i + u.j, r.first u] := by unfold Rk.key; rw [ht, if_neg Bool.false_ne_true]
    rw [this]
    exact q_cons (ed_in (ev_var rfl)) (q_cons (ed_in (ev_op (ev_var rfl) (ev_var rfl) rv_I0)) (q_cons (ed_in (ev_var rfl)) q_nil))

end
end K12
namespace K12
set_option autoImplicit false
open PySem PySem.W L2 Evl My Nd
section
variable {P : Program} {w : World} {K : PySem.W.Frag} {mg : Str → Option Value} {base : Heap}

/-- is_fraction -/
abbrev s_is_fraction : Stmt := topS 15
abbrev N_is_fraction : List Str := ["thing", "top", "bottom"]
theorem sc_is_fraction : FnScope N_is_fraction ["thing"] (defScope s_is_fraction) := ⟨rfl, rfl, rfl, by decide +kernel, rfl, by decide +kernel, by decide +kernel⟩
theorem ok_is_fraction {f : Addr} {fd : FuncData} (F : Fun K "is_fraction" "is_fraction" s_is_fraction f fd)  {f_is_whole : Addr} {d_is_whole : FuncData} (c_is_whole : Cal P w K mg base "is_whole" 2 ["thing"] (spP (RB K wholeB)) f_is_whole d_is_whole) (n_isinstance : mg "isinstance" = none) (n_tuple : mg "tuple" = none) (n_len : mg "len" = none) (g_gcd : mg "gcd" = some (.builtin "math.gcd")) :
    FnOk P w K mg base CX0 3 f fd ["thing"] (spP (RB K frB)) := by
  refine F.ok sc_is_fraction (spP_len (by rintro _ _ ⟨_, _, _, _, rfl, rfl⟩; rfl)) (fun cdv A outer s H vs Q E hr h => ?_)
  obtain ⟨B, ps, p, eB, hv, ⟨qd, d, tq, hs, rfl, rfl⟩, q⟩ := h
  obtain ⟨v, rfl, h1⟩ := all1 hv
  have hu := hu_of hr
  refine ⟨_, (pss_cons (ps_if (PW.pt (pw_or (pt_not (pt_val (pe_callB call_isi (by rfl) n_isinstance (by decide +kernel) (pa_cons (pv 0) (pa_cons (pe_bltn (v := .ty "tuple") (u := .type "tuple") (by rfl) n_tuple (by decide +kernel) rfl) pa_nil))))) (pw_or1 (pt_cmpR op_ne (pe_callB call_len_seq (by rfl) n_len (by decide +kernel) (pa_cons (pv 0) pa_nil)) pe_int (nomark _))))) (pss_one (ps_ret pe_bl)) pss_nil)
    (pss_cons (ps_asg (pv 0) (pg_tup (by rfl) (pgs_cons (pg_name (i := 1) sc_is_fraction.nd rfl (by first | exact .inl rfl | exact .inr rfl)) (pgs_cons (pg_name (i := 2) sc_is_fraction.nd rfl (by first | exact .inl rfl | exact .inr rfl)) pgs_nil))))
    (pss_one (ps_ret (pe_and (pe_call c_is_whole.G (hr.mono (by decide)) (by rfl) c_is_whole.m c_is_whole.k c_is_whole.b .nil pass0 (pa_cons (pv 1) pa_nil)) (pe_and (pe_call c_is_whole.G (hr.mono (by decide)) (by rfl) c_is_whole.m c_is_whole.k c_is_whole.b .nil pass0 (pa_cons (pv 2) pa_nil)) (pe_and (pe_cmpR op_gt (pv 2) pe_int (nomark _)) (pe_one (pe_cmpR op_eq (pe_callBfun cr_gcd (by rfl) g_gcd (pa_cons (pv 1) (pa_cons (pv 2) pa_nil))) pe_int (nomark _)))))))))), ?_⟩
  have hd : Dp K B v d := tq _ _ h1
  cases ht : tupN 2 d with
  | false =>
    refine ps_ifT eB (et_is (et_tupN (n := 2) (p_var (p := IsD K d) rfl hd)) (by rw [ht]; rfl)) fun H1 e1 => ?_
    refine My.ps_ret (eB.trans e1) (p_c (v := .bl false)) fun v B1 H2 g hp => q v B1 H2 ((Gr.wide eB e1).trans g) ?_
    rw [show frB d = false from by unfold frB; rw [ht]; rfl]
    exact hp
  | true =>
    refine ps_ifN eB (et_is (et_tupN (n := 2) (p_var (p := IsD K d) rfl hd)) (by rw [ht]; rfl)) fun H1 e1 => ?_
    dsimp only
    have s0 := smd_it hs 0
    have s1 := smd_it hs 1
    have ed : frB d = (wholeB (it 0 d) && (wholeB (it 1 d) && (decide (0 < intOf (it 1 d)) && decide (Nat.gcd (intOf (it 0 d)).natAbs (intOf (it 1 d)).natAbs = 1)))) := by unfold frB; rw [ht]; rfl
    refine ps_un2 (K := K) (p := IsD K (it 0 d)) (q := IsD K (it 1 d)) (eB.trans e1) (p_var (p := TuP K [IsD K (it 0 d), IsD K (it 1 d)]) rfl (by rw [tpl2 ht] at hd; exact tu_d hd)) fun w1 w2 B2 H2 g2 n1 n2 => ?_
    dsimp only
    refine My.ps_ret g2.c (p_ev (v := .bl (frB d)) (ev_is (ev_andV (a := wholeB (it 0 d)) (b := wholeB (it 1 d) && (decide (0 < intOf (it 1 d)) && decide (Nat.gcd (intOf (it 0 d)).natAbs (intOf (it 1 d)).natAbs = 1))) (ev_p (p_callP (ps := [IsD K (it 0 d)]) (q_cons (p_var rfl n1) q_nil) ⟨_, _, to_id, s0, rfl, rfl⟩)) fun k0 =>
      ev_andV (ev_p (p_callP (ps := [IsD K (it 1 d)]) (q_cons (p_var rfl n2) q_nil) ⟨_, _, to_id, s1, rfl, rfl⟩)) fun k1 => ev_andV (ev_op (ev_in (K := K) (p_var (p := IsD K (.int (intOf (it 1 d)))) rfl (by rw [← wholeB_ex k1]; exact n2))) ev_c rv_I0) fun _ => ev_is (ev_op (ev_gcd (ev_in (K := K) (p_var (p := IsD K (.int (intOf (it 0 d)))) rfl (by rw [← wholeB_ex k0]; exact n1))) (ev_in (K := K) (p_var (p := IsD K (.int (intOf (it 1 d)))) rfl (by rw [← wholeB_ex k1]; exact n2)))) ev_c (rv_eq rfl)) ?_) (by rw [ed]))) fun v B3 H3 g hp => q v B3 H3 (((Gr.wide eB e1).trans g2).trans g) hp
    refine congrArg V.bl ?_
    apply decide_eq_decide.mpr
    constructor
    · intro z
      have := V.int.inj z
      omega
    · intro z
      rw [z]
      rfl






end
end K12
namespace K12
set_option autoImplicit false
open PySem PySem.W L2 Evl My Nd
section
variable {P : Program} {w : World} {K : PySem.W.Frag} {mg : Str → Option Value} {base : Heap}





end
end K12
namespace K12
set_option autoImplicit false
open PySem PySem.W L2 Evl My Nd
section
variable {te ta tb : TE} {σ : L2.St} {B H : Hp} {ps : List Pr} {K : PySem.W.Frag} {t : TA}
theorem ev_isN0 {v : V} (h : Ev ta σ B v) : Ev (tOp (fun x y H Q => y = V.non ∧ Q (.bl (decide (x = V.non))) H) ta (tC .non)) σ B (.bl (decide (v = V.non))) := fun H1 a Q k =>
  h H1 a _ fun H2 e2 => ⟨rfl, k H2 e2⟩
end
section
variable {P : Program} {w : World} {K : PySem.W.Frag} {mg : Str → Option Value} {base : Heap}


end
end K12
namespace Nd
set_option autoImplicit false
open PySem PySem.W L2 My Evl
open scoped Rat
def rtP (K : PySem.W.Frag) (r : Rat) : Pr := frP K (fr r)
def Rprod (K : PySem.W.Frag) : List Pr → Pr → Prop := fun ps p => ∃ r s : Rat, Sm r ∧ Sm s ∧ ps = [rtP K r, rtP K s] ∧ p = rtP K (r * s)
def Rsum (K : PySem.W.Frag) : List Pr → Pr → Prop := fun ps p => ∃ r s : Rat, Sm r ∧ Sm s ∧ ps = [rtP K r, rtP K s] ∧ p = rtP K (r + s)
theorem lg {n k : Nat} (h : n < 2 ^ k) : n.log2 ≤ k := by
  by_cases e : n = 0
  · subst e
    rw [Nat.log2_zero]
    exact Nat.zero_le _
  · exact Nat.le_of_lt ((Nat.log2_lt e).mpr h)
theorem lg_le {n m k : Nat} (h : n < 2 ^ k) (l : m ≤ n) : m.log2 ≤ k := lg (Nat.lt_of_le_of_lt l h)
section
variable {te ta tb : TE} {σ : L2.St} {B : Hp} {K : PySem.W.Frag} {r s : Rat}
theorem ev_top (h : EvP te σ B (rtP K r)) : Ev (tOp (rIxT K) te (tC (.int 0))) σ B (.int (fr r).1) := ev_p (p_ixT h p_c rfl)
theorem ev_bot (h : EvP te σ B (rtP K r)) : Ev (tOp (rIxT K) te (tC (.int 1))) σ B (.int (fr r).2) := ev_p (p_ixT h p_c rfl)
theorem ev_mulW {i j : Int} {k : Nat} (ha : Ev ta σ B (.int i)) (hb : Ev tb σ B (.int j)) (hi : i.natAbs.log2 ≤ k) (hj : j.natAbs.log2 ≤ k) (hk : k ≤ 100000 := by decide) : Ev (tOp (rI CMulW fun i j => .int (i * j)) ta tb) σ B (.int (i * j)) := ev_op ha hb (rv_I (by show _ + _ < _; omega))
theorem ev_divW {i j : Int} (ha : Ev ta σ B (.int i)) (hb : Ev tb σ B (.int j)) (h : 0 < j ∧ j.natAbs.log2 < 9000) : Ev (tOp (rI CDivW fun i j => .int (i / j)) ta tb) σ B (.int (i / j)) := ev_op ha hb (rv_I h)
theorem ev_addI {i j : Int} (ha : Ev ta σ B (.int i)) (hb : Ev tb σ B (.int j)) : Ev (tOp (rI0 fun i j => .int (i + j)) ta tb) σ B (.int (i + j)) := ev_op ha hb rv_I0
end
theorem gcd_dv {a b : Int} (hb : 0 < b) (hl : b.natAbs < 2 ^ 4000) : 0 < ((Nat.gcd a.natAbs b.natAbs : Nat) : Int) ∧ ((Nat.gcd a.natAbs b.natAbs : Nat) : Int).natAbs.log2 < 9000 := by
  have h0 : 0 < b.natAbs := by omega
  have h1 := Nat.gcd_pos_of_pos_right a.natAbs h0
  refine ⟨by omega, ?_⟩
  rw [Int.natAbs_natCast]
  exact Nat.lt_of_le_of_lt (lg_le hl (Nat.gcd_le_right _ h0)) (by decide)
theorem div_na (a b : Int) : (a / b).natAbs ≤ a.natAbs := Int.natAbs_ediv_le_natAbs a b
theorem fr_mul1 {r s : Rat} (h : (fr r).2 = 1) (k : (fr s).2 = 1) : fr (r * s) = ((fr r).1 * (fr s).1, 1) := by
  rw [fr_mul, h, k]
  simp
theorem sm_top {r : Rat} (h : Sm r) : (fr r).1.natAbs < 2 ^ 4000 := h.1
theorem sm_bot {r : Rat} (h : Sm r) : (fr r).2.natAbs < 2 ^ 4000 := h.2
theorem fr_addc {r s : Rat} (h : Int.gcd (fr r).2 (fr s).2 = 1) : fr (r + s) = ((fr r).1 * (fr s).2 + (fr s).1 * (fr r).2, (fr r).2 * (fr s).2) := by
  rw [fr_add, h]
  simp
end Nd
namespace K12
set_option autoImplicit false
open PySem PySem.W L2 Evl My Nd
section
variable {P : Program} {w : World} {K : PySem.W.Frag} {mg : Str → Option Value} {base : Heap}

/-- product -/
abbrev s_product : Stmt := topS 17
abbrev N_product : List Str := ["one", "other", "left", "right"]
theorem sc_product : FnScope N_product ["one", "other"] (defScope s_product) := ⟨rfl, rfl, rfl, by decide +kernel, rfl, by decide +kernel, by decide +kernel⟩
theorem ok_product {f : Addr} {fd : FuncData} (F : Fun K "product" "product" s_product f fd)    (g_gcd : mg "gcd" = some (.builtin "math.gcd")) :
    FnOk P w K mg base CX0 1 f fd ["one", "other"] (spP (Rprod K)) := by
  refine F.ok sc_product (spP_len (by rintro _ _ ⟨r, s, _, _, rfl, rfl⟩; rfl)) (fun cdv A outer s H vs Q E hr h => ?_)
  obtain ⟨B, ps, p, eB, hv, ⟨r, s, hr1, hs1, rfl, rfl⟩, q⟩ := h
  obtain ⟨v0, v1, rfl, h0, h1⟩ := all2 hv
  have hu := hu_of hr
  refine ⟨_, (pss_cons (ps_if (PW.pt (pw_and (pt_cmpR op_eq (pe_ix ix_tup (pv 0) pe_int (fun _ _ => rfl)) pe_int (nomark _)) (pw_and1 (pt_cmpR op_eq (pe_ix ix_tup (pv 1) pe_int (fun _ _ => rfl)) pe_int (nomark _))))) (pss_one (ps_ret (pe_tup (pa_cons (pe_op op_mulW (pe_ix ix_tup (pv 0) pe_int (fun _ _ => rfl)) (pe_ix ix_tup (pv 1) pe_int (fun _ _ => rfl))) (pa_cons pe_int pa_nil))))) pss_nil)
    (pss_cons (ps_set (i := 2) sc_product.nd rfl (by first | exact .inl rfl | exact .inr rfl) (pe_callBfun cr_gcd (by rfl) g_gcd (pa_cons (pe_ix ix_tup (pv 0) pe_int (fun _ _ => rfl)) (pa_cons (pe_ix ix_tup (pv 1) pe_int (fun _ _ => rfl)) pa_nil))))
    (pss_cons (ps_set (i := 3) sc_product.nd rfl (by first | exact .inl rfl | exact .inr rfl) (pe_callBfun cr_gcd (by rfl) g_gcd (pa_cons (pe_ix ix_tup (pv 1) pe_int (fun _ _ => rfl)) (pa_cons (pe_ix ix_tup (pv 0) pe_int (fun _ _ => rfl)) pa_nil))))
    (pss_one (ps_ret (pe_tup (pa_cons (pe_op op_mulW (pe_op op_fdivW (pe_ix ix_tup (pv 0) pe_int (fun _ _ => rfl)) (pv 2)) (pe_op op_fdivW (pe_ix ix_tup (pv 1) pe_int (fun _ _ => rfl)) (pv 3))) (pa_cons (pe_op op_mulW (pe_op op_fdivW (pe_ix ix_tup (pv 0) pe_int (fun _ _ => rfl)) (pv 3)) (pe_op op_fdivW (pe_ix ix_tup (pv 1) pe_int (fun _ _ => rfl)) (pv 2))) pa_nil)))))))), ?_⟩
  have pr := fr_pos r
  have pq := fr_pos s
  have tr := sm_top hr1
  have tq := sm_top hs1
  have br := sm_bot hr1
  have bq := sm_bot hs1
  have tst := et_and (σ := [some v0, some v1, none, none]) (et_test (ev_op (ev_bot (K := K) (p_var (i := 0) rfl h0)) (ev_c (v := .int 1)) (rv_eq rfl))) (fun _ => et_test (ev_op (ev_bot (K := K) (p_var (i := 1) rfl h1)) (ev_c (v := .int 1)) (rv_eq rfl)))
  by_cases hc : (fr r).2 = 1 ∧ (fr s).2 = 1
  · refine My.ps_ifT eB (et_is tst (by simp [hc.1, hc.2])) fun H1 e1 => ?_
    refine My.ps_ret (eB.trans e1) (p_tup (K := K) (ps := [IsV (.int ((fr r).1 * (fr s).1)), IsV (.int 1)]) (q_cons (p_ev (ev_mulW (ev_top (p_var rfl h0)) (ev_top (p_var rfl h1)) (lg tr) (lg tq))) (q_cons p_c q_nil)) (by show 2 ≤ 100000; decide)) fun v B1 H2 g hp => q v B1 H2 ((Gr.wide eB e1).trans g) ?_
    show (frP K (fr (r * s))).P v B1
    rw [fr_mul1 hc.1 hc.2]
    exact hp
  · refine ps_ifN eB (et_is tst (by rw [Bool.eq_false_iff]; simpa using hc)) fun H1 e1 => ?_
    dsimp only
    refine ps_asgN (fun x => [some v0, some v1, some x, none]) (eB.trans e1) (p_ev (ev_gcd (ev_top (p_var rfl h0)) (ev_bot (p_var rfl h1)))) (fun x B2 H2 g2 hx => ?_) (fun _ => rfl)
    obtain rfl := (show x = _ from hx)
    have h0' := (rtP K r).m g2.b h0
    have h1' := (rtP K s).m g2.b h1
    dsimp only
    refine ps_asgN (fun x => [some v0, some v1, some (.int ((Nat.gcd (fr r).1.natAbs (fr s).2.natAbs : Nat) : Int)), some x]) g2.c (p_ev (ev_gcd (ev_top (p_var rfl h1')) (ev_bot (p_var rfl h0')))) (fun x B3 H3 g3 hx => ?_) (fun _ => rfl)
    obtain rfl := (show x = _ from hx)
    have h0 := (rtP K r).m g3.b h0'
    have h1 := (rtP K s).m g3.b h1'
    dsimp only
    have gl := gcd_dv (a := (fr r).1) pq bq
    have gr := gcd_dv (a := (fr s).1) pr br
    refine My.ps_ret g3.c (p_tup (K := K) (ps := [IsV (.int ((fr r).1 / ((Nat.gcd (fr r).1.natAbs (fr s).2.natAbs : Nat) : Int) * ((fr s).1 / ((Nat.gcd (fr s).1.natAbs (fr r).2.natAbs : Nat) : Int)))), IsV (.int ((fr r).2 / ((Nat.gcd (fr s).1.natAbs (fr r).2.natAbs : Nat) : Int) * ((fr s).2 / ((Nat.gcd (fr r).1.natAbs (fr s).2.natAbs : Nat) : Int))))])
      (q_cons (p_ev (ev_mulW (ev_divW (ev_top (p_var rfl h0)) (ev_var rfl) gl) (ev_divW (ev_top (p_var rfl h1)) (ev_var rfl) gr) (lg_le tr (div_na _ _)) (lg_le tq (div_na _ _))))
       (q_cons (p_ev (ev_mulW (ev_divW (ev_bot (p_var rfl h0)) (ev_var rfl) gr) (ev_divW (ev_bot (p_var rfl h1)) (ev_var rfl) gl) (lg_le br (div_na _ _)) (lg_le bq (div_na _ _)))) q_nil)) (by show 2 ≤ 100000; decide)) fun v B1 H4 g hp => q v B1 H4 (((Gr.wide eB e1).trans (g2.trans g3)).trans g) ?_
    show (frP K (fr (r * s))).P v B1
    rw [fr_mul]
    exact hp

/-- sum_of -/
abbrev s_sum_of : Stmt := topS 16
abbrev N_sum_of : List Str := ["one", "other", "common", "own", "top", "rest"]
theorem sc_sum_of : FnScope N_sum_of ["one", "other"] (defScope s_sum_of) := ⟨rfl, rfl, rfl, by decide +kernel, rfl, by decide +kernel, by decide +kernel⟩
theorem ok_sum_of {f : Addr} {fd : FuncData} (F : Fun K "sum_of" "sum_of" s_sum_of f fd)    (g_gcd : mg "gcd" = some (.builtin "math.gcd")) :
    FnOk P w K mg base CX0 1 f fd ["one", "other"] (spP (Rsum K)) := by
  refine F.ok sc_sum_of (spP_len (by rintro _ _ ⟨r, s, _, _, rfl, rfl⟩; rfl)) (fun cdv A outer s H vs Q E hr h => ?_)
  obtain ⟨B, ps, p, eB, hv, ⟨r, s, hr1, hs1, rfl, rfl⟩, q⟩ := h
  obtain ⟨v0, v1, rfl, h0, h1⟩ := all2 hv
  have hu := hu_of hr
  refine ⟨_, (pss_cons (ps_if (PW.pt (pw_and (pt_cmpR op_eq (pe_ix ix_tup (pv 0) pe_int (fun _ _ => rfl)) pe_int (nomark _)) (pw_and1 (pt_cmpR op_eq (pe_ix ix_tup (pv 1) pe_int (fun _ _ => rfl)) pe_int (nomark _))))) (pss_one (ps_ret (pe_tup (pa_cons (pe_op op_add (pe_ix ix_tup (pv 0) pe_int (fun _ _ => rfl)) (pe_ix ix_tup (pv 1) pe_int (fun _ _ => rfl))) (pa_cons pe_int pa_nil))))) pss_nil)
    (pss_cons (ps_set (i := 2) sc_sum_of.nd rfl (by first | exact .inl rfl | exact .inr rfl) (pe_callBfun cr_gcd (by rfl) g_gcd (pa_cons (pe_ix ix_tup (pv 0) pe_int (fun _ _ => rfl)) (pa_cons (pe_ix ix_tup (pv 1) pe_int (fun _ _ => rfl)) pa_nil))))
    (pss_cons (ps_if (pt_cmpR op_eq (pv 2) pe_int (nomark _)) (pss_one (ps_ret (pe_tup (pa_cons (pe_op op_add (pe_op op_mulW (pe_ix ix_tup (pv 0) pe_int (fun _ _ => rfl)) (pe_ix ix_tup (pv 1) pe_int (fun _ _ => rfl))) (pe_op op_mulW (pe_ix ix_tup (pv 1) pe_int (fun _ _ => rfl)) (pe_ix ix_tup (pv 0) pe_int (fun _ _ => rfl)))) (pa_cons (pe_op op_mulW (pe_ix ix_tup (pv 0) pe_int (fun _ _ => rfl)) (pe_ix ix_tup (pv 1) pe_int (fun _ _ => rfl))) pa_nil))))) pss_nil)
    (pss_cons (ps_set (i := 3) sc_sum_of.nd rfl (by first | exact .inl rfl | exact .inr rfl) (pe_op op_fdivW (pe_ix ix_tup (pv 0) pe_int (fun _ _ => rfl)) (pv 2)))
    (pss_cons (ps_set (i := 4) sc_sum_of.nd rfl (by first | exact .inl rfl | exact .inr rfl) (pe_op op_add (pe_op op_mulW (pe_ix ix_tup (pv 0) pe_int (fun _ _ => rfl)) (pe_op op_fdivW (pe_ix ix_tup (pv 1) pe_int (fun _ _ => rfl)) (pv 2))) (pe_op op_mulW (pe_ix ix_tup (pv 1) pe_int (fun _ _ => rfl)) (pv 3))))
    (pss_cons (ps_set (i := 5) sc_sum_of.nd rfl (by first | exact .inl rfl | exact .inr rfl) (pe_callBfun cr_gcd (by rfl) g_gcd (pa_cons (pv 4) (pa_cons (pv 2) pa_nil))))
    (pss_one (ps_ret (pe_tup (pa_cons (pe_op op_fdivW (pv 4) (pv 5)) (pa_cons (pe_op op_mulW (pv 3) (pe_op op_fdivW (pe_ix ix_tup (pv 1) pe_int (fun _ _ => rfl)) (pv 5))) pa_nil))))))))))), ?_⟩
  have pr := fr_pos r
  have pq := fr_pos s
  have tr := sm_top hr1
  have tq := sm_top hs1
  have br := sm_bot hr1
  have bq := sm_bot hs1
  have tst := et_and (σ := [some v0, some v1, none, none, none, none]) (et_test (ev_op (ev_bot (K := K) (p_var (i := 0) rfl h0)) (ev_c (v := .int 1)) (rv_eq rfl))) (fun _ => et_test (ev_op (ev_bot (K := K) (p_var (i := 1) rfl h1)) (ev_c (v := .int 1)) (rv_eq rfl)))
  by_cases hc : (fr r).2 = 1 ∧ (fr s).2 = 1
  · refine My.ps_ifT eB (et_is tst (by simp [hc.1, hc.2])) fun H1 e1 => ?_
    refine My.ps_ret (eB.trans e1) (p_tup (K := K) (ps := [IsV (.int ((fr r).1 + (fr s).1)), IsV (.int 1)]) (q_cons (p_ev (ev_addI (ev_top (p_var rfl h0)) (ev_top (p_var rfl h1)))) (q_cons p_c q_nil)) (by show 2 ≤ 100000; decide)) fun v B1 H2 g hp => q v B1 H2 ((Gr.wide eB e1).trans g) ?_
    show (frP K (fr (r + s))).P v B1
    rw [fr_add1 hc.1 hc.2]
    exact hp
  · refine ps_ifN eB (et_is tst (by rw [Bool.eq_false_iff]; simpa using hc)) fun H1 e1 => ?_
    dsimp only
    refine ps_asgN (fun x => [some v0, some v1, some x, none, none, none]) (eB.trans e1) (p_ev (ev_gcd (ev_bot (p_var rfl h0)) (ev_bot (p_var rfl h1)))) (fun x B2 H2 g2 hx => ?_) (fun _ => rfl)
    obtain rfl := (show x = _ from hx)
    have h0' := (rtP K r).m g2.b h0
    have h1' := (rtP K s).m g2.b h1
    dsimp only
    have gg := gcd_dv (a := (fr r).2) pq bq
    have tst2 := et_test (σ := [some v0, some v1, some (.int ((Nat.gcd (fr r).2.natAbs (fr s).2.natAbs : Nat) : Int)), none, none, none]) (H := B2) (ev_op (ev_var (i := 2) rfl) (ev_c (v := .int 1)) (rv_eq rfl))
    by_cases hd : Int.gcd (fr r).2 (fr s).2 = 1
    · refine My.ps_ifT g2.c (et_is tst2 (by rw [show Nat.gcd (fr r).2.natAbs (fr s).2.natAbs = 1 from hd]; rfl)) fun H3 e3 => ?_
      refine My.ps_ret (g2.c.trans e3) (p_tup (K := K) (ps := [IsV (.int ((fr r).1 * (fr s).2 + (fr s).1 * (fr r).2)), IsV (.int ((fr r).2 * (fr s).2))]) (q_cons (p_ev (ev_addI (ev_mulW (ev_top (p_var rfl h0')) (ev_bot (p_var rfl h1')) (lg tr) (lg bq)) (ev_mulW (ev_top (p_var rfl h1')) (ev_bot (p_var rfl h0')) (lg tq) (lg br)))) (q_cons (p_ev (ev_mulW (ev_bot (p_var rfl h0')) (ev_bot (p_var rfl h1')) (lg br) (lg bq))) q_nil)) (by show 2 ≤ 100000; decide)) fun v B1 H4 g hp => q v B1 H4 (((Gr.wide eB e1).trans (g2.trans (Gr.wide g2.c e3))).trans g) ?_
      show (frP K (fr (r + s))).P v B1
      rw [fr_addc hd]
      exact hp
    · refine ps_ifN g2.c (et_is tst2 (by
        rw [decide_eq_false]
        intro z
        injection z with z
        exact hd (by unfold Int.gcd; omega))) fun H3 e3 => ?_
      dsimp only
      -- own
      refine ps_asgN (fun x => [some v0, some v1, some (.int ((Nat.gcd (fr r).2.natAbs (fr s).2.natAbs : Nat) : Int)), some x, none, none]) (g2.c.trans e3) (p_ev (ev_divW (ev_bot (p_var rfl h0')) (ev_var rfl) gg)) (fun x B4 H4 g4 hx => ?_) (fun _ => rfl)
      obtain rfl := (show x = _ from hx)
      have h0 := (rtP K r).m g4.b h0'
      have h1 := (rtP K s).m g4.b h1'
      dsimp only
      -- top
      refine ps_asgN (fun x => [some v0, some v1, some (.int ((Nat.gcd (fr r).2.natAbs (fr s).2.natAbs : Nat) : Int)), some (.int ((fr r).2 / ((Nat.gcd (fr r).2.natAbs (fr s).2.natAbs : Nat) : Int))), some x, none]) g4.c
        (p_ev (ev_addI (ev_mulW (ev_top (p_var rfl h0)) (ev_divW (ev_bot (p_var rfl h1)) (ev_var rfl) gg) (lg tr) (lg_le bq (div_na _ _))) (ev_mulW (ev_top (p_var rfl h1)) (ev_var rfl) (lg tq) (lg_le br (div_na _ _))))) (fun x B5 H5 g5 hx => ?_) (fun _ => rfl)
      obtain rfl := (show x = _ from hx)
      have h0 := (rtP K r).m g5.b h0
      have h1 := (rtP K s).m g5.b h1
      dsimp only
      -- rest
      have g1l : ((Nat.gcd (fr r).2.natAbs (fr s).2.natAbs : Nat) : Int).natAbs < 2 ^ 4000 := by
        rw [Int.natAbs_natCast]
        exact Nat.lt_of_le_of_lt (Nat.gcd_le_right _ (by omega)) bq
      refine ps_asgN (fun x => [some v0, some v1, some (.int ((Nat.gcd (fr r).2.natAbs (fr s).2.natAbs : Nat) : Int)), some (.int ((fr r).2 / ((Nat.gcd (fr r).2.natAbs (fr s).2.natAbs : Nat) : Int))), some (.int ((fr r).1 * ((fr s).2 / ((Nat.gcd (fr r).2.natAbs (fr s).2.natAbs : Nat) : Int)) + (fr s).1 * ((fr r).2 / ((Nat.gcd (fr r).2.natAbs (fr s).2.natAbs : Nat) : Int)))), some x]) g5.c
        (p_ev (ev_gcd (ev_var rfl) (ev_var rfl))) (fun x B6 H6 g6 hx => ?_) (fun _ => rfl)
      obtain rfl := (show x = _ from hx)
      have h1 := (rtP K s).m g6.b h1
      dsimp only
      have gq := gcd_dv (a := (fr r).1 * ((fr s).2 / ((Nat.gcd (fr r).2.natAbs (fr s).2.natAbs : Nat) : Int)) + (fr s).1 * ((fr r).2 / ((Nat.gcd (fr r).2.natAbs (fr s).2.natAbs : Nat) : Int))) gg.1 g1l
      refine My.ps_ret g6.c (p_tup (K := K) (ps := [IsV _, IsV _]) (q_cons (p_ev (ev_divW (ev_var rfl) (ev_var rfl) gq)) (q_cons (p_ev (ev_mulW (ev_var rfl) (ev_divW (ev_bot (p_var rfl h1)) (ev_var rfl) gq) (lg_le br (div_na _ _)) (lg_le bq (div_na _ _)))) q_nil)) (by show 2 ≤ 100000; decide)) fun v B1 H7 g hp => q v B1 H7 (((Gr.wide eB e1).trans ((g2.trans (Gr.wide g2.c e3)).trans ((g4.trans g5).trans g6))).trans g) ?_
      show (frP K (fr (r + s))).P v B1
      rw [fr_add]
      exact hp

end
end K12
namespace Nd
set_option autoImplicit false
open PySem PySem.W L2 My Evl
section
variable {P : Program} {w : World} {K : PySem.W.Frag} {B H0 Bi B2 H H2 : Hp} {d : Addr} {zs : Pq} {σ : L2.St} {D : Ends} {te ta tb : TE} {i : Nat} {m : Mo} {r : Rat}
end
section
variable {κ β : Type} [DecidableEq κ] {P : Program} {w : World} {K : PySem.W.Frag} {ky : Ky K κ} {vp : β → Pr} {B H0 Bi H : Hp} {d : Addr} {zs : List (κ × β)} {σ : L2.St} {D : Ends} {te : TE} {tu tw : TS} {b : Bool}
end
section
variable {κ β : Type} [DecidableEq κ] {P : Program} {w : World} {K : PySem.W.Frag} {ky : Ky K κ} {vp : β → Pr} {B H0 Bi H : Hp} {d : Addr} {i : Nat} {v : V} {σ : L2.St} {ps : List Pr} {D : Ends} {g : TG} {tbd : TS}
end
/-- (monomial, number) unpacked -/
theorem tup2 {K : PySem.W.Frag} {p q : Pr} {v : V} {B H : Hp} (h : (TuP K [p, q]).P v B) (e : Ex B H) : ∃ a x y, v = .ref a ∧ SqT K H a [x, y] ∧ p.P x B ∧ q.P y B := by
  obtain ⟨a, xs, rfl, hx, al⟩ := h
  obtain ⟨x, y, rfl, h1, h2⟩ := K12.all2 al
  exact ⟨a, x, y, rfl, ex_t e hx, h1, h2⟩
end Nd
namespace K12
set_option autoImplicit false
open PySem PySem.W L2 Evl My Nd
section
variable {P : Program} {w : World} {K : PySem.W.Frag} {mg : Str → Option Value} {base : Heap}



end
end K12
namespace Nd
set_option autoImplicit false
open PySem PySem.W L2 My Evl
end Nd
namespace K12
set_option autoImplicit false
open PySem PySem.W L2 Evl My Nd
section
variable {P : Program} {w : World} {K : PySem.W.Frag} {mg : Str → Option Value} {base : Heap}



end
end K12
namespace Nd
set_option autoImplicit false
open PySem PySem.W L2 My Evl
/-! ### limits of products and derivatives -/
/-- the degree -/
def dg (m : Mo) : Nat := (m.map fun y => y.2.natAbs).sum
/-! ### one factor less -/
/-! ### tuples cut and joined -/
section
variable {te ta tb : TE} {σ : L2.St} {B : Hp} {K : PySem.W.Frag} {ps qs : List Pr} {p : Pr}
theorem AllP.drop {H : Hp} : ∀ {ps : List Pr} {vs : List V} (n : Nat), AllP ps vs H → AllP (ps.drop n) (vs.drop n) H
  | _, _, 0, h => h
  | [], [], _ + 1, _ => trivial
  | _ :: _, _ :: _, n + 1, h => AllP.drop n h.2
end
end Nd
namespace K12
set_option autoImplicit false
open PySem PySem.W L2 Evl My Nd
section
variable {P : Program} {w : World} {K : PySem.W.Frag} {mg : Str → Option Value} {base : Heap}




end
end K12
namespace Nd
set_option autoImplicit false
open PySem PySem.W L2 My Evl
end Nd
namespace K12
set_option autoImplicit false
open PySem PySem.W L2 Evl My Nd
section
variable {P : Program} {w : World} {K : PySem.W.Frag} {mg : Str → Option Value} {base : Heap}




end
end K12
namespace K12
set_option autoImplicit false
open PySem PySem.W L2 Evl My Nd
section
variable {P : Program} {w : World} {K : PySem.W.Frag} {mg : Str → Option Value} {base : Heap}


end
end K12
namespace Nd
set_option autoImplicit false
open PySem PySem.W L2 My Evl
/-! ### a list of dicts under way -/
def woS (S : List Addr) (H : Hp) : Hp := fun b => if b ∈ S then none else H b
theorem woS_ne {S : List Addr} {b : Addr} {H : Hp} (n : b ∉ S) : woS S H b = H b := if_neg n
theorem woS_some {S : List Addr} {b : Addr} {H : Hp} {o : HO} (h : woS S H b = some o) : b ∉ S ∧ H b = some o := by
  unfold woS at h
  split at h
  · cases h
  · rename_i n
    exact ⟨n, h⟩
theorem woS_ex {S : List Addr} {H : Hp} : Ex (woS S H) H := fun _ _ e => (woS_some e).2
theorem woS_none {B H : Hp} {S : List Addr} (e : Ex B (woS S H)) {b : Addr} (hb : b ∈ S) : B b = none := by
  cases q : B b with
  | none => rfl
  | some o => exact absurd hb (woS_some (e _ _ q)).1
theorem gr_sideS {B H B1 H1 B2 H2 : Hp} {S : List Addr} (g : Gr B H B1 (woS S H1)) (hD : ∀ d ∈ S, H1 d ≠ none) (k : Gr B1 H1 B2 H2) : Gr B H B2 (woS S H2) :=
  ⟨fun b o e => by
    obtain ⟨n, q⟩ := woS_some (g.a b o e)
    rw [woS_ne n]
    exact k.a b o q, g.b.trans k.b, fun b o e => by
    have n : b ∉ S := fun z => by
      have := k.d b (woS_none g.c z) (hD b z)
      rw [e] at this
      cases this
    rw [woS_ne n]
    exact k.c b o e, fun x hb hh => k.d x (g.d x hb hh) (has woS_ex (has g.a hh)), fun z => k.e (g.e z)⟩
section
variable {κ β : Type} [DecidableEq κ]
structure LdAt (P : Program) (w : World) {K : PySem.W.Frag} (ky : Ky K κ) (vp : β → Pr) (B H0 : Hp) (L : Addr) (n : Nat) (Z : Nat → List (κ × β)) (Bi H : Hp) : Prop where
  ex_ : ∃ ds : List Addr, Gr B H0 Bi (woS (L :: ds) H) ∧ H L = some (.lst (ds.map .ref)) ∧ (L :: ds).Nodup ∧ ds.length = n ∧ (∀ (k : Nat) (d : Addr), ds[k]? = some d → ∃ xs, H d = some (DN P w d xs) ∧ KG ky vp (Z k) xs Bi) ∧ ∀ d ∈ L :: ds, H0 d = none
variable {P : Program} {w : World} {K : PySem.W.Frag} {ky : Ky K κ} {vp : β → Pr} {B H0 Bi B2 H H2 : Hp} {L : Addr} {n : Nat} {Z Z' : Nat → List (κ × β)} {σ : L2.St} {D : Ends} {i : Nat} {ty tv tj : TE} {k : κ} {f : β} {j : Nat}
theorem LdAt.ex (A : LdAt P w ky vp B H0 L n Z Bi H) : Ex Bi H := by
  obtain ⟨ds, g, _⟩ := A.ex_
  exact g.c.trans woS_ex
theorem ld_on {ds : List Addr} (h1 : H L = some (.lst (ds.map .ref))) (h2 : ∀ (k : Nat) (d : Addr), ds[k]? = some d → ∃ xs, H d = some (DN P w d xs) ∧ KG ky vp (Z k) xs Bi) : ∀ d ∈ L :: ds, H d ≠ none := fun d hd => by
  rcases List.mem_cons.mp hd with rfl | hd
  · rw [h1]
    exact fun z => nomatch z
  · obtain ⟨k, hk⟩ := List.mem_iff_getElem?.mp hd
    obtain ⟨xs, h, _⟩ := h2 k d hk
    rw [h]
    exact fun z => nomatch z
theorem LdAt.step (A : LdAt P w ky vp B H0 L n Z Bi H) (q : Gr Bi H B2 H2) : LdAt P w ky vp B H0 L n Z B2 H2 := by
  obtain ⟨ds, g, h1, h2, h3, h4, h5⟩ := A.ex_
  exact ⟨ds, gr_sideS g (ld_on h1 h4) q, q.a _ _ h1, h2, h3, fun k d hk => by
    obtain ⟨xs, h, al⟩ := h4 k d hk
    exact ⟨xs, q.a _ _ h, al.m q.b⟩, h5⟩
theorem LdAt.lst (A : LdAt P w ky vp B H0 L n Z Bi H) : ∃ xs, H L = some (.lst xs) ∧ xs.length = n := by
  obtain ⟨ds, g, h1, h2, h3, _⟩ := A.ex_
  exact ⟨_, h1, by rw [List.length_map]; exact h3⟩
theorem LdAt.fin (A : LdAt P w ky vp B H0 L n Z Bi H) : ∃ B', Gr B H0 B' H ∧ (LsP ((List.range n).map fun k => DcP P w ky vp (Z k))).P (.ref L) B' := by
  obtain ⟨ds, g, h1, h2, h3, h4, h5⟩ := A.ex_
  have on := ld_on h1 h4
  have inS : ∀ x, x ∈ L :: ds → (fun x => if x ∈ L :: ds then H x else Bi x) x = H x := fun x hx => if_pos hx
  have up : Ex Bi (fun x => if x ∈ L :: ds then H x else Bi x) := fun b o e => by
    have n : b ∉ L :: ds := fun z => by
      rw [woS_none g.c z] at e
      cases e
    show (if b ∈ L :: ds then H b else Bi b) = some o
    rw [if_neg n]
    exact e
  refine ⟨fun x => if x ∈ L :: ds then H x else Bi x, ⟨g.a.trans woS_ex, g.b.trans up, fun b o e => ?_, fun x hb hh => ?_, fun z b qs q => ?_⟩, L, ds.map .ref, rfl, (inS L List.mem_cons_self).trans h1, ?_⟩
  · by_cases m : b ∈ L :: ds
    · exact (inS b m).symm.trans e
    · have e : (if b ∈ L :: ds then H b else Bi b) = some o := e
      rw [if_neg m] at e
      exact A.ex _ _ e
  · have m : x ∉ L :: ds := fun z => hh (h5 x z)
    show (if x ∈ L :: ds then H x else Bi x) = none
    rw [if_neg m]
    exact g.d x hb hh
  · by_cases m : b ∈ L :: ds
    · have q2 : H b = some (.tbl qs) := (inS b m).symm.trans q
      rcases List.mem_cons.mp m with rfl | m
      · rw [h1] at q2
        cases q2
      · obtain ⟨k, hk⟩ := List.mem_iff_getElem?.mp m
        obtain ⟨xs, h, _⟩ := h4 k b hk
        rw [h] at q2
        cases q2
    · have q : (if b ∈ L :: ds then H b else Bi b) = some (.tbl qs) := q
      rw [if_neg m] at q
      exact g.e z b qs q
  · refine AllP.ix (by rw [List.length_map, List.length_map, List.length_range, h3]) fun k p v hp hv => ?_
    rw [List.getElem?_map] at hp hv
    obtain ⟨d, hd, rfl⟩ := Option.map_eq_some_iff.mp hv
    obtain ⟨k', hk', rfl⟩ := Option.map_eq_some_iff.mp hp
    obtain ⟨_, e⟩ := List.getElem?_eq_some_iff.mp hk'
    rw [List.getElem_range] at e
    subst e
    obtain ⟨xs, x1, x2⟩ := h4 k d hd
    have dm : d ∈ L :: ds := List.mem_cons_of_mem _ (List.mem_of_getElem? hd)
    exact ⟨d, xs, Bi, rfl, (inS d dm).trans x1, woS_none g.c dm, up, x2⟩
end
/-! ### loops while something is under way -/
section
variable {K : PySem.W.Frag} {Bi H : Hp} {i : Nat} {v : V} {σ : L2.St} {ps : List Pr} {D : Ends} {g : TG} {tbd : TS}
theorem ps_forX (S : Nat → L2.St → Hp → Hp → Prop) (ex : ∀ j σ' B' H', S j σ' B' H' → Ex B' H') (s0 : S 0 σ Bi H) (hi : σ[i]? = some (some v)) (h : (TuP K ps).P v Bi)
    (st : ∀ j p v' σ' B' H', ps[j]? = some p → Ex Bi B' → S j σ' B' H' → p.P v' B' → ∀ N : L2.St → Hp → Prop, (∀ σ3 B3 H3, Ex B' B3 → S (j + 1) σ3 B3 H3 → N σ3 H3) → g v' σ' H' fun σ2 H2 => tbd { D with nx := N, ct := N, bk := D.nx } σ2 H2)
    (q : ∀ σ' B' H', Ex Bi B' → S ps.length σ' B' H' → D.nx σ' H') : tFor (iTup K (tVar i)) g tbd D σ H := by
  obtain ⟨l, xs, rfl, hx, al⟩ := h
  refine ⟨_, hi, l, rfl, ⟨xs, ex_t (ex _ _ _ _ s0) hx⟩, ?_⟩
  have w' := walk_tup (K := K) (a := l) (xs := xs)
  rw [al.len] at w'
  refine for_it w' (fun j σ' H' => ∃ B', Ex Bi B' ∧ S j σ' B' H') ⟨Bi, Ex.refl Bi, s0⟩ (fun j σ' H' _ pv => ?_) (fun j x σ' H' H2 _ pv y => ?_) fun σ' H' pv => ?_
  · obtain ⟨B', e', A'⟩ := pv
    exact ex_t (e'.trans (ex _ _ _ _ A')) hx
  · obtain ⟨B', e', A'⟩ := pv
    obtain ⟨rfl, y2⟩ := y
    obtain ⟨p, hp, k2⟩ := al.get y2
    exact st j p x σ' B' _ hp e' A' (p.m e' k2) _ fun σ3 B3 H3 h1 h2 => ⟨B3, e'.trans h1, h2⟩
  · obtain ⟨B', e', A'⟩ := pv
    exact q σ' B' H' e' A'
end
end Nd
namespace Nd
set_option autoImplicit false
open PySem PySem.W L2 My Evl
/-! ### by powers of one derivative -/
/-! the walk over one monomial -/
end Nd
namespace K12
set_option autoImplicit false
open PySem PySem.W L2 Evl My Nd
section
variable {P : Program} {w : World} {K : PySem.W.Frag} {mg : Str → Option Value} {base : Heap}


end
end K12
namespace K12
set_option autoImplicit false
open PySem PySem.W L2 Evl My Nd
section
variable {P : Program} {w : World} {K : PySem.W.Frag} {mg : Str → Option Value} {base : Heap}


end
end K12
namespace Nd
set_option autoImplicit false
open PySem PySem.W L2 My Evl LamX NdefX PyProof.Rows
/-! ### the greatest by keys -/
section
variable {α : Type}
end
/-! ### leaders -/
structure IsLead (r : Rk) (us : List Dv) (u : Dv) : Prop where
  m : u ∈ us
  g : ∀ v ∈ us, v = u ∨ r.lt v u
/-! ### polynomials of a ranking, within limits -/
def Sz (b : Nat) (p : Pq) : Prop := ∃ D N, 0 < D ∧ D < 2 ^ b ∧ N < 2 ^ b ∧ Lim D N p
structure PG (r : Rk) (p : Pq) : Prop where
  c : PoC p
  of : ∀ t ∈ p, ∀ y ∈ t.1, y.1.Of r
  dg : ∀ t ∈ p, Nd.dg t.1 ≤ 10
  ln : p.length ≤ 100
  sz : Sz 1000 p
theorem mo_len {m : Mo} (h : MoC m) : m.length ≤ dg m := by
  have hp := h.p
  clear h
  induction m with
  | nil => exact Nat.le_refl _
  | cons y m ih =>
    have h1 := hp y List.mem_cons_self
    have h2 := ih fun x hx => hp x (List.mem_cons_of_mem _ hx)
    unfold dg at *
    rw [List.map_cons, List.sum_cons, List.length_cons]
    omega
theorem ups_of {α : Type} {R : α → α → Prop} {f : α → PyData} (hR : ∀ {a b}, R a b → dataLt (f a) (f b) = true) {l : List α} (h : l.Pairwise R) : Ups f l := fun i hi => hR (List.pairwise_iff_getElem.mp h i (i + 1) (by omega) hi (by omega))
theorem moOk_of {r : Rk} {m : Mo} (h : MoC m) (of : ∀ y ∈ m, y.1.Of r) : MoOk r m := ⟨fun x hx => ⟨of x hx, h.p x hx⟩, ups_of (R := fun a b => Od.lt a.1 b.1 = true) (fun h => h) h.c.up⟩
theorem PG.ok {r : Rk} {p : Pq} (h : PG r p) : PoOk r (toPo p) := by
  refine ⟨fun t ht => ?_, ?_⟩
  · obtain ⟨s, hs, rfl⟩ := List.mem_map.mp ht
    exact ⟨moOk_of (h.c.m s hs) (h.of s hs), ⟨fr_pos s.2, fr_low s.2⟩, fun e => h.c.c.nz s hs ((fr_num0 s.2).mp e)⟩
  · refine ups_of (R := fun a b => Od.lt a.1 b.1 = true) (fun h => h) ?_
    unfold toPo
    rw [List.pairwise_map]
    exact h.c.c.up
theorem dvs_to (p : Pq) : dvs (toPo p) = p.flatMap fun t => t.1.map (·.1) := by
  unfold dvs toPo
  rw [List.flatMap_map]
  rfl
theorem PG.dvs {r : Rk} {p : Pq} (h : PG r p) : (Nd.dvs (toPo p)).length ≤ 1000 := by
  have : ∀ l : Pq, (∀ t ∈ l, t.1.length ≤ 10) → (l.flatMap fun t => t.1.map (·.1)).length ≤ 10 * l.length := by
    intro l hl
    induction l with
    | nil => exact Nat.le_refl _
    | cons t l ih =>
      rw [List.flatMap_cons, List.length_append, List.length_map, List.length_cons]
      have := ih fun x hx => hl x (List.mem_cons_of_mem _ hx)
      have := hl t List.mem_cons_self
      omega
  rw [dvs_to]
  have h1 := this p fun t ht => Nat.le_trans (mo_len (h.c.m t ht)) (h.dg t ht)
  have := h.ln
  omega
end Nd
namespace K12
set_option autoImplicit false
open PySem PySem.W L2 Evl My Nd LamX NdefX
section
variable {P : Program} {w : World} {K : PySem.W.Frag} {mg : Str → Option Value} {base : Heap} {T : List (Addr × Str)}

end
end K12
namespace K12
open PySem L2 My
/-- a draw's state at d -/
def DSt (H : Hp) (d : Addr) (n : Nat) : Prop := ∃ l c t : Int, H d = some (.dK [(.inr "left", .int l), (.inr "cell", .int c), (.inr "turns", .int t)]) ∧ 0 ≤ l ∧ 0 ≤ t ∧ t ≤ n
/-- all but d as it was -/
def SameBut (d : Addr) (H H' : Hp) : Prop := ∀ b o, b ≠ d → H b = some o → H' b = some o
def spMixed : Sp := fun vs H Q _ => ∃ c k : Int, vs = [.int c, .int k] ∧ 0 ≤ k ∧ k ≤ 2 ^ 40 ∧ ∀ (m : Int) (H' : Hp), 0 ≤ m → m < 2147483647 → Same H H' → Q (.int m) H'
def spDraw : Sp := fun vs H Q _ => ∃ c k : Int, vs = [.int c, .int k] ∧ 0 ≤ k ∧ k ≤ 1000 ∧ ∀ (d : Addr) (H' : Hp), H d = none → DSt H' d 1000000 → Same H H' → Q (.ref d) H'
def spDigit : Sp := fun vs H Q _ => ∃ (d : Addr) (z : Int) (n : Nat), vs = [.ref d, .int z] ∧ 0 < z ∧ z < 1073741824 ∧ DSt H d n ∧ n ≤ 2 ^ 39 ∧ ∀ (m : Int) (H' : Hp), 0 ≤ m → m < z → DSt H' d (n + 4) → SameBut d H H' → Q (.int m) H'

abbrev s_Lmixed : Stmt := topS 45
abbrev N_Lmixed : List Str := ["_law_cell", "_law_k", "_law_mixed_here"]
theorem sc_Lmixed : FnScope N_Lmixed ["_law_cell", "_law_k"] (defScope s_Lmixed) := ⟨rfl, rfl, rfl, by decide +kernel, rfl, by decide +kernel, by decide +kernel⟩
abbrev s_Ldraw : Stmt := topS 46
abbrev N_Ldraw : List Str := ["_law_cell", "_law_k"]
theorem sc_Ldraw : FnScope N_Ldraw ["_law_cell", "_law_k"] (defScope s_Ldraw) := ⟨rfl, rfl, rfl, by decide +kernel, rfl, by decide +kernel, by decide +kernel⟩
section
variable {P : Program} {w : World} {K : PySem.W.Frag} {mg : Str → Option Value} {base : Heap}
theorem ok_Lmixed {f : Addr} {fd : FuncData} (F : Fun K "_law_mixed" "_law_mixed" s_Lmixed f fd) : FnOk P w K mg base CX0 1 f fd ["_law_cell", "_law_k"] spMixed := by
  refine F.ok sc_Lmixed (fun vs H Q E h => ?_) (fun cdv A outer s H vs Q E hr h => ?_)
  · obtain ⟨c, k, rfl, _⟩ := h
    rfl
  · obtain ⟨c, k, rfl, hk0, hk, q⟩ := h
    refine ⟨_, (pss_cons (ps_set (i := 2) sc_Lmixed.nd rfl (by first | exact .inl rfl | exact .inr rfl) (pe_op op_add (pe_op op_add (pe_op op_mod (pv 0) (pe_ix ix_list (pe_lst (pa_cons pe_int (pa_cons pe_int (pa_cons pe_int (pa_cons pe_int pa_nil))))) (pe_op op_mod (pv 1) pe_int) (fun _ _ => rfl))) (pe_op op_mul pe_int (pv 1))) pe_int))
    (pss_one (ps_ret (pe_op op_mod (pe_op op_mul (pe_op op_mod (pe_op op_mul (pv 2) (pv 2)) pe_int) pe_int) pe_int)))), ?_⟩
    walk_at "go"
    refine ⟨My.small (by decide), fun p hp => ?_⟩
    walk_at "go"
    obtain ⟨v, hv, e⟩ := My.atIn [V.int 1000000007, V.int 998244353, V.int 2147483629, V.int 1000000009] (k % 4) (by omega) (by show k % 4 < 4; omega)
    obtain ⟨y, rfl, hy⟩ : ∃ y, v = V.int y ∧ 0 < y ∧ y < 2147483647 := by
      simp only [List.mem_cons, List.not_mem_nil, or_false] at hv
      rcases hv with rfl | rfl | rfl | rfl <;> exact ⟨_, rfl, by decide⟩

    refine ⟨p, _, _, _, rfl, rfl, My.lstNew, e, ?_⟩
    have h1 := Int.emod_nonneg c (b := y) (by omega)
    have h2 := Int.emod_lt_of_pos c (b := y) (by omega)
    refine ⟨_, _, rfl, rfl, hy.1, ?_⟩
    walk_at "go"
    exact q _ _ (Int.emod_nonneg _ (by decide)) (Int.emod_lt_of_pos _ (by decide)) (My.new hp)
theorem ok_Ldraw {f : Addr} {fd : FuncData} (F : Fun K "_law_draw" "_law_draw" s_Ldraw f fd) : FnOk P w K mg base CX0 1 f fd ["_law_cell", "_law_k"] spDraw := by
  refine F.ok sc_Ldraw (fun vs H Q E h => ?_) (fun cdv A outer s H vs Q E hr h => ?_)
  · obtain ⟨c, k, rfl, _⟩ := h
    rfl
  · obtain ⟨c, k, rfl, hk0, hk, q⟩ := h
    have hu := hu_of hr
    refine ⟨_, (pss_one (ps_ret (pe_disp (pps_cons pe_str (pe_ifExp (pt_cmpR op_ge (pv 0) (pe_op op_pow pe_int pe_int) (nomark _)) (pv 0) pe_int) (pps_cons pe_str (pv 0) (pps_cons pe_str (pe_op op_mul pe_int (pv 1)) pps_nil))) rfl rfl (by simp) (by decide)))), ?_⟩
    intro p hp
    walk_at "go"
    refine ite2 (fun h => ?_) (fun h => ?_)
    · walk_at "go"
      refine ⟨upd_same, [(.inr "left", .int c), (.inr "cell", .int c), (.inr "turns", .int (1000 * k))], rfl, (by show 3 ≤ 15; decide), ?_⟩
      refine q _ _ hp ⟨c, c, 1000 * k, ?_, ?_, by omega, by omega⟩ ?_
      · rw [upd_same]; rfl
      · have := of_decide_eq_true h
        simp at this
        omega
      · exact My.new2 hp
    · walk_at "go"
      refine ⟨upd_same, [(.inr "left", .int 0), (.inr "cell", .int c), (.inr "turns", .int (1000 * k))], rfl, (by show 3 ≤ 15; decide), ?_⟩
      refine q _ _ hp ⟨0, c, 1000 * k, ?_, by omega, by omega, by omega⟩ ?_
      · rw [upd_same]; rfl
      · exact My.new2 hp
theorem sb_trans {d : Addr} {H H1 H2 : Hp} (a : SameBut d H H1) (b : SameBut d H1 H2) : SameBut d H H2 := fun c o n e => b c o n (a c o n e)
theorem sb_same {d : Addr} {H H1 : Hp} (a : Same H H1) : SameBut d H H1 := fun c o _ e => a c o e
theorem sb_upd {d : Addr} {H : Hp} {o : HO} : SameBut d H (upd H d o) := fun c u n e => by rw [upd_ne n]; exact e
theorem dget_left {H : Hp} {d : Addr} {a b c : V} (h : H d = some (.dK [(.inr "left", a), (.inr "cell", b), (.inr "turns", c)])) : DGet H d (.str "left") (some a) := DGet.k (k := .inr "left") h
theorem dget_cell {H : Hp} {d : Addr} {a b c : V} (h : H d = some (.dK [(.inr "left", a), (.inr "cell", b), (.inr "turns", c)])) : DGet H d (.str "cell") (some b) := DGet.k (k := .inr "cell") h
theorem dget_turns {H : Hp} {d : Addr} {a b c : V} (h : H d = some (.dK [(.inr "left", a), (.inr "cell", b), (.inr "turns", c)])) : DGet H d (.str "turns") (some c) := DGet.k (k := .inr "turns") h
theorem dput_left {H : Hp} {d : Addr} {a b c v : V} (h : H d = some (.dK [(.inr "left", a), (.inr "cell", b), (.inr "turns", c)])) : DPut H d (.str "left") v (upd H d (.dK [(.inr "left", v), (.inr "cell", b), (.inr "turns", c)])) := DPut.k (k := .inr "left") h (by show 3 < sizeLine; decide)
theorem dput_turns {H : Hp} {d : Addr} {a b c v : V} (h : H d = some (.dK [(.inr "left", a), (.inr "cell", b), (.inr "turns", c)])) : DPut H d (.str "turns") v (upd H d (.dK [(.inr "left", a), (.inr "cell", b), (.inr "turns", v)])) := DPut.k (k := .inr "turns") h (by show 3 < sizeLine; decide)

abbrev s_Ldigit : Stmt := topS 47
abbrev N_Ldigit : List Str := ["_law_state", "_law_size", "_law_j", "_law_found"]
theorem sc_Ldigit : FnScope N_Ldigit ["_law_state", "_law_size"] (defScope s_Ldigit) := ⟨rfl, rfl, rfl, by decide +kernel, rfl, by decide +kernel, by decide +kernel⟩
theorem ok_Ldigit {f fM : Addr} {fd fdM : FuncData} (F : Fun K "_law_digit" "_law_digit" s_Ldigit f fd) (G : FnOk P w K mg base CX0 1 fM fdM ["_law_cell", "_law_k"] spMixed)
    (n_range : mg "range" = none) (m_Lmixed : mg "_law_mixed" = some (.ref fM)) (k_Lmixed : PySem.W.keepIn K (.ref fM) = true) (b_Lmixed : Binds K fdM ["_law_cell", "_law_k"] []) : FnOk P w K mg base CX0 2 f fd ["_law_state", "_law_size"] spDigit := by
  refine F.ok sc_Ldigit (fun vs H Q E h => ?_) (fun cdv A outer s H vs Q E hr h => ?_)
  · obtain ⟨d, z, n, rfl, _⟩ := h
    rfl
  · obtain ⟨d, z, n, rfl, hz, hz2, ⟨l, c, t, hd, hl, ht, htn⟩, hn, q⟩ := h
    have hu := hu_of hr
    refine ⟨_, (pss_cons (ps_if (pt_cmpR op_eq (pe_dget hu (pv 0) pe_str (fun _ _ => rfl)) pe_int (nomark _)) (pss_one (ps_for PassesOwn.never rfl (pi_range1 (by rfl) n_range (pa_cons pe_int pa_nil)) (pg_name (i := 2) sc_Ldigit.nd rfl (by first | exact .inl rfl | exact .inr rfl))
      (pss_cons (ps_dput hu (pv 0) pe_str (pe_op op_add (pe_dget hu (pv 0) pe_str (fun _ _ => rfl)) pe_int) rfl)
    (pss_one (ps_dput hu (pv 0) pe_str (pe_op op_add (pe_op op_mul (pe_dget hu (pv 0) pe_str (fun _ _ => rfl)) pe_int) (pe_call G (hr.mono (by decide)) (by rfl) m_Lmixed k_Lmixed b_Lmixed .nil pass0 (pa_cons (pe_dget hu (pv 0) pe_str (fun _ _ => rfl)) (pa_cons (pe_dget hu (pv 0) pe_str (fun _ _ => rfl)) pa_nil)))) rfl))))) pss_nil)
    (pss_cons (ps_set (i := 3) sc_Ldigit.nd rfl (by first | exact .inl rfl | exact .inr rfl) (pe_op op_mod (pe_dget hu (pv 0) pe_str (fun _ _ => rfl)) (pv 1)))
    (pss_cons (ps_dput hu (pv 0) pe_str (pe_op op_fdiv (pe_dget hu (pv 0) pe_str (fun _ _ => rfl)) (pv 1)) rfl)
    (pss_one (ps_ret (pv 3)))))), ?_⟩
    -- what follows the if, from any state
    have rest : ∀ (x : Option V) (l t : Int) (H1 : Hp), H1 d = some (.dK [(.inr "left", .int l), (.inr "cell", .int c), (.inr "turns", .int t)]) → 0 ≤ l → 0 ≤ t → t ≤ (n + 4 : Nat) → SameBut d H H1 →
      ∀ D : Ends, D.rt = Q → tSeq (tAsg (tOp (rI (fun _ j => 0 < j) fun i j => .int (i % j)) (tDGet (tVar 0) (tC (.str "left"))) (tVar 1)) (gName 3)) (tSeq (sDPut (tVar 0) (tC (.str "left")) (tOp (rI CDiv fun i j => .int (i / j)) (tDGet (tVar 0) (tC (.str "left"))) (tVar 1))) (tRet (tVar 3))) D [some (.ref d), some (.int z), x, none] H1 := by
      intro x l t H1 h1 hl ht htn sb D hD
      walk_at "go"
      refine ⟨_, _, rfl, dget_left h1, ?_⟩
      walk_at "go"
      refine ⟨_, _, rfl, dget_left h1, ?_⟩
      walk_at "go"
      refine ⟨_, _, rfl, dput_left h1, ?_⟩
      walk_at "go"
      show D.rt _ _
      rw [hD]
      exact q _ _ (Int.emod_nonneg _ (by omega)) (Int.emod_lt_of_pos _ hz) ⟨_, _, _, upd_same, Int.ediv_nonneg hl (by omega), ht, htn⟩ (sb_trans sb sb_upd)
    walk_at "go"
    refine ⟨_, _, rfl, dget_left hd, ?_⟩
    walk_at "go"
    refine ite2 (fun h => ?_) (fun h => ?_)
    · walk_at "go"
      refine ⟨by decide, by decide, for_range (lo := 0) (n := 4) (fun i σ H1 => ∃ (x : Option V) (l t : Int), σ = [some (.ref d), some (.int z), x, none] ∧ H1 d = some (.dK [(.inr "left", .int l), (.inr "cell", .int c), (.inr "turns", .int t)]) ∧ 0 ≤ l ∧ 0 ≤ t ∧ t ≤ (n + i : Nat) ∧ SameBut d H H1)
        ⟨none, l, t, rfl, hd, hl, ht, by omega, fun c o n e => e⟩ ?_ ?_⟩
      · rintro i σ H1 hi ⟨x, l1, t1, rfl, h1, hl1, ht1, ht2, sb⟩
        walk_at "go"
        refine ⟨_, _, rfl, dget_turns h1, ?_⟩
        walk_at "go"
        refine ⟨_, _, rfl, dput_turns h1, ?_⟩
        walk_at "go"
        refine ⟨_, _, rfl, dget_left upd_same, ?_⟩
        walk_at "go"
        refine ⟨_, _, rfl, dget_cell upd_same, ?_⟩
        walk_at "go"
        refine ⟨_, _, rfl, dget_turns upd_same, ?_⟩
        refine ⟨c, t1 + 1, rfl, by omega, by omega, fun m H2 hm0 hm1 S => ?_⟩
        walk_at "go"
        refine ⟨_, _, rfl, dput_left (S _ _ upd_same), ?_⟩
        refine ⟨_, _, _, rfl, upd_same, ?_, by omega, by omega, sb_trans sb (sb_trans sb_upd (sb_trans (sb_same S) sb_upd))⟩
        have := Int.mul_nonneg hl1 (by decide : (0 : Int) ≤ 2147483647)
        omega
      · rintro σ H1 ⟨x, l1, t1, rfl, h1, hl1, ht1, ht2, sb⟩
        exact rest x l1 t1 H1 h1 hl1 ht1 ht2 sb _ rfl
    · exact rest none l t H hd hl ht (by omega) (fun c o n e => e) _ rfl
end
end K12
namespace K12
open PySem L2 My
def one (c : Nat) : Str := ⟨#[c]⟩
theorem strExt {x y : Str} (h : x.cps.toList = y.cps.toList) : x = y := by
  obtain ⟨a⟩ := x
  obtain ⟨b⟩ := y
  exact congrArg Str.mk (Array.toList_inj.mp h)
theorem append_list (x y : Str) : (x ++ y).cps.toList = x.cps.toList ++ y.cps.toList := by
  show (x.cps ++ y.cps).toList = _
  exact Array.toList_append
theorem join_ones : ∀ cs : List Nat, Str.join (Str.ofString "") (cs.map one) = ⟨cs.toArray⟩
  | [] => rfl
  | [c] => rfl
  | c :: c' :: cs => by
    have ih := join_ones (c' :: cs)
    show one c ++ Str.ofString "" ++ Str.join (Str.ofString "") ((c' :: cs).map one) = _
    rw [ih]
    apply strExt
    rw [append_list, append_list]
    have : (Str.ofString "").cps.toList = [] := by decide +kernel
    rw [this]
    simp [one]
theorem txt_ones (cs : List Nat) : Txt.join (Str.ofString "") (cs.map one) = ⟨cs.toArray⟩ := by
  show Builtin.Str.glued _ _ = _
  rw [StrLaws.glued_eq_join]
  exact join_ones cs
theorem nm_ones {cs : List Nat} (h1 : 1 ≤ cs.length) (h2 : cs.length ≤ 8) (h3 : ∀ c ∈ cs, 97 ≤ c ∧ c ≤ 122) : IsNm ⟨cs.toArray⟩ := by
  unfold My.IsNm My.isNmB
  have : (Str.mk cs.toArray).length = cs.length := by show cs.toArray.size = _; simp
  rw [this]
  simp only [Bool.and_eq_true, decide_eq_true_eq, List.all_eq_true]
  exact ⟨⟨h1, h2⟩, fun c hc => h3 c (by simpa using hc)⟩
def spWord : Sp := fun vs H Q _ => ∃ (d : Addr) (n : Nat), vs = [.ref d] ∧ DSt H d n ∧ n ≤ 2 ^ 38 ∧ ∀ (x : Str) (H' : Hp), IsNm x → DSt H' d (n + 50) → SameBut d H H' → Q (.str x) H'
theorem DSt.le {H : Hp} {d : Addr} {n m : Nat} (h : DSt H d n) (k : n ≤ m) : DSt H d m := by
  obtain ⟨l, c, t, a, b, e, f⟩ := h
  exact ⟨l, c, t, a, b, e, by omega⟩
theorem DSt.same {H H' : Hp} {d : Addr} {n : Nat} (h : DSt H d n) (k : Same H H') : DSt H' d n := by
  obtain ⟨l, c, t, a, b⟩ := h
  exact ⟨l, c, t, k _ _ a, b⟩
theorem DSt.ne {H : Hp} {d p : Addr} {n : Nat} (h : DSt H d n) (k : H p = none) : d ≠ p := by
  obtain ⟨l, c, t, a, b⟩ := h
  exact ne_of_none a k
theorem DSt.upd {H : Hp} {d p : Addr} {n : Nat} {o : HO} (h : DSt H d n) (k : d ≠ p) : DSt (upd H p o) d n := by
  obtain ⟨l, c, t, a, b⟩ := h
  exact ⟨l, c, t, by rw [upd_ne k]; exact a, b⟩
theorem len_ones (cs : List Nat) : ((cs.map one).map (·.length)).sum = cs.length := by
  induction cs with
  | nil => rfl
  | cons c r ih =>
    simp only [List.map_cons, List.sum_cons, List.length_cons, ih]
    show 1 + r.length = _
    omega
theorem sb_new {d p : Addr} {H H1 : Hp} {o : HO} (a : SameBut d H H1) (h : H p = none) : SameBut d H (upd H1 p o) := fun c u n e => by
  rw [upd_ne (ne_of_none e h)]
  exact a c u n e
theorem sb_free {d p : Addr} {H H1 : Hp} (a : SameBut d H H1) (n : p ≠ d) (h : H1 p = none) : H p = none := by
  cases e : H p with
  | none => rfl
  | some o =>
    rw [a p o n e] at h
    cases h
abbrev s_Lword : Stmt := topS 50
abbrev N_Lword : List Str := ["_law_state", "_law_signs", "_law_j", "_law_some"]
theorem sc_Lword : FnScope N_Lword ["_law_state"] (defScope s_Lword) := ⟨rfl, rfl, rfl, by decide +kernel, rfl, by decide +kernel, by decide +kernel⟩
section
variable {P : Program} {w : World} {K : PySem.W.Frag} {mg : Str → Option Value} {base : Heap}
theorem ok_Lword {f fD : Addr} {fd fdD : FuncData} (F : Fun K "_law_word" "_law_word" s_Lword f fd) (G : FnOk P w K mg base CX0 2 fD fdD ["_law_state", "_law_size"] spDigit)
    (n_range : mg "range" = none) (m_Ldigit : mg "_law_digit" = some (.ref fD)) (k_Ldigit : PySem.W.keepIn K (.ref fD) = true) (b_Ldigit : Binds K fdD ["_law_state", "_law_size"] []) : FnOk P w K mg base CX0 3 f fd ["_law_state"] spWord := by
  refine F.ok sc_Lword (fun vs H Q E h => ?_) (fun cdv A outer s H vs Q E hr h => ?_)
  · obtain ⟨d, n, rfl, _⟩ := h
    rfl
  · obtain ⟨d, n, rfl, hd, hn, q⟩ := h
    have hu := hu_of hr
    refine ⟨_, (pss_cons (ps_setLc (i := 1) (own := [("_law_j", 2)]) rfl sc_Lword.nd rfl rfl (sw_true rfl rfl rfl (by decide +kernel)) (pi_range1 (by rfl) n_range (pa_cons (pe_op op_add pe_int (pe_call G (hr.mono (by decide)) (by rfl) m_Ldigit k_Ldigit b_Ldigit .nil pass0 (pa_cons (pv 0) (pa_cons pe_int pa_nil)))) pa_nil)) (blkOk_by (N := N_Lword) (sc := defScope s_Lword) (by decide +kernel)) (fun _ _ _ _ _ => (pg_name (i := 2) sc_Lword.nd rfl (by first | exact .inl rfl | exact .inr rfl))) (fun _ _ _ _ _ => pts_nil) (fun _ _ _ _ _ => (pe_ix ix_str pe_str (pe_call G (hr.mono (by decide)) (by rfl) m_Ldigit k_Ldigit b_Ldigit .nil pass0 (pa_cons (pv 0) (pa_cons pe_int pa_nil))) (fun _ _ => rfl))))
    (pss_cons (ps_set (i := 3) sc_Lword.nd rfl (by first | exact .inl rfl | exact .inr rfl) (pe_lst (pa_cons (pe_join pe_str (pv 1)) (pa_cons (pe_join pe_str (pe_slice sl_list (pv 1) po_none (po_some pe_int))) (pa_cons pe_str (pa_cons pe_str (pa_cons pe_str (pa_cons pe_str (pa_cons pe_str (pa_cons pe_str (pa_cons pe_str (pa_cons pe_str (pa_cons pe_str (pa_cons pe_str pa_nil))))))))))))))
    (pss_one (ps_ret (pe_ix ix_list (pv 3) (pe_call G (hr.mono (by decide)) (by rfl) m_Ldigit k_Ldigit b_Ldigit .nil pass0 (pa_cons (pv 0) (pa_cons pe_int pa_nil))) (fun _ _ => rfl)))))), ?_⟩
    walk_at "go"
    refine ⟨d, 8, n, rfl, by decide, by decide, hd, by omega, fun m H1 m0 m1 hd1 S1 => ?_⟩
    walk_at "go"
    have hdD : ∀ {D : Addr}, H1 D = none → d ≠ D := fun e => hd1.ne e
    refine ⟨by omega, by omega, fun D hD => lc_range (lo := 0) (n := (1 + m).toNat) (fun i H2 => DSt H2 d (n + 4 + 4 * i) ∧ SameBut d H H2 ∧ ∃ cs : List Nat, H2 D = some (.lst ((cs.map one).map V.str)) ∧ cs.length = i ∧ ∀ c ∈ cs, 97 ≤ c ∧ c ≤ 122)
      ⟨hd1.upd (hdD hD), sb_trans S1 (sb_same (My.new hD)), [], upd_same, rfl, fun c h => absurd h (List.not_mem_nil)⟩ ?_ ?_⟩
    · rintro i H2 hi ⟨h1, S2, cs, h2, h3, h4⟩
      walk_at "go"
      dsimp only [tYes]
      walk_at "go"
      refine ⟨d, 26, _, rfl, by decide, by decide, h1, by omega, fun c H3 c0 c1 hd3 S3 => ?_⟩
      have h26 : (Str.ofString "abcdefghijklmnopqrstuvwxyz").cps.toList.length = 26 := by decide +kernel
      obtain ⟨u, hu1, e⟩ := My.atIn ((Str.ofString "abcdefghijklmnopqrstuvwxyz").cps.toList) c c0 (by omega)
      have hu2 : ∀ u ∈ (Str.ofString "abcdefghijklmnopqrstuvwxyz").cps.toList, 97 ≤ u ∧ u ≤ 122 := by decide +kernel
      refine ⟨_, _, u, rfl, rfl, by decide +kernel, e, ?_⟩
      have hne : D ≠ d := (hdD hD).symm
      refine ⟨_, S3 _ _ hne h2, by rw [List.length_map, List.length_map, h3]; exact small1000 (by omega), (hd3.upd hne.symm).le (by omega), sb_new (sb_trans S2 S3) (sb_free S1 hne hD), cs ++ [u], by rw [upd_same, List.map_append, List.map_append]; rfl, by rw [List.length_append, h3]; rfl, ?_⟩
      intro c hc
      rcases List.mem_append.mp hc with hc | hc
      · exact h4 c hc
      · rw [List.mem_singleton.mp hc]
        exact hu2 _ hu1
    · rintro H2 ⟨h1, S2, cs, h2, h3, h4⟩
      have hne : D ≠ d := (hdD hD).symm
      have hDH := sb_free S1 hne hD
      walk_at "go"
      refine ⟨_, _, cs.map one, rfl, rfl, .inl (SqL.of h2), ?_, ?_⟩
      · rw [len_ones, h3]
        have : (Str.ofString "").length = 0 := by decide +kernel
        rw [this]
        omega
      rw [txt_ones]
      walk_at "go"
      refine ⟨_, _, rfl, SqL.of h2, fun p hp => ?_⟩
      rw [show (2 : Int) = ((2 : Nat) : Int) from rfl, My.cutTo, ← List.map_take, ← List.map_take]
      walk_at "go"
      refine ⟨_, _, (cs.take 2).map one, rfl, rfl, .inl My.lstNew, ?_, ?_⟩
      · rw [len_ones, List.length_take]
        have : (Str.ofString "").length = 0 := by decide +kernel
        rw [this]
        omega
      rw [txt_ones]
      walk_at "go"
      refine ⟨My.small (by show 12 ≤ 1000; decide), fun r hr' => ?_⟩
      walk_at "go"
      have hpH : H p = none := sb_free S2 (h1.ne hp).symm hp
      have h1' := h1.upd (o := .lst (((cs.take 2).map one).map V.str)) (h1.ne hp)
      have hrH : H r = none := sb_free (sb_new S2 hpH) (h1'.ne hr').symm hr'
      refine ⟨d, 12, _, rfl, by decide, by decide, h1'.upd (h1'.ne hr'), by omega, fun c H3 c0 c1 hd3 S3 => ?_⟩
      obtain ⟨v, hv, e⟩ := My.atIn [V.str ⟨cs.toArray⟩, V.str ⟨(cs.take 2).toArray⟩, V.str "u", V.str "v", V.str "w", V.str "x", V.str "y", V.str "total", V.str "names", V.str "case", V.str "axes", V.str "tell"] c c0 c1
      refine ⟨r, _, _, _, rfl, rfl, SqL.of (S3 _ _ (h1'.ne hr').symm upd_same), e, ?_⟩
      obtain ⟨x, rfl, hx⟩ : ∃ x, v = V.str x ∧ IsNm x := by
        simp only [List.mem_cons, List.not_mem_nil, or_false] at hv
        rcases hv with rfl | rfl | rfl | rfl | rfl | rfl | rfl | rfl | rfl | rfl | rfl | rfl
        · exact ⟨_, rfl, nm_ones (by omega) (by omega) h4⟩
        · exact ⟨_, rfl, nm_ones (by rw [List.length_take]; omega) (by rw [List.length_take]; omega) fun c hc => h4 c (List.mem_of_mem_take hc)⟩
        all_goals exact ⟨_, rfl, (by unfold My.IsNm; decide +kernel)⟩
      exact q x H3 hx (hd3.le (by omega)) (sb_trans (sb_new (sb_new S2 hpH) hrH) S3)
end
end K12

namespace K12
set_option autoImplicit false
open PySem PySem.W L2 Evl My LamX
/-- what a draw leaves: the state's dict at d changed, all else kept; B' known behind, without d -/
structure GrD (d : Addr) (B H B' H' : Hp) : Prop where
  s : SameBut d H H'
  b : Ex B B'
  c : Ex B' H'
  d : B' d = none
  n : NoTab B → NoTab B'
  f : ∀ x, B x = none → H x ≠ none → B' x = none
theorem GrD.refl {d : Addr} {B H : Hp} (e : Ex B H) (h : B d = none) : GrD d B H B H := ⟨fun _ _ _ e => e, Ex.refl B, e, h, id, fun _ h _ => h⟩
theorem GrD.trans {d : Addr} {B H B1 H1 B2 H2 : Hp} (g : GrD d B H B1 H1) (k : GrD d B1 H1 B2 H2) : GrD d B H B2 H2 := ⟨sb_trans g.s k.s, g.b.trans k.b, k.c, k.d, fun z => k.n (g.n z), fun x hb hh => if n : x = d then n ▸ k.d else k.f x (g.f x hb hh) (by cases e : H x with | none => exact absurd e hh | some o => rw [g.s x o n e]; exact fun z => nomatch z)⟩
theorem ex_sb {d : Addr} {B H H' : Hp} (e : Ex B H) (h : B d = none) (s : SameBut d H H') : Ex B H' := fun b o k => s b o (ne_of_none k h) (e b o k)
theorem GrD.same {d : Addr} {B H H' : Hp} (e : Ex B H) (h : B d = none) (s : SameBut d H H') : GrD d B H B H' := ⟨s, Ex.refl B, ex_sb e h s, h, id, fun _ h _ => h⟩
theorem GrD.gr {d : Addr} {B H B' H' : Hp} {n : Nat} (g : Gr B H B' H') (h : B d = none) (hd : DSt H d n) : GrD d B H B' H' := ⟨fun b o _ e => g.a b o e, g.b, g.c, g.d d h (by obtain ⟨l, c, t, e, _⟩ := hd; rw [e]; exact fun z => nomatch z), g.e, fun x hb hh => g.d x hb hh⟩
theorem DSt.ex {H H' : Hp} {d : Addr} {n : Nat} (h : DSt H d n) (e : Ex H H') : DSt H' d n := by
  obtain ⟨l, c, t, a, b⟩ := h
  exact ⟨l, c, t, e _ _ a, b⟩
def lets8 : List Str := signsOf "uvwpqrst"
theorem lets_nm : ∀ y ∈ lets8, My.IsNm y := by
  unfold My.IsNm
  decide +kernel
theorem lets_u : ("u" : Str) ∈ lets8 ∧ ("v" : Str) ∈ lets8 ∧ ("w" : Str) ∈ lets8 := by decide +kernel
theorem free_one {xs : List Str} (h : xs.length ≤ 2) : ∃ y ∈ lets8, y ∉ xs := by
  obtain ⟨h1, h2, h3⟩ := lets_u
  have n1 : ("u" : Str) ≠ "v" := by decide +kernel
  have n2 : ("u" : Str) ≠ "w" := by decide +kernel
  have n3 : ("v" : Str) ≠ "w" := by decide +kernel
  by_cases a : ("u" : Str) ∈ xs
  · by_cases b : ("v" : Str) ∈ xs
    · by_cases c : ("w" : Str) ∈ xs
      · exfalso
        match xs, h with
        | [], _ => exact (List.not_mem_nil a).elim
        | [x], _ =>
          rw [List.mem_singleton] at a b
          exact n1 (a.trans b.symm)
        | [x, y], _ =>
          simp only [List.mem_cons, List.not_mem_nil, or_false] at a b c
          rcases a with a | a <;> rcases b with b | b <;> rcases c with c | c <;> first | exact n1 (a.trans b.symm) | exact n2 (a.trans c.symm) | exact n3 (b.trans c.symm)
      · exact ⟨_, h3, c⟩
    · exact ⟨_, h2, b⟩
  · exact ⟨_, h1, a⟩
theorem all_strs {H : Hp} : ∀ ys : List Str, AllP (ys.map fun y => IsV (.str y)) (ys.map V.str) H
  | [] => trivial
  | y :: ys => ⟨rfl, all_strs ys⟩
def spNames : Sp := fun vs H Q _ => ∃ (d : Addr) (n m : Nat), vs = [.ref d, .int (m : Int)] ∧ m ≤ 3 ∧ DSt H d n ∧ n ≤ 2 ^ 37 ∧ ∀ (p : Addr) (xs : List Str) (H' : Hp), H p = none → H' p = some (.lst (xs.map V.str)) → xs.length = m → xs.Nodup → (∀ x ∈ xs, My.IsNm x) → DSt H' d (n + 200) → SameBut d H H' → p ≠ d → Q (.ref p) H'
section
variable {P : Program} {w : World} {K : PySem.W.Frag} {mg : Str → Option Value} {base : Heap}

/-- _law_names -/
abbrev s_Lnames : Stmt := topS 51
abbrev N_Lnames : List Str := ["_law_state", "_law_many", "_law_found", "_law_j", "_law_some", "_law_one"]
theorem sc_Lnames : FnScope N_Lnames ["_law_state", "_law_many"] (defScope s_Lnames) := ⟨rfl, rfl, rfl, by decide +kernel, rfl, by decide +kernel, by decide +kernel⟩
theorem ok_Lnames {f : Addr} {fd : FuncData} (F : Fun K "_law_names" "_law_names" s_Lnames f fd)  {f_Lword : Addr} {d_Lword : FuncData} (c_Lword : Cal P w K mg base "_law_word" 3 ["_law_state"] spWord f_Lword d_Lword) (n_range : mg "range" = none) (n_list : mg "list" = none)  :
    FnOk P w K mg base CX0 4 f fd ["_law_state", "_law_many"] spNames := by
  refine F.ok sc_Lnames (fun vs H Q E h => by obtain ⟨d, n, m, rfl, _⟩ := h; rfl) (fun cdv A outer s H vs Q E hr h => ?_)
  obtain ⟨d, n, m, rfl, hm, hd, hn, q⟩ := h
  have hu := hu_of hr
  refine ⟨_, (pss_cons (ps_set (i := 2) sc_Lnames.nd rfl (by first | exact .inl rfl | exact .inr rfl) (pe_lst pa_nil))
    (pss_cons (ps_for PassesOwn.never rfl (pi_range1 (by rfl) n_range (pa_cons (pv 1) pa_nil)) (pg_name (i := 3) sc_Lnames.nd rfl (by first | exact .inl rfl | exact .inr rfl))
      (pss_cons (ps_set (i := 4) sc_Lnames.nd rfl (by first | exact .inl rfl | exact .inr rfl) (pe_op op_cat (pe_lst (pa_cons (pe_call c_Lword.G (hr.mono (by decide)) (by rfl) c_Lword.m c_Lword.k c_Lword.b .nil pass0 (pa_cons (pv 0) pa_nil)) pa_nil)) (pe_callTy (call_listS rfl) (by rfl) n_list (by decide +kernel) (pa_cons pe_str pa_nil))))
    (pss_cons (ps_setLc (i := 4) (tt := tTest (tOp (rIn K true) (tVar 5) (tVar 2))) (own := [("_law_one", 5)]) rfl sc_Lnames.nd rfl rfl (sw_true rfl rfl rfl (by decide +kernel)) (pi_list (pv 4)) (blkOk_by (N := N_Lnames) (sc := defScope s_Lnames) (by decide +kernel)) (fun _ _ _ _ _ => (pg_name (i := 5) sc_Lnames.nd rfl (Or.inl rfl))) (fun _ _ _ _ _ => (pts_one (pt_cmpR op_notIn_seq (pv 5) (pv 2) (by rfl)))) (fun _ _ _ _ _ => (pv 5)))
    (pss_one (ps_expr (pe_bm PySem.F.plainAttrs_list PySem.F.slot_list_append PySem.F.type_list_append mt_append (pv 2) (pa_cons (pe_ix ix_list (pv 4) pe_int (fun _ _ => rfl)) pa_nil)))))))
    (pss_one (ps_ret (pv 2))))), ?_⟩
  refine ⟨by decide, fun l hl => ?_⟩
  have ld : d ≠ l := hd.ne hl
  dsimp only
  refine ⟨.int (m : Int), rfl, (m : Int), rfl, by omega, by omega, for_range (lo := 0) (n := m) (fun i σ H1 => ∃ (xs : List Str) (x3 x4 x5 : Option V), σ = [some (.ref d), some (.int m), some (.ref l), x3, x4, x5] ∧ H1 l = some (.lst (xs.map V.str)) ∧ xs.length = i ∧ xs.Nodup ∧ (∀ x ∈ xs, My.IsNm x) ∧ DSt H1 d (n + 60 * i) ∧ SameBut d H H1)
    ⟨[], none, none, none, rfl, upd_same, rfl, List.nodup_nil, fun x h => absurd h List.not_mem_nil, (hd.upd ld).le (by omega), sb_same (My.new hl)⟩ ?_ ?_⟩
  · rintro i σ H1 hi ⟨xs, x3, x4, x5, rfl, hL, hlen, hnd, hnm, hd1, S1⟩
    refine ⟨.ref d, rfl, d, n + 60 * i, rfl, hd1, by omega, fun x H2 hx hd2 S2 => ?_⟩
    have hL2 := S2 l _ ld.symm hL
    refine ⟨My.small (by show 1 ≤ 1000; decide), fun p1 hp1 => ?_⟩
    refine ⟨"uvwpqrst", rfl, by decide +kernel, fun p2 hp2 => ?_⟩
    have n12 : p1 ≠ p2 := ne_of_none upd_same hp2
    have h1at : upd (upd H2 p1 (.lst [.str x])) p2 (.lst (lets8.map V.str)) p1 = some (.lst [.str x]) := by rw [upd_ne n12, upd_same]
    refine ⟨p1, p2, [.str x], lets8.map V.str, rfl, rfl, h1at, upd_same, ?_, fun p3 hp3 => ?_⟩
    · exact sz_of (by have : (lets8.map V.str).length = 8 := by decide +kernel
                      rw [this]; show 1 + 8 ≤ 100000; decide)
    have e23 : Ex H2 (upd (upd (upd H2 p1 (.lst [.str x])) p2 (.lst (lets8.map V.str))) p3 (.lst ([.str x] ++ lets8.map V.str))) := ((Ex.new hp1).trans (Ex.new hp2)).trans (Ex.new hp3)
    show gName 4 (V.ref p3) _ (upd (upd (upd H2 p1 (.lst [.str x])) p2 (.lst (lets8.map V.str))) p3 (.lst ([.str x] ++ lets8.map V.str))) _
    generalize hH3 : upd (upd (upd H2 p1 (.lst [.str x])) p2 (.lst (lets8.map V.str))) p3 (.lst ([.str x] ++ lets8.map V.str)) = H3 at e23
    have h3at : H3 p3 = some (.lst ((x :: lets8).map V.str)) := by rw [← hH3]; exact upd_same
    have hL3 := e23 _ _ hL2
    dsimp only
    have hstr : (x :: lets8).length = 9 := by
      rw [List.length_cons]
      decide +kernel
    have lc := p_lcS (tt := tTest (tOp (rIn K true) (tVar 5) (tVar 2))) (te := tVar 5) (g := gName 5) (vs := [5]) (σ := [some (.ref d), some (.int m), some (.ref l), some (.int (0 + (i : Nat))), some (.ref p3), x5]) (B := H3)
      (src_lq (K := K) (te := tVar 4) (ps := (x :: lets8).map fun y => IsV (.str y)) (p_var rfl ⟨p3, _, rfl, sq_of h3at, all_strs _⟩)) (by rw [List.length_map, hstr]; decide) (fun k => !decide ((x :: lets8).getD k "" ∈ xs)) (fun k => IsV (.str ((x :: lets8).getD k ""))) fun k v B1 hk e1 pv => by
        rw [List.length_map] at hk
        have hv : v = .str ((x :: lets8).getD k "") := by
          have : (((x :: lets8).map fun y => IsV (.str y)).getD k (IsV .non)).P v B1 := pv
          rw [List.getD_eq_getElem?_getD, List.getElem?_map, List.getElem?_eq_getElem hk] at this
          rw [List.getD_eq_getElem?_getD, List.getElem?_eq_getElem hk]
          exact this
        subst hv
        refine ⟨[some (.ref d), some (.int m), some (.ref l), some (.int (0 + (i : Nat))), some (.ref p3), some (.str ((x :: lets8).getD k ""))], rfl, fun H4 Q e q => q, et_is (et_test (ev_op (ev_var rfl) (ev_var rfl) (rv_niL (sq_of (e1 _ _ hL3)) rfl (My.flat_strs xs)))) (by rw [inV_strs]), fun _ => p_varV rfl⟩
    dsimp only [gName, tSeq, tAsg, List.set_cons_succ, List.set_cons_zero, List.map_cons, List.map_nil]
    refine lc H3 (Ex.refl H3) _ fun v B4 H4 g4 hv => ?_
    obtain ⟨p4, ys, rfl, h4, h5⟩ := hv
    have e24 := e23.trans g4.a
    obtain ⟨k, L, hkL⟩ : ∃ k L, (List.range ((x :: lets8).map fun y => IsV (.str y)).length).filter (fun k => !decide ((x :: lets8).getD k "" ∈ xs)) = k :: L := by
      obtain ⟨y, hy, hny⟩ := free_one (xs := xs) (by omega)
      obtain ⟨k, hk⟩ := List.mem_iff_getElem?.mp (List.mem_cons_of_mem x hy)
      have hkl : k < (x :: lets8).length := (List.getElem?_eq_some_iff.mp hk).1
      have : k ∈ (List.range ((x :: lets8).map fun y => IsV (.str y)).length).filter (fun k => !decide ((x :: lets8).getD k "" ∈ xs)) := by
        rw [List.mem_filter, List.mem_range, List.length_map]
        refine ⟨hkl, ?_⟩
        rw [List.getD_eq_getElem?_getD, hk]
        simp [hny]
      cases hf : (List.range ((x :: lets8).map fun y => IsV (.str y)).length).filter (fun k => !decide ((x :: lets8).getD k "" ∈ xs)) with
      | nil =>
        rw [hf] at this
        exact (List.not_mem_nil this).elim
      | cons a b => exact ⟨a, b, rfl⟩
    rw [hkL] at h5
    have hk : k < (x :: lets8).length ∧ (x :: lets8).getD k "" ∉ xs := by
      have : k ∈ (List.range ((x :: lets8).map fun y => IsV (.str y)).length).filter (fun k => !decide ((x :: lets8).getD k "" ∈ xs)) := by rw [hkL]; exact List.mem_cons_self
      rw [List.mem_filter, List.mem_range, List.length_map] at this
      exact ⟨this.1, by simpa using this.2⟩
    have hnk : My.IsNm ((x :: lets8).getD k "") := by
      rw [List.getD_eq_getElem?_getD, List.getElem?_eq_getElem hk.1]
      rcases List.mem_cons.mp (List.getElem_mem hk.1) with e | e
      · show My.IsNm (x :: lets8)[k]
        rw [e]
        exact hx
      · exact lets_nm _ e
    match ys, h5 with
    | y :: ys, h5 =>
      obtain rfl : y = .str ((x :: lets8).getD k "") := h5.1
      have hL4 := g4.a _ _ hL3
      refine ⟨.ref l, rfl, .inl ⟨rfl, _, sq_of hL4⟩, .ref p4, rfl, p4, _, 0, _, rfl, rfl, sq_of (g4.c _ _ h4), (show atI _ ((0 : Nat) : Int) = _ from atI_nat rfl), l, _, _, rfl, rfl, hL4, sz_lt (by rw [List.length_map]; omega), ?_⟩
      have hd4 : DSt H4 d (n + 60 * i + 50) := hd2.ex e24
      refine ⟨xs ++ [(x :: lets8).getD k ""], _, _, _, rfl, by rw [upd_same, List.map_append]; rfl, by rw [List.length_append, hlen]; rfl, ?_, ?_, (hd4.upd ld).le (by omega), ?_⟩
      · rw [List.nodup_append]
        exact ⟨hnd, by simp, fun a ha b hb => by
          rw [List.mem_singleton.mp hb]
          rintro rfl
          exact hk.2 ha⟩
      · intro y hy
        rcases List.mem_append.mp hy with hy | hy
        · exact hnm y hy
        · rw [List.mem_singleton.mp hy]
          exact hnk
      · intro b o hb e
        have hbl : b ≠ l := ne_of_none e hl
        rw [upd_ne hbl]
        exact e24 _ _ (S2 b o hb (S1 b o hb e))
  · rintro σ H1 ⟨xs, x3, x4, x5, rfl, hL, hlen, hnd, hnm, hd1, S1⟩
    exact ⟨.ref l, rfl, q l xs H1 hl hL hlen hnd hnm (hd1.le (by omega)) S1 ld.symm⟩

end
end K12

namespace K12
set_option autoImplicit false
open PySem PySem.W L2 Evl My LamX
section
variable {P : Program} {w : World} {K : PySem.W.Frag} {mg : Str → Option Value} {base : Heap}


end
end K12

namespace K12
set_option autoImplicit false
open PySem PySem.W L2 Evl My LamX
section
variable {P : Program} {w : World} {K : PySem.W.Frag} {mg : Str → Option Value} {base : Heap}


end
end K12
namespace K12
set_option autoImplicit false
open PySem PySem.W L2 Evl My Nd LamX NdefX
theorem DSt.ne0 {H : Hp} {d : Addr} {n : Nat} (h : DSt H d n) : H d ≠ none := by
  obtain ⟨l, c, t, e, _⟩ := h
  rw [e]
  exact fun z => nomatch z
theorem tabs_lst {T : List (Addr × Str)} {p : Addr} {H : Hp} {xs : List V} {o : HO} (t : Tabs T H) (hp : H p = some (.lst xs)) : Tabs T (upd H p o) := by
  have at_ : ∀ {b : Addr} {u : HO}, H b = some u → (∀ ys, u ≠ .lst ys) → wo p H b = some u := fun {b u} h n => by
    rw [wo_ne fun z => by
      subst z
      rw [hp] at h
      exact n xs (Option.some.inj h).symm]
    exact h
  refine Tabs.ext (H := wo p H) (fun q hq => ?_) fun b u e => by
    obtain ⟨n, k⟩ := wo_some e
    rw [upd_ne n]
    exact k
  obtain ⟨ps, h1, h2, h3⟩ := t q hq
  refine ⟨ps, at_ h1 (fun _ z => nomatch z), h2, fun pos cv hc => ?_⟩
  obtain ⟨c, e1, e2⟩ := h3 pos cv hc
  exact ⟨c, e1, at_ e2 (fun _ z => nomatch z)⟩
section
variable {t u : TS} {D : Ends} {σ : L2.St} {H : Hp} {te ta tb : TE} {tx tr : TA} {g : TG} {Q : VK} {r : R2}
theorem b_seq (h : t { D with nx := u D } σ H) : tSeq t u D σ H := h
theorem b_asg (h : te σ H fun x H1 => g x σ H1 D.nx) : tAsg te g D σ H := h
theorem b_op (h : ta σ H fun x H1 => tb σ H1 fun y H2 => r x y H2 Q) : tOp r ta tb σ H Q := h
theorem b_ret (h : te σ H D.rt) : tRet te D σ H := h
theorem b_tup (h : tx σ H fun xs H1 => xs.length ≤ sizeLine ∧ ∀ p, H1 p = none → Q (.ref p) (upd H1 p (.tup xs))) : tTup tx σ H Q := h
theorem b_cons {Q : List V → Hp → Prop} (h : ta σ H fun x H1 => tr σ H1 fun xs H2 => Q (x :: xs) H2) : tCons ta tr σ H Q := h
end
/-- what is known in B of a heap H with tables T and the draws' state at d, of at most n turns -/
structure Kx (T : List (Addr × Str)) (d : Addr) (n : Nat) (B H : Hp) : Prop where
  e : Ex B H
  nt : NoTab B
  t : Tabs T H
  z : B d = none
  s : DSt H d n
/-- what stays: all but the tables and the state -/
structure GX (d : Addr) (B H B' H' : Hp) : Prop where
  a : ∀ b o, b ≠ d → H b = some o → (∀ ps, o ≠ .tbl ps) → H' b = some o
  b : Ex B B'
  f : ∀ x o, x ≠ d → B x = none → H x = some o → (∀ ps, o ≠ .tbl ps) → B' x = none
section
variable {T : List (Addr × Str)} {d : Addr} {n m : Nat} {B H B1 H1 B2 H2 : Hp}
theorem GX.refl : GX d B H B H := ⟨fun _ _ _ e _ => e, Ex.refl B, fun _ _ _ h _ _ => h⟩
theorem GX.trans (g : GX d B H B1 H1) (k : GX d B1 H1 B2 H2) : GX d B H B2 H2 := ⟨fun b o n e z => k.a b o n (g.a b o n e z) z, g.b.trans k.b, fun x o n hb hh z => k.f x o n (g.f x o n hb hh z) (g.a x o n hh z) z⟩
theorem GX.gr (g : Gr B H B1 H1) : GX d B H B1 H1 := ⟨fun b o _ e _ => g.a b o e, g.b, fun x o _ hb hh _ => g.d x hb (by rw [hh]; exact fun z => nomatch z)⟩
theorem GX.gt (g : GT T B H B1 H1) : GX d B H B1 H1 := ⟨fun b o _ e z => g.a b o e z, g.b, fun x o _ hb hh z => g.f x o hb hh z⟩
theorem GX.sb (S : SameBut d H H1) : GX d B H B H1 := ⟨fun b o n e _ => S b o n e, Ex.refl B, fun _ _ _ h _ _ => h⟩
theorem GX.ex (e : Ex H H1) : GX d B H B H1 := ⟨fun b o _ h _ => e b o h, Ex.refl B, fun _ _ _ h _ _ => h⟩
theorem Kx.kn (k : Kx T d n B H) : Kn T B H := ⟨k.e, k.nt, k.t⟩
theorem Kx.gr (k : Kx T d n B H) (g : Gr B H B1 H1) : Kx T d n B1 H1 := ⟨g.c, g.e k.nt, k.t.ext g.a, g.d d k.z k.s.ne0, k.s.ex g.a⟩
theorem Kx.ex (k : Kx T d n B H) (e : Ex H H1) : Kx T d n B H1 := ⟨k.e.trans e, k.nt, k.t.ext e, k.z, k.s.ex e⟩
theorem Kx.gt (k : Kx T d n B H) (g : GT T B H B1 H1) : Kx T d n B1 H1 := by
  obtain ⟨l, c, t, a, b⟩ := k.s
  exact ⟨g.c, g.e k.nt, g.t k.t, g.f d _ k.z a (fun _ z => nomatch z), l, c, t, g.a _ _ a (fun _ z => nomatch z), b⟩
theorem Kx.sb (k : Kx T d n B H) (S : SameBut d H H1) (hd : DSt H1 d m) : Kx T d m B H1 := by
  obtain ⟨l, c, t, a, b⟩ := k.s
  exact ⟨fun b o e => S b o (ne_of_none e k.z) (k.e b o e), k.nt, tabs_but k.t a S, k.z, hd⟩
theorem Kx.le (k : Kx T d n B H) (h : n ≤ m) : Kx T d m B H := ⟨k.e, k.nt, k.t, k.z, k.s.le h⟩
theorem x_digit {i : Nat} {z : Int} {te : TE} {σ : L2.St} {Q : VK} (k : Kx T d n B H) (hi : σ[i]? = some (some (.ref d))) (he : Ev te σ B (.int z)) (z0 : 0 < z) (z1 : z < 1073741824) (hn : n ≤ 2 ^ 39)
    (q : ∀ (m : Int) H', 0 ≤ m → m < z → Kx T d (n + 4) B H' → GX d B H B H' → Q (.int m) H') : tCall spDigit [] E0 (tCons (tVar i) (tCons te tNil)) σ H Q :=
  ⟨.ref d, hi, he H k.e _ fun H2 e2 => ⟨d, z, n, rfl, z0, z1, (k.ex e2).s, hn, fun m H' m0 m1 hd S => q m H' m0 m1 ((k.ex e2).sb S hd) ((GX.ex e2).trans (GX.sb S))⟩⟩
end
/-- the digit's thing of a list -/
theorem pick {ps : List Pr} {xs : List V} {B : Hp} (h : AllP ps xs B) {m : Int} (m0 : 0 ≤ m) (m1 : m < ps.length) : ∃ (i : Nat) (p : Pr) (v : V), i < ps.length ∧ m = (i : Nat) ∧ ps[i]? = some p ∧ atI xs m = some v ∧ p.P v B := by
  obtain ⟨i, rfl⟩ : ∃ i : Nat, m = (i : Nat) := ⟨m.toNat, by omega⟩
  have hi : i < ps.length := by omega
  obtain ⟨v, hv, pv⟩ := h.at (i := i) (p := ps[i]) (List.getElem?_eq_getElem hi)
  exact ⟨i, ps[i], v, hi, rfl, List.getElem?_eq_getElem hi, atI_nat hv, pv⟩
section
variable {te tb : TE} {σ : L2.St} {B : Hp} {K : PySem.W.Frag} {r : Rk}
theorem p_rk1 (h : EvP te σ B (RkP K r)) : EvP (tOp (rIxT K) te (tC (.int 1))) σ B (NmP r.ns) := fun H1 a Q k => h H1 a _ fun v B2 H2 g x => by
  obtain ⟨p, vn, va, rfl, hp, hn, ha⟩ := x
  exact ⟨p, _, 1, vn, rfl, rfl, ex_t g.c hp, rfl, k vn B2 H2 g hn⟩
theorem p_rk2 (h : EvP te σ B (RkP K r)) : EvP (tOp (rIxT K) te (tC (.int 2))) σ B (IsD K (.tuple (r.axs.map .str))) := fun H1 a Q k => h H1 a _ fun v B2 H2 g x => by
  obtain ⟨p, vn, va, rfl, hp, hn, ha⟩ := x
  exact ⟨p, _, 2, va, rfl, rfl, ex_t g.c hp, rfl, k va B2 H2 g ha⟩
end

end K12
namespace Nd
set_option autoImplicit false
open PySem PySem.W L2 My Evl LamX NdefX
def Rlow2 (K : PySem.W.Frag) : List Pr → Pr → Prop := fun ps z => ∃ n d : Int, d ≠ 0 ∧ d.natAbs < 2 ^ 4000 ∧ ps = [IsV (.int n), IsV (.int d)] ∧ z = rtP K (Rat.divInt n d)
section
variable {κ β : Type} [DecidableEq κ] {P : Program} {w : World} {K : PySem.W.Frag} {ky : Ky K κ} {vp : β → Pr} {σ : L2.St} {B : Hp} {zs : List (κ × β)} {i : Nat} {v : V} {k : κ} {f : β} {ty : TE}
end
end Nd
namespace K12
set_option autoImplicit false
open PySem PySem.W L2 Evl My Nd LamX NdefX
theorem int_abs (i : Int) : (if i < 0 then -i else i) = (i.natAbs : Int) := by split <;> omega
section
variable {P : Program} {w : World} {K : PySem.W.Frag} {mg : Str → Option Value} {base : Heap} {T : List (Addr × Str)}
theorem lowest_end {n : Int} {d : Nat} (hd : 0 < d) : fr (Rat.divInt n (d : Int)) = (n / (Nat.gcd d n.natAbs : Nat), (d : Int) / (Nat.gcd d n.natAbs : Nat)) := by
  have h := fr_lowest (n := n) (d := (d : Int)) (by omega)
  rw [h, Nat.gcd_comm]
  rfl

/-- _law_lowest -/
abbrev s_Llowest : Stmt := topS 48
abbrev N_Llowest : List Str := ["_law_top", "_law_bottom", "_law_one", "_law_other"]
theorem sc_Llowest : FnScope N_Llowest ["_law_top", "_law_bottom"] (defScope s_Llowest) := ⟨rfl, rfl, rfl, by decide +kernel, rfl, by decide +kernel, by decide +kernel⟩
theorem ok_Llowest {f : Addr} {fd : FuncData} (F : Fun K "_law_lowest" "_law_lowest" s_Llowest f fd)   (n_abs : mg "abs" = none)  :
    FnOk P w K mg base CX0 1 f fd ["_law_top", "_law_bottom"] (spP (Rlow2 K)) := by
  refine F.ok sc_Llowest (spP_len (by rintro _ _ ⟨_, _, _, _, rfl, rfl⟩; rfl)) (fun cdv A outer s H vs Q E hr h => ?_)
  obtain ⟨B, ps, p, eB, hv, ⟨n, d, hd, hs, rfl, rfl⟩, q⟩ := h
  obtain ⟨v0, v1, rfl, h0, h1⟩ := all2 hv
  have hu := hu_of hr
  refine ⟨_, (pss_cons (ps_asg (pe_ifExp (pt_cmpR op_lt (pv 1) pe_int (nomark _)) (pe_tup (pa_cons (pe_op op_sub pe_int (pv 0)) (pa_cons (pe_op op_sub pe_int (pv 1)) pa_nil))) (pe_tup (pa_cons (pv 0) (pa_cons (pv 1) pa_nil)))) (pg_tup (by rfl) (pgs_cons (pg_name (i := 0) sc_Llowest.nd rfl (by first | exact .inl rfl | exact .inr rfl)) (pgs_cons (pg_name (i := 1) sc_Llowest.nd rfl (by first | exact .inl rfl | exact .inr rfl)) pgs_nil))))
    (pss_cons (ps_par (i := 2) (j := 3) rfl sc_Llowest.nd rfl rfl (by decide) rfl rfl (pa_cons (pv 1) (pa_cons (pe_callB call_abs (by rfl) n_abs (by decide +kernel) (pa_cons (pv 0) pa_nil)) pa_nil)) (by rfl))
    (pss_cons (ps_while PassesOwn.never (pt_cmpR op_gt (pv 3) pe_int (nomark _))
      (pss_one (ps_par (i := 2) (j := 3) rfl sc_Llowest.nd rfl rfl (by decide) rfl rfl (pa_cons (pv 3) (pa_cons (pe_op op_mod (pv 2) (pv 3)) pa_nil)) (by rfl))))
    (pss_one (ps_ret (pe_tup (pa_cons (pe_op op_fdivW (pv 0) (pv 2)) (pa_cons (pe_op op_fdivW (pv 1) (pv 2)) pa_nil)))))))), ?_⟩
  obtain rfl : v0 = _ := h0
  obtain rfl : v1 = _ := h1
  -- a bottom above nought
  obtain ⟨n', d', hd', hs', e'⟩ : ∃ (n' : Int) (d' : Nat), 0 < d' ∧ d' < 2 ^ 4000 ∧ Rat.divInt n d = Rat.divInt n' (d' : Int) ∧ EvP (tIf (tTest (tOp (rI0 fun i j => .bl (decide (i < j))) (tVar 1) (tC (.int 0)))) (tTup (tCons (tOp (rI0 fun i j => .int (i - j)) (tC (.int 0)) (tVar 0)) (tCons (tOp (rI0 fun i j => .int (i - j)) (tC (.int 0)) (tVar 1)) tNil))) (tTup (tCons (tVar 0) (tCons (tVar 1) tNil)))) [some (.int n), some (.int d), none, none] B (TuP K [IsV (.int n'), IsV (.int (d' : Nat))]) := by
    have tst := et_test (σ := [some (.int n), some (.int d), none, none]) (H := B) (ev_op (r := rI0 fun i j => .bl (decide (i < j))) (ev_var (i := 1) rfl) (ev_c (v := .int 0)) rv_I0)
    by_cases c : d < 0
    · refine ⟨-n, (-d).toNat, by omega, by omega, ?_, ed_if tst (fun _ => p_tup (K := K) (q_cons (p_ev (ev_is (ev_op ev_c (ev_var rfl) rv_I0) (by congr 1; omega))) (q_cons (p_ev (ev_is (ev_op ev_c (ev_var rfl) rv_I0) (by congr 1; omega))) q_nil)) (by show 2 ≤ 100000; decide)) fun h => absurd c (of_decide_eq_false h)⟩
      rw [show ((-d).toNat : Int) = -d by omega, Rat.neg_divInt_neg]
    · refine ⟨n, d.toNat, by omega, by omega, ?_, ed_if tst (fun h => absurd (of_decide_eq_true h) c) fun _ => p_tup (K := K) (q_cons (p_varV rfl) (q_cons (p_ev (ev_is (ev_var rfl) (by congr 1; omega))) q_nil)) (by show 2 ≤ 100000; decide)⟩
      rw [show (d.toNat : Int) = d by omega]
  obtain ⟨e1, ev⟩ := e'
  refine ev H eB _ fun v B2 H2 g2 hv => ?_
  obtain ⟨a, y1, y2, rfl, hq, m1, m2⟩ := tup2 hv g2.c
  obtain rfl : y1 = _ := m1
  obtain rfl : y2 = _ := m2
  refine ⟨a, _, rfl, hq, rfl, _, _, rfl, _, _, rfl, rfl, ?_⟩
  dsimp only
  refine ⟨_, rfl, _, rfl, n', rfl, _, _, rfl, ?_⟩
  rw [int_abs]
  dsimp only
  refine ⟨fun m σ H3 => ∃ a b : Nat, m = b ∧ 0 < a ∧ σ = [some (.int n'), some (.int (d' : Nat)), some (.int (a : Nat)), some (.int (b : Nat))] ∧ Nat.gcd a b = Nat.gcd d' n'.natAbs ∧ Ex H2 H3, ⟨_, d', n'.natAbs, rfl, hd', rfl, rfl, Ex.refl H2⟩, fun m σ H3 hw => ?_⟩
  obtain ⟨a, b, rfl, ha, rfl, hg, e3⟩ := hw
  refine et_test (ev_op (r := rI0 fun i j => .bl (decide (j < i))) (ev_var (i := 3) (v := .int (m : Nat)) rfl) (ev_c (v := .int 0)) rv_I0) H3 (Ex.refl H3) _ fun H4 e4 => ?_
  by_cases c : m = 0
  · rw [if_neg (by simp [c])]
    have ea : a = Nat.gcd d' n'.natAbs := by
      rw [← hg, c, Nat.gcd_zero_right]
    have al : a < 2 ^ 4000 := by
      rw [ea]
      exact Nat.lt_of_le_of_lt (Nat.gcd_le_left _ hd') hs'
    have dv : 0 < (a : Int) ∧ ((a : Int)).natAbs.log2 < 9000 := ⟨by omega, by rw [Int.natAbs_natCast]; exact Nat.lt_of_le_of_lt (lg al) (by decide)⟩
    have g4 : Gr B H B2 H4 := g2.trans (Gr.wide g2.c (e3.trans e4))
    dsimp only
    refine My.ps_ret g4.c (p_tup (K := K) (ps := [IsV (.int (n' / (a : Int))), IsV (.int ((d' : Int) / (a : Int)))]) (q_cons (p_ev (ev_divW (ev_var rfl) (ev_var rfl) dv)) (q_cons (p_ev (ev_divW (ev_var rfl) (ev_var rfl) dv)) q_nil)) (by show 2 ≤ 100000; decide)) fun v B5 H5 g5 hp => q v B5 H5 (g4.trans g5) ?_
    show (frP K (fr (Rat.divInt n d))).P v B5
    rw [e1, lowest_end hd', ← ea]
    exact hp
  · rw [if_pos (by simp; omega)]
    refine ⟨fun σ H' => σ = [some (.int n'), some (.int (d' : Nat)), some (.int (m : Nat)), some (.int ((a % m : Nat) : Int))] ∧ Ex H2 H', fun σ H' h => ⟨a % m, Nat.mod_lt _ (by omega), m, a % m, rfl, by omega, h.1, by rw [← hg, Nat.gcd_comm a m]; exact (Nat.gcd_rec m a ▸ Nat.gcd_comm _ _), h.2⟩, ?_⟩
    refine ⟨_, rfl, _, rfl, _, rfl, ⟨(a : Int), (m : Int), rfl, rfl, by omega, _, _, rfl, ?_⟩⟩
    exact ⟨rfl, e3.trans e4⟩

end
end K12
namespace Nd
set_option autoImplicit false
open PySem PySem.W L2 My Evl LamX NdefX
section
variable {κ β : Type} [DecidableEq κ] [Od κ] [Lean.Grind.CommRing β] [DecidableEq β]
end
section
variable {κ β : Type} [DecidableEq κ] {P : Program} {w : World} {K : PySem.W.Frag} {ky : Ky K κ} {vp : β → Pr} {B H0 Bi H : Hp} {d : Addr} {i : Nat} {v : V} {σ : L2.St} {ps : List Pr} {D : Ends} {g : TG} {tbd : TS}
end
end Nd
namespace K12
set_option autoImplicit false
open PySem PySem.W L2 Evl My Nd LamX NdefX
section
variable {P : Program} {w : World} {K : PySem.W.Frag} {mg : Str → Option Value} {base : Heap} {T : List (Addr × Str)}


end
end K12
namespace Nd
set_option autoImplicit false
open PySem PySem.W L2 My Evl LamX NdefX
section
variable {κ β : Type} [DecidableEq κ] {P : Program} {w : World} {K : PySem.W.Frag} {ky : Ky K κ} {vp : β → Pr} {σ : L2.St} {B : Hp} {zs : List (κ × β)} {i : Nat} {v : V} {k : κ} {f : β} {ty : TE}
end
end Nd

namespace K12
set_option autoImplicit false
open PySem PySem.W L2 Evl My Nd LamX NdefX
section
variable {P : Program} {w : World} {K : PySem.W.Frag} {mg : Str → Option Value} {base : Heap} {T : List (Addr × Str)}



end
end K12
namespace Nd
set_option autoImplicit false
open PySem PySem.W L2 My Evl LamX NdefX
end Nd
namespace K12
set_option autoImplicit false
open PySem PySem.W L2 Evl My Nd LamX NdefX
section
variable {P : Program} {w : World} {K : PySem.W.Frag} {mg : Str → Option Value} {base : Heap} {T : List (Addr × Str)}


end
end K12
namespace Nd
set_option autoImplicit false
open PySem PySem.W L2 My Evl LamX NdefX
/-- the law's numbers -/
def NumOk (r : Rat) : Prop := r ≠ 0 ∧ Wh 6 r ∧ ab 6 r ≤ 30
theorem num_all : ∀ t ∈ [1, -1, 2, -2, 3, 1, (5 : Int)], ∀ b ∈ [1, 1, 1, 2, (3 : Int)], Rat.divInt t b ≠ 0 ∧ Rat.divInt t b * (((6 : Nat) : Int) : Rat) = ((t * (6 / b) : Int) : Rat) ∧ (t * (6 / b)).natAbs ≤ 30 := by decide +kernel
theorem num_ok {t b : Int} (ht : t ∈ [1, -1, 2, -2, 3, 1, (5 : Int)]) (hb : b ∈ [1, 1, 1, 2, (3 : Int)]) : NumOk (Rat.divInt t b) := by
  obtain ⟨h1, h2, h3⟩ := num_all t ht b hb
  exact ⟨h1, ⟨_, h2⟩, by rw [ab_of h2]; exact h3⟩
/-- the law's polynomials -/
structure LP (r : Rk) (n : Nat) (p : Pq) : Prop where
  c : PoC p
  of : ∀ t ∈ p, ∀ y ∈ t.1, y.1.Of r
  dg : ∀ t ∈ p, Nd.dg t.1 ≤ 3
  ln : p.length ≤ n
  lm : Lim 6 (30 * n) p
  o : ∀ t ∈ p, ∀ y ∈ t.1, y.1.i + y.1.j ≤ 4
end Nd
namespace K12
set_option autoImplicit false
open PySem PySem.W L2 Evl My Nd LamX NdefX
section
variable {T : List (Addr × Str)} {d : Addr} {n m : Nat} {B H B1 H1 B2 H2 : Hp}
theorem GX.gd (g : GrD d B H B1 H1) : GX d B H B1 H1 := ⟨fun b o n e _ => g.s b o n e, g.b, fun x o _ hb hh _ => g.f x hb (by rw [hh]; exact fun z => nomatch z)⟩
theorem Kx.gd (k : Kx T d n B H) (g : GrD d B H B1 H1) (hd : DSt H1 d m) : Kx T d m B1 H1 := by
  have kk := k.sb g.s hd
  exact ⟨g.c, g.n k.nt, kk.t, g.d, hd⟩
theorem GX.lst {D : Addr} {o : HO} (g : GX d B H B1 H1) (hD : H D = none) : GX d B H B1 (upd H1 D o) := ⟨fun b u n e z => by
  by_cases h : b = D
  · subst h
    rw [hD] at e
    cases e
  · rw [upd_ne h]
    exact g.a b u n e z, g.b, g.f⟩
theorem x_pickI {K : PySem.W.Frag} {ks : List Int} {ta : TA} {σ : L2.St} {i : Nat} {z : Int} {Q : VK} (k : Kx T d n B H) (hl : EvPs ta σ B (ks.map fun i => IsV (.int i))) (hi : σ[i]? = some (some (.ref d))) (hz : z = (ks.length : Nat)) (h0 : 0 < ks.length) (h1 : ks.length < 1000) (hn : n ≤ 2 ^ 38)
    (q : ∀ (j : Nat) (hj : j < ks.length) B' H', Kx T d (n + 4) B' H' → GX d B H B' H' → Q (.int ks[j]) H') : tOp (rIxL K) (tLst ta) (tCall spDigit [] E0 (tCons (tVar i) (tCons (tC (.int z)) tNil))) σ H Q := by
  subst hz
  refine p_lst hl (by rw [List.length_map]; omega) H k.e _ fun v B1 H1 g hv => ?_
  refine x_digit (k.gr g) hi ev_c (by omega) (by omega) (by omega) fun m H2 m0 m1 k2 g2 => ?_
  obtain ⟨l, xs, rfl, hx, al⟩ := hv
  obtain ⟨j, p, w, hj, rfl, hp, hat, hw⟩ := pick al m0 (by rw [List.length_map]; exact m1)
  rw [List.getElem?_map] at hp
  obtain ⟨c, hc, rfl⟩ := Option.map_eq_some_iff.mp hp
  obtain ⟨hj2, rfl⟩ := List.getElem?_eq_some_iff.mp hc
  obtain rfl : w = _ := hw
  exact ⟨l, xs, _, _, rfl, rfl, sq_of (k2.e _ _ hx), hat, q j hj2 B1 H2 k2 ((GX.gr g).trans g2)⟩
end
section
variable {t u : TS} {D : Ends} {σ : L2.St} {H : Hp} {tc ta tb : TE} {tt : TT} {g : TG} {Q : VK}
theorem b_forD (h : tc σ H fun v H1 => ∃ j : Int, [v] = [V.int j] ∧ -(2 ^ 62) ≤ j ∧ j < 2 ^ 62 ∧ ∃ W : Nat → Nat → L2.St → Hp → Prop, (∃ m, W 0 m σ H1) ∧ ∀ i m σ H, W i m σ H →
      ((Itr 0 j.toNat).stop i H ∧ D.nx σ H) ∨ ((Itr 0 j.toNat).go i H ∧ ∃ N : L2.St → Hp → Prop, (∀ σ' H', N σ' H' → ∃ m', m' < m ∧ W (i + 1) m' σ' H') ∧ ∀ x H', (Itr 0 j.toNat).yld i H x H' → g x σ H' fun σ2 H2 => t { D with nx := N, ct := N, bk := D.nx } σ2 H2)) : tFor (iRng1 (tCons tc tNil)) g t D σ H := h
end
def spNum (K : PySem.W.Frag) (T : List (Addr × Str)) : Sp := fun vs H Q _ => ∃ (B : Hp) (d : Addr) (n : Nat), vs = [.ref d] ∧ Kx T d n B H ∧ n ≤ 2 ^ 36 ∧ ∀ (r : Rat) (v : V) (B' H' : Hp), NumOk r → Kx T d (n + 8) B' H' → GX d B H B' H' → (rtP K r).P v B' → Q v H'
section
variable {P : Program} {w : World} {K : PySem.W.Frag} {mg : Str → Option Value} {base : Heap} {T : List (Addr × Str)}

/-- _law_number -/
abbrev s_Lnumber : Stmt := topS 49
abbrev N_Lnumber : List Str := ["_law_state", "_law_top"]
theorem sc_Lnumber : FnScope N_Lnumber ["_law_state"] (defScope s_Lnumber) := ⟨rfl, rfl, rfl, by decide +kernel, rfl, by decide +kernel, by decide +kernel⟩
theorem ok_Lnumber {f : Addr} {fd : FuncData} (F : Fun K "_law_number" "_law_number" s_Lnumber f fd)  {f_Ldigit : Addr} {d_Ldigit : FuncData} (c_Ldigit : Cal P w K mg base "_law_digit" 2 ["_law_state", "_law_size"] spDigit f_Ldigit d_Ldigit) {f_Llowest : Addr} {d_Llowest : FuncData} (c_Llowest : Cal P w K mg base "_law_lowest" 1 ["_law_top", "_law_bottom"] (spP (Rlow2 K)) f_Llowest d_Llowest)   :
    FnOk P w K mg base CX0 3 f fd ["_law_state"] (spNum K T) := by
  refine F.ok sc_Lnumber (fun vs H Q E h => by obtain ⟨B, d, n, rfl, _⟩ := h; rfl) (fun cdv A outer s H vs Q E hr h => ?_)
  obtain ⟨B, d, n, rfl, k, hn, q⟩ := h
  have hu := hu_of hr
  refine ⟨_, (pss_cons (ps_set (i := 1) sc_Lnumber.nd rfl (by first | exact .inl rfl | exact .inr rfl) (pe_ix ix_list (pe_lst (pa_cons pe_int (pa_cons (pe_un un_neg pe_int) (pa_cons pe_int (pa_cons (pe_un un_neg pe_int) (pa_cons pe_int (pa_cons pe_int (pa_cons pe_int pa_nil)))))))) (pe_call c_Ldigit.G (hr.mono (by decide)) (by rfl) c_Ldigit.m c_Ldigit.k c_Ldigit.b .nil pass0 (pa_cons (pv 0) (pa_cons pe_int pa_nil))) (fun _ _ => rfl)))
    (pss_one (ps_ret (pe_call c_Llowest.G (hr.mono (by decide)) (by rfl) c_Llowest.m c_Llowest.k c_Llowest.b .nil pass0 (pa_cons (pv 1) (pa_cons (pe_ix ix_list (pe_lst (pa_cons pe_int (pa_cons pe_int (pa_cons pe_int (pa_cons pe_int (pa_cons pe_int pa_nil)))))) (pe_call c_Ldigit.G (hr.mono (by decide)) (by rfl) c_Ldigit.m c_Ldigit.k c_Ldigit.b .nil pass0 (pa_cons (pv 0) (pa_cons pe_int pa_nil))) (fun _ _ => rfl)) pa_nil)))))), ?_⟩
  refine x_pickI (K := K) (ks := [1, -1, 2, -2, 3, 1, 5]) k (q_cons p_c (q_cons (p_ev (ev_un ev_c ru_neg)) (q_cons p_c (q_cons (p_ev (ev_un ev_c ru_neg)) (q_cons p_c (q_cons p_c (q_cons p_c q_nil))))))) rfl rfl (by decide) (by decide) (by omega) fun j hj B1 H1 k1 g1 => ?_
  dsimp only [gName]
  refine ⟨_, rfl, ?_⟩
  refine x_pickI (K := K) (ks := [1, 1, 1, 2, 3]) k1 (q_cons p_c (q_cons p_c (q_cons p_c (q_cons p_c (q_cons p_c q_nil))))) rfl rfl (by decide) (by decide) (by omega) fun j2 hj2 B2 H2 k2 g2 => ?_
  have hb := List.getElem_mem hj2
  have hb0 : [1, 1, 1, 2, (3 : Int)][j2] ≠ 0 ∧ [1, 1, 1, 2, (3 : Int)][j2].natAbs < 2 ^ 4000 := by
    have : ∀ b ∈ [1, 1, 1, 2, (3 : Int)], b ≠ 0 ∧ b.natAbs ≤ 3 := by decide
    obtain ⟨h1, h2⟩ := this _ hb
    exact ⟨h1, Nat.lt_of_le_of_lt h2 (by decide +kernel)⟩
  refine ⟨B2, [IsV _, IsV _], _, k2.e, ⟨rfl, rfl, trivial⟩, ⟨_, _, hb0.1, hb0.2, rfl, rfl⟩, fun v B3 H3 g3 hv => ?_⟩
  exact q _ v B3 H3 (num_ok (List.getElem_mem hj) hb) (k2.gr g3) ((g1.trans g2).trans (GX.gr g3)) hv


end
end K12
namespace Nd
set_option autoImplicit false
open PySem PySem.W L2 My Evl LamX NdefX
end Nd
namespace K12
set_option autoImplicit false
open PySem PySem.W L2 Evl My Nd LamX NdefX
section
variable {P : Program} {w : World} {K : PySem.W.Frag} {mg : Str → Option Value} {base : Heap} {T : List (Addr × Str)}


end
end K12
namespace Nd
set_option autoImplicit false
open PySem PySem.W L2 My Evl LamX
theorem fitsB_of {r : Rk} {u : Dv} (h : r.Ok) (k : u.Of r) : fitsB r u.D = true := by
  unfold fitsB
  rw [of_B h k, dvOf_D]
  unfold Rk.stB
  rw [decide_eq_true k.n]
  rcases k.y with e | e
  · simp [e]
  · simp [e]
theorem of_len {r : Rk} {u : Dv} (h : r.Ok) (k : u.Of r) : u.n.length ≤ 100000 := by
  have := (nm_facts (h.nm _ k.n)).2.1
  omega
def Ramong : List Pr → Pr → Prop := fun ps p => ∃ t l m : Int, ps = [IsV (.int t), IsV (.int l), IsV (.int m)] ∧ p = IsV (.bl (decide (l ≤ t) && decide (t ≤ m)))
theorem p_callO {t : TA} {σ : L2.St} {B : Hp} {ps : List Pr} {p : Pr} {R : List Pr → Out → Prop} (h : EvPs t σ B ps) (hr : R ps (.ret p)) : EvP (tCall (spO R) [] E0 t) σ B p := fun H1 a Q k =>
  h H1 a _ fun vs B2 H2 g b => by
    rw [List.append_nil]
    exact ⟨B2, ps, .ret p, g.c, b, hr, fun v B3 H3 g3 x => k v B3 H3 (g.trans g3) x⟩
end Nd
namespace K12
set_option autoImplicit false
open PySem PySem.W L2 Evl My Nd LamX NdefX
section
variable {P : Program} {w : World} {K : PySem.W.Frag} {mg : Str → Option Value} {base : Heap}

/-- is_among -/
abbrev s_is_among : Stmt := topS 11
abbrev N_is_among : List Str := ["thing", "least", "most"]
theorem sc_is_among : FnScope N_is_among ["thing", "least", "most"] (defScope s_is_among) := ⟨rfl, rfl, rfl, by decide +kernel, rfl, by decide +kernel, by decide +kernel⟩
theorem ok_is_among {f : Addr} {fd : FuncData} (F : Fun K "is_among" "is_among" s_is_among f fd)  {f_is_whole : Addr} {d_is_whole : FuncData} (c_is_whole : Cal P w K mg base "is_whole" 2 ["thing"] (spP (RB K wholeB)) f_is_whole d_is_whole)   :
    FnOk P w K mg base CX0 3 f fd ["thing", "least", "most"] (spP Ramong) := by
  refine F.ok sc_is_among (spP_len (by rintro _ _ ⟨t, l, m, rfl, rfl⟩; rfl)) (fun cdv A outer s H vs Q E hr h => ?_)
  obtain ⟨B, ps, p, eB, hv, ⟨t, l, m, rfl, rfl⟩, q⟩ := h
  obtain ⟨v1, v2, v3, rfl, h1, h2, h3⟩ := all3 hv
  obtain rfl : v1 = .int t := h1
  obtain rfl : v2 = .int l := h2
  obtain rfl : v3 = .int m := h3
  have hu := hu_of hr
  refine ⟨_, (pss_one (ps_ret (pe_and (pe_call c_is_whole.G (hr.mono (by decide)) (by rfl) c_is_whole.m c_is_whole.k c_is_whole.b .nil pass0 (pa_cons (pv 0) pa_nil)) (pe_and (pe_call c_is_whole.G (hr.mono (by decide)) (by rfl) c_is_whole.m c_is_whole.k c_is_whole.b .nil pass0 (pa_cons (pv 1) pa_nil)) (pe_and (pe_call c_is_whole.G (hr.mono (by decide)) (by rfl) c_is_whole.m c_is_whole.k c_is_whole.b .nil pass0 (pa_cons (pv 2) pa_nil)) (pe_one (pe_chain op_le op_le (pv 1) (pv 0) (pv 2)))))))), ?_⟩
  have wh : ∀ (i : Nat) (j : Int), ([some (.int t), some (.int l), some (.int m)] : L2.St)[i]? = some (some (.int j)) → Ev (tCall (spP (RB K wholeB)) [] E0 (tCons (tVar i) tNil)) [some (.int t), some (.int l), some (.int m)] B (.bl true) :=
    fun i j hi => ev_p (p_callP (ps := [IsV (.int j)]) (q_cons (p_varV hi) q_nil) ⟨IsV (.int j), .int j, to_int, rfl, rfl, rfl⟩)
  refine My.ps_ret eB (p_ev (v := .bl (decide (l ≤ t) && decide (t ≤ m))) (ev_is (ev_andV (a := true) (b := true && (true && (decide (l ≤ t) && decide (t ≤ m)))) (wh 0 t rfl) fun _ => ev_andV (wh 1 l rfl) fun _ => ev_andV (wh 2 m rfl) fun _ => ?_) (by simp))) fun v B1 H1 g hp => q v B1 H1 g hp
  exact ev_chain (r1 := fun i j => decide (i ≤ j)) (r2 := fun i j => decide (i ≤ j)) (ev_var rfl) (ev_var rfl) (ev_var rfl)

end
/-- a list of derivatives, or a dict by them -/
def SrcD (K : PySem.W.Frag) (us : List Dv) (v : V) (H : Hp) : Prop := (∃ l xs, v = .ref l ∧ SqL K H l xs ∧ AllP (us.map DvP) xs H) ∨ ∃ d, v = .ref d ∧ H d = some (.dT (asK us))
def SortedP (r : Rk) (us : List Dv) : Pr := LsP ((r.sort us).map DvP)
def spRis (K : PySem.W.Frag) (T : List (Addr × Str)) : Sp := fun vs H Q _ => ∃ B r us vr vd, vs = [vr, vd] ∧ Rk.Ok r ∧ (∀ u ∈ us, Dv.Of u r) ∧ Kn T B H ∧ (RkP K r).P vr B ∧ SrcD K us vd B ∧
  ∀ v H', ExtN H H' → Tabs T H' → (SortedP r us).P v H' → Q v H'
def spAll (K : PySem.W.Frag) (T : List (Addr × Str)) : Sp := fun vs H Q _ => ∃ B r vr, ∃ o : Nat, vs = [vr, .int (o : Int)] ∧ o ≤ 12 ∧ Rk.Ok r ∧ Kn T B H ∧ (RkP K r).P vr B ∧
  ∀ v H', ExtN H H' → Tabs T H' → (SortedP r (r.all o)).P v H' → Q v H'
theorem keyD_alike (r : Rk) (us : List Dv) : AllAlike (us.map r.keyD) := AllAlike.of fun u v => by
  unfold Rk.keyD
  simp [alike, alike_ints]
theorem keyD_sortable (r : Rk) (us : List Dv) : Sortable (us.map r.keyD) := Sortable.tuples fun u => by
  obtain ⟨a, b, c, e⟩ := r.key3 u
  exact ⟨.int a, [.int b, .int c], by unfold Rk.keyD; rw [e]; rfl⟩
theorem keyD_depth (r : Rk) (us : List Dv) : ∀ d, d ∈ us.map r.keyD → d.depth ≤ 50 := fun d hd => by
  obtain ⟨u, _, rfl⟩ := List.mem_map.mp hd
  unfold Rk.keyD
  simp [PyData.depth, depth_ints]
theorem exN_tr {H H1 H2 : Hp} (a : ExtN H H1) (b : Ex H1 H2) : ExtN H H2 := a.trans (exN_of b)
section
variable {P : Program} {w : World} {K : PySem.W.Frag} {mg : Str → Option Value} {base : Heap} {T : List (Addr × Str)}

/-- rising -/
abbrev s_rising : Stmt := topS 31
abbrev N_rising : List Str := ["ranking", "derivatives"]
theorem sc_rising : FnScope N_rising ["ranking", "derivatives"] (defScope s_rising) := ⟨rfl, rfl, rfl, by decide +kernel, rfl, by decide +kernel, by decide +kernel⟩

theorem ok_rising {f c tb : Addr} {fd : FuncData} (F : FunC K "rising" "rising" s_rising c f fd) {f_rank_key : Addr} {d_rank_key : FuncData} (c_rank_key : Cal P w K mg base "rank_key" 1 ["ranking", "derivative"] (spP (Rrd K fun r u => IsD K (.tuple ((r.key u).map .int)))) f_rank_key d_rank_key) (n_sorted : mg "sorted" = none) (TB : TabB base mg c tb) (hT : TO T tb "rising.<locals>.<lambda>") : FnOk P w K mg base CX0 5 f fd ["ranking", "derivatives"] (spRis K T) := by
  refine F.ok sc_rising (fun vs H Q E h => ?_) (fun A outer s H vs Q E hr h => ?_)
  · obtain ⟨B, r, us, vr, vd, rfl, _⟩ := h
    rfl
  obtain ⟨B, r, us, vr, vd, rfl, hok, hof, kn, hR, hS, q⟩ := h
  refine ⟨_, pss_one (ps_ret (pe_sortK (T := T) (N := ["derivative", "ranking"]) (fr := ["ranking"]) (x0 := "derivative") (js := [0]) (k := 1) (by rfl) n_sorted (pv 1) TB rfl hT.1 hT.2
    (nscope_by (by decide +kernel)) (ndef_free (sc := defScope s_rising) (fr := ["ranking"]) (by decide +kernel)) (ndef_fr (sc := defScope s_rising) (by decide +kernel)) rfl rfl hr (fun _ _ _ _ _ _ => rfl)
    (fun A' outer' s0 H0 F' f' hF hr' => by
      obtain ⟨nm, ql, pr, bd, sc, cl, c'⟩ := F'
      have hF : sc = _ := hF
      subst hF
      exact pe_call c_rank_key.G hr' (by rfl) c_rank_key.m c_rank_key.k c_rank_key.b .nil pass0 (pa_cons (pv 1) (pa_cons (pv 0) pa_nil))))), ?_⟩
  refine ⟨vd, rfl, kn.t, fun H2 eN T2 => ?_⟩
  have k2 := kn.next eN T2
  have hR2 := (RkP K r).m k2.e hR
  have fin : ∀ xs, AllP (us.map DvP) xs H2 → ∃ ks, ks.length = xs.length ∧ AllAlike ks ∧ Sortable ks ∧ (∀ d, d ∈ ks → d.depth ≤ 50) ∧ (∀ (i : Nat) (x : V) (k : PyData), xs[i]? = some x → ks[i]? = some k → EvP (tCall (spP (Rrd K fun r u => IsD K (.tuple ((r.key u).map .int)))) [] E0 (tCons (tVar 1) (tCons (tVar 0) tNil))) (startF ["derivative", "ranking"] [x] ([0].map (slotAt (L2.start N_rising [vr, vd])))) H2 (IsD K k)) ∧
      ∀ H3 a, Ex H2 H3 → H3 a = none → Q (.ref a) (upd H3 a (.lst (byKey xs ks))) := fun xs hx => by
    refine ⟨us.map r.keyD, by rw [List.length_map, hx.len, List.length_map], keyD_alike r us, keyD_sortable r us, keyD_depth r us, fun i x k e1 e2 => ?_, fun H3 a e3 na => ?_⟩
    · obtain ⟨u, hu, px⟩ := hx.ixD DvP e1
      rw [List.getElem?_map, hu] at e2
      obtain rfl : r.keyD u = k := Option.some.inj e2
      exact p_callP (ps := [RkP K r, DvP u]) (q_cons (p_var rfl hR2) (q_cons (p_var rfl px) q_nil)) ⟨r, u, hok, hof u (List.mem_of_getElem? hu), rfl, rfl⟩
    · exact q _ _ (exN_tr (exN_tr eN e3) (Ex.new na)) ((T2.ext e3).ext (Ex.new na)) ⟨a, _, rfl, upd_same, (byKey_all r (hx.m e3)).m (Ex.new na)⟩
  rcases hS with ⟨l, xs, rfl, hl, hx⟩ | ⟨d, rfl, hd⟩
  · exact .inl ⟨l, xs, rfl, ex_l k2.e hl, fin xs (hx.m k2.e)⟩
  · refine .inr ⟨d, asK us, rfl, .inl (k2.e _ _ hd), fun as hl has => fin _ (AllP.ix (by rw [List.length_map, List.length_map, hl]; unfold asK; rw [List.length_map]) fun i p v hp hv => ?_)⟩
    rw [List.getElem?_map] at hp hv
    cases hu : us[i]? with
    | none =>
      rw [hu] at hp
      cases hp
    | some u =>
      rw [hu] at hp
      obtain rfl : DvP u = p := Option.some.inj hp
      obtain ⟨a, ha, h3⟩ := has i (dvK u, .bl true) (by unfold asK; rw [List.getElem?_map, hu]; rfl)
      rw [ha] at hv
      obtain rfl : V.ref a = v := Option.some.inj hv
      exact ⟨a, rfl, h3⟩

/-- all_to -/
abbrev s_all_to : Stmt := topS 32
abbrev N_all_to : List Str := ["ranking", "order", "_", "names", "axes", "found", "name", "by_x", "most_by_y", "by_y"]
theorem sc_all_to : FnScope N_all_to ["ranking", "order"] (defScope s_all_to) := ⟨rfl, rfl, rfl, by decide +kernel, rfl, by decide +kernel, by decide +kernel⟩
theorem ok_all_to {f : Addr} {fd : FuncData} (F : Fun K "all_to" "all_to" s_all_to f fd) {aBR : Addr} {f_need_ranking : Addr} {d_need_ranking : FuncData} (c_need_ranking : CalX P w K mg base "need_ranking" 4 ["ranking"] (spO (RrkO K aBR)) f_need_ranking d_need_ranking) {f_is_among : Addr} {d_is_among : FuncData} (c_is_among : Cal P w K mg base "is_among" 3 ["thing", "least", "most"] (spP Ramong) f_is_among d_is_among) {f_rising : Addr} {d_rising : FuncData} (c_rising : Cal P w K mg base "rising" 5 ["ranking", "derivatives"] (spRis K T) f_rising d_rising) (n_range : mg "range" = none) {tk1 : Nat} (g_MOST_ORDER : mg "MOST_ORDER" = some (.int 12 tk1)) :
    FnOk P w K mg base CX0 6 f fd ["ranking", "order"] (spAll K T) := by
  refine F.ok sc_all_to (fun vs H Q E h => by obtain ⟨B, r, vr, o, rfl, _⟩ := h; rfl) (fun cdv A outer s H vs Q E hr h => ?_)
  obtain ⟨B, r, vr, o, rfl, ho, hok, kn, hR, q⟩ := h
  have hu := hu_of hr
  refine ⟨_, (pss_cons (ps_expr (pe_call c_need_ranking.G (hr.mono (by decide)) (by rfl) c_need_ranking.m c_need_ranking.k c_need_ranking.b .nil L2.passL (pa_cons (pv 0) pa_nil)))
    (pss_cons (ps_if (pt_not (pt_val (pe_call c_is_among.G (hr.mono (by decide)) (by rfl) c_is_among.m c_is_among.k c_is_among.b .nil pass0 (pa_cons (pv 1) (pa_cons pe_int (pa_cons (pe_glob (by rfl) (v := .int 12) g_MOST_ORDER ⟨_, rfl⟩) pa_nil)))))) (pss_one ps_never) pss_nil)
    (pss_cons (ps_asg (pv 0) (pg_tup (by rfl) (pgs_cons (pg_name (i := 2) sc_all_to.nd rfl (by first | exact .inl rfl | exact .inr rfl)) (pgs_cons (pg_name (i := 3) sc_all_to.nd rfl (by first | exact .inl rfl | exact .inr rfl)) (pgs_cons (pg_name (i := 4) sc_all_to.nd rfl (by first | exact .inl rfl | exact .inr rfl)) pgs_nil)))))
    (pss_cons (ps_set (i := 5) sc_all_to.nd rfl (by first | exact .inl rfl | exact .inr rfl) (pe_lst pa_nil))
    (pss_cons (ps_for PassesOwn.never rfl (pi_tup (pv 3)) (pg_name (i := 6) sc_all_to.nd rfl (by first | exact .inl rfl | exact .inr rfl))
      (pss_one (ps_for PassesOwn.never rfl (pi_range1 (by rfl) n_range (pa_cons (pe_op op_add (pv 1) pe_int) pa_nil)) (pg_name (i := 7) sc_all_to.nd rfl (by first | exact .inl rfl | exact .inr rfl))
      (pss_cons (ps_set (i := 8) sc_all_to.nd rfl (by first | exact .inl rfl | exact .inr rfl) (pe_ifExp (pt_cmpR op_in_seq pe_str (pv 4) (by rfl)) (pe_op op_sub (pv 1) (pv 7)) pe_int))
    (pss_one (ps_expr (pe_bm PySem.F.plainAttrs_list PySem.F.slot_list_extend PySem.F.type_list_extend mt_extend (pv 5) (pa_cons (pe_lc (own := [("by_y", 9)]) rfl sc_all_to.nd (pi_range1 (by rfl) n_range (pa_cons (pe_op op_add (pv 8) pe_int) pa_nil)) (blkOk_by (N := N_all_to) (sc := defScope s_all_to) (by decide +kernel)) (fun _ _ _ _ _ => (pg_name (i := 9) sc_all_to.nd rfl (Or.inl rfl))) (fun _ _ _ _ _ => pts_nil) (fun _ _ _ _ _ => (pe_tup (pa_cons (pv 6) (pa_cons (pv 7) (pa_cons (pv 9) pa_nil)))))) pa_nil))))))))
    (pss_one (ps_ret (pe_call c_rising.G (hr.mono (by decide)) (by rfl) c_rising.m c_rising.k c_rising.b .nil pass0 (pa_cons (pv 0) (pa_cons (pv 5) pa_nil)))))))))), ?_⟩
  refine ps_exE kn.e (p_callO (ps := [RkP K r]) (q_cons (p_var rfl hR) q_nil) (.inl ⟨r, hok, rfl, rfl⟩)) fun H1 e1 => ?_
  dsimp only
  refine ps_ifN (kn.e.trans e1) (et_is (et_not (et_test (ev_p (p_callP (ps := [IsV (.int o), IsV (.int 0), IsV (.int 12)]) (q_cons (p_varV rfl) (q_cons p_c (q_cons p_c q_nil))) ⟨o, 0, 12, rfl, rfl⟩)))) (by simp; omega)) fun H2 e2 => ?_
  dsimp only
  have kB : Kn T B H2 := ⟨(kn.e.trans e1).trans e2, kn.n, (kn.t.ext e1).ext e2⟩
  refine ps_unR (K := K) kB.e (p_var rfl hR) fun vn va B3 H3 g3 n2 n3 => ?_
  have k3 := kB.gr g3
  dsimp only
  refine ⟨by decide, fun l hl => ?_⟩
  have hBl : B3 l = none := fresh_back k3.e hl
  dsimp only
  have hl3 : l ∉ ([] : List Addr) := by simp
  have exl : ∀ {C H' : Hp} {o' : HO}, Ex C H' → C l = none → Ex C (upd H' l o') := fun a b => Ex.mut a b
  have h3l : H3 l = none := hl
  refine ps_forS (B := B3) (exl k3.e hBl) (src_tup (ed_nm (p_var rfl n2))) fun B4 H4 g4 => ?_
  have hB4l : B4 l = none := g4.d l hBl (by rw [upd_same]; exact fun z => nomatch z)
  have h4l : H4 l = some (.lst []) := g4.a _ _ upd_same
  have n4 := (NmP r.ns).m g4.b n2
  have va4 := dp_m g4.b n3
  have hR4 := (RkP K r).m (g3.b.trans g4.b) hR
  have nt4 := g4.e k3.n
  have e34 : Ex H3 H4 := (Ex.new hl).trans g4.a
  -- what stands at each turn: all that stood, and the list so far
  let St : List Dv → L2.St → Hp → Prop := fun us σ H' => Ex H3 H' ∧ ∃ C xs w6 w7 w8, Ex B4 C ∧ Ex C H' ∧ C l = none ∧ NoTab C ∧ H' l = some (.lst xs) ∧ AllP (us.map DvP) xs C ∧ σ = [some vr, some (.int o), some (.str r.srt), some vn, some va, some (.ref l), w6, w7, w8, none]
  refine ⟨fun i σ H' => St (r.rowsT o i) σ H', ⟨e34, B4, [], none, none, none, Ex.refl B4, g4.c, hB4l, nt4, h4l, trivial, rfl⟩, fun i σ H' _ h => ?_, fun i v σ H' hi pv px => ?_, fun σ H' pv => ?_⟩
  · obtain ⟨_, C, xs, w6, w7, w8, a, b, _⟩ := h
    exact a.trans b
  · rw [List.length_map] at hi
    have hv : v = .str r.ns[i] := by
      have px : Dp K B4 v ((r.ns.map PyData.str).getD i .none) := px
      rw [List.getD_eq_getElem?_getD, List.getElem?_map, List.getElem?_eq_getElem hi] at px
      cases px
      rfl
    subst hv
    obtain ⟨eH, C, xs, w6, w7, w8, c1, c2, c3, c4, c5, c6, rfl⟩ := pv
    refine ps_forS (B := C) c2 (src_rng (j := o + 1) (q_cons (p_ev (ev_is (ev_op (ev_var rfl) ev_c rv_I0) (by simp))) q_nil) (by omega)) fun C1 H5 g5 => ?_
    have f1 : C1 l = none := g5.d l c3 (by rw [c5]; exact fun z => nomatch z)
    refine ⟨fun m σ H' => St (r.rowsT o i ++ r.rowsN o r.ns[i] m) σ H' ∧ (∃ C, Ex C1 C ∧ Ex C H') ∧ ∃ x7 x8, σ = [some vr, some (.int o), some (.str r.srt), some vn, some va, some (.ref l), some (.str r.ns[i]), x7, x8, none], ?_, fun m σ H' _ h => ?_, fun m v σ H' hm pv px => ?_, fun σ H' pv => ?_⟩
    · refine ⟨⟨eH.trans g5.a, C1, xs, _, w7, w8, c1.trans g5.b, g5.c, f1, g5.e c4, g5.a _ _ c5, ?_, rfl⟩, ⟨C1, Ex.refl C1, g5.c⟩, w7, w8, rfl⟩
      have : r.rowsN o r.ns[i] 0 = [] := rfl
      rw [this, List.append_nil]
      exact c6.m g5.b
    · obtain ⟨_, ⟨C, a, b⟩, _⟩ := h
      exact a.trans b
    · obtain rfl : v = .int (m : Int) := px
      obtain ⟨⟨eH', D1, ys, u6, u7, u8, d1, d2, d3, d4, d5, d6, _⟩, ⟨D2, dd1, dd2⟩, x7, x8, rfl⟩ := pv
      have va5 := dp_m d1 va4
      refine ps_asgN (fun x => [some vr, some (.int o), some (.str r.srt), some vn, some va, some (.ref l), some (.str r.ns[i]), some (.int m), some x, none]) d2 (p_ev (v := .int (r.most o m : Nat)) (ev_if (b := decide ((Str.ofString "y") ∈ r.axs)) (et_is (et_test (ev_inT (neg := false) (ys := r.axs) ev_c (ed_var rfl va5))) (by rw [if_neg Bool.false_ne_true])) (fun hb => ev_is (ev_op (ev_var rfl) (ev_var rfl) rv_I0) ?_) fun hb => ev_is ev_c ?_)) (fun x D3 H6 g6 hx => ?_) (fun _ => rfl)
      · unfold Rk.most
        rw [if_pos (of_decide_eq_true hb)]
        congr 1
        omega
      · unfold Rk.most
        rw [if_neg (of_decide_eq_false hb)]
        rfl
      obtain rfl : x = .int (r.most o m : Nat) := hx
      dsimp only
      have l6 := g6.a _ _ d5
      have D3l : D3 l = none := g6.d l d3 (by rw [d5]; exact fun z => nomatch z)
      have mm : r.most o m ≤ 12 := by
        unfold Rk.most
        split <;> omega
      have lc := p_lcP (te := tTup (tCons (tVar 6) (tCons (tVar 7) (tCons (tVar 9) tNil)))) (g := gName 9) (vs := [9]) (σ := [some vr, some (.int o), some (.str r.srt), some vn, some va, some (.ref l), some (.str r.ns[i]), some (.int m), some (.int (r.most o m : Nat)), none]) (B := D3)
        (src_rng (j := r.most o m + 1) (t := tCons (tOp (rI0 fun i j => .int (i + j)) (tVar 8) (tC (.int 1))) tNil) (q_cons (p_ev (ev_is (ev_op (ev_var rfl) ev_c rv_I0) (by simp))) q_nil) (by omega)) (by omega) (fun j => DvP ⟨r.ns[i], (m : Int), (j : Int)⟩) fun j v B5 hj e5 pv => by
          obtain rfl : v = .int (j : Int) := pv
          exact ⟨[some vr, some (.int o), some (.str r.srt), some vn, some va, some (.ref l), some (.str r.ns[i]), some (.int m), some (.int (r.most o m : Nat)), some (.int j)], rfl, fun H2 Q e q => q, p_dv (u := ⟨r.ns[i], (m : Int), (j : Int)⟩) rfl rfl rfl (q_cons (p_varV rfl) (q_cons (p_varV rfl) (q_cons (p_varV rfl) q_nil)))⟩
      refine ⟨.ref l, rfl, .inl ⟨rfl, ys, sq_of l6⟩, lc H6 g6.c _ fun v D4 H7 g7 hv => ?_⟩
      obtain ⟨b, zs, rfl, hb, hz⟩ := hv
      have l7 := g7.a _ _ l6
      have D4l : D4 l = none := g7.d l D3l (by rw [l6]; exact fun z => nomatch z)
      have rowE : (List.range (r.most o m + 1)).map (fun j => DvP ⟨r.ns[i], (m : Int), ((j : Nat) : Int)⟩) = (r.row o r.ns[i] m).map DvP := by
        unfold Rk.row
        rw [List.map_map]
        rfl
      rw [rowE] at hz
      have hy : AllP ((r.rowsT o i ++ r.rowsN o r.ns[i] (m + 1)).map DvP) (ys ++ zs) D4 := by
        rw [Rk.rowsN_succ, ← List.append_assoc, List.map_append]
        exact (d6.m (g6.b.trans g7.b)).app hz
      have szs : ys.length + zs.length ≤ 100000 := by
        have h1 := hy.len
        rw [List.length_append, List.length_map, List.length_append] at h1
        have h2 := r.rowsT_len (o := o) (m := i) ho hok.le
        have h3 := r.rowsN_len r.ns[i] (o := o) (m := m + 1) (by omega) ho
        omega
      refine ⟨l, b, ys, zs, rfl, rfl, l7, g7.c _ _ hb, sz_of szs, ?_⟩
      refine ⟨⟨Ex.mut (eH'.trans (g6.a.trans g7.a)) h3l, D4, ys ++ zs, _, _, _, (d1.trans g6.b).trans g7.b, Ex.mut g7.c D4l, D4l, g7.e (g6.e d4), upd_same, hy, rfl⟩, ?_, _, _, rfl⟩
      have C1l2 : C1 l = none := f1
      exact ⟨C1, Ex.refl C1, Ex.mut (((dd1.trans dd2).trans g6.a).trans g7.a) C1l2⟩
    · obtain ⟨⟨eH', D1, ys, u6, u7, u8, d1, d2, d3, d4, d5, d6, hσ⟩, _⟩ := pv
      refine ⟨eH', D1, ys, u6, u7, u8, d1, d2, d3, d4, d5, ?_, hσ⟩
      rw [Rk.rowsT_succ r o i hi]
      exact d6
  · obtain ⟨eH, C, xs, w6, w7, w8, c1, c2, c3, c4, c5, c6, rfl⟩ := pv
    rw [List.length_map, Rk.rowsT_all] at c6
    have kf : Kn T (upd C l (.lst xs)) H' := ⟨fun b o e => by
      by_cases n : b = l
      · subst n
        rw [upd_same] at e
        rw [c5]
        exact e
      · rw [upd_ne n] at e
        exact c2 b o e, nt_upd c4 (fun ps z => nomatch z), k3.t.ext eH⟩
    refine ⟨vr, rfl, .ref l, rfl, upd C l (.lst xs), r, r.all o, vr, .ref l, rfl, hok, fun u hu => Rk.mem_all hu, kf, (RkP K r).m (c1.trans (Ex.new c3)) hR4, .inl ⟨l, xs, rfl, sq_of upd_same, c6.m (Ex.new c3)⟩, fun v H6 eN T6 hs => ?_⟩
    exact q v H6 ((exN_of (((e1.trans e2).trans g3.a).trans eH)).trans eN) T6 hs

end
end K12
namespace Nd
set_option autoImplicit false
open PySem PySem.W L2 My Evl LamX
/-- a length such as is due -/
def RndL : List Pr → Pr → Prop := fun ps p => ∃ t : Int, 0 ≤ t ∧ t ≤ 8 ∧ ps = [IsV (.int t)] ∧ p = IsV .non
/-- a pair of a jet -/
def jpP (K : PySem.W.Frag) (x : Dv × Rat) : Pr := TuP K [DvP x.1, rtP K x.2]
def jtP (K : PySem.W.Frag) (js : List (Dv × Rat)) : Pr := TuP K (js.map (jpP K))
def jpD (x : Dv × Rat) : PyData := .tuple [x.1.D, frD (fr x.2)]
theorem to_jp {K : PySem.W.Frag} (x : Dv × Rat) : To K (jpP K x) (jpD x) := to_tup (.cons (to_dv _) (.cons (to_fr _) .nil))
def RnumJ (K : PySem.W.Frag) : List Pr → Pr → Prop := fun ps p => ∃ (r : Rk) (x : Dv × Rat), r.Ok ∧ x.1.Of r ∧ ps = [RkP K r, jpP K x] ∧ p = IsV (.bl true)
end Nd
namespace K12
set_option autoImplicit false
open PySem PySem.W L2 Evl My Nd LamX NdefX
section
variable {P : Program} {w : World} {K : PySem.W.Frag} {mg : Str → Option Value} {base : Heap} {T : List (Addr × Str)}

/-- need_length -/
abbrev s_need_length : Stmt := topS 35
abbrev N_need_length : List Str := ["thing"]
theorem sc_need_length : FnScope N_need_length ["thing"] (defScope s_need_length) := ⟨rfl, rfl, rfl, by decide +kernel, rfl, by decide +kernel, by decide +kernel⟩
theorem ok_need_length {f : Addr} {fd : FuncData} (F : Fun K "need_length" "need_length" s_need_length f fd)  {f_is_among : Addr} {d_is_among : FuncData} (c_is_among : Cal P w K mg base "is_among" 3 ["thing", "least", "most"] (spP Ramong) f_is_among d_is_among)  {tk1 : Nat} (g_MOST_LENGTH : mg "MOST_LENGTH" = some (.int 8 tk1)) :
    FnOk P w K mg base CX0 4 f fd ["thing"] (spP RndL) := by
  refine F.ok sc_need_length (spP_len (by rintro _ _ ⟨_, _, _, rfl, rfl⟩; rfl)) (fun cdv A outer s H vs Q E hr h => ?_)
  obtain ⟨B, ps, p, eB, hv, ⟨t, h0, h8, rfl, rfl⟩, q⟩ := h
  obtain ⟨v1, rfl, h1⟩ := one_of hv
  obtain rfl : v1 = .int t := h1
  have hu := hu_of hr
  refine ⟨_, (pss_one (ps_if (pt_not (pt_val (pe_call c_is_among.G (hr.mono (by decide)) (by rfl) c_is_among.m c_is_among.k c_is_among.b .nil pass0 (pa_cons (pv 0) (pa_cons pe_int (pa_cons (pe_glob (by rfl) (v := .int 8) g_MOST_LENGTH ⟨_, rfl⟩) pa_nil)))))) (pss_one ps_never) pss_nil)), ?_⟩
  refine ps_ifN eB (et_is (et_not (et_test (ev_p (p_callP (R := Ramong) (ps := [IsV (.int t), IsV (.int 0), IsV (.int 8)]) (p := IsV (.bl (decide (0 ≤ t) && decide (t ≤ 8)))) (q_cons (p_varV rfl) (q_cons p_c (q_cons p_c q_nil))) ⟨t, 0, 8, rfl, rfl⟩)))) (by rw [decide_eq_true h0, decide_eq_true h8]; rfl)) fun H1 e1 => ?_
  exact q .non B H1 (Gr.wide eB e1) rfl

/-- is_numbered -/
abbrev s_is_numbered : Stmt := topS 37
abbrev N_is_numbered : List Str := ["ranking", "thing"]
theorem sc_is_numbered : FnScope N_is_numbered ["ranking", "thing"] (defScope s_is_numbered) := ⟨rfl, rfl, rfl, by decide +kernel, rfl, by decide +kernel, by decide +kernel⟩
theorem ok_is_numbered {f : Addr} {fd : FuncData} (F : Fun K "is_numbered" "is_numbered" s_is_numbered f fd)  {f_derivative_fits : Addr} {d_derivative_fits : FuncData} (c_derivative_fits : Cal P w K mg base "derivative_fits" 4 ["ranking", "thing"] (spP (RB2 K fitsB)) f_derivative_fits d_derivative_fits) {f_is_fraction : Addr} {d_is_fraction : FuncData} (c_is_fraction : Cal P w K mg base "is_fraction" 3 ["thing"] (spP (RB K frB)) f_is_fraction d_is_fraction) (n_isinstance : mg "isinstance" = none) (n_tuple : mg "tuple" = none) (n_len : mg "len" = none)  :
    FnOk P w K mg base CX0 5 f fd ["ranking", "thing"] (spP (RnumJ K)) := by
  refine F.ok sc_is_numbered (spP_len (by rintro _ _ ⟨_, _, _, _, rfl, rfl⟩; rfl)) (fun cdv A outer s H vs Q E hr h => ?_)
  obtain ⟨B, ps, p, eB, hv, ⟨r, x, hr0, hx, rfl, rfl⟩, q⟩ := h
  obtain ⟨v1, v2, rfl, h0, h1⟩ := all2 hv
  have hu := hu_of hr
  refine ⟨_, (pss_cons (ps_if (PW.pt (pw_or (pt_not (pt_val (pe_callB call_isi (by rfl) n_isinstance (by decide +kernel) (pa_cons (pv 1) (pa_cons (pe_bltn (v := .ty "tuple") (u := .type "tuple") (by rfl) n_tuple (by decide +kernel) rfl) pa_nil))))) (pw_or1 (pt_cmpR op_ne (pe_callB call_len_seq (by rfl) n_len (by decide +kernel) (pa_cons (pv 1) pa_nil)) pe_int (nomark _))))) (pss_one (ps_ret pe_bl)) pss_nil)
    (pss_one (ps_ret (pe_and (pe_call c_derivative_fits.G (hr.mono (by decide)) (by rfl) c_derivative_fits.m c_derivative_fits.k c_derivative_fits.b .nil pass0 (pa_cons (pv 0) (pa_cons (pe_ix ix_tup (pv 1) pe_int (fun _ _ => rfl)) pa_nil))) (pe_one (pe_call c_is_fraction.G (hr.mono (by decide)) (by rfl) c_is_fraction.m c_is_fraction.k c_is_fraction.b .nil pass0 (pa_cons (pe_ix ix_tup (pv 1) pe_int (fun _ _ => rfl)) pa_nil))))))), ?_⟩
  refine ps_ifN eB (et_is (et_or (a := false) (b := false) (et_is (et_not (et_test (ev_isi (K := K) (d := jpD x) (p_to (p_var (i := 1) rfl h1) (to_jp x)) k_tt))) rfl) fun _ => et_is (et_test (ev_op (ev_lenD (K := K) (d := jpD x) (p_to (p_var (i := 1) rfl h1) (to_jp x)) (.inl rfl)) ev_c (rv_ne rfl))) rfl) rfl) fun H1 e1 => ?_
  dsimp only
  refine My.ps_ret (eB.trans e1) (p_ev (v := .bl true) (ev_andV (a := true) (b := true) (ev_is (ev_p (p_callP (R := RB2 K fitsB) (ps := [RkP K r, DvP x.1]) (p := IsV (.bl (fitsB r x.1.D))) (q_cons (p_var rfl h0) (q_cons (p_ixT (K := K) (p_var rfl h1) p_c rfl) q_nil)) ⟨r, DvP x.1, x.1.D, hr0, to_dv _, smd_dv (of_len hr0 hx), rfl, rfl⟩)) (by rw [fitsB_of hr0 hx])) fun _ =>
    ev_is (ev_p (p_callP (R := RB K frB) (ps := [rtP K x.2]) (p := IsV (.bl (frB (frD (fr x.2))))) (q_cons (p_ixT (K := K) (p_var rfl h1) p_c rfl) q_nil) ⟨rtP K x.2, frD (fr x.2), to_fr _, rfl, rfl, rfl⟩)) (by rw [frB_of ⟨fr_pos _, fr_low _⟩]))) fun v B3 H3 g hp => q v B3 H3 ((Gr.wide eB e1).trans g) hp

end
end K12
namespace Nd
set_option autoImplicit false
open PySem PySem.Spec PySem.W PySem.Calls PyProof.Rows L2 My Evl
/-- sorted(xs), a list of data -/
def rSortDL (K : PySem.W.Frag) : List V → Hp → VK → Prop := fun vs H Q => ∃ (a : Addr) (xs : List V) (ks : List PyData), vs = [.ref a] ∧ SqL K H a xs ∧ ks.length = xs.length ∧ PySem.W.AllAlike ks ∧ PySem.W.Sortable ks ∧ (∀ e, e ∈ ks → e.depth ≤ 50) ∧ DpAll K H xs ks ∧ ∀ p, H p = none → Q (.ref p) (upd H p (.lst (byKey xs ks)))
theorem cr_sortDL {X : Cx} {k : Nat} (hr : Room k X.A) : CallR X (.builtin "sorted") (rSortDL X.K) := by
  intro pins s σ H vs us Q I r h
  obtain ⟨a, xs, ks, rfl, hs, hl, hal, hsk, hdep, dp, q⟩ := h
  obtain ⟨its, rv, hli, hz⟩ := I.list hs
  rw [Vals.ref1 r]
  have un := hr.un
  have ev := dps_each I rv dp
  have ez := zip_snd hl
  have er := each_zip ev hl
  have hlz : (xs.zip ks).length = xs.length := by rw [List.length_zip]; omega
  have vl : (byKey xs ks).length ≤ sizeLine := by
    show ((xs.zip ks).mergeSort (dataLe false (·.2)) |>.map (·.1)).length ≤ _
    rw [List.length_map, List.length_mergeSort, hlz]
    exact hz
  refine sorted_data (enc := fun p : V × PyData => p.2) (R := fun u p => RelV p.1 u) hli.isList (vals_each (h := s.heap) rv hl) er (by rw [ez]; exact hal) (by rw [ez]; exact hsk) (by rw [hlz]; exact hz) (fun b hb => by
    have := hdep b.2 (by rw [← ez]; exact List.mem_map.mpr ⟨b, hb, rfl⟩)
    omega) fun out h1 h2 => ?_
  obtain ⟨ep, he'⟩ := sortedAll_at s.heap its out.toArray
  exact ⟨.ref _, upd H (s.heap.objs.size + 1) (.lst (byKey xs ks)), I.laid (t' := s.toks) (fun _ _ => sortedAll_old) (Nat.le_succ _) ⟨vl, out, ep, each_vals h2, he'⟩, rfl, q _ (I.hok.fresh (Nat.le_succ _))⟩
end Nd
namespace Nd
set_option autoImplicit false
open PySem PySem.Spec PySem.W PySem.Calls PyProof.Rows L2 My Evl LamX
theorem dv_alike (us : List Dv) : AllAlike (us.map Dv.D) := AllAlike.of alike_dv
theorem dv_sortable (us : List Dv) : Sortable (us.map Dv.D) := Sortable.tuples fun u => ⟨_, _, rfl⟩
theorem dv_depth (us : List Dv) : ∀ d, d ∈ us.map Dv.D → d.depth ≤ 50 := fun d hd => by
  obtain ⟨u, _, rfl⟩ := List.mem_map.mp hd
  rw [deep_dv]
  omega
/-- the derivatives below a length, as Python has them in order -/
def plc (r : Rk) : Nat → List Dv
  | 0 => []
  | n + 1 => srtD (r.sort (r.all n))
def spPl (K : PySem.W.Frag) (T : List (Addr × Str)) : Sp := fun vs H Q _ => ∃ B r vr, ∃ n : Nat, vs = [vr, .int (n : Int)] ∧ n ≤ 8 ∧ Rk.Ok r ∧ Kn T B H ∧ (RkP K r).P vr B ∧
  ∀ v H', ExtN H H' → Tabs T H' → (LsP ((plc r n).map DvP)).P v H' → Q v H'
/-- one more than the greatest order -/
def mxO (m : Int) (u : Dv) : Int := if u.i + u.j + 1 > m then u.i + u.j + 1 else m
def topO (us : List Dv) : Int := us.foldl mxO 0
theorem mxO_ge (m : Int) (u : Dv) : m ≤ mxO m u ∧ u.i + u.j + 1 ≤ mxO m u := by
  unfold mxO
  split <;> omega
theorem fold_ge : ∀ (us : List Dv) (m : Int), m ≤ us.foldl mxO m ∧ ∀ u ∈ us, u.i + u.j + 1 ≤ us.foldl mxO m
  | [], m => ⟨Int.le_refl _, fun _ h => absurd h List.not_mem_nil⟩
  | u :: us, m => by
    have h := fold_ge us (mxO m u)
    have k := mxO_ge m u
    refine ⟨Int.le_trans k.1 h.1, fun v hv => ?_⟩
    rcases List.mem_cons.mp hv with rfl | hv
    · exact Int.le_trans k.2 h.1
    · exact h.2 v hv
theorem fold_le : ∀ (us : List Dv) (m n : Int), m ≤ n → (∀ u ∈ us, u.i + u.j + 1 ≤ n) → us.foldl mxO m ≤ n
  | [], m, n, h, _ => h
  | u :: us, m, n, h, k => fold_le us _ n (by
      have := k u List.mem_cons_self
      unfold mxO
      split <;> omega) fun v hv => k v (List.mem_cons_of_mem _ hv)
theorem top_mono (us : List Dv) {i j : Nat} (h : i ≤ j) : topO (us.take i) ≤ topO (us.take j) := by
  have e : us.take j = us.take i ++ (us.take j).drop i := by
    have := (List.take_append_drop i (us.take j)).symm
    rw [List.take_take, Nat.min_eq_left h] at this
    exact this
  rw [e]
  unfold topO
  rw [List.foldl_append]
  exact (fold_ge _ _).1
theorem top_le (us : List Dv) (i : Nat) : topO (us.take i) ≤ topO us := by
  rcases Nat.le_total i us.length with h | h
  · have := top_mono us h
    rwa [List.take_length] at this
  · rw [List.take_of_length_le h]
    exact Int.le_refl _
theorem top_succ {us : List Dv} {i : Nat} (h : i < us.length) : topO (us.take (i + 1)) = mxO (topO (us.take i)) us[i] := by
  unfold topO
  rw [List.take_add_one, List.getElem?_eq_getElem h, List.foldl_append]
  rfl
theorem mem_plc {r : Rk} {n : Nat} {u : Dv} : u ∈ plc r (n + 1) ↔ u ∈ r.all n := by
  unfold plc srtD
  rw [(List.mergeSort_perm _ _).mem_iff]
  exact (r.sort_perm _).mem_iff
theorem top_plc {r : Rk} (hr : r.Ok) : ∀ n : Nat, topO (plc r n) = n
  | 0 => rfl
  | n + 1 => by
    have h1 : topO (plc r (n + 1)) ≤ ((n + 1 : Nat) : Int) := by
      refine fold_le _ 0 _ (by omega) fun u hu => ?_
      have hu := mem_plc.mp hu
      unfold Rk.all at hu
      obtain ⟨x, hx, hu⟩ := List.mem_flatMap.mp hu
      unfold Rk.rowsN at hu
      obtain ⟨i, hi, hu⟩ := List.mem_flatMap.mp hu
      obtain ⟨a, b, c, d⟩ := Rk.mem_row hu
      have hi := List.mem_range.mp hi
      unfold Rk.most at d
      split at d <;> omega
    have h2 : ((n + 1 : Nat) : Int) ≤ topO (plc r (n + 1)) := by
      obtain ⟨x, hx⟩ : ∃ x, x ∈ r.ns := by
        cases e : r.ns with
        | nil => have := hr.ne; rw [e] at this; exact absurd this (by decide)
        | cons x _ => exact ⟨x, List.mem_cons_self⟩
      have hm : (⟨x, (n : Int), ((0 : Nat) : Int)⟩ : Dv) ∈ plc r (n + 1) := mem_plc.mpr (by
        unfold Rk.all
        refine List.mem_flatMap.mpr ⟨x, hx, ?_⟩
        unfold Rk.rowsN
        refine List.mem_flatMap.mpr ⟨n, List.mem_range.mpr (Nat.lt_succ_self n), ?_⟩
        unfold Rk.row
        exact List.mem_map.mpr ⟨0, List.mem_range.mpr (by omega), rfl⟩)
      have := (fold_ge (plc r (n + 1)) 0).2 _ hm
      have this : (n : Int) + ((0 : Nat) : Int) + 1 ≤ topO (plc r (n + 1)) := this
      omega
    omega
/-- a jet's pairs stand in order -/
structure JOk (r : Rk) (js : List (Dv × Rat)) : Prop where
  of : ∀ x ∈ js, x.1.Of r
  up : Ups (fun x => x.1.D) js
  le : js.length ≤ 1000
/-- a jet of a length | one whose k-th pair is the first of too great an order -/
def JGood (r : Rk) (js : List (Dv × Rat)) (n : Nat) : Prop := n ≤ 8 ∧ js.map (·.1) = plc r n
def JBad (js : List (Dv × Rat)) (k : Nat) : Prop := k < js.length ∧ topO ((js.map (·.1)).take k) ≤ 8 ∧ 8 < topO ((js.map (·.1)).take (k + 1))
def RlenO (K : PySem.W.Frag) (CJ : Addr) : List Pr → Out → Prop := fun ps o => ∃ (r : Rk) (js : List (Dv × Rat)), r.Ok ∧ JOk r js ∧ ps = [RkP K r, jtP K js] ∧ ((∃ n : Nat, JGood r js n ∧ o = .ret (IsV (.int (n : Int)))) ∨ ∃ k : Nat, JBad js k ∧ o = .exc CJ [("place", IsV (.int (k : Int)))])
theorem b_sortDL {K : PySem.W.Frag} {te : TE} {σ : L2.St} {H : Hp} {Q : VK} (h : te σ H fun v H1 => rSortDL K [v] H1 Q) : tCB (rSortDL K) (tCons te tNil) σ H Q := h
theorem c_call {sp : Sp} {t : TA} {σ : L2.St} {H : Hp} {Q : VK} (h : t σ H fun vs H1 => sp (vs ++ []) H1 Q E0) : tCall sp [] E0 t σ H Q := h
theorem c_asg {te : TE} {g : TG} {D : Ends} {σ : L2.St} {H : Hp} (h : te σ H fun v H1 => g v σ H1 D.nx) : tAsg te g D σ H := h
theorem g_name {i : Nat} {v : V} {σ : L2.St} {H : Hp} {Q : L2.St → Hp → Prop} (h : Q (σ.set i (some v)) H) : gName i v σ H Q := h
theorem b_ifE {tt : TT} {ta tb : TE} {σ : L2.St} {B H : Hp} {b : Bool} {Q : VK} (e : Ex B H) (h : EvT tt σ B b) (k : ∀ H1, Ex H H1 → if b = true then ta σ H1 Q else tb σ H1 Q) : tIf tt ta tb σ H Q := h H e _ k
theorem dv_tuK {K : PySem.W.Frag} {u : Dv} {v : V} {H : Hp} (h : (DvP u).P v H) : (TuP K [IsV (.str u.n), IsV (.int u.i), IsV (.int u.j)]).P v H := by
  obtain ⟨a, rfl, h⟩ := h
  exact ⟨a, _, rfl, st_of h, rfl, rfl, rfl, trivial⟩
section
variable {ta tb : TE} {σ : L2.St} {B : Hp} {K : PySem.W.Frag} {u : Dv}
theorem p_ixD1 (h : EvP ta σ B (DvP u)) : Ev (tOp (rIxT K) ta (tC (.int 1))) σ B (.int u.i) := ev_p (p_ixT (K := K) (h.imp fun v B1 _ b => dv_tuK b) p_c rfl)
theorem p_ixD2 (h : EvP ta σ B (DvP u)) : Ev (tOp (rIxT K) ta (tC (.int 2))) σ B (.int u.j) := ev_p (p_ixT (K := K) (h.imp fun v B1 _ b => dv_tuK b) p_c rfl)
end
theorem src_enJ {ta : TA} {σ : L2.St} {B : Hp} {K : PySem.W.Frag} {js : List (Dv × Rat)} (h : EvPs ta σ B [jtP K js]) : SrcE (iEnumT K ta) σ B js.length (fun i => jpP K (js.getD i (⟨"", 0, 0⟩, 0))) := by
  have := src_enT h
  rw [List.length_map] at this
  intro H1 e R k
  refine this H1 e R fun J B' H2 G Y g w hG hY => k J B' H2 G Y g w hG fun i H v H' hi e y => ?_
  obtain ⟨T, x, a, b, c, d⟩ := hY i H v H' hi e y
  dsimp only at d
  rw [getD_map hi] at d
  refine ⟨T, x, a, b, c, ?_⟩
  dsimp only
  rw [List.getD_eq_getElem?_getD, List.getElem?_eq_getElem hi]
  exact d
end Nd
namespace K12
set_option autoImplicit false
open PySem PySem.W L2 Evl My Nd LamX NdefX
section
variable {P : Program} {w : World} {K : PySem.W.Frag} {mg : Str → Option Value} {base : Heap} {T : List (Addr × Str)}

/-- places_to -/
abbrev s_places_to : Stmt := topS 39
abbrev N_places_to : List Str := ["ranking", "length"]
theorem sc_places_to : FnScope N_places_to ["ranking", "length"] (defScope s_places_to) := ⟨rfl, rfl, rfl, by decide +kernel, rfl, by decide +kernel, by decide +kernel⟩
theorem ok_places_to {f : Addr} {fd : FuncData} (F : Fun K "places_to" "places_to" s_places_to f fd)  {f_all_to : Addr} {d_all_to : FuncData} (c_all_to : Cal P w K mg base "all_to" 6 ["ranking", "order"] (spAll K T) f_all_to d_all_to) (n_sorted : mg "sorted" = none)  :
    FnOk P w K mg base CX0 7 f fd ["ranking", "length"] (spPl K T) := by
  refine F.ok sc_places_to (fun vs H Q E h => by obtain ⟨B, r, vr, n, rfl, _⟩ := h; rfl) (fun cdv A outer s H vs Q E hr h => ?_)
  obtain ⟨B, r, vr, n, rfl, hn, hok, kn, hR, q⟩ := h
  have hu := hu_of hr
  refine ⟨_, (pss_one (ps_ret (pe_ifExp (pt_cmpR op_gt (pv 1) pe_int (nomark _)) (pe_callB (cr_sortDL hr) (by rfl) n_sorted (by decide +kernel) (pa_cons (pe_call c_all_to.G (hr.mono (by decide)) (by rfl) c_all_to.m c_all_to.k c_all_to.b .nil pass0 (pa_cons (pv 0) (pa_cons (pe_op op_sub (pv 1) pe_int) pa_nil))) pa_nil)) (pe_lst pa_nil)))), ?_⟩
  refine b_ifE (b := decide ((0 : Int) < (n : Int))) kn.e (et_test (ev_op (r := rI0 fun i j => .bl (decide (j < i))) (ev_var rfl) ev_c rv_I0)) fun H1 e1 => ?_
  have k1 := kn.ex e1
  cases n with
  | zero =>
    show tLst tNil _ _ _
    exact ⟨by decide, fun p hp => q (.ref p) _ (exN_of (e1.trans (Ex.new hp))) (kn.t.ext (e1.trans (Ex.new hp))) ⟨p, [], rfl, upd_same, trivial⟩⟩
  | succ n =>
    have h0 : decide ((0 : Int) < ((n + 1 : Nat) : Int)) = true := decide_eq_true (by omega)
    rw [h0, if_pos rfl]
    have ea : EvPs (tCons (tVar 0) (tCons (tOp (rI0 fun i j => .int (i - j)) (tVar 1) (tC (.int 1))) tNil)) [some vr, some (.int ((n + 1 : Nat) : Int))] B [RkP K r, IsV (.int (((n + 1 : Nat) : Int) - 1))] :=
      q_cons (p_var rfl hR) (q_cons (p_ev (ev_op (ev_var rfl) ev_c rv_I0)) q_nil)
    refine b_sortDL (c_call (ea H1 k1.e _ fun vs B2 H2 g b => ?_))
    rw [List.append_nil]
    obtain ⟨w1, w2, rfl, b1, b2⟩ := all2 b
    obtain rfl : w2 = .int (((n + 1 : Nat) : Int) - 1) := b2
    refine ⟨B2, r, w1, n, by rw [show (((n + 1 : Nat) : Int) - 1) = (n : Int) by omega], by omega, hok, k1.gr g, b1, fun v H' eN T' hv => ?_⟩
    obtain ⟨p, xs, rfl, hp, hx⟩ := hv
    have hl := hx.len
    rw [List.length_map] at hl
    refine ⟨p, xs, (r.sort (r.all n)).map Dv.D, rfl, sq_of hp, by rw [List.length_map]; omega, dv_alike _, dv_sortable _, dv_depth _, dps_dv hx, fun p2 hp2 => ?_⟩
    exact q _ _ (((exN_of (e1.trans g.a)).trans eN).trans (exN_of (Ex.new hp2))) (T'.ext (Ex.new hp2)) ⟨p2, _, rfl, upd_same, (byKey_dv hx).m (Ex.new hp2)⟩

/-- length_in -/
abbrev s_length_in : Stmt := topS 38
abbrev N_length_in : List Str := ["ranking", "jet", "ahead", "length", "number", "pair", "due"]
theorem sc_length_in : FnScope N_length_in ["ranking", "jet"] (defScope s_length_in) := ⟨rfl, rfl, rfl, by decide +kernel, rfl, by decide +kernel, by decide +kernel⟩
theorem ok_length_in {f : Addr} {fd : FuncData} (F : Fun K "length_in" "length_in" s_length_in f fd) {aBJ i_BJ : Addr} {d_BJ : FuncData} {gZ_BJ : List Value → List Value → List Value} (R_BJ : RP P w K mg base "BadJet" aBJ "place" i_BJ d_BJ gZ_BJ) {f_is_numbered : Addr} {d_is_numbered : FuncData} (c_is_numbered : Cal P w K mg base "is_numbered" 5 ["ranking", "thing"] (spP (RnumJ K)) f_is_numbered d_is_numbered) {f_places_to : Addr} {d_places_to : FuncData} (c_places_to : Cal P w K mg base "places_to" 7 ["ranking", "length"] (spPl K T) f_places_to d_places_to) (n_isinstance : mg "isinstance" = none) (n_tuple : mg "tuple" = none) (n_enumerate : mg "enumerate" = none) (n_max : mg "max" = none) (n_len : mg "len" = none) {tk8 : Nat} (g_MOST_LENGTH : mg "MOST_LENGTH" = some (.int 8 tk8)) :
    FnOk P w K mg base (L2.CX P w) 8 f fd ["ranking", "jet"] (spOT T (RlenO K aBJ)) := by
  refine F.okX sc_length_in (spOT_len (by rintro _ _ ⟨_, _, _, _, rfl, _⟩; rfl)) (fun cdv A outer s H vs Q E hr h => ?_)
  obtain ⟨B, ps, o, kn, hv, ⟨r, js, hok, jo, rfl, ho⟩, q⟩ := h
  obtain ⟨v0, v1, rfl, h0, h1⟩ := all2 hv
  have hu := hu_of hr
  have tk : Takes (cxOf (L2.CX P w) P w K mg base N_length_in "length_in" (defScope s_length_in) f cdv A outer s H E) (fun cls d _ H => E cls d H) := L2.takes_of rfl rfl rfl rfl
  refine ⟨_, (pss_cons (ps_if (pt_not (pt_val (pe_callB call_isi (by rfl) n_isinstance (by decide +kernel) (pa_cons (pv 1) (pa_cons (pe_bltn (v := .ty "tuple") (u := .type "tuple") (by rfl) n_tuple (by decide +kernel) rfl) pa_nil))))) (pss_one (ps_never )) pss_nil)
    (pss_cons (ps_set (i := 2) sc_length_in.nd rfl (by first | exact .inl rfl | exact .inr rfl) pe_non)
    (pss_cons (ps_set (i := 3) sc_length_in.nd rfl (by first | exact .inl rfl | exact .inr rfl) pe_int)
    (pss_cons (ps_for (L2.passes_of rfl) rfl (pi_enumT (by rfl) n_enumerate (pa_cons (pv 1) pa_nil)) (pg_tup (by rfl) (pgs_cons (pg_name (i := 4) sc_length_in.nd rfl (by first | exact .inl rfl | exact .inr rfl)) (pgs_cons (pg_name (i := 5) sc_length_in.nd rfl (by first | exact .inl rfl | exact .inr rfl)) pgs_nil)))
      (pss_cons (ps_if (PW.pt (pw_or (pt_not (pt_val (pe_call c_is_numbered.G (hr.mono (by decide)) (by rfl) c_is_numbered.m c_is_numbered.k c_is_numbered.b .nil pass0 (pa_cons (pv 0) (pa_cons (pv 5) pa_nil))))) (pw_or1 (PW.pt (pw_and (pt_cmpR op_notN (pv 2) pe_non (nomark _)) (pw_and1 (pt_cmpR (op_leD (by have h := hr.un; show (A.deeper _).units + 65 < cLine; omega)) (pe_ix ix_tup (pv 5) pe_int (fun _ _ => rfl)) (pv 2) (nomark _)))))))) (pss_one ( ps_never )) pss_nil)
    (pss_cons (ps_set (i := 2) sc_length_in.nd rfl (by first | exact .inl rfl | exact .inr rfl) (pe_ix ix_tup (pv 5) pe_int (fun _ _ => rfl)))
    (pss_cons (ps_set (i := 3) sc_length_in.nd rfl (by first | exact .inl rfl | exact .inr rfl) (pe_callB (call_max2 rfl) (by rfl) n_max (by decide +kernel) (pa_cons (pv 3) (pa_cons (pe_op op_add (pe_op op_add (pe_ix ix_tup (pv 2) pe_int (fun _ _ => rfl)) (pe_ix ix_tup (pv 2) pe_int (fun _ _ => rfl))) pe_int) pa_nil))))
    (pss_one (ps_if (pt_cmpR op_gt (pv 3) (pe_glob (by rfl) (v := .int 8) g_MOST_LENGTH ⟨_, rfl⟩) (nomark _)) (pss_one (ps_raiseP R_BJ rfl rfl tk (hr.mono (by decide)) (by rfl) (pa_cons (pv 4) pa_nil))) pss_nil))))))
    (pss_cons (ps_set (i := 6) sc_length_in.nd rfl (by first | exact .inl rfl | exact .inr rfl) (pe_call c_places_to.G (hr.mono (by decide)) (by rfl) c_places_to.m c_places_to.k c_places_to.b .nil pass0 (pa_cons (pv 0) (pa_cons (pv 3) pa_nil))))
    (pss_cons (ps_for (L2.passes_of rfl) rfl (pi_enumT (by rfl) n_enumerate (pa_cons (pv 1) pa_nil)) (pg_tup (by rfl) (pgs_cons (pg_name (i := 4) sc_length_in.nd rfl (by first | exact .inl rfl | exact .inr rfl)) (pgs_cons (pg_name (i := 5) sc_length_in.nd rfl (by first | exact .inl rfl | exact .inr rfl)) pgs_nil)))
      (pss_one (ps_if (pt_cmpR (op_neD hr.units) (pe_ix ix_tup (pv 5) pe_int (fun _ _ => rfl)) (pe_ix ix_list (pv 6) (pv 4) (fun _ _ => rfl)) (nomark _)) (pss_one ps_never) pss_nil)))
    (pss_cons (ps_if (pt_cmpR op_lt (pe_callB call_len_seq (by rfl) n_len (by decide +kernel) (pa_cons (pv 1) pa_nil)) (pe_callB call_len_seq (by rfl) n_len (by decide +kernel) (pa_cons (pv 6) pa_nil)) (nomark _)) (pss_one ps_never) pss_nil)
    (pss_one (ps_ret (pv 3)))))))))), ?_⟩
  have tj : ∀ v (B1 : Hp), (jtP K js).P v B1 → Dp K B1 v (.tuple (js.map jpD)) := fun v B1 h => to_tup (toAll_map js to_jp) _ _ h
  refine ps_ifN kn.e (et_is (et_not (et_test (ev_isi (K := K) (d := .tuple (js.map jpD)) (p_var (p := IsD K _) (i := 1) rfl (tj _ _ h1)) k_tt))) rfl) fun H1 e1 => ?_
  dsimp only
  refine ps_asgN (fun x => [some v0, some v1, some x, none, none, none, none]) (kn.e.trans e1) (p_c (v := .non)) (fun x B2 H2 g2 hx => ?_) (fun _ => rfl)
  obtain rfl : x = .non := hx
  dsimp only
  refine ps_asgN (fun x => [some v0, some v1, some .non, some x, none, none, none]) g2.c (p_c (v := .int 0)) (fun x B3 H3 g3 hx => ?_) (fun _ => rfl)
  obtain rfl : x = .int 0 := hx
  dsimp only
  have g03 := (Gr.wide kn.e e1).trans (g2.trans g3)
  clear hv g2
  have h0 := (RkP K r).m g03.b h0
  have h1 := (jtP K js).m g03.b h1
  refine ps_forE g3.c (src_enJ (q_cons (p_var (i := 1) rfl h1) q_nil)) fun B4 H4 g4 => ?_
  have g04 := g03.trans g4
  have h0 := (RkP K r).m g4.b h0
  have h1 := (jtP K js).m g4.b h1
  refine ⟨fun i σ H5 => ∃ B5, Gr B4 H4 B5 H5 ∧ topO ((js.map (·.1)).take i) ≤ 8 ∧ ∃ y ah n x, σ = [some v0, some v1, some y, some (.int (topO ((js.map (·.1)).take i))), n, x, none] ∧ AhP K ah y B5 ∧ ah = (if i = 0 then none else (js[i - 1]?).map fun z => z.1.D),
    ⟨B4, Gr.refl g4.c, (by show (0 : Int) ≤ 8; decide), .non, none, none, none, rfl, .inl ⟨rfl, rfl⟩, rfl⟩, fun i σ H5 _ h => ?_, fun i v2 T' σ H5 hi pv px hT => ?_, fun σ H5 pv => ?_⟩
  · obtain ⟨B5, g5, _⟩ := h
    exact g5.b.trans g5.c
  · obtain ⟨B5, g5, le8, y, ah, n, x, rfl, ha, eah⟩ := pv
    have ej : js.getD i (⟨"", 0, 0⟩, 0) = js[i] := by rw [List.getD_eq_getElem?_getD, List.getElem?_eq_getElem hi]; rfl
    rw [ej] at px
    have px5 := (jpP K js[i]).m g5.b px
    have h0 := (RkP K r).m g5.b h0
    have hof := jo.of js[i] (List.getElem_mem hi)
    refine ⟨T', _, rfl, st_of upd_same, rfl, _, _, rfl, _, _, rfl, rfl, ?_⟩
    have g6 := g5.trans (Gr.wide g5.c (Ex.new (o := .tup [.int (i : Nat), v2]) hT))
    have gs := g04.trans g6
    dsimp only
    have one : Ev (tCall (spP (RnumJ K)) [] E0 (tCons (tVar 0) (tCons (tVar 5) tNil))) [some v0, some v1, some y, some (.int (topO ((js.map (·.1)).take i))), some (.int (i : Nat)), some v2, none] B5 (.bl true) := ev_p (p_callP (ps := [RkP K r, jpP K js[i]]) (q_cons (p_var rfl h0) (q_cons (p_var rfl px5) q_nil)) ⟨r, js[i], hok, hof, rfl, rfl⟩)
    have p0 : ∀ σ : L2.St, σ[5]? = some (some v2) → EvP (tOp (rIxT K) (tVar 5) (tC (.int 0))) σ B5 (DvP js[i].1) := fun σ hσ => p_ixT (K := K) (p_var (p := jpP K js[i]) hσ px5) (p_c (v := .int 0)) rfl
    have ahd : ∀ a, ah = some a → ∃ u : Dv, a = u.D := fun a e => by
      rw [eah] at e
      split at e
      · cases e
      · obtain ⟨z, _, rfl⟩ := Option.map_eq_some_iff.mp e
        exact ⟨_, rfl⟩
    have test := et_ah (K := K) (d := js[i].1.D) (σ := [some v0, some v1, some y, some (.int (topO ((js.map (·.1)).take i))), some (.int (i : Nat)), some v2, none]) (i := 2) rfl ha (ed_dv (p0 _ rfl)) (fun a ea => by obtain ⟨u, rfl⟩ := ahd a ea; exact alike_dv _ _) (fun z => nomatch z) (by rw [deep_dv]; omega)
    have hb : (ah.all fun a => dataLt a js[i].1.D) = true := by
      rw [eah]
      cases i with
      | zero => rfl
      | succ k =>
        have := jo.up k hi
        rw [if_neg (Nat.succ_ne_zero k), Nat.add_sub_cancel, List.getElem?_eq_getElem (Nat.lt_of_succ_lt hi)]
        exact this
    refine ps_ifN g6.c (et_is (et_or (a := false) (b := false) (et_is (et_not (et_test one)) rfl) fun _ => et_is test (by rw [hb]; rfl)) rfl) fun H7 e7 => ?_
    dsimp only
    refine ps_asgN (fun x => [some v0, some v1, some x, some (.int (topO ((js.map (·.1)).take i))), some (.int (i : Nat)), some v2, none]) (g6.c.trans e7) (p0 _ rfl) (fun x8 B8 H8 g8 hx8 => ?_) (fun _ => rfl)
    dsimp only
    have pi := fun (σ : L2.St) (hσ : σ[2]? = some (some x8)) => p_ixD1 (K := K) (p_var (B := B8) hσ hx8)
    have pj := fun (σ : L2.St) (hσ : σ[2]? = some (some x8)) => p_ixD2 (K := K) (p_var (B := B8) hσ hx8)
    refine ps_asgN (fun x => [some v0, some v1, some x8, some x, some (.int (i : Nat)), some v2, none]) g8.c (p_ev (ev_max2 (ev_var rfl) (ev_op (ev_op (pi _ rfl) (pj _ rfl) rv_I0) ev_c rv_I0))) (fun x9 B9 H9 g9 hx9 => ?_) (fun _ => rfl)
    have esc := top_succ (us := js.map (·.1)) (i := i) (by rw [List.length_map]; exact hi)
    rw [List.getElem_map] at esc
    obtain rfl : x9 = .int (topO ((js.map (·.1)).take (i + 1))) := by rw [esc]; exact hx9
    dsimp only
    have g69 := (g6.trans (Gr.wide g6.c e7)).trans (g8.trans g9)
    have tst : ∀ b, decide (8 < topO ((js.map (·.1)).take (i + 1))) = b → EvT (tTest (tOp (rI0 fun i j => .bl (decide (j < i))) (tVar 3) (tC (.int 8)))) [some v0, some v1, some x8, some (.int (topO ((js.map (·.1)).take (i + 1)))), some (.int (i : Nat)), some v2, none] B9 b := fun b hb => et_is (et_test (ev_op (ev_var rfl) ev_c rv_I0)) hb
    by_cases h8 : 8 < topO ((js.map (·.1)).take (i + 1))
    · refine My.ps_ifT g9.c (tst true (decide_eq_true h8)) fun H10 e10 => ?_
      rcases ho with ⟨m, hg, rfl⟩ | ⟨k, hk, rfl⟩
      · exfalso
        have h2 := top_le (js.map (·.1)) (i + 1)
        rw [hg.2] at h2
        have h3 := top_plc hok m
        have h4 := hg.1
        rw [hg.2] at h8
        omega
      · obtain rfl : i = k := by
          rcases Nat.lt_trichotomy i k with hlt | rfl | hlt
          · have := top_mono (js.map (·.1)) (show i + 1 ≤ k by omega)
            have := hk.2.1
            omega
          · rfl
          · have := top_mono (js.map (·.1)) (show k + 1 ≤ i by omega)
            have := hk.2.2
            omega
        exact x_rsP (W := fun cls d _ H => E cls d H) (p := IsV (.int (i : Nat))) R_BJ.rc.r (g9.c.trans e10) (g04.a.trans (g69.a.trans e10)) (q_cons (p_varV rfl) q_nil) fun d2 B10 H10 g hd => q d2 B10 H10 (GT.gr ((g04.trans (g69.trans (Gr.wide g9.c e10))).trans g)) hd
    · refine ps_ifN g9.c (tst false (decide_eq_false h8)) fun H10 e10 => ?_
      refine ⟨B9, g69.trans (Gr.wide g9.c e10), by omega, x8, some js[i].1.D, some (.int (i : Nat)), some v2, rfl, .inr ⟨_, rfl, dv_d ((DvP js[i].1).m g9.b hx8), _, rfl⟩, ?_⟩
      rw [if_neg (Nat.succ_ne_zero i), Nat.add_sub_cancel, List.getElem?_eq_getElem hi]
      rfl
  · obtain ⟨B5, g5, le8, y, ah, n, x, rfl, ha, eah⟩ := pv
    have el : (js.map (·.1)).take js.length = js.map (·.1) := List.take_of_length_le (by rw [List.length_map]; exact Nat.le_refl _)
    rw [el] at le8
    rcases ho with ⟨m, hg, rfl⟩ | ⟨k, hk, rfl⟩
    rotate_left
    · exfalso
      have := top_le (js.map (·.1)) (k + 1)
      have := hk.2.2
      omega
    have hm8 := hg.1
    have et : topO (js.map (·.1)) = (m : Int) := by rw [hg.2, top_plc hok]
    rw [el, et]
    have h0 := (RkP K r).m g5.b h0
    have h1 := (jtP K js).m g5.b h1
    have k5 := kn.gr (g04.trans g5)
    have g05 := g04.trans g5
    clear ha eah le8
    dsimp only
    have ea : EvPs (tCons (tVar 0) (tCons (tVar 3) tNil)) [some v0, some v1, some y, some (.int (m : Int)), n, x, none] B5 [RkP K r, IsV (.int (m : Int))] := q_cons (p_var rfl h0) (q_cons (p_varV rfl) q_nil)
    refine c_asg (c_call (ea H5 k5.e _ fun vs B6 H6 g6 b => ?_))
    rw [List.append_nil]
    obtain ⟨w1, w2, rfl, b1, b2⟩ := all2 b
    obtain rfl : w2 = .int (m : Int) := b2
    refine ⟨B6, r, w1, m, rfl, hm8, hok, k5.gr g6, b1, fun vd H7 eN T7 hd => ?_⟩
    have k7 := (k5.gr g6).next eN T7
    have gt7 : GT T B H B6 H7 := (GT.gr (g05.trans g6)).trans (GT.xn (k5.gr g6) eN T7)
    have h1 := (jtP K js).m (g6.b.trans k7.e) h1
    have gt : ∀ {H8 : Hp}, Ex H7 H8 → GT T B H B6 H8 := fun e => gt7.trans (GT.gr (Gr.wide k7.e e))
    rw [← hg.2] at hd
    refine g_name ?_
    dsimp only
    refine ps_forE (Ex.refl H7) (src_enJ (q_cons (p_var (i := 1) rfl h1) q_nil)) fun B8 H8 g8 => ?_
    have hd := (LsP ((js.map (·.1)).map DvP)).m g8.b hd
    have h1 := (jtP K js).m g8.b h1
    refine ⟨fun i σ H9 => Ex B8 H9 ∧ Ex H7 H9 ∧ ∃ n x, σ = [some v0, some v1, some y, some (.int (m : Int)), n, x, some vd], ⟨g8.c, g8.a, _, _, rfl⟩, fun i σ H9 _ h => h.1, fun i v2 T' σ H9 hi pv px hT => ?_, fun σ H9 pv => ?_⟩
    · obtain ⟨e9, e79, n, x, rfl⟩ := pv
      have ej : js.getD i (⟨"", 0, 0⟩, 0) = js[i] := by rw [List.getD_eq_getElem?_getD, List.getElem?_eq_getElem hi]; rfl
      rw [ej] at px
      have en := Ex.new (o := .tup [.int (i : Nat), v2]) hT
      refine ⟨T', _, rfl, st_of upd_same, rfl, _, _, rfl, _, _, rfl, rfl, ?_⟩
      dsimp only
      have hdq : EvP (tOp (rIxL K) (tVar 6) (tVar 4)) [some v0, some v1, some y, some (.int (m : Int)), some (.int (i : Nat)), some v2, some vd] B8 (DvP js[i].1) := p_ix (K := K) (p_lq (p_var rfl hd)) (p_varV rfl) (atI_nat (by rw [List.getElem?_map, List.getElem?_map, List.getElem?_eq_getElem hi]; rfl))
      refine ps_ifN (e9.trans en) (et_ne (K := K) (d := js[i].1.D) (ed_dv (p_ixT (K := K) (p_var (p := jpP K js[i]) rfl px) (p_c (v := .int 0)) rfl)) (ed_dv hdq) (Gd.shp_dv hok (jo.of js[i] (List.getElem_mem hi)))) fun H10 e10 => ?_
      exact ⟨(e9.trans en).trans e10, (e79.trans en).trans e10, _, _, rfl⟩
    · obtain ⟨e9, e79, n, x, rfl⟩ := pv
      dsimp only
      refine ps_ifN e9 (et_is (et_test (ev_op (r := rI0 fun i j => .bl (decide (i < j))) (ev_lenD (K := K) (es := js.map jpD) (p_var (p := IsD K _) (i := 1) rfl (tj _ _ h1)) (.inl rfl)) (ev_lenQ (K := K) (p_lq (p_var (i := 6) rfl hd))) rv_I0)) ?_) fun H10 e10 => ?_
      · simp
      dsimp only
      refine My.ps_ret (e9.trans e10) (p_varV (v := .int (m : Int)) rfl) fun v B11 H11 g11 hp => ?_
      obtain rfl : v = .int (m : Int) := hp
      exact q _ B6 H11 (gt ((e79.trans e10).trans g11.a)) rfl

end
end K12
namespace My
set_option autoImplicit false
open PySem L2 Evl RZ
/-- what a walk over this hands out, each thing perhaps made anew -/
def SrcX (wi : TI) (σ : L2.St) (B : Hp) (n : Nat) (P : Nat → Pr) : Prop := ∀ H1, Ex B H1 → ∀ R : It → Hp → Prop, (∀ (J : It) (B' H2 : Hp) (G : Hp → Prop) (Y : Nat → Hp → V → Hp → Prop), Gr B H1 B' H2 → Walk J n G Y → (∀ H, Ex B' H → G H) →
  (∀ i H v H', i < n → Ex B' H → Y i H v H' → Ex H H' ∧ ∀ C, Ex B' C → Ex C H → ∃ C', Gr C H C' H' ∧ (P i).P v C') → R J H2) → wi σ H1 R
section
variable {te ta tb : TE} {t tr : TA} {tt : TT} {σ : L2.St} {B B' H : Hp} {p q : Pr} {ps qs : List Pr} {v : V} {K : PySem.W.Frag} {D : Ends}
theorem walk_zipT {a b : Addr} {xs ys : List V} {n : Nat} (hn : n = min xs.length ys.length) : Walk (ItzT K a b) n (fun H => SqT K H a xs ∧ SqT K H b ys) (YPair (fun i => xs[i]?) (fun i => ys[i]?)) := by
  subst hn
  refine ⟨fun i _ hi q => ?_, fun _ q => ⟨xs, ys, q.1, q.2, by omega⟩, fun i H v H' _ q y => ?_⟩
  · have h1 : i < xs.length := by omega
    have h2 : i < ys.length := by omega
    exact ⟨xs, ys, xs[i], ys[i], q.1, q.2, by simp [h1], by simp [h2]⟩
  · obtain ⟨T, x, z, h1, h2, h3, h4, h5⟩ := y
    exact ⟨T, x, z, h1, h2, h3, h4 xs q.1, h5 ys q.2⟩
theorem srcX_zipT (h : EvPs t σ B [TuP K ps, TuP K qs]) (hl : ps.length = qs.length) : SrcX (iZipA K t) σ B ps.length (fun i => TuP K [ps.getD i (IsV .non), qs.getD i (IsV .non)]) := fun H1 a R k => h H1 a _ fun vs B2 H2 g b => by
    obtain ⟨v1, v2, rfl, ⟨p1, xs, rfl, hx, ax⟩, ⟨p2, ys, rfl, hy, ay⟩⟩ := K12.all2 b
    have l1 := ax.len
    have l2 := ay.len
    refine ⟨p1, p2, xs, ys, rfl, .inr ⟨ex_t g.c hx, ex_t g.c hy, k _ B2 H2 _ _ g (walk_zipT (n := ps.length) (by omega)) (fun H e => ⟨ex_t e hx, ex_t e hy⟩) fun i H v H' hi e y => ?_⟩⟩
    obtain ⟨T, x, z, rfl, hT, rfl, e1, e2⟩ := y
    refine ⟨Ex.new hT, fun C eC eH => ⟨_, Gr.new (.tup [x, z]) eH hT, T, _, rfl, st_of upd_same, ?_, ?_, trivial⟩⟩
    · obtain ⟨p, hp, k2⟩ := ax.get e1
      rw [List.getD_eq_getElem?_getD, hp]
      exact p.m (eC.trans (Ex.new (fresh_back eH hT))) k2
    · obtain ⟨p, hp, k2⟩ := ay.get e2
      rw [List.getD_eq_getElem?_getD, hp]
      exact p.m (eC.trans (Ex.new (fresh_back eH hT))) k2
theorem ps_forX {wi : TI} {n : Nat} {P : Nat → Pr} {g : TG} {tbd : TS} (a : Ex B H) (h : SrcX wi σ B n P)
    (k : ∀ B1 H1, Gr B H B1 H1 → ∃ Pv : Nat → L2.St → Hp → Prop, Pv 0 σ H1 ∧ (∀ i σ' H', i ≤ n → Pv i σ' H' → Ex B1 H') ∧
      (∀ i v σ' H' H'', i < n → Pv i σ' H' → Ex H' H'' → (∀ C, Ex B1 C → Ex C H' → ∃ C', Gr C H' C' H'' ∧ (P i).P v C') → g v σ' H'' fun σ2 H2 => tbd { D with nx := Pv (i + 1), ct := Pv (i + 1), bk := D.nx } σ2 H2) ∧ ∀ σ' H', Pv n σ' H' → D.nx σ' H') :
    tFor wi g tbd D σ H := h H a _ fun J B1 H1 G Y gr w hG hY => by
  obtain ⟨Pv, h0, hE, hs, hd⟩ := k B1 H1 gr
  refine for_it w Pv h0 (fun i σ' H' hi pv => hG H' (hE i σ' H' hi pv)) (fun i x σ' H' H2 hi pv y => ?_) hd
  obtain ⟨e, f⟩ := hY i H' x H2 hi (hE i σ' H' (Nat.le_of_lt hi) pv) y
  exact hs i x σ' H' H2 hi pv e f
/-- a comprehension over it, some items left out -/
theorem p_lcX {wi : TI} {n : Nat} {P : Nat → Pr} {g : TG} {vs : List Nat} (h : SrcX wi σ B n P) (hl : n ≤ 100000) (keep : Nat → Bool) (res : Nat → Pr)
    (step : ∀ i v B1, i < n → Ex B B1 → (P i).P v B1 → ∃ σ2, wipe σ2 vs = wipe σ vs ∧ (∀ H2 Q, Ex B1 H2 → Q σ2 H2 → g v (wipe σ vs) H2 Q) ∧ EvT tt σ2 B1 (keep i) ∧ (keep i = true → EvP te σ2 B1 (res i))) :
    EvP (tLc wi g tt te vs) σ B (LsP (((List.range n).filter keep).map res)) := fun H1 a Q k =>
  h H1 a _ fun J B2 H2 G Y gr w hG hY Dd hD => by
    refine lc_it w (fun i H3 => ∃ B3 acc, Gr B2 H2 B3 (wo Dd H3) ∧ H3 Dd = some (.lst acc) ∧ AllP (((List.range i).filter keep).map res) acc B3) ?_ ?_ ?_ ?_
    · exact ⟨B2, [], by rw [wo_new hD]; exact Gr.refl gr.c, upd_same, trivial⟩
    · rintro i H3 _ ⟨B3, acc, g3, _, _⟩
      exact hG H3 (g3.b.trans (g3.c.trans wo_ex))
    · rintro i v H3 H3' hi ⟨B3, acc, g3, hDd, hacc⟩ hy
      have exB : Ex B3 H3 := g3.c.trans wo_ex
      obtain ⟨ee, hC⟩ := hY i H3 v H3' hi (g3.b.trans exB) hy
      obtain ⟨C, gC, pv⟩ := hC B3 g3.b exB
      have some3 : H3 Dd ≠ none := by
        rw [hDd]
        exact fun z => nomatch z
      have gC2 : Gr B2 H2 C (wo Dd H3') := g3.side some3 gC
      have someC : H3' Dd ≠ none := has ee some3
      obtain ⟨σ2, hw, hg, ht, he⟩ := step i v C hi (gr.b.trans gC2.b) pv
      refine hg H3' _ gC.c ⟨hw, ht H3' gC.c _ fun H4 e4 => ?_⟩
      have hD4 := e4 _ _ (ee _ _ hDd)
      have g4 : Gr B2 H2 C (wo Dd H4) := gC2.side someC (Gr.wide gC.c e4)
      have some4 : H4 Dd ≠ none := has e4 someC
      have hacc := hacc.m gC.b
      cases hk : keep i with
      | true =>
        rw [if_pos rfl]
        refine he hk H4 (gC.c.trans e4) _ fun y B5 H5 g5 hy => ?_
        have la : acc.length ≤ i := by
          rw [hacc.len, List.length_map]
          exact Nat.le_trans (List.length_filter_le _ _) (by rw [List.length_range]; exact Nat.le_refl _)
        refine ⟨acc, g5.a _ _ hD4, sz_lt (by omega), B5, acc ++ [y], by rw [wo_upd]; exact g4.side some4 g5, upd_same, ?_⟩
        rw [List.range_succ, List.filter_append, List.map_append]
        refine (hacc.m g5.b).app ?_
        have : List.filter keep [i] = [i] := by simp [hk]
        rw [this]
        exact ⟨hy, trivial⟩
      | false =>
        rw [if_neg Bool.false_ne_true]
        refine ⟨C, acc, g4, hD4, ?_⟩
        rw [List.range_succ, List.filter_append, List.map_append]
        have : List.filter keep [i] = [] := by simp [hk]
        rw [this, List.map_nil, List.append_nil]
        exact hacc
    · rintro H3 ⟨B3, acc, g3, hDd, hacc⟩
      have hB3 : B3 Dd = none := wo_none g3.c
      refine k (.ref Dd) (upd B3 Dd (.lst acc)) H3 ⟨gr.a.trans (g3.a.trans wo_ex), gr.b.trans (g3.b.trans (Ex.new hB3)), fun b o e => ?_, fun x hb hh => ?_, fun z b ps q => ?_⟩ ⟨Dd, acc, rfl, upd_same, hacc.m (Ex.new hB3)⟩
      · by_cases n : b = Dd
        · subst n
          rw [upd_same] at e
          rw [hDd]
          exact e
        · rw [upd_ne n] at e
          exact g3.c.trans wo_ex _ _ e
      · have n : x ≠ Dd := fun z => by
          subst z
          exact has gr.a hh hD
        rw [upd_ne n]
        exact g3.d x (gr.d x hb hh) (has gr.a hh)
      · by_cases n : b = Dd
        · subst n
          rw [upd_same] at q
          cases q
        · rw [upd_ne n] at q
          exact g3.e (gr.e z) b ps q
end
theorem keep_map {α β : Type} (l : List α) (d : α) (f : α → Bool) (g : α → β) : ((List.range l.length).filter (fun i => f (l.getD i d))).map (fun i => g (l.getD i d)) = (l.filter f).map g := by
  have e : (List.range l.length).map (fun i => l.getD i d) = l := by
    apply List.ext_getElem
    · simp
    · intro i h1 h2
      simp [List.getD_eq_getElem?_getD, List.getElem?_eq_getElem h2]
  conv => rhs; rw [← e]
  rw [List.filter_map, List.map_map]
  rfl
theorem all_map {α β : Type} (l : List α) (d : α) (g : α → β) : ((List.range l.length).filter (fun _ => true)).map (fun i => g (l.getD i d)) = l.map g := by
  rw [keep_map l d (fun _ => true) g, List.filter_eq_self.mpr (fun _ _ => rfl)]
end My
namespace Nd
set_option autoImplicit false
open PySem PySem.W L2 My Evl LamX
theorem b_ifNe {ta tb : TE} {t u : TS} {D : Ends} {σ : L2.St} {H : Hp} (h : ta σ H fun v H1 => tb σ H1 fun w H2 => scal v w = true ∧ ∃ k, V.bl (!decide (v = w)) = V.bl k ∧ (if k = true then t D σ H2 else u D σ H2)) : tIfS (tTest (tOp rNe ta tb)) t u D σ H := h
theorem c_drop {te : TE} {D : Ends} {σ : L2.St} {H : Hp} (h : te σ H fun _ H1 => D.nx σ H1) : tDrop te D σ H := h
theorem c_ret {te : TE} {D : Ends} {σ : L2.St} {H : Hp} (h : te σ H D.rt) : tRet te D σ H := h
def cutJ (js : List (Dv × Rat)) (l : Int) : List (Dv × Rat) := js.filter fun x => decide (x.1.i + x.1.j < l)
def RcutO (K : PySem.W.Frag) (CO : Addr) : List Pr → Out → Prop := fun ps o => ∃ (r : Rk) (js : List (Dv × Rat)) (n : Nat) (l : Int), r.Ok ∧ JOk r js ∧ JGood r js n ∧ 0 ≤ l ∧ l ≤ 8 ∧ ps = [RkP K r, jtP K js, IsV (.int l)] ∧ ((l ≤ n ∧ o = .ret (jtP K (cutJ js l))) ∨ ((n : Int) < l ∧ o = .exc CO []))
def sumJ (js ks : List (Dv × Rat)) : List (Dv × Rat) := (js.zip ks).map fun z => (z.1.1, z.1.2 + z.2.2)
def RaddJ (K : PySem.W.Frag) (CO : Addr) : List Pr → Out → Prop := fun ps o => ∃ (r : Rk) (js ks : List (Dv × Rat)) (n m : Nat), r.Ok ∧ JOk r js ∧ JGood r js n ∧ JOk r ks ∧ JGood r ks m ∧ (∀ x ∈ js, Sm x.2) ∧ (∀ x ∈ ks, Sm x.2) ∧ ps = [RkP K r, jtP K js, jtP K ks] ∧ ((n = m ∧ o = .ret (jtP K (sumJ js ks))) ∨ (n ≠ m ∧ o = .exc CO []))
def RscaJ (K : PySem.W.Frag) : List Pr → Out → Prop := fun ps o => ∃ (r : Rk) (js : List (Dv × Rat)) (n : Nat) (b : Rat), r.Ok ∧ JOk r js ∧ JGood r js n ∧ (∀ x ∈ js, Sm x.2) ∧ Sm b ∧ ps = [RkP K r, jtP K js, rtP K b] ∧ o = .ret (jtP K (js.map fun x => (x.1, x.2 * b)))
end Nd
namespace K12
set_option autoImplicit false
open PySem PySem.W L2 Evl My Nd LamX NdefX
section
variable {P : Program} {w : World} {K : PySem.W.Frag} {mg : Str → Option Value} {base : Heap} {T : List (Addr × Str)}

/-- length_of -/
abbrev s_length_of : Stmt := topS 40
abbrev N_length_of : List Str := ["ranking", "jet"]
theorem sc_length_of : FnScope N_length_of ["ranking", "jet"] (defScope s_length_of) := ⟨rfl, rfl, rfl, by decide +kernel, rfl, by decide +kernel, by decide +kernel⟩
theorem ok_length_of {f : Addr} {fd : FuncData} (F : Fun K "length_of" "length_of" s_length_of f fd) {aBR aBJ : Addr} {f_need_ranking : Addr} {d_need_ranking : FuncData} (c_need_ranking : CalX P w K mg base "need_ranking" 4 ["ranking"] (spO (RrkO K aBR)) f_need_ranking d_need_ranking) {f_length_in : Addr} {d_length_in : FuncData} (c_length_in : CalX P w K mg base "length_in" 8 ["ranking", "jet"] (spOT T (RlenO K aBJ)) f_length_in d_length_in)   :
    FnOk P w K mg base (L2.CX P w) 9 f fd ["ranking", "jet"] (spOT T (RlenO K aBJ)) := by
  refine F.okX sc_length_of (spOT_len (by rintro _ _ ⟨_, _, _, _, rfl, _⟩; rfl)) (fun cdv A outer s H vs Q E hr h => ?_)
  obtain ⟨B, ps, o, kn, hv, ⟨r, js, hok, jo, rfl, ho⟩, q⟩ := h
  obtain ⟨v0, v1, rfl, h0, h1⟩ := all2 hv
  have hu := hu_of hr
  have tk : Takes (cxOf (L2.CX P w) P w K mg base N_length_of "length_of" (defScope s_length_of) f cdv A outer s H E) (fun cls d _ H => E cls d H) := L2.takes_of rfl rfl rfl rfl
  refine ⟨_, (pss_cons (ps_expr (pe_callS c_need_ranking.G (hr.mono (by decide)) (by rfl) c_need_ranking.m c_need_ranking.k c_need_ranking.b (fun σ => passAt tk σ) (pa_cons (pv 0) pa_nil)))
    (pss_one (ps_ret (pe_callS c_length_in.G (hr.mono (by decide)) (by rfl) c_length_in.m c_length_in.k c_length_in.b (fun σ => passAt tk σ) (pa_cons (pv 0) (pa_cons (pv 1) pa_nil)))))), ?_⟩
  refine c_drop (o_call (E := WE _) (o := .ret (IsV .non)) kn.e (q_cons (p_var rfl h0) q_nil) (.inl ⟨r, hok, rfl, rfl⟩) fun _ B1 H1 g1 _ => ?_)
  dsimp only
  refine c_ret (o_callT (E := WE _) (kn.gr g1) (q_cons (p_var rfl ((RkP K r).m g1.b h0)) (q_cons (p_var rfl ((jtP K js).m g1.b h1)) q_nil)) ⟨r, js, hok, jo, rfl, ho⟩ (OutT.to (GT.gr g1) q))

/-- cut_jet -/
abbrev s_cut_jet : Stmt := topS 41
abbrev N_cut_jet : List Str := ["ranking", "jet", "length", "own", "name", "by_x", "by_y", "number"]
theorem sc_cut_jet : FnScope N_cut_jet ["ranking", "jet", "length"] (defScope s_cut_jet) := ⟨rfl, rfl, rfl, by decide +kernel, rfl, by decide +kernel, by decide +kernel⟩
theorem ok_cut_jet {f : Addr} {fd : FuncData} (F : Fun K "cut_jet" "cut_jet" s_cut_jet f fd) {aOP : Addr} (R_OP : RQ K mg "OutOfPlace" aOP) {aBJ : Addr} {f_length_of : Addr} {d_length_of : FuncData} (c_length_of : CalX P w K mg base "length_of" 9 ["ranking", "jet"] (spOT T (RlenO K aBJ)) f_length_of d_length_of) {f_need_length : Addr} {d_need_length : FuncData} (c_need_length : Cal P w K mg base "need_length" 4 ["thing"] (spP RndL) f_need_length d_need_length) (n_tuple : mg "tuple" = none)  :
    FnOk P w K mg base (L2.CX P w) 10 f fd ["ranking", "jet", "length"] (spOT T (RcutO K aOP)) := by
  refine F.okX sc_cut_jet (spOT_len (by rintro _ _ ⟨_, _, _, _, _, _, _, _, _, rfl, _⟩; rfl)) (fun cdv A outer s H vs Q E hr h => ?_)
  obtain ⟨B, ps, o, kn, hv, ⟨r, js, n, l, hok, jo, jg, l0, l8, rfl, ho⟩, q⟩ := h
  obtain ⟨v0, v1, v2, rfl, h0, h1, h2⟩ := all3 hv
  obtain rfl : v2 = .int l := h2
  have hu := hu_of hr
  have tk : Takes (cxOf (L2.CX P w) P w K mg base N_cut_jet "cut_jet" (defScope s_cut_jet) f cdv A outer s H E) (fun cls d _ H => E cls d H) := L2.takes_of rfl rfl rfl rfl
  refine ⟨_, (pss_cons (ps_set (i := 3) sc_cut_jet.nd rfl (by first | exact .inl rfl | exact .inr rfl) (pe_callS c_length_of.G (hr.mono (by decide)) (by rfl) c_length_of.m c_length_of.k c_length_of.b (fun σ => passAt tk σ) (pa_cons (pv 0) (pa_cons (pv 1) pa_nil))))
    (pss_cons (ps_expr (pe_call c_need_length.G (hr.mono (by decide)) (by rfl) c_need_length.m c_need_length.k c_need_length.b .nil pass0 (pa_cons (pv 2) pa_nil)))
    (pss_cons (ps_if (pt_cmpR op_gt (pv 2) (pv 3) (nomark _)) (pss_one (ps_raiseQ R_OP rfl tk (by rfl))) pss_nil)
    (pss_one (ps_ret (pe_callTy call_tuple_of (by rfl) n_tuple (by decide +kernel) (pa_cons (pe_lc (own := [("number", 7), ("name", 4), ("by_x", 5), ("by_y", 6)]) (g := (gTup K 2 (gCons (gTup K 3 (gCons (gName 4) (gCons (gName 5) (gCons (gName 6) gNil)))) (gCons (gName 7) gNil)))) rfl sc_cut_jet.nd (pi_tup (pv 1)) (blkOk_by (N := N_cut_jet) (sc := defScope s_cut_jet) (by decide +kernel)) (fun _ _ _ _ _ => (pg_tup (by rfl) (pgs_cons (pg_tup (by rfl) (pgs_cons (pg_name (i := 4) sc_cut_jet.nd rfl (Or.inl rfl)) (pgs_cons (pg_name (i := 5) sc_cut_jet.nd rfl (Or.inl rfl)) (pgs_cons (pg_name (i := 6) sc_cut_jet.nd rfl (Or.inl rfl)) pgs_nil)))) (pgs_cons (pg_name (i := 7) sc_cut_jet.nd rfl (Or.inl rfl)) pgs_nil)))) (fun _ _ _ _ _ => (pts_one (pt_cmpR op_lt (pe_op op_add (pv 5) (pv 6)) (pv 2) (nomark _)))) (fun _ _ _ _ _ => (pe_tup (pa_cons (pe_tup (pa_cons (pv 4) (pa_cons (pv 5) (pa_cons (pv 6) pa_nil)))) (pa_cons (pv 7) pa_nil))))) pa_nil))))))), ?_⟩
  refine c_asg (o_callT (E := WE _) kn (q_cons (p_var rfl h0) (q_cons (p_var rfl h1) q_nil)) ⟨r, js, hok, jo, rfl, .inl ⟨n, jg, rfl⟩⟩ fun v3 B1 H1 g1 hv3 => ?_)
  obtain rfl : v3 = .int (n : Int) := hv3
  refine g_name ?_
  dsimp only
  have k1 := kn.gt g1
  have h1 := (jtP K js).m g1.b h1
  refine ps_exE k1.e (p_callP (R := RndL) (ps := [IsV (.int l)]) (p := IsV .non) (q_cons (p_varV rfl) q_nil) ⟨l, l0, l8, rfl, rfl⟩) fun H2 e2 => ?_
  dsimp only
  have gt2 := g1.trans (GT.gr (Gr.wide k1.e e2))
  have k2 := k1.ex e2
  have tst : ∀ b, decide ((n : Int) < l) = b → EvT (tTest (tOp (rI0 fun i j => .bl (decide (j < i))) (tVar 2) (tVar 3))) [some v0, some v1, some (.int l), some (.int (n : Int)), none, none, none, none] B1 b := fun b hb => et_is (et_test (ev_op (ev_var rfl) (ev_var rfl) rv_I0)) hb
  rcases ho with ⟨hl, rfl⟩ | ⟨hl, rfl⟩
  rotate_left
  · refine My.ps_ifT k2.e (tst true (decide_eq_true hl)) fun H3 e3 => ?_
    exact q none B1 H3 (gt2.trans (GT.gr (Gr.wide k2.e e3))) rfl
  refine ps_ifN k2.e (tst false (decide_eq_false (by omega))) fun H3 e3 => ?_
  dsimp only
  refine My.ps_ret (k2.e.trans e3) (p := jtP K (cutJ js l)) ?_ fun v4 B4 H4 g4 hp => q v4 B4 H4 (gt2.trans (GT.gr ((Gr.wide k2.e e3).trans g4))) hp
  have := p_lcS (g := gTup K 2 (gCons (gTup K 3 (gCons (gName 4) (gCons (gName 5) (gCons (gName 6) gNil)))) (gCons (gName 7) gNil))) (tt := tTest (tOp (rI0 fun i j => .bl (decide (i < j))) (tOp (rI0 fun i j => .int (i + j)) (tVar 5) (tVar 6)) (tVar 2))) (te := tTup (tCons (tTup (tCons (tVar 4) (tCons (tVar 5) (tCons (tVar 6) tNil)))) (tCons (tVar 7) tNil))) (σ := [some v0, some v1, some (.int l), some (.int (n : Int)), none, none, none, none]) (vs := [4, 5, 6, 7]) (src_tu (K := K) (p_var (i := 1) rfl h1)) (by rw [List.length_map]; have := jo.le; omega) (fun i => decide ((js.getD i (⟨"", 0, 0⟩, 0)).1.i + (js.getD i (⟨"", 0, 0⟩, 0)).1.j < l)) (fun i => jpP K (js.getD i (⟨"", 0, 0⟩, 0))) fun i v B5 hi e5 pv => by
    rw [List.length_map] at hi
    rw [getD_map hi] at pv
    have ej : js.getD i (⟨"", 0, 0⟩, 0) = js[i] := by rw [List.getD_eq_getElem?_getD, List.getElem?_eq_getElem hi]; rfl
    rw [ej]
    obtain ⟨p3, ys, rfl, hp3, al⟩ := pv
    obtain ⟨y1, y2, rfl, ⟨a1, rfl, m1⟩, m2⟩ := all2 al
    refine ⟨[some v0, some v1, some (.int l), some (.int (n : Int)), some (.str js[i].1.n), some (.int js[i].1.i), some (.int js[i].1.j), some y2], rfl, fun H2 Q e q => ⟨p3, _, rfl, ex_t e hp3, rfl, _, _, rfl, ⟨a1, _, rfl, st_of (e _ _ m1), rfl, _, _, rfl, _, _, rfl, _, _, rfl, rfl, _, _, rfl, rfl, q⟩⟩, ?_, fun _ => ?_⟩
    · exact et_test (ev_op (ev_op (ev_var rfl) (ev_var rfl) rv_I0) (ev_var rfl) rv_I0)
    · exact p_tup (K := K) (q_cons (p_dv (u := js[i].1) rfl rfl rfl (q_cons (p_varV rfl) (q_cons (p_varV rfl) (q_cons (p_varV rfl) q_nil)))) (q_cons (p_var rfl m2) q_nil)) (by show 2 ≤ 100000; decide)
  rw [List.length_map, keep_map js (⟨"", 0, 0⟩, 0) (fun x => decide (x.1.i + x.1.j < l)) (jpP K)] at this
  exact p_tupOf (K := K) (p_lq this)

end
end K12
namespace Nd
open L2
theorem b_nx {D : Ends} {σ : L2.St} {H : Hp} (h : D.nx σ H) : tNext D σ H := h
end Nd
namespace K12
set_option autoImplicit false
open PySem PySem.W L2 Evl My Nd LamX NdefX
section
variable {P : Program} {w : World} {K : PySem.W.Frag} {mg : Str → Option Value} {base : Heap} {T : List (Addr × Str)}

/-- added_jets -/
abbrev s_added_jets : Stmt := topS 42
abbrev N_added_jets : List Str := ["ranking", "jet", "other", "own", "derivative", "one", "_", "more"]
theorem sc_added_jets : FnScope N_added_jets ["ranking", "jet", "other"] (defScope s_added_jets) := ⟨rfl, rfl, rfl, by decide +kernel, rfl, by decide +kernel, by decide +kernel⟩
theorem ok_added_jets {f : Addr} {fd : FuncData} (F : Fun K "added_jets" "added_jets" s_added_jets f fd) {aOP : Addr} (R_OP : RQ K mg "OutOfPlace" aOP) {aBJ : Addr} {f_length_of : Addr} {d_length_of : FuncData} (c_length_of : CalX P w K mg base "length_of" 9 ["ranking", "jet"] (spOT T (RlenO K aBJ)) f_length_of d_length_of) {f_sum_of : Addr} {d_sum_of : FuncData} (c_sum_of : Cal P w K mg base "sum_of" 1 ["one", "other"] (spP (Rsum K)) f_sum_of d_sum_of) (n_tuple : mg "tuple" = none) (n_zip : mg "zip" = none)  :
    FnOk P w K mg base (L2.CX P w) 10 f fd ["ranking", "jet", "other"] (spOT T (RaddJ K aOP)) := by
  refine F.okX sc_added_jets (spOT_len (by rintro _ _ ⟨_, _, _, _, _, _, _, _, _, _, _, _, rfl, _⟩; rfl)) (fun cdv A outer s H vs Q E hr h => ?_)
  obtain ⟨B, ps, o, kn, hv, ⟨r, js, ks, n, m, hok, jo, jg, ko, kg, sj, sk, rfl, ho⟩, q⟩ := h
  obtain ⟨v0, v1, v2, rfl, h0, h1, h2⟩ := all3 hv
  have hu := hu_of hr
  have tk : Takes (cxOf (L2.CX P w) P w K mg base N_added_jets "added_jets" (defScope s_added_jets) f cdv A outer s H E) (fun cls d _ H => E cls d H) := L2.takes_of rfl rfl rfl rfl
  refine ⟨_, (pss_cons (ps_set (i := 3) sc_added_jets.nd rfl (by first | exact .inl rfl | exact .inr rfl) (pe_callS c_length_of.G (hr.mono (by decide)) (by rfl) c_length_of.m c_length_of.k c_length_of.b (fun σ => passAt tk σ) (pa_cons (pv 0) (pa_cons (pv 1) pa_nil))))
    (pss_cons (ps_if (pt_cmpR op_ne (pe_callS c_length_of.G (hr.mono (by decide)) (by rfl) c_length_of.m c_length_of.k c_length_of.b (fun σ => passAt tk σ) (pa_cons (pv 0) (pa_cons (pv 2) pa_nil))) (pv 3) (nomark _)) (pss_one (ps_raiseQ R_OP rfl tk (by rfl))) pss_nil)
    (pss_one (ps_ret (pe_callTy call_tuple_of (by rfl) n_tuple (by decide +kernel) (pa_cons (pe_lc (own := [("derivative", 4), ("one", 5), ("_", 6), ("more", 7)]) (g := (gTup K 2 (gCons (gTup K 2 (gCons (gName 4) (gCons (gName 5) gNil))) (gCons (gTup K 2 (gCons (gName 6) (gCons (gName 7) gNil))) gNil)))) rfl sc_added_jets.nd (RZ.pi_zipA (by rfl) n_zip (pa_cons (pv 1) (pa_cons (pv 2) pa_nil))) (blkOk_by (N := N_added_jets) (sc := defScope s_added_jets) (by decide +kernel)) (fun _ _ _ _ _ => (pg_tup (by rfl) (pgs_cons (pg_tup (by rfl) (pgs_cons (pg_name (i := 4) sc_added_jets.nd rfl (Or.inl rfl)) (pgs_cons (pg_name (i := 5) sc_added_jets.nd rfl (Or.inl rfl)) pgs_nil))) (pgs_cons (pg_tup (by rfl) (pgs_cons (pg_name (i := 6) sc_added_jets.nd rfl (Or.inl rfl)) (pgs_cons (pg_name (i := 7) sc_added_jets.nd rfl (Or.inl rfl)) pgs_nil))) pgs_nil)))) (fun _ _ _ _ _ => pts_nil) (fun _ _ _ _ _ => (pe_tup (pa_cons (pv 4) (pa_cons (pe_call c_sum_of.G (hr.mono (by decide)) (by rfl) c_sum_of.m c_sum_of.k c_sum_of.b .nil pass0 (pa_cons (pv 5) (pa_cons (pv 7) pa_nil))) pa_nil))))) pa_nil)))))), ?_⟩
  refine c_asg (o_callT (E := WE _) kn (q_cons (p_var rfl h0) (q_cons (p_var rfl h1) q_nil)) ⟨r, js, hok, jo, rfl, .inl ⟨n, jg, rfl⟩⟩ fun v3 B1 H1 g1 hv3 => ?_)
  obtain rfl : v3 = .int (n : Int) := hv3
  refine g_name ?_
  dsimp only
  have k1 := kn.gt g1
  have h0 := (RkP K r).m g1.b h0
  have h1 := (jtP K js).m g1.b h1
  have h2 := (jtP K ks).m g1.b h2
  refine b_ifNe (o_callT (E := WE _) k1 (q_cons (p_var (σ := [some v0, some v1, some v2, some (.int (n : Int)), none, none, none, none]) rfl h0) (q_cons (p_var rfl h2) q_nil)) ⟨r, ks, hok, ko, rfl, .inl ⟨m, kg, rfl⟩⟩ fun v4 B2 H2 g2 hv4 => ?_)
  obtain rfl : v4 = .int (m : Int) := hv4
  refine ⟨_, rfl, rfl, _, rfl, ?_⟩
  have gt2 := g1.trans g2
  have k2 := k1.gt g2
  have h1 := (jtP K js).m g2.b h1
  have h2 := (jtP K ks).m g2.b h2
  rcases ho with ⟨rfl, rfl⟩ | ⟨hl, rfl⟩
  rotate_left
  · have : (!decide (V.int (m : Int) = V.int (n : Int))) = true := by
      rw [decide_eq_false (fun z => hl (by have := V.int.inj z; omega))]
      rfl
    rw [this, if_pos rfl]
    exact q none B2 H2 gt2 rfl
  rw [decide_eq_true rfl]
  show (if (!true) = true then _ else _)
  rw [if_neg (by decide)]
  refine b_nx ?_
  dsimp only
  have hlen : js.length = ks.length := by
    have e1 := congrArg List.length jg.2
    have e2 := congrArg List.length kg.2
    rw [List.length_map] at e1 e2
    omega
  have hz : (js.zip ks).length = js.length := by rw [List.length_zip]; omega
  refine My.ps_ret k2.e (p := jtP K (sumJ js ks)) ?_ fun v4 B4 H4 g4 hp => q v4 B4 H4 (gt2.trans (GT.gr g4)) hp
  have := p_lcX (g := gTup K 2 (gCons (gTup K 2 (gCons (gName 4) (gCons (gName 5) gNil))) (gCons (gTup K 2 (gCons (gName 6) (gCons (gName 7) gNil))) gNil))) (tt := tYes) (te := tTup (tCons (tVar 4) (tCons (tCall (spP (Rsum K)) [] E0 (tCons (tVar 5) (tCons (tVar 7) tNil))) tNil))) (σ := [some v0, some v1, some v2, some (.int (n : Int)), none, none, none, none]) (vs := [4, 5, 6, 7]) (srcX_zipT (K := K) (ps := js.map (jpP K)) (qs := ks.map (jpP K)) (q_cons (p_var (i := 1) rfl h1) (q_cons (p_var (i := 2) rfl h2) q_nil)) (by rw [List.length_map, List.length_map]; exact hlen)) (by rw [List.length_map]; have := jo.le; omega) (fun _ => true) (fun i => jpP K ((fun z : (Dv × Rat) × (Dv × Rat) => (z.1.1, z.1.2 + z.2.2)) ((js.zip ks).getD i ((⟨"", 0, 0⟩, 0), (⟨"", 0, 0⟩, 0))))) fun i v B5 hi e5 pv => by
    rw [List.length_map] at hi
    have hi2 : i < ks.length := by omega
    rw [getD_map hi, getD_map hi2] at pv
    have ej : (js.zip ks).getD i ((⟨"", 0, 0⟩, 0), (⟨"", 0, 0⟩, 0)) = (js[i], ks[i]) := by rw [List.getD_eq_getElem?_getD, List.getElem?_eq_getElem (by omega), List.getElem_zip]; rfl
    rw [ej]
    obtain ⟨p3, ys, rfl, hp3, al⟩ := pv
    obtain ⟨y1, y2, rfl, ⟨p4, us, rfl, hp4, al4⟩, ⟨p5, ws, rfl, hp5, al5⟩⟩ := all2 al
    obtain ⟨u1, u2, rfl, m1, m2⟩ := all2 al4
    obtain ⟨w1, w2, rfl, m3, m4⟩ := all2 al5
    refine ⟨[some v0, some v1, some v2, some (.int (n : Int)), some u1, some u2, some w1, some w2], rfl, fun H2 Q e q => ⟨p3, _, rfl, ex_t e hp3, rfl, _, _, rfl, ⟨p4, _, rfl, ex_t e hp4, rfl, _, _, rfl, _, _, rfl, rfl, _, _, rfl, ⟨p5, _, rfl, ex_t e hp5, rfl, _, _, rfl, _, _, rfl, rfl, rfl, q⟩⟩⟩, et_yes, fun _ => ?_⟩
    exact p_tup (K := K) (q_cons (p_var rfl m1) (q_cons (p_callP (ps := [rtP K js[i].2, rtP K ks[i].2]) (q_cons (p_var rfl m2) (q_cons (p_var rfl m4) q_nil)) ⟨_, _, sj _ (List.getElem_mem hi), sk _ (List.getElem_mem hi2), rfl, rfl⟩) q_nil)) (by show 2 ≤ 100000; decide)
  rw [List.length_map, ← hz, all_map (js.zip ks) ((⟨"", 0, 0⟩, 0), (⟨"", 0, 0⟩, 0)) (fun z => jpP K ((fun z : (Dv × Rat) × (Dv × Rat) => (z.1.1, z.1.2 + z.2.2)) z))] at this
  refine p_tupOf (K := K) (ps := (sumJ js ks).map (jpP K)) ?_
  unfold sumJ
  rw [List.map_map]
  exact p_lq this

/-- scaled_jet -/
abbrev s_scaled_jet : Stmt := topS 43
abbrev N_scaled_jet : List Str := ["ranking", "jet", "by", "derivative", "number"]
theorem sc_scaled_jet : FnScope N_scaled_jet ["ranking", "jet", "by"] (defScope s_scaled_jet) := ⟨rfl, rfl, rfl, by decide +kernel, rfl, by decide +kernel, by decide +kernel⟩
theorem ok_scaled_jet {f : Addr} {fd : FuncData} (F : Fun K "scaled_jet" "scaled_jet" s_scaled_jet f fd) {aBJ : Addr} {f_length_of : Addr} {d_length_of : FuncData} (c_length_of : CalX P w K mg base "length_of" 9 ["ranking", "jet"] (spOT T (RlenO K aBJ)) f_length_of d_length_of) {f_is_fraction : Addr} {d_is_fraction : FuncData} (c_is_fraction : Cal P w K mg base "is_fraction" 3 ["thing"] (spP (RB K frB)) f_is_fraction d_is_fraction) {f_product : Addr} {d_product : FuncData} (c_product : Cal P w K mg base "product" 1 ["one", "other"] (spP (Rprod K)) f_product d_product) (n_tuple : mg "tuple" = none)  :
    FnOk P w K mg base (L2.CX P w) 10 f fd ["ranking", "jet", "by"] (spOT T (RscaJ K)) := by
  refine F.okX sc_scaled_jet (spOT_len (by rintro _ _ ⟨_, _, _, _, _, _, _, _, _, rfl, _⟩; rfl)) (fun cdv A outer s H vs Q E hr h => ?_)
  obtain ⟨B, ps, o, kn, hv, ⟨r, js, n, b, hok, jo, jg, sj, sb, rfl, rfl⟩, q⟩ := h
  obtain ⟨v0, v1, v2, rfl, h0, h1, h2⟩ := all3 hv
  have hu := hu_of hr
  have tk : Takes (cxOf (L2.CX P w) P w K mg base N_scaled_jet "scaled_jet" (defScope s_scaled_jet) f cdv A outer s H E) (fun cls d _ H => E cls d H) := L2.takes_of rfl rfl rfl rfl
  refine ⟨_, (pss_cons (ps_expr (pe_callS c_length_of.G (hr.mono (by decide)) (by rfl) c_length_of.m c_length_of.k c_length_of.b (fun σ => passAt tk σ) (pa_cons (pv 0) (pa_cons (pv 1) pa_nil))))
    (pss_cons (ps_if (pt_not (pt_val (pe_call c_is_fraction.G (hr.mono (by decide)) (by rfl) c_is_fraction.m c_is_fraction.k c_is_fraction.b .nil pass0 (pa_cons (pv 2) pa_nil)))) (pss_one ps_never) pss_nil)
    (pss_one (ps_ret (pe_callTy call_tuple_of (by rfl) n_tuple (by decide +kernel) (pa_cons (pe_lc (own := [("derivative", 3), ("number", 4)]) (g := (gTup K 2 (gCons (gName 3) (gCons (gName 4) gNil)))) rfl sc_scaled_jet.nd (pi_tup (pv 1)) (blkOk_by (N := N_scaled_jet) (sc := defScope s_scaled_jet) (by decide +kernel)) (fun _ _ _ _ _ => (pg_tup (by rfl) (pgs_cons (pg_name (i := 3) sc_scaled_jet.nd rfl (Or.inl rfl)) (pgs_cons (pg_name (i := 4) sc_scaled_jet.nd rfl (Or.inl rfl)) pgs_nil)))) (fun _ _ _ _ _ => pts_nil) (fun _ _ _ _ _ => (pe_tup (pa_cons (pv 3) (pa_cons (pe_call c_product.G (hr.mono (by decide)) (by rfl) c_product.m c_product.k c_product.b .nil pass0 (pa_cons (pv 4) (pa_cons (pv 2) pa_nil))) pa_nil))))) pa_nil)))))), ?_⟩
  refine c_drop (o_callT (E := WE _) kn (q_cons (p_var rfl h0) (q_cons (p_var rfl h1) q_nil)) ⟨r, js, hok, jo, rfl, .inl ⟨n, jg, rfl⟩⟩ fun v3 B1 H1 g1 _ => ?_)
  dsimp only
  have k1 := kn.gt g1
  have h1 := (jtP K js).m g1.b h1
  have h2 := (rtP K b).m g1.b h2
  refine ps_ifN k1.e (et_is (et_not (et_test (ev_p (p_callP (R := RB K frB) (ps := [rtP K b]) (p := IsV (.bl (frB (frD (fr b))))) (q_cons (p_var rfl h2) q_nil) ⟨rtP K b, frD (fr b), to_fr _, rfl, rfl, rfl⟩)))) (by rw [frB_of ⟨fr_pos _, fr_low _⟩]; rfl)) fun H2 e2 => ?_
  dsimp only
  have gt2 := g1.trans (GT.gr (Gr.wide k1.e e2))
  have k2 := k1.ex e2
  refine My.ps_ret k2.e (p := jtP K (js.map fun x => (x.1, x.2 * b))) ?_ fun v4 B4 H4 g4 hp => q v4 B4 H4 (gt2.trans (GT.gr g4)) hp
  have := p_lcS (g := gTup K 2 (gCons (gName 3) (gCons (gName 4) gNil))) (tt := tYes) (te := tTup (tCons (tVar 3) (tCons (tCall (spP (Rprod K)) [] E0 (tCons (tVar 4) (tCons (tVar 2) tNil))) tNil))) (σ := [some v0, some v1, some v2, none, none]) (vs := [3, 4]) (src_tu (K := K) (p_var (i := 1) rfl h1)) (by rw [List.length_map]; have := jo.le; omega) (fun _ => true) (fun i => jpP K ((fun x : Dv × Rat => (x.1, x.2 * b)) (js.getD i (⟨"", 0, 0⟩, 0)))) fun i v B5 hi e5 pv => by
    rw [List.length_map] at hi
    rw [getD_map hi] at pv
    have ej : js.getD i (⟨"", 0, 0⟩, 0) = js[i] := by rw [List.getD_eq_getElem?_getD, List.getElem?_eq_getElem hi]; rfl
    rw [ej]
    obtain ⟨p3, ys, rfl, hp3, al⟩ := pv
    obtain ⟨y1, y2, rfl, m1, m2⟩ := all2 al
    refine ⟨[some v0, some v1, some v2, some y1, some y2], rfl, fun H2 Q e q => ⟨p3, _, rfl, ex_t e hp3, rfl, _, _, rfl, _, _, rfl, rfl, q⟩, et_yes, fun _ => ?_⟩
    exact p_tup (K := K) (q_cons (p_var rfl m1) (q_cons (p_callP (ps := [rtP K js[i].2, rtP K b]) (q_cons (p_var rfl m2) (q_cons (p_var rfl ((rtP K b).m e5 h2)) q_nil)) ⟨_, _, sj _ (List.getElem_mem hi), sb, rfl, rfl⟩) q_nil)) (by show 2 ≤ 100000; decide)
  rw [List.length_map, all_map js (⟨"", 0, 0⟩, 0) (fun z => jpP K ((fun x : Dv × Rat => (x.1, x.2 * b)) z))] at this
  refine p_tupOf (K := K) (ps := (js.map fun x => (x.1, x.2 * b)).map (jpP K)) ?_
  rw [List.map_map]
  exact p_lq this

end
end K12
namespace Nd
set_option autoImplicit false
open PySem PySem.Spec PySem.W PySem.Calls PyProof.Rows L2 My Evl LamX
/-! ### derivatives in the order of data, told by their parts -/
theorem dv_lt (u v : Dv) : dataLt u.D v.D = if u.n = v.n then decide (u.i < v.i ∨ (u.i = v.i ∧ u.j < v.j)) else dataLt (.str u.n) (.str v.n) := by
  show dataLt (.tuple [.str u.n, .int u.i, .int u.j]) (.tuple [.str v.n, .int v.i, .int v.j]) = _
  rw [dataLt_tuple, dataLt_cons (by simp [alike]), dataLt_cons (by simp [alike]), dataLt_cons (by simp [alike]), dataLt_int, dataLt_int]
  have e : PyProof.Rows.lexLt itemOrd (keyToksAll []) (keyToksAll []) = false := lex_irrefl _
  rw [e]
  simp only [PyData.eqv, beq_iff_eq]
  by_cases h0 : u.n = v.n <;> by_cases h1 : u.i = v.i <;> by_cases h2 : u.j = v.j <;> simp [h0, h1, h2]
def ltD (u v : Dv) : Prop := dataLt u.D v.D = true
theorem ltD_irr (u : Dv) : ¬ ltD u u := fun h => by
  have := Od.irr (κ := Dv) u
  unfold ltD at h
  rw [show Od.lt u u = dataLt u.D u.D from rfl, h] at this
  cases this
theorem ltD_tr {u v w : Dv} (h : ltD u v) (k : ltD v w) : ltD u w := Od.tr (κ := Dv) h k
theorem ltD_one {us vs : List Dv} (h : us.Pairwise ltD) (k : vs.Pairwise ltD) (e : ∀ v, v ∈ us ↔ v ∈ vs) : us = vs := by
  have nd : ∀ {l : List Dv}, l.Pairwise ltD → l.Nodup := fun {l} h => List.Pairwise.imp (fun {a b} z e => by
    subst e
    exact ltD_irr _ z) h
  exact List.Perm.eq_of_pairwise (le := ltD) (fun u v _ _ a b => (ltD_irr u (ltD_tr a b)).elim) h k ((List.perm_ext_iff_of_nodup (nd h) (nd k)).mpr e)
theorem srtD_lt {us : List Dv} (nd : us.Nodup) : (srtD us).Pairwise ltD := by
  have h1 : (srtD us).Pairwise (fun u v => leD u v = true) := List.pairwise_mergeSort (le := leD) (fun a b c h k => by
    unfold leD at *
    simp only [Bool.not_eq_true'] at *
    cases e : dataLt c.D a.D with
    | false => rfl
    | true => rcases dlt_tr (y := b.D) e with z | z
              · rw [z] at k; cases k
              · rw [z] at h; cases h) (fun a b => by
    unfold leD
    cases e : dataLt b.D a.D with
    | false => rfl
    | true => rw [dlt_as e]; rfl) us
  have h2 : (srtD us).Nodup := (List.mergeSort_perm us leD).nodup_iff.mpr nd
  refine (h1.and h2).imp fun {u v} h => ?_
  unfold leD at h
  rcases Od.tri (κ := Dv) h.2 with z | z
  · exact z
  · have z : dataLt v.D u.D = true := z
    rw [z] at h
    exact absurd h.1 (by decide)
theorem upsD_of {us : List Dv} (h : us.Pairwise ltD) : Ups (fun u : Dv => u.D) us := fun i hi => List.pairwise_iff_getElem.mp h i (i + 1) _ hi (Nat.lt_succ_self i)
/-! ### names in order -/
def leN (x y : Str) : Bool := !dataLt (.str y) (.str x)
def srtN (ns : List Str) : List Str := ns.mergeSort leN
def ltN (x y : Str) : Prop := dataLt (.str x) (.str y) = true
theorem ltN_ne {x y : Str} (h : ltN x y) : x ≠ y := fun e => by
  subst e
  have : dataLt (.str x) (.str x) = false := lex_irrefl _
  unfold ltN at h
  rw [this] at h
  cases h
theorem srtN_lt {ns : List Str} (nd : ns.Nodup) : (srtN ns).Pairwise ltN := by
  have h1 : (srtN ns).Pairwise (fun u v => leN u v = true) := List.pairwise_mergeSort (le := leN) (fun a b c h k => by
    unfold leN at *
    simp only [Bool.not_eq_true'] at *
    cases e : dataLt (.str c) (.str a) with
    | false => rfl
    | true => rcases dlt_tr (y := .str b) e with z | z
              · rw [z] at k; cases k
              · rw [z] at h; cases h) (fun a b => by
    unfold leN
    cases e : dataLt (.str b) (.str a) with
    | false => rfl
    | true => rw [dlt_as e]; rfl) ns
  have h2 : (srtN ns).Nodup := (List.mergeSort_perm ns leN).nodup_iff.mpr nd
  refine (h1.and h2).imp fun {u v} h => ?_
  unfold leN at h
  rcases dlt_ne (x := .str u) (y := .str v) (by simp [alike]) (by simp [PyData.eqv]; exact h.2) with z | z
  · exact z
  · rw [z] at h
    exact absurd h.1 (by decide)
theorem srtN_mem {ns : List Str} {x : Str} : x ∈ srtN ns ↔ x ∈ ns := (List.mergeSort_perm ns leN).mem_iff
theorem srtN_len (ns : List Str) : (srtN ns).length = ns.length := List.length_mergeSort ns
theorem byKey_str {xs : List Str} : byKey (xs.map V.str) (xs.map PyData.str) = (srtN xs).map V.str := by
  have e1 : (xs.map V.str).zip (xs.map PyData.str) = xs.map fun x => (V.str x, PyData.str x) := by
    induction xs with
    | nil => rfl
    | cons x xs ih => rw [List.map_cons, List.map_cons, List.zip_cons_cons, ih]; rfl
  have e2 : (xs.mergeSort leN).map (fun x => (V.str x, PyData.str x)) = (xs.map fun x => (V.str x, PyData.str x)).mergeSort (dataLe false (·.2)) := by
    refine List.map_mergeSort fun p _ q _ => ?_
    rw [dataLe_eq]
    rfl
  unfold byKey
  rw [e1, ← e2, List.map_map]
  rfl
/-- what the law's jets have ahead of their numbers -/
def lawD (r : Rk) (n : Nat) : List Dv := (srtN r.ns).flatMap fun x => r.rowsN (n - 1) x n
theorem mem_lawD {r : Rk} {n : Nat} {u : Dv} : u ∈ lawD r (n + 1) ↔ u ∈ r.all n := by
  unfold lawD Rk.all
  simp only [List.mem_flatMap, Nat.add_sub_cancel, srtN_mem]
theorem pw_flat {α β : Type} {R : β → β → Prop} {f : α → List β} : ∀ {l : List α}, (∀ a ∈ l, (f a).Pairwise R) → l.Pairwise (fun a b => ∀ x ∈ f a, ∀ y ∈ f b, R x y) → (l.flatMap f).Pairwise R
  | [], _, _ => List.Pairwise.nil
  | a :: l, h, k => by
    rw [List.flatMap_cons, List.pairwise_append]
    obtain ⟨k1, k2⟩ := List.pairwise_cons.mp k
    refine ⟨h a List.mem_cons_self, pw_flat (fun b hb => h b (List.mem_cons_of_mem _ hb)) k2, fun x hx y hy => ?_⟩
    obtain ⟨b, hb, hy⟩ := List.mem_flatMap.mp hy
    exact k1 b hb x hx y hy
theorem rows_lt (r : Rk) (o : Nat) (x : Str) (m : Nat) : (r.rowsN o x m).Pairwise ltD := by
  unfold Rk.rowsN
  refine pw_flat (fun i _ => ?_) ?_
  · unfold Rk.row
    rw [List.pairwise_map]
    refine List.pairwise_lt_range.imp fun {a b} h => ?_
    unfold ltD
    rw [dv_lt, if_pos rfl]
    exact decide_eq_true (.inr ⟨rfl, by show (a : Int) < b; omega⟩)
  · refine List.pairwise_lt_range.imp fun {a b} h u hu v hv => ?_
    obtain ⟨a1, a2, _⟩ := Rk.mem_row hu
    obtain ⟨b1, b2, _⟩ := Rk.mem_row hv
    unfold ltD
    rw [dv_lt, if_pos (a1.trans b1.symm)]
    exact decide_eq_true (.inl (by omega))
theorem rowsN_n {r : Rk} {o m : Nat} {x : Str} {u : Dv} (h : u ∈ r.rowsN o x m) : u.n = x := by
  unfold Rk.rowsN at h
  obtain ⟨i, _, h⟩ := List.mem_flatMap.mp h
  exact (Rk.mem_row h).1
theorem lawD_lt {r : Rk} (hr : r.ns.Nodup) (n : Nat) : (lawD r n).Pairwise ltD := by
  unfold lawD
  refine pw_flat (fun x _ => rows_lt r _ x _) ((srtN_lt hr).imp fun {a b} h u hu v hv => ?_)
  have e1 := rowsN_n hu
  have e2 := rowsN_n hv
  unfold ltD
  rw [dv_lt, if_neg (by rw [e1, e2]; exact ltN_ne h), e1, e2]
  exact h
theorem lawD_plc {r : Rk} (hr : r.ns.Nodup) : ∀ n, lawD r n = plc r n
  | 0 => by
    unfold lawD plc Rk.rowsN
    simp
  | n + 1 => by
    refine ltD_one (lawD_lt hr _) ?_ fun v => mem_lawD.trans mem_plc.symm
    unfold plc
    exact srtD_lt ((r.sort_perm _).nodup_iff.mpr (Rk.all_nd n hr))
theorem lawD_len {r : Rk} (hr : r.Ok) {n : Nat} (hn : n ≤ 12) : (lawD r n).length ≤ 507 := by
  have h := flat_len (f := fun x => r.rowsN (n - 1) x n) (m := 169) (l := srtN r.ns) fun x _ => Rk.rowsN_len r x (by omega) (by omega)
  rw [srtN_len] at h
  have := hr.le
  unfold lawD
  omega
/-- the law's numbers, nought too -/
def NumZ (s : Rat) : Prop := Wh 6 s ∧ ab 6 s ≤ 30
def LawJ (r : Rk) (n : Nat) (js : List (Dv × Rat)) : Prop := js.map (·.1) = lawD r n ∧ ∀ z ∈ js, NumZ z.2
theorem numZ_sm {s : Rat} (h : NumZ s) : Sm s := sm_of h.1 h.2 (by decide) (Nat.lt_of_lt_of_le (by decide : 6 < 2 ^ 8) (Nat.pow_le_pow_right (by decide) (by decide))) (Nat.lt_of_lt_of_le (by decide : 30 < 2 ^ 8) (Nat.pow_le_pow_right (by decide) (by decide)))
theorem numZ_0 : NumZ 0 := ⟨⟨0, by simp⟩, by unfold ab; simp⟩
theorem LawJ.len {r : Rk} (hr : r.Ok) {n : Nat} (hn : n ≤ 12) {js : List (Dv × Rat)} (h : LawJ r n js) : js.length ≤ 507 := by
  have := lawD_len hr hn
  have e := congrArg List.length h.1
  rw [List.length_map] at e
  omega
theorem LawJ.ok {r : Rk} (hr : r.Ok) {n : Nat} (hn : n ≤ 12) {js : List (Dv × Rat)} (h : LawJ r n js) : JOk r js := by
  refine ⟨fun x hx => ?_, ?_, by have := h.len hr hn; omega⟩
  · have hx1 : x.1 ∈ lawD r n := by rw [← h.1]; exact List.mem_map.mpr ⟨x, hx, rfl⟩
    cases n with
    | zero => unfold lawD Rk.rowsN at hx1; simp at hx1
    | succ n => exact Rk.mem_all (mem_lawD.mp hx1)
  · have hu := upsD_of (lawD_lt hr.nd n)
    rw [← h.1] at hu
    intro i hi
    have := hu i (by rw [List.length_map]; exact hi)
    rw [List.getElem_map, List.getElem_map] at this
    exact this
theorem LawJ.good {r : Rk} (hr : r.Ok) {n : Nat} (hn : n ≤ 8) {js : List (Dv × Rat)} (h : LawJ r n js) : JGood r js n := ⟨hn, h.1.trans (lawD_plc hr.nd n)⟩
theorem LawJ.sm {r : Rk} {n : Nat} {js : List (Dv × Rat)} (h : LawJ r n js) : ∀ x ∈ js, Sm x.2 := fun x hx => numZ_sm (h.2 x hx)
end Nd
namespace K12
set_option autoImplicit false
open PySem PySem.W L2 Evl My Nd LamX NdefX
section
variable {T : List (Addr × Str)} {d : Addr} {n m : Nat} {B H B1 H1 B2 H2 : Hp} {K : PySem.W.Frag}
/-- the digit's thing of a display -/
theorem x_pickP {ps : List Pr} {ta : TA} {σ : L2.St} {i : Nat} {z : Int} {Q : VK} (k : Kx T d n B H) (hl : EvPs ta σ B ps) (hi : σ[i]? = some (some (.ref d))) (hz : z = (ps.length : Nat)) (h0 : 0 < ps.length) (h1 : ps.length < 1000) (hn : n ≤ 2 ^ 38)
    (q : ∀ (j : Nat) p v B' H', ps[j]? = some p → Kx T d (n + 4) B' H' → GX d B H B' H' → p.P v B' → Q v H') : tOp (rIxL K) (tLst ta) (tCall spDigit [] E0 (tCons (tVar i) (tCons (tC (.int z)) tNil))) σ H Q := by
  subst hz
  refine p_lst hl (by omega) H k.e _ fun v B1 H1 g hv => ?_
  refine x_digit (k.gr g) hi ev_c (by omega) (by omega) (by omega) fun m H2 m0 m1 k2 g2 => ?_
  obtain ⟨l, xs, rfl, hx, al⟩ := hv
  obtain ⟨j, p, w, hj, rfl, hp, hat, hw⟩ := pick al m0 m1
  exact ⟨l, xs, _, _, rfl, rfl, sq_of (k2.e _ _ hx), hat, q j p w B1 H2 hp k2 ((GX.gr g).trans g2) hw⟩
/-- the digit's thing of a list that is known -/
theorem x_pickV {ps : List Pr} {v : V} {σ : L2.St} {i : Nat} {z : Int} {Q : VK} (k : Kx T d n B H) (hv : (LsP ps).P v B) (hi : σ[i]? = some (some (.ref d))) (hz : z = (ps.length : Nat)) (h0 : 0 < ps.length) (h1 : ps.length < 1000) (hn : n ≤ 2 ^ 38)
    (q : ∀ (j : Nat) p v H', ps[j]? = some p → Kx T d (n + 4) B H' → GX d B H B H' → p.P v B → Q v H') : tCall spDigit [] E0 (tCons (tVar i) (tCons (tC (.int z)) tNil)) σ H fun y H2 => rIxL K v y H2 Q := by
  subst hz
  refine x_digit k hi ev_c (by omega) (by omega) (by omega) fun m H2 m0 m1 k2 g2 => ?_
  obtain ⟨l, xs, rfl, hx, al⟩ := hv
  obtain ⟨j, p, w, hj, rfl, hp, hat, hw⟩ := pick al m0 m1
  exact ⟨l, xs, _, _, rfl, rfl, sq_of (k2.e _ _ hx), hat, q j p w H2 hp k2 g2 hw⟩
/-- a comprehension over a list that is known, with draws: what is drawn beside each thing -/
theorem x_lcM {α γ : Type} {p : α → Pr} {f : α × γ → Pr} {ok : γ → Prop} {te : TE} {σ : L2.St} {jx jv c : Nat} {Q : VK} {us : List α} {v : V} (k : Kx T d n B H) (hs : σ[jx]? = some (some v)) (hv : (LsP (us.map p)).P v B) (hm : us.length ≤ 1000) (hw : ∀ x, wipe ((wipe σ [jv]).set jv (some x)) [jv] = wipe σ [jv])
    (step : ∀ (i : Nat) (hi : i < us.length) (x : V) (B1 H1 : Hp) (Q' : VK), Kx T d (n + c * i) B1 H1 → GX d B H B1 H1 → (p us[i]).P x B1 → (∀ (g : γ) v B3 H3, ok g → Kx T d (n + c * (i + 1)) B3 H3 → GX d B1 H1 B3 H3 → (f (us[i], g)).P v B3 → Q' v H3) → te ((wipe σ [jv]).set jv (some x)) H1 Q')
    (q : ∀ (zs : List (α × γ)) v B' H', (∀ z ∈ zs, ok z.2) → zs.map (·.1) = us → Kx T d (n + c * us.length) B' H' → GX d B H B' H' → (LsP (zs.map f)).P v B' → Q v H') :
    tLc (iList K (tVar jx)) (gName jv) tYes te [jv] σ H Q := by
  obtain ⟨a, xs, rfl, hxs, alx⟩ := hv
  have lx := alx.len
  rw [List.length_map] at lx
  refine ⟨_, hs, a, rfl, ⟨xs, sq_of (k.e _ _ hxs)⟩, fun D hD => ?_⟩
  have hDd : D ≠ d := fun e => k.s.ne0 (e ▸ hD)
  have hBD : B D = none := fresh_back k.e hD
  have a0 : AllP (([] : List (α × γ)).map f) [] B := trivial
  refine lc_list (K := K) (a := a) (xs := xs) (fun i H' => ∃ B1 zs acc, zs.map (·.1) = us.take i ∧ (∀ z ∈ zs, ok z.2) ∧ Kx T d (n + c * i) B1 H' ∧ GX d B H B1 H' ∧ B1 D = none ∧ H' D = some (.lst acc) ∧ AllP (zs.map f) acc B1)
    ⟨B, [], [], rfl, fun _ h' => absurd h' List.not_mem_nil, k.ex (Ex.new hD), GX.ex (Ex.new hD), hBD, upd_same, a0⟩ (fun i H' _ h => ?_) (fun i x H' hx h => ?_) fun H' h => ?_
  · obtain ⟨B1, bs, acc, _, _, h3, h4, _⟩ := h
    exact sq_of (h3.e _ _ (h4.b _ _ hxs))
  · obtain ⟨B1, zs, acc, h2, h1, h3, h4, h5, h6, h7⟩ := h
    obtain ⟨hi0, rfl⟩ := List.getElem?_eq_some_iff.mp hx
    have hi : i < us.length := by omega
    have px : (p us[i]).P xs[i] B1 := by
      obtain ⟨p', hp', kx⟩ := alx.get (List.getElem?_eq_getElem hi0)
      rw [List.getElem?_map, List.getElem?_eq_getElem hi] at hp'
      obtain rfl := Option.some.inj hp'
      exact (p us[i]).m h4.b kx
    refine ⟨hw _, ?_⟩
    dsimp only [tYes]
    rw [if_pos rfl]
    refine step i hi xs[i] B1 H' _ h3 h4 px fun g v B2 H3 ob k2 g2 hv => ?_
    have hD2 : H3 D = some (.lst acc) := g2.a D _ hDd h6 (fun _ z => nomatch z)
    have hB2 : B2 D = none := g2.f D _ hDd h5 h6 (fun _ z => nomatch z)
    have hlen := h7.len
    have hz : zs.length ≤ i := by
      have := congrArg List.length h2
      rw [List.length_map, List.length_take] at this
      omega
    rw [List.length_map] at hlen
    refine ⟨acc, hD2, small1000 (by omega), B2, zs ++ [(us[i], g)], acc ++ [v], ?_, fun z hz => ?_, ?_, (h4.trans g2).lst hD, hB2, upd_same, ?_⟩
    · rw [List.map_append, h2, List.take_add_one, List.getElem?_eq_getElem hi]
      rfl
    · rcases List.mem_append.mp hz with hz | hz
      · exact h1 z hz
      · rw [List.mem_singleton.mp hz]
        exact ob
    · refine ⟨fun b o e => ?_, k2.nt, tabs_lst k2.t hD2, k2.z, k2.s.upd hDd.symm⟩
      rw [upd_ne (fun z => by subst z; rw [hB2] at e; cases e)]
      exact k2.e b o e
    · rw [List.map_append]
      exact (h7.m g2.b).app ⟨hv, trivial⟩
  · obtain ⟨B1, zs, acc, h2, h1, h3, h4, h5, h6, h7⟩ := h
    have ne : Ex B1 (upd B1 D (.lst acc)) := Ex.new h5
    rw [lx] at h2 h3
    rw [List.take_length] at h2
    refine q zs _ (upd B1 D (.lst acc)) H' h1 h2 ?_ ?_ ⟨D, acc, rfl, upd_same, h7.m ne⟩
    · refine ⟨fun b o e => ?_, nt_upd h3.nt (fun _ z => nomatch z), h3.t, by rw [upd_ne hDd.symm]; exact h3.z, h3.s⟩
      by_cases z : b = D
      · subst z
        rw [upd_same] at e
        rw [← e]
        exact h6
      · rw [upd_ne z] at e
        exact h3.e b o e
    · exact ⟨h4.a, h4.b.trans ne, fun x o n hb hh z => by
        rw [upd_ne (fun e => by subst e; rw [hD] at hh; cases hh)]
        exact h4.f x o n hb hh z⟩
end
section
variable {te : TE} {tx : TA} {σ : L2.St} {B H : Hp} {ps : List Pr} {K : PySem.W.Frag} {Q : VK} {r : R2} {D : Ends} {t : TA} {i j : Nat} {tt : TT} {ta tb : TE}
theorem b_lst (h : tx σ H fun xs H1 => xs.length ≤ sizeLine ∧ ∀ p, H1 p = none → Q (.ref p) (upd H1 p (.lst xs))) : tLst tx σ H Q := h
theorem b_nil {Q : List V → Hp → Prop} (h : Q [] H) : tNil σ H Q := h
theorem b_c {v : V} (h : Q v H) : tC v σ H Q := h
theorem b_tupF (h : te σ H fun v H1 => ∃ p ys, [v] = [V.ref p] ∧ SqL K H1 p ys ∧ ∀ l o, H1 l = none → o.dict = none → Q (.ref l) (upd H1 l (.frz o (.tup ys)))) : tCB (fun xs H Q => ∃ p ys, xs = [V.ref p] ∧ SqL K H p ys ∧ ∀ l o, H l = none → o.dict = none → Q (.ref l) (upd H l (.frz o (.tup ys)))) (tCons te tNil) σ H Q := h
theorem b_par (h : t σ H fun vs H1 => ∃ v w, vs = [v, w] ∧ D.nx ((σ.set i (some v)).set j (some w)) H1) : tPar i j t D σ H := h
/-- list(t) of a tuple -/
theorem p_listT (h : EvP te σ B (TuP K ps)) : EvP (tCB (fun xs H Q => ∃ p ys, xs = [.ref p] ∧ (SqL K H p ys ∨ SqT K H p ys) ∧ ∀ l, H l = none → Q (.ref l) (upd H l (.lst ys))) (tCons te tNil)) σ B (LsP ps) := fun H1 e Q k =>
  h H1 e _ fun v B2 H2 g b => by
    obtain ⟨p, xs, rfl, hx, al⟩ := b
    exact ⟨p, xs, rfl, .inr (ex_t g.c hx), fun l hl => k _ _ _ (g.trans (Gr.new _ g.c hl)) ⟨l, xs, rfl, upd_same, al.m (Ex.new (fresh_back g.c hl))⟩⟩
theorem nm_tu {ns : List Str} {v : V} {H : Hp} (h : (NmP ns).P v H) : (TuP K (ns.map fun x => IsV (.str x))).P v H := by
  obtain ⟨a, o, rfl, h1, _⟩ := h
  exact ⟨a, _, rfl, .inl (.inr ⟨o, h1⟩), all_strs _⟩
theorem strs_v {H : Hp} : ∀ {ns : List Str} {xs : List V}, AllP (ns.map fun x => IsV (.str x)) xs H → xs = ns.map V.str
  | [], [], _ => rfl
  | _ :: _, _ :: _, h => by rw [show _ = V.str _ from h.1, strs_v h.2]; rfl
theorem p_sortS {ns : List Str} (h : EvP te σ B (LsP (ns.map fun x => IsV (.str x)))) : EvP (tCB (rSortDL K) (tCons te tNil)) σ B (LsP ((srtN ns).map fun x => IsV (.str x))) := fun H1 e Q k =>
  b_sortDL <| h H1 e _ fun v B2 H2 g b => by
    obtain ⟨p, xs, rfl, hx, al⟩ := b
    obtain rfl := strs_v al
    refine ⟨p, _, ns.map .str, rfl, sq_of (g.c _ _ hx), (by rw [List.length_map, List.length_map]), (AllAlike.of fun x y => (by simp [alike])), Sortable.others fun x => ⟨(fun z => nomatch z), fun _ z => nomatch z⟩, fun d hd => by
      obtain ⟨x, _, rfl⟩ := List.mem_map.mp hd
      simp [PyData.depth], dps_of_strs ns, fun p2 hp2 => ?_⟩
    rw [byKey_str]
    exact k _ _ _ (g.trans (Gr.new _ g.c hp2)) ⟨p2, _, rfl, upd_same, all_strs _⟩
end
def spRkX (K : PySem.W.Frag) (T : List (Addr × Str)) : Sp := fun vs H Q _ => ∃ (B : Hp) (d : Addr) (n : Nat), vs = [.ref d] ∧ Kx T d n B H ∧ n ≤ 2 ^ 36 ∧ ∀ (r : Rk) (v : V) (B' H' : Hp), r.Ok → Kx T d (n + 300) B' H' → GX d B H B' H' → (RkP K r).P v B' → Q v H'
section
variable {P : Program} {w : World} {K : PySem.W.Frag} {mg : Str → Option Value} {base : Heap} {T : List (Addr × Str)}

/-- _law_ranking -/
abbrev s_Lranking : Stmt := topS 52
abbrev N_Lranking : List Str := ["_law_state", "_law_axes", "_law_sort"]
theorem sc_Lranking : FnScope N_Lranking ["_law_state"] (defScope s_Lranking) := ⟨rfl, rfl, rfl, by decide +kernel, rfl, by decide +kernel, by decide +kernel⟩
theorem ok_Lranking {f : Addr} {fd : FuncData} (F : Fun K "_law_ranking" "_law_ranking" s_Lranking f fd)  {f_Lnames : Addr} {d_Lnames : FuncData} (c_Lnames : Cal P w K mg base "_law_names" 4 ["_law_state", "_law_many"] spNames f_Lnames d_Lnames) {f_Ldigit : Addr} {d_Ldigit : FuncData} (c_Ldigit : Cal P w K mg base "_law_digit" 2 ["_law_state", "_law_size"] spDigit f_Ldigit d_Ldigit) (n_tuple : mg "tuple" = none)  :
    FnOk P w K mg base CX0 5 f fd ["_law_state"] (spRkX K T) := by
  refine F.ok sc_Lranking (fun vs H Q E h => by obtain ⟨B, d, n, rfl, _⟩ := h; rfl) (fun cdv A outer s H vs Q E hr h => ?_)
  obtain ⟨B, d, n, rfl, k, hn, q⟩ := h
  have hu := hu_of hr
  refine ⟨_, (pss_cons (ps_par (i := 1) (j := 2) rfl sc_Lranking.nd rfl rfl (by decide) rfl rfl (pa_cons (pe_ix ix_list (pe_lst (pa_cons (pe_tup (pa_cons pe_str pa_nil)) (pa_cons (pe_tup (pa_cons pe_str (pa_cons pe_str pa_nil))) (pa_cons (pe_tup (pa_cons pe_str (pa_cons pe_str pa_nil))) pa_nil)))) (pe_call c_Ldigit.G (hr.mono (by decide)) (by rfl) c_Ldigit.m c_Ldigit.k c_Ldigit.b .nil pass0 (pa_cons (pv 0) (pa_cons pe_int pa_nil))) (fun _ _ => rfl)) (pa_cons (pe_ix ix_list (pe_lst (pa_cons pe_str (pa_cons pe_str pa_nil))) (pe_call c_Ldigit.G (hr.mono (by decide)) (by rfl) c_Ldigit.m c_Ldigit.k c_Ldigit.b .nil pass0 (pa_cons (pv 0) (pa_cons pe_int pa_nil))) (fun _ _ => rfl)) pa_nil)) (by rfl))
    (pss_one (ps_ret (pe_tup (pa_cons (pv 2) (pa_cons (pe_callTy call_tupleF (by rfl) n_tuple (by decide +kernel) (pa_cons (pe_call c_Lnames.G (hr.mono (by decide)) (by rfl) c_Lnames.m c_Lnames.k c_Lnames.b .nil pass0 (pa_cons (pv 0) (pa_cons (pe_op op_add pe_int (pe_call c_Ldigit.G (hr.mono (by decide)) (by rfl) c_Ldigit.m c_Ldigit.k c_Ldigit.b .nil pass0 (pa_cons (pv 0) (pa_cons pe_int pa_nil)))) pa_nil))) pa_nil)) (pa_cons (pv 1) pa_nil))))))), ?_⟩
  refine b_par (b_cons ?_)
  refine x_pickP (K := K) (ps := [IsD K (.tuple ((axsOf 0).map .str)), IsD K (.tuple ((axsOf 1).map .str)), IsD K (.tuple ((axsOf 2).map .str))]) k (q_cons (ed_tup (ds := [.str "x"]) (q_cons (ed_st ev_c) q_nil) (by decide)) (q_cons (ed_tup (ds := [.str "x", .str "y"]) (q_cons (ed_st ev_c) (q_cons (ed_st ev_c) q_nil)) (by decide)) (q_cons (ed_tup (ds := [.str "y", .str "x"]) (q_cons (ed_st ev_c) (q_cons (ed_st ev_c) q_nil)) (by decide)) q_nil))) rfl rfl (by show 0 < 3; decide) (by show 3 < 1000; decide) (by omega) fun j p va B1 H1 hp k1 g1 hva => ?_
  obtain ⟨ax, rfl⟩ : ∃ ax : Fin 3, p = IsD K (.tuple ((axsOf ax).map .str)) := by
    match j, hp with
    | 0, hp => exact ⟨0, (Option.some.inj hp).symm⟩
    | 1, hp => exact ⟨1, (Option.some.inj hp).symm⟩
    | 2, hp => exact ⟨2, (Option.some.inj hp).symm⟩
    | j + 3, hp => cases hp
  refine b_cons ?_
  refine x_pickP (K := K) (ps := [IsV (.str "total"), IsV (.str "names")]) k1 (q_cons p_c (q_cons p_c q_nil)) rfl rfl (by show 0 < 2; decide) (by show 2 < 1000; decide) (by omega) fun j2 p2 vs B2 H2 hp2 k2 g2 hvs => ?_
  obtain ⟨tt, rfl⟩ : ∃ tt : Bool, p2 = IsV (.str (if tt then "total" else "names")) := by
    match j2, hp2 with
    | 0, hp2 => exact ⟨true, (Option.some.inj hp2).symm⟩
    | 1, hp2 => exact ⟨false, (Option.some.inj hp2).symm⟩
    | j2 + 2, hp2 => cases hp2
  obtain rfl : vs = _ := hvs
  refine b_nil ⟨_, _, rfl, ?_⟩
  dsimp only
  refine b_ret (b_tup (b_cons ⟨_, rfl, b_cons ?_⟩))
  refine b_tupF (c_call (b_cons ⟨_, rfl, b_cons (b_op (b_c ?_))⟩))
  refine x_digit (z := 3) k2 rfl ev_c (by decide) (by decide) (by omega) fun m H3 m0 m1 k3 g3 => ?_
  refine ⟨1, m, rfl, rfl, b_nil ?_⟩
  refine ⟨d, n + 4 + 4 + 4, (1 + m).toNat, by rw [show (((1 + m).toNat : Nat) : Int) = 1 + m by omega]; rfl, by omega, k3.s, by omega, fun p xs H4 hp h2 hlen hnd hnm hd4 S4 pd => ?_⟩
  have k4 := k3.sb S4 hd4
  refine ⟨p, _, rfl, sq_of h2, fun l ob hl hob => ?_⟩
  have g5 := Gr.new (B := B2) (.frz ob (.tup (xs.map V.str))) k4.e hl
  have k5 := k4.gr g5
  refine b_cons ⟨_, rfl, b_nil ⟨by show 3 ≤ sizeLine; decide, fun p8 hp8 => ?_⟩⟩
  let r : Rk := ⟨tt, xs, ax⟩
  have g6 := Gr.new (.tup [.str r.srt, .ref l, va]) k5.e hp8
  refine q r (.ref p8) _ _ ⟨by show 1 ≤ xs.length; omega, by show xs.length ≤ 3; omega, hnd, hnm⟩ ((k5.gr g6).le (by omega)) (((g1.trans g2).trans ((g3.trans (GX.sb S4)).trans (GX.gr (g5.trans g6))))) ?_
  exact ⟨p8, .ref l, va, rfl, st_of upd_same, ⟨l, ob, rfl, g6.b _ _ upd_same, hob⟩, dp_m (g2.b.trans (g5.b.trans g6.b)) hva⟩

end
end K12
namespace K12
set_option autoImplicit false
open PySem PySem.W L2 Evl My Nd LamX NdefX
def spJet (K : PySem.W.Frag) (T : List (Addr × Str)) : Sp := fun vs H Q _ => ∃ (B : Hp) (d : Addr) (n m : Nat) (r : Rk) (vr : V), vs = [.ref d, vr, .int (m : Int)] ∧ m ≤ 6 ∧ r.Ok ∧ (RkP K r).P vr B ∧ Kx T d n B H ∧ n ≤ 2 ^ 35 ∧ ∀ (js : List (Dv × Rat)) (v : V) (B' H' : Hp), LawJ r m js → Kx T d (n + 6100) B' H' → GX d B H B' H' → (jtP K js).P v B' → Q v H'
section
variable {P : Program} {w : World} {K : PySem.W.Frag} {mg : Str → Option Value} {base : Heap} {T : List (Addr × Str)}
theorem b_catL {ta tb : TE} {σ : L2.St} {H : Hp} {Q : VK} (h : ta σ H fun x H1 => tb σ H1 fun y H2 => rCat x y H2 Q) : tOp rCat ta tb σ H Q := h
theorem row_eq (r : Rk) (o : Nat) (x : Str) (i : Nat) : (List.range (r.most o i + 1)).map (fun (j : Nat) => DvP ⟨x, (i : Int), (j : Int)⟩) = (r.row o x i).map DvP := by
  unfold Rk.row
  rw [List.map_map]
  rfl
theorem lawD_take {r : Rk} {m t : Nat} (h : t < (srtN r.ns).length) : ((srtN r.ns).take (t + 1)).flatMap (fun x => r.rowsN (m - 1) x m) = ((srtN r.ns).take t).flatMap (fun x => r.rowsN (m - 1) x m) ++ r.rowsN (m - 1) (srtN r.ns)[t] m := by
  rw [List.take_add_one, List.getElem?_eq_getElem h, List.flatMap_append]
  simp
theorem take_len {r : Rk} (hr : r.Ok) {m : Nat} (hm : m ≤ 12) (t : Nat) : (((srtN r.ns).take t).flatMap fun x => r.rowsN (m - 1) x m).length ≤ 507 := by
  have h := flat_len (f := fun x => r.rowsN (m - 1) x m) (m := 169) (l := (srtN r.ns).take t) fun x _ => Rk.rowsN_len r x (by omega) (by omega)
  have := srtN_len r.ns
  have := hr.le
  rw [List.length_take] at h
  have : min t (srtN r.ns).length * 169 ≤ 3 * 169 := Nat.mul_le_mul_right _ (by omega)
  omega
theorem rt_zero (K : PySem.W.Frag) : rtP K 0 = TuP K [IsV (.int 0), IsV (.int 1)] := rfl

/-- _law_jet -/
abbrev s_Ljet : Stmt := topS 53
abbrev N_Ljet : List Str := ["_law_state", "_law_ranking_here", "_law_size", "_law_found", "_law_name", "_law_i", "_law_some", "_law_j", "_law_one"]
theorem sc_Ljet : FnScope N_Ljet ["_law_state", "_law_ranking_here", "_law_size"] (defScope s_Ljet) := ⟨rfl, rfl, rfl, by decide +kernel, rfl, by decide +kernel, by decide +kernel⟩
theorem ok_Ljet {f : Addr} {fd : FuncData} (F : Fun K "_law_jet" "_law_jet" s_Ljet f fd)  {f_Lnumber : Addr} {d_Lnumber : FuncData} (c_Lnumber : Cal P w K mg base "_law_number" 3 ["_law_state"] (spNum K T) f_Lnumber d_Lnumber) {f_Ldigit : Addr} {d_Ldigit : FuncData} (c_Ldigit : Cal P w K mg base "_law_digit" 2 ["_law_state", "_law_size"] spDigit f_Ldigit d_Ldigit) (n_tuple : mg "tuple" = none) (n_sorted : mg "sorted" = none) (n_list : mg "list" = none) (n_range : mg "range" = none)  :
    FnOk P w K mg base CX0 4 f fd ["_law_state", "_law_ranking_here", "_law_size"] (spJet K T) := by
  refine F.ok sc_Ljet (fun vs H Q E h => by obtain ⟨B, d, n, m, r, vr, rfl, _⟩ := h; rfl) (fun cdv A outer s H vs Q E hr h => ?_)
  obtain ⟨B, d, n, m, r, vr, rfl, hm, hok, hR, k, hn, q⟩ := h
  have hu := hu_of hr
  refine ⟨_, (pss_cons (ps_set (i := 3) sc_Ljet.nd rfl (by first | exact .inl rfl | exact .inr rfl) (pe_lst pa_nil))
    (pss_cons (ps_for PassesOwn.never rfl (pi_list (pe_callB (cr_sortDL hr) (by rfl) n_sorted (by decide +kernel) (pa_cons (pe_callTy call_list_of (by rfl) n_list (by decide +kernel) (pa_cons (pe_ix ix_tup (pv 1) pe_int (fun _ _ => rfl)) pa_nil)) pa_nil))) (pg_name (i := 4) sc_Ljet.nd rfl (by first | exact .inl rfl | exact .inr rfl))
      (pss_one (ps_for PassesOwn.never rfl (pi_range1 (by rfl) n_range (pa_cons (pv 2) pa_nil)) (pg_name (i := 5) sc_Ljet.nd rfl (by first | exact .inl rfl | exact .inr rfl))
      (pss_cons (ps_setLc (i := 6) (own := [("_law_j", 7)]) rfl sc_Ljet.nd rfl rfl (sw_true rfl rfl rfl (by decide +kernel)) (pi_range1 (by rfl) n_range (pa_cons (pe_ifExp (pt_cmpR (show OpR _ (compareOp .In) (rIn K false) from op_in_seq) pe_str (pe_ix ix_tup (pv 1) pe_int (fun _ _ => rfl)) (by rfl)) (pe_op op_sub (pv 2) (pv 5)) pe_int) pa_nil)) (blkOk_by (N := N_Ljet) (sc := defScope s_Ljet) (by decide +kernel)) (fun _ _ _ _ _ => (pg_name (i := 7) sc_Ljet.nd rfl (Or.inl rfl))) (fun _ _ _ _ _ => pts_nil) (fun _ _ _ _ _ => (pe_tup (pa_cons (pv 4) (pa_cons (pv 5) (pa_cons (pv 7) pa_nil))))))
    (pss_one (ps_set (i := 3) sc_Ljet.nd rfl (by first | exact .inl rfl | exact .inr rfl) (pe_op op_cat (pv 3) (pe_lc (te := tTup (tCons (tVar 8) (tCons (tOp (rIxL K) (tLst (tCons (tCall (spNum K T) [] E0 (tCons (tVar 0) tNil)) (tCons (tTup (tCons (tC (.int 0)) (tCons (tC (.int 1)) tNil))) tNil))) (tCall spDigit [] E0 (tCons (tVar 0) (tCons (tC (.int 2)) tNil)))) tNil))) (own := [("_law_one", 8)]) rfl sc_Ljet.nd (pi_list (pv 6)) (blkOk_by (N := N_Ljet) (sc := defScope s_Ljet) (by decide +kernel)) (fun _ _ _ _ _ => (pg_name (i := 8) sc_Ljet.nd rfl (Or.inl rfl))) (fun _ _ _ _ _ => pts_nil) (fun _ _ _ _ _ => (pe_tup (pa_cons (pv 8) (pa_cons (pe_ix ix_list (pe_lst (pa_cons (pe_call c_Lnumber.G (hr.mono (by decide)) (by rfl) c_Lnumber.m c_Lnumber.k c_Lnumber.b .nil pass0 (pa_cons (pv 0) pa_nil)) (pa_cons (pe_tup (pa_cons pe_int (pa_cons pe_int pa_nil))) pa_nil))) (pe_call c_Ldigit.G (hr.mono (by decide)) (by rfl) c_Ldigit.m c_Ldigit.k c_Ldigit.b .nil pass0 (pa_cons (pv 0) (pa_cons pe_int pa_nil))) (fun _ _ => rfl)) pa_nil))))))))))))
    (pss_one (ps_ret (pe_callTy call_tuple_of (by rfl) n_tuple (by decide +kernel) (pa_cons (pv 3) pa_nil)))))), ?_⟩
  refine ps_asgN (fun x => [some (.ref d), some vr, some (.int (m : Int)), some x, none, none, none, none, none]) k.e (p_lst (ps := []) q_nil (by show 0 ≤ 100000; decide)) (fun v3 B2 H2 g2 h3 => ?_) (fun _ => rfl)
  have k2 := k.gr g2
  have hR := (RkP K r).m g2.b hR
  dsimp only
  refine ps_forS k2.e (src_lq (K := K) (p_lq (p_sortS (p_listT (K := K) ((p_rk1 (K := K) (p_var (i := 1) rfl hR)).imp fun v B1 _ b => nm_tu b))))) fun B3 H3 g3 => ?_
  have k3 := k2.gr g3
  have hR := (RkP K r).m g3.b hR
  refine ⟨fun t σ H' => ∃ (B' : Hp) (js : List (Dv × Rat)) (vf : V) (x4 x5 x6 x8 : Option V), Kx T d (n + 12 * js.length) B' H' ∧ GX d B3 H3 B' H' ∧ js.map (·.1) = ((srtN r.ns).take t).flatMap (fun x => r.rowsN (m - 1) x m) ∧ (∀ z ∈ js, NumZ z.2) ∧ (LsP (js.map (jpP K))).P vf B' ∧ σ = [some (.ref d), some vr, some (.int (m : Int)), some vf, x4, x5, x6, none, x8],
    ⟨B3, [], v3, none, none, none, none, k3.le (by omega), GX.refl, rfl, fun _ h => absurd h List.not_mem_nil, (LsP []).m g3.b h3, rfl⟩, fun t σ H' _ pv => ?_, fun t v4 σ H' ht pv px => ?_, fun σ H' pv => ?_⟩
  · obtain ⟨B', js, vf, x4, x5, x6, x8, k', g', _⟩ := pv
    exact fun b o e => k'.e b o (g'.b b o e)
  · obtain ⟨B', js, vf, x4, x5, x6, x8, k', g', e', nz, hf, rfl⟩ := pv
    rw [List.length_map] at ht
    have px : (((srtN r.ns).map fun x => IsV (.str x)).getD t (IsV .non)).P v4 B3 := px
    rw [getD_map ht] at px
    obtain rfl : v4 = .str (srtN r.ns)[t] := px
    have hR := (RkP K r).m g'.b hR
    have hl0 : js.length ≤ 507 := by
      have := congrArg List.length e'
      rw [List.length_map] at this
      have := take_len hok (m := m) (by omega) t
      omega
    refine g_name ?_
    dsimp only [List.set_cons_succ, List.set_cons_zero]
    refine b_forD ⟨_, rfl, (m : Int), rfl, by omega, by omega, for_range (lo := 0) (n := m) (fun i σ H'' => ∃ (B2 : Hp) (ks : List (Dv × Rat)) (vk : V) (x5 x6 x8 : Option V), Kx T d (n + 12 * ks.length) B2 H'' ∧ GX d B' H' B2 H'' ∧ ks.map (·.1) = ((srtN r.ns).take t).flatMap (fun x => r.rowsN (m - 1) x m) ++ r.rowsN (m - 1) (srtN r.ns)[t] i ∧ (∀ z ∈ ks, NumZ z.2) ∧ (LsP (ks.map (jpP K))).P vk B2 ∧ σ = [some (.ref d), some vr, some (.int (m : Int)), some vk, some (.str (srtN r.ns)[t]), x5, x6, none, x8])
      ⟨B', js, vf, x5, x6, x8, k', GX.refl, by rw [e']; exact (List.append_nil _).symm, nz, hf, rfl⟩ (fun i σ H'' hi pv => ?_) (fun σ H'' pv => ?_)⟩
    · obtain ⟨B2, ks, vk, x5, x6, x8, k2, g2, e2, nk, hk, rfl⟩ := pv
      have hR := (RkP K r).m g2.b hR
      have hl : ks.length ≤ 507 := by
        have := congrArg List.length e2
        rw [List.length_map] at this
        have h1 := take_len hok (m := m) (by omega) (t + 1)
        rw [lawD_take ht] at h1
        have h2 : (r.rowsN (m - 1) (srtN r.ns)[t] i).length ≤ (r.rowsN (m - 1) (srtN r.ns)[t] m).length := by
          unfold Rk.rowsN
          exact flat_le _ (Nat.le_of_lt hi)
        rw [List.length_append] at h1 this
        omega
      rw [Int.zero_add]
      -- the row's derivatives
      have hJ : (r.most (m - 1) i + 1 : Nat) ≤ 13 := by
        unfold Rk.most
        split <;> omega
      have row := p_lcP (g := gName 7) (te := tTup (tCons (tVar 4) (tCons (tVar 5) (tCons (tVar 7) tNil)))) (vs := [7]) (σ := [some (.ref d), some vr, some (.int (m : Int)), some vk, some (.str (srtN r.ns)[t]), some (.int (i : Nat)), x6, none, x8]) (B := B2)
        (src_rng (t := tCons (tIf (tTest (tOp (rIn K false) (tC (.str "y")) (tOp (rIxT K) (tVar 1) (tC (.int 2))))) (tOp (rI0 fun i j => .int (i - j)) (tVar 2) (tVar 5)) (tC (.int 1))) tNil) (j := r.most (m - 1) i + 1) (q_cons (ed_if (b := decide ((Str.ofString "y") ∈ r.axs)) (et_is (et_test (ev_inT (neg := false) (ys := r.axs) ev_c (p_rk2 (K := K) (p_var (i := 1) rfl hR)))) rfl) (fun h => by
            have h := of_decide_eq_true h
            refine p_ev (v := .int ((r.most (m - 1) i + 1 : Nat) : Int)) (ev_is (ev_op (ev_var (i := 2) rfl) (ev_var (i := 5) rfl) rv_I0) ?_)
            unfold Rk.most
            rw [if_pos h]
            congr 1
            omega) (fun h => by
            have h := of_decide_eq_false h
            refine p_ev (v := .int ((r.most (m - 1) i + 1 : Nat) : Int)) (ev_is ev_c ?_)
            unfold Rk.most
            rw [if_neg h]
            rfl)) q_nil) (by omega)) (by omega) (fun (j : Nat) => DvP ⟨(srtN r.ns)[t], (i : Int), (j : Int)⟩) fun j v B5 hj e5 pv => by
          obtain rfl : v = .int (j : Int) := pv
          exact ⟨[some (.ref d), some vr, some (.int (m : Int)), some vk, some (.str (srtN r.ns)[t]), some (.int (i : Nat)), x6, some (.int (j : Nat)), x8], rfl, fun H2 Q e q => q, p_dv (u := ⟨(srtN r.ns)[t], (i : Int), (j : Int)⟩) rfl rfl rfl (q_cons (p_varV rfl) (q_cons (p_varV rfl) (q_cons (p_varV rfl) q_nil)))⟩
      rw [row_eq] at row
      refine g_name ?_
      dsimp only [List.set_cons_succ, List.set_cons_zero]
      refine ps_asgN (fun x => [some (.ref d), some vr, some (.int (m : Int)), some vk, some (.str (srtN r.ns)[t]), some (.int (i : Nat)), some x, none, x8]) k2.e row (fun v6 B6 H6 g6 h6 => ?_) (fun _ => rfl)
      have k6 := k2.gr g6
      have hk6 := (LsP (ks.map (jpP K))).m g6.b hk
      have hrl : (r.row (m - 1) (srtN r.ns)[t] i).length ≤ 13 := by
        unfold Rk.row
        rw [List.length_map, List.length_range]
        exact hJ
      dsimp only
      refine b_asg (b_catL ?_)
      refine ⟨vk, rfl, ?_⟩
      refine x_lcM (α := Dv) (γ := Rat) (p := DvP) (f := jpP K) (ok := NumZ) (jx := 6) (jv := 8) (c := 12) k6 rfl h6 (by omega) (fun x => rfl) (fun a ha xa B7 H7 Q' k7 g7 pa st => ?_) fun zs v8 B8 H8 hz ez k8 g8 h8 => ?_
      · refine b_tup (b_cons ⟨xa, rfl, b_cons (b_op (b_lst (b_cons (c_call (b_cons ⟨.ref d, rfl, b_nil ?_⟩))))) ⟩)
        refine ⟨B7, d, _, rfl, k7, by omega, fun s vs B9 H9 hs k9 g9 hv => ?_⟩
        refine b_cons (b_tup (b_cons (b_c (b_cons (b_c (b_nil ⟨by show 2 ≤ sizeLine; decide, fun p1 hp1 => ?_⟩))))))
        have n1 := Gr.new (B := B9) (.tup [.int 0, .int 1]) k9.e hp1
        have k10 := k9.gr n1
        refine b_nil ?_
        refine ⟨by show 2 ≤ sizeLine; decide, fun p2 hp2 => ?_⟩
        have n2 := Gr.new (.lst [vs, .ref p1]) k10.e hp2
        have k11 := k10.gr n2
        have hl2 : (LsP [rtP K s, rtP K 0]).P (.ref p2) (upd (upd B9 p1 (.tup [.int 0, .int 1])) p2 (.lst [vs, .ref p1])) := ⟨p2, _, rfl, upd_same, (rtP K s).m (n1.b.trans n2.b) hv, by rw [rt_zero]; exact ⟨p1, _, rfl, st_of (n2.b _ _ upd_same), rfl, rfl, trivial⟩, trivial⟩
        refine x_pickV (ps := [rtP K s, rtP K 0]) k11 hl2 rfl rfl (by show 0 < 2; decide) (by show 2 < 1000; decide) (by omega) fun j p v12 H12 hp k12 g12 hv12 => ?_
        obtain ⟨s2, hs2, rfl⟩ : ∃ s2 : Rat, NumZ s2 ∧ p = rtP K s2 := by
          match j, hp with
          | 0, hp => exact ⟨s, hs.2, (Option.some.inj hp).symm⟩
          | 1, hp => exact ⟨0, numZ_0, (Option.some.inj hp).symm⟩
          | j + 2, hp => cases hp
        refine b_nil ⟨by show 2 ≤ sizeLine; decide, fun p3 hp3 => ?_⟩
        have n3 := Gr.new (.tup [xa, v12]) k12.e hp3
        have g79 := g9.trans ((GX.gr (n1.trans n2)).trans (g12.trans (GX.gr n3)))
        refine st s2 _ _ _ hs2 ((k12.gr n3).le (by omega)) g79 ⟨p3, _, rfl, st_of upd_same, (DvP _).m g79.b pa, (rtP K s2).m n3.b hv12, trivial⟩
      · obtain ⟨pk, xs, rfl, hpk, ak⟩ := (LsP (ks.map (jpP K))).m g8.b hk6
        obtain ⟨pz, ys, rfl, hpz, az⟩ := h8
        have lk := ak.len
        have lz := az.len
        rw [List.length_map] at lk lz
        have lzs : zs.length = (r.row (m - 1) (srtN r.ns)[t] i).length := by
          have := congrArg List.length ez
          rwa [List.length_map] at this
        refine ⟨pk, pz, xs, ys, rfl, rfl, k8.e _ _ hpk, k8.e _ _ hpz, sz_of (by omega), fun pc hpc => ?_⟩
        have n9 := Gr.new (.lst (xs ++ ys)) k8.e hpc
        have k9 := k8.gr n9
        refine ⟨_, ks ++ zs, .ref pc, _, _, _, k9.le (by rw [List.length_append]; omega), ((g2.trans (GX.gr g6)).trans g8).trans (GX.gr n9), ?_, fun z hz' => ?_, ?_, rfl⟩
        · rw [List.map_append, e2, ez, List.append_assoc, Rk.rowsN_succ]
        · rcases List.mem_append.mp hz' with h | h
          · exact nk z h
          · exact hz z h
        · rw [List.map_append]
          exact ⟨pc, _, rfl, upd_same, (ak.m n9.b).app (az.m n9.b)⟩
    · obtain ⟨B2, ks, vk, x5, x6, x8, k2, g2, e2, nk, hk, rfl⟩ := pv
      exact ⟨B2, ks, vk, _, _, _, _, k2, g'.trans g2, by rw [lawD_take ht]; exact e2, nk, hk, rfl⟩
  · obtain ⟨B', js, vf, x4, x5, x6, x8, k', g', e', nz, hf, rfl⟩ := pv
    rw [List.length_map, List.take_length] at e'
    have lj : LawJ r m js := ⟨e', nz⟩
    have hl := lj.len hok (by omega)
    refine My.ps_ret k'.e (p := jtP K js) (p_tupOf (K := K) (p_lq (p_var (i := 3) rfl hf))) fun v9 B9 H9 g9 hp => ?_
    exact q js v9 B9 H9 lj ((k'.gr g9).le (by omega)) (((GX.gr (g2.trans g3)).trans g').trans (GX.gr g9)) hp

end
end K12
namespace K12
set_option autoImplicit false
open PySem PySem.W L2 Evl My Nd LamX NdefX
/-- _law_said -/
abbrev s_Lsaid : Stmt := topS 54
abbrev N_Lsaid : List Str := ["_law_deed", "_law_wrong", "e"]
theorem sc_Lsaid : FnScope N_Lsaid ["_law_deed"] (defScope s_Lsaid) := ⟨rfl, rfl, rfl, by decide +kernel, rfl, by decide +kernel, by decide +kernel⟩
theorem three {σ : L2.St} (h : σ.length = 3) : ∃ a b c, σ = [a, b, c] := by
  match σ, h with
  | [a, b, c], _ => exact ⟨a, b, c, rfl⟩
/-- the deed is refused as out of place, and that is said -/
def EchS (aOP : Addr) (Q : VK) : XK := fun cls d H' => cls = .ref aOP ∧ d = none ∧ ∀ H2, Ex H' H2 → Q (.bl true) H2
def TTsaid (aOP : Addr) : (XK → Hp → VK → Prop) → Hp → VK → Prop := fun tl H Q => ∀ H1, Ex H H1 → ∀ Q2 : VK, tl (EchS aOP Q) H1 Q2
theorem giv_said {X : Cx} {g : Addr} {cdg : Value} {q : Str} {aCE aOP : Addr} (n_isinstance : X.mg "isinstance" = none) (g_CE : X.mg "ChainError" = some (.ref aCE)) (g_OP : X.mg "OutOfPlace" = some (.ref aOP)) (xc : XC X.K aOP (bmI 13) (nwI 13)) (xm : PySem.W.exmOne X.K (.ref aOP) (.ref aCE) = some true) (kt : PySem.W.kitOne X.K (.ref aOP) (.ref aOP) = some true) :
    GivesTo X N_Lsaid "_law_said" (defScope s_Lsaid) g cdg (defBody s_Lsaid) "_law_deed" q (TTsaid aOP) := by
  intro f c' s H Q tl act hc h
  refine ⟨_, (pss_cons (ps_set (i := 1) sc_Lsaid.nd rfl (by first | exact .inl rfl | exact .inr rfl) pe_non)
    (pss_cons (ps_try_keep (i := 2) (j := 1) (c := .ref aCE) (tb := fun W D σ H => ∃ Ech : XK, (∀ cls d σ' H', Ech cls d H' → W cls d σ' H') ∧ σ[0]? = some (some (.ref f)) ∧ H c' = some (CodeO c' q) ∧ tl Ech H fun v H1 => D.nx σ H1) (Wout := fun _ _ _ _ => False)
      rfl rfl rfl sc_Lsaid.nd rfl rfl rfl rfl ⟨rfl, by decide, .inl g_CE⟩ L2.takes0 (fun σ h => by obtain ⟨_, _, _, rfl⟩ := three h; rfl) (by decide) (by decide) (by rfl) (fun W pn xe tk _ => pss_one ⟨fun pins s' σ H' D I h' => by
        obtain ⟨Ech, hW, h1, h2, h3⟩ := h'
        exact (ps_expr (act W pn xe Ech _ _ tk hW)).run pins s' σ H' D I ⟨h1, h2, h3⟩⟩))
    (pss_one (ps_ret (pe_callB call_xis (by rfl) n_isinstance (by decide +kernel) (pa_cons (pv 1) (pa_cons (pe_globR (by rfl) g_OP) pa_nil))))))), ?_⟩
  refine ps_asgN (fun x => [some (.ref f), some x, none]) (Ex.refl H) (p_c (v := .non)) (fun v B1 H1 g1 h1 => ?_) (fun _ => rfl)
  obtain rfl : v = .non := h1
  dsimp only
  refine ⟨EchS aOP Q, fun cls d σ2 H2 hE => ?_, rfl, g1.a _ _ hc, h H1 g1.a _⟩
  obtain ⟨rfl, rfl, hq⟩ := hE
  refine ⟨true, xm, fun _ => ⟨aOP, rfl, fun hl a na => ?_⟩, fun z => nomatch z⟩
  obtain ⟨s0, s1, s2, rfl⟩ := three hl
  dsimp only
  have hx : (XK aOP).P (.ref a) (upd H2 a (exw a aOP none)) := ⟨a, rfl, none, .inr upd_same, .inl rfl⟩
  refine My.ps_ret (Ex.refl _) (p_xis (K := X.K) (c := .ref aOP) (cv := .ref aOP) xc (p_var (i := 1) rfl hx) p_c (fun u r => r) kt) fun v5 B5 H5 g5 hp => ?_
  obtain rfl : v5 = .bl true := hp
  exact hq H5 ((Ex.new na).trans g5.a)
theorem pe_said {X : Cx} {T : List (Addr × Str)} {aCE aOP : Addr} {f c P : Addr} {d : FuncData} {k : Nat} {params : Arguments} {body : Expr} {scope : Scope} {t : XK → TE} {p lpos pos : Pos}
    (F : Fun X.K "_law_said" "_law_said" s_Lsaid f d) (hm : X.mg "_law_said" = some (.ref f)) (hk : PySem.W.keepIn X.K (.ref f) = true) (hb : L2.Binds X.K d ["_law_deed"] []) (n_isinstance : X.mg "isinstance" = none) (g_CE : X.mg "ChainError" = some (.ref aCE)) (g_OP : X.mg "OutOfPlace" = some (.ref aOP)) (xc : XC X.K aOP (bmI 13) (nwI 13)) (xm : PySem.W.exmOne X.K (.ref aOP) (.ref aCE) = some true) (kt : PySem.W.kitOne X.K (.ref aOP) (.ref aOP) = some true)
    (TB : TabB X.base X.mg c P) (hcode : X.env.code = .ref c) (hT : TO T P (X.env.qual ++ "<lambda>")) (hr : Room (k + 2) X.A) (hg : Gl X "_law_said") (L : LamS X.env.scope scope) (hdef : defaultsOf params X.env = ([], []))
    (hbind : ∀ (q : Str) (cl : List (Str × Addr)) (pm cv ctv : Value), bindArgs (PySem.W.kla_fn "<lambda>" q params body scope cl pm cv ctv) ⟨[], []⟩ = pure [])
    (hbody : ∀ (A : Around) (outer : List Env) (s : Shared) (H : Hp) (E : XK) (f c' : Addr), Room k (A.deeper (lamEnv X scope s.heap.objs.size f c')) → PE (lamCx X A outer s H E scope f c') body (t E)) :
    PE X (.Call (.Name "_law_said" p) [.Lambda params body scope lpos] [] pos) (tLam T (TTsaid aOP) t) := by
  obtain ⟨oc, od, kV, doc, pm, an, cdv, ct, osl, rfl, lk, hcd⟩ := F.ex
  exact pe_lamcall (a := "_law_deed") (Ng := N_Lsaid) hg hm hk lk hcd hb sc_Lsaid rfl (.inl rfl) (giv_said n_isinstance g_CE g_OP xc xm kt) TB hcode hT.1 hT.2 hr L hdef hbind hbody
section
variable {T : List (Addr × Str)} {R : List Pr → Out → Prop} {ts : TA} {σ : L2.St} {B H : Hp} {ps : List Pr} {p : Pr} {Q : VK} {aOP : Addr} {K : PySem.W.Frag} {te ta tb : TE}
theorem x_said (kn : Kn T B H) (h : EvPs ts σ B ps) (hr : R ps (.exc aOP [])) (q : ∀ H', ExtN H H' → Tabs T H' → Q (.bl true) H') :
    tLam T (TTsaid aOP) (fun E => tCallS (spOT T R) (WE fun cls d _ H => E cls d H) ts) σ H Q := ⟨kn.t, fun H1 eN T1 H2 e2 Q2 => by
  have k1 := kn.next eN T1
  exact o_callT (E := WE _) (k1.ex e2) h hr fun d B' H' g2 hd => ⟨rfl, hd, fun H3 e3 => q H3 ((eN.trans (exN_of e2)).trans (g2.a.trans (exN_of e3))) ((g2.t (T1.ext e2)).ext e3)⟩⟩
theorem t_callO (k : Kn T B H) (h : EvPs ts σ B ps) (hr : R ps (.ret p)) (q : ∀ v B' H', GT T B H B' H' → p.P v B' → Q v H') : tCall (spOT T R) [] E0 ts σ H Q :=
  h H k.e _ fun vs B2 H2 g b => by
    rw [List.append_nil]
    exact ⟨B2, ps, .ret p, k.gr g, b, hr, fun v B3 H3 g3 hp => q v B3 H3 ((GT.gr g).trans g3) hp⟩
theorem b_andV (h : ta σ H fun x H1 => ∃ c, x = .bl c ∧ if c = true then tb σ H1 Q else Q (.bl false) H1) : tAndV ta tb σ H Q := h
theorem b_par3 {i j l : Nat} {t : TA} {D : Ends} (h : t σ H fun vs H1 => ∃ u v w, vs = [u, v, w] ∧ D.nx (((σ.set i (some u)).set j (some v)).set l (some w)) H1) : tPar3 i j l t D σ H := h
theorem p_rkT {r : Rk} {t : TA} (h : EvPs t σ B [IsV (.str r.srt), NmP r.ns, IsD K (.tuple (r.axs.map .str))]) : EvP (tTup t) σ B (RkP K r) := (p_tup (K := K) h (by show 3 ≤ 100000; decide)).imp fun v B1 _ b => by
  obtain ⟨a, xs, rfl, hx, al⟩ := b
  obtain ⟨v1, v2, v3, rfl, h1, h2, h3⟩ := all3 al
  obtain rfl : v1 = _ := h1
  exact ⟨a, v2, v3, rfl, hx, h2, h3⟩
end
end K12
namespace Nd
set_option autoImplicit false
open PySem PySem.W L2 My Evl LamX
def r0 : Rk := ⟨true, ["u"], 0⟩
theorem r0_ok : r0.Ok := ⟨by decide, by decide, by decide, fun x hx => by
  rw [List.mem_singleton.mp hx]
  show My.isNmB _ = true
  decide +kernel⟩
def js9 : List (Dv × Rat) := (List.range 9).map fun (n : Nat) => (⟨"u", (n : Int), 0⟩, (((n : Nat) : Int) : Rat))
theorem js9_fst : js9.map (·.1) = (List.range 9).map fun (n : Nat) => ⟨"u", (n : Int), 0⟩ := by
  unfold js9
  rw [List.map_map]
  rfl
theorem js_ok (m : Nat) : JOk r0 (js9.take m) := by
  have hm : ∀ x ∈ js9, x.1.Of r0 := fun x hx => by
    obtain ⟨n, hn, rfl⟩ := List.mem_map.mp hx
    exact ⟨List.mem_singleton.mpr rfl, by show (0 : Int) ≤ n; omega, by show (0 : Int) ≤ 0; decide, .inl rfl⟩
  refine ⟨fun x hx => hm x (List.mem_of_mem_take hx), fun i hi => ?_, ?_⟩
  · rw [List.length_take] at hi
    have hl : js9.length = 9 := by unfold js9; rw [List.length_map, List.length_range]
    have e : ∀ k (hk : k < js9.length), js9[k].1 = ⟨"u", (k : Int), 0⟩ := fun k hk => by
      have := List.getElem_map (fun x : Dv × Rat => x.1) (l := js9) (i := k) (h := by rw [List.length_map]; exact hk)
      rw [← this]
      simp only [js9_fst, List.getElem_map, List.getElem_range]
    rw [List.getElem_take, List.getElem_take]
    show dataLt js9[i].1.D js9[i + 1].1.D = true
    rw [e, e, dv_lt, if_pos rfl]
    exact decide_eq_true (.inl (by show (i : Int) < ((i + 1 : Nat) : Int); omega))
  · rw [List.length_take]
    have hl : js9.length = 9 := by unfold js9; rw [List.length_map, List.length_range]
    omega
theorem js9_bad : JBad js9 8 := by
  refine ⟨by unfold js9; rw [List.length_map, List.length_range]; decide, ?_, ?_⟩
  · rw [js9_fst]; decide +kernel
  · rw [js9_fst]; decide +kernel
theorem js8_good : JGood r0 (js9.take 8) 8 := by
  refine ⟨Nat.le_refl _, ?_⟩
  rw [← lawD_plc r0_ok.nd]
  have e : srtN r0.ns = [("u" : Str)] := by
    unfold srtN r0
    exact List.mergeSort_singleton ..
  unfold lawD
  rw [e, List.map_take, js9_fst]
  decide +kernel
theorem js0_good : JGood r0 [] 0 := ⟨by decide, rfl⟩
theorem js9_at {i : Nat} (h : i < 9) : js9.take (i + 1) = js9.take i ++ [(⟨"u", (i : Int), 0⟩, (((i : Nat) : Int) : Rat))] := by
  rw [List.take_add_one]
  unfold js9
  rw [List.getElem?_map, List.getElem?_range h]
  rfl
def spBnd (T : List (Addr × Str)) : Sp := fun vs H Q _ => ∃ B, vs = [] ∧ Kn T B H ∧ ∀ H', ExtN H H' → Tabs T H' → Q (.bl true) H'
end Nd
namespace K12
set_option autoImplicit false
open PySem PySem.W L2 Evl My Nd LamX NdefX
section
variable {P : Program} {w : World} {K : PySem.W.Frag} {mg : Str → Option Value} {base : Heap} {T : List (Addr × Str)}

/-- _law_bounds_right -/
abbrev s_Lbounds_right : Stmt := topS 55
abbrev N_Lbounds_right : List Str := ["_law_ranking_here", "_law_jet_here", "_law_wrong", "_law_n", "e"]
theorem sc_Lbounds_right : FnScope N_Lbounds_right [] (defScope s_Lbounds_right) := ⟨rfl, rfl, rfl, by decide +kernel, rfl, by decide +kernel, by decide +kernel⟩
theorem ok_Lbounds_right {f : Addr} {fd : FuncData} (F : Fun K "_law_bounds_right" "_law_bounds_right" s_Lbounds_right f fd) {aBJ : Addr} {f_length_of : Addr} {d_length_of : FuncData} (c_length_of : CalX P w K mg base "length_of" 9 ["ranking", "jet"] (spOT T (RlenO K aBJ)) f_length_of d_length_of) (n_range : mg "range" = none) (n_tuple : mg "tuple" = none) (g_BJ : mg "BadJet" = some (.ref aBJ)) (xc_BJ : XC K aBJ (bmI 5) (nwI 5)) (f_BJ_place : PySem.W.findIn K (.ref aBJ) "place" = some none) (x_BJ : PySem.W.exmOne K (.ref aBJ) (.ref aBJ) = some true) :
    FnOk P w K mg base CX0 10 f fd [] (spBnd T) := by
  refine F.ok sc_Lbounds_right (fun vs H Q E h => by obtain ⟨B, rfl, _⟩ := h; rfl) (fun cdv A outer s H vs Q E hr h => ?_)
  obtain ⟨B, rfl, k, q⟩ := h
  have hu := hu_of hr
  refine ⟨_, (pss_cons (ps_par3 (i := 0) (j := 1) (l := 2) rfl sc_Lbounds_right.nd rfl rfl rfl (by decide) (by decide) (by decide) rfl rfl rfl (pa_cons (pe_tup (pa_cons pe_str (pa_cons (pe_tupF (pa_cons pe_str pa_nil)) (pa_cons (pe_tup (pa_cons pe_str pa_nil)) pa_nil)))) (pa_cons (pe_lst pa_nil) (pa_cons pe_non pa_nil))) (by rfl))
    (pss_cons (ps_for PassesOwn.never rfl (pi_range1 (by rfl) n_range (pa_cons pe_int pa_nil)) (pg_name (i := 3) sc_Lbounds_right.nd rfl (by first | exact .inl rfl | exact .inr rfl))
      (pss_one (ps_expr (pe_bm PySem.F.plainAttrs_list PySem.F.slot_list_append PySem.F.type_list_append mt_append (pv 1) (pa_cons (pe_tup (pa_cons (pe_tup (pa_cons pe_str (pa_cons (pv 3) (pa_cons pe_int pa_nil)))) (pa_cons (pe_tup (pa_cons (pv 3) (pa_cons pe_int pa_nil))) pa_nil))) pa_nil)))))
    (pss_cons (ps_try_keep (i := 4) (j := 2) (c := .ref aBJ) (tb := fun W => tDrop (tCallS (spOT T (RlenO K aBJ)) (WE W) (tCons (tVar 0) (tCons (tCB (fun xs H Q => ∃ p ys, xs = [V.ref p] ∧ ((SqL K H p ys ∧ ∀ l, H l = none → Q (.ref l) (upd H l (.tup ys))) ∨ (SqT K H p ys ∧ Q (.ref p) H))) (tCons (tVar 1) tNil)) tNil)))) (Wout := fun _ _ _ _ => False) rfl rfl rfl sc_Lbounds_right.nd rfl rfl rfl rfl ⟨rfl, by decide, .inl g_BJ⟩ L2.takes0 (fun σ h => by obtain ⟨_, _, _, _, _, rfl⟩ := five h; rfl) (by decide) (by decide) (by rfl) (fun W pn xe tk _ => pss_one (ps_expr (pe_callS c_length_of.G (hr.mono (by decide)) (by rfl) c_length_of.m c_length_of.k c_length_of.b (fun σ => passAt tk σ) (pa_cons (pv 0) (pa_cons (pe_callTy call_tuple_of (by rfl) n_tuple (by decide +kernel) (pa_cons (pv 1) pa_nil)) pa_nil))))))
    (pss_cons (ps_if (PW.pt (pw_or (pt_cmpR op_isN (pv 2) pe_non (nomark _)) (pw_or1 (pt_cmpR op_ne (pe_xat (bmB := bmI 5) (newId := nwI 5) (pv 2)) pe_int (nomark _))))) (pss_one (ps_ret pe_bl)) pss_nil)
    (pss_one (ps_ret (pe_and (pe_cmpR op_eq (pe_call c_length_of.G (hr.mono (by decide)) (by rfl) c_length_of.m c_length_of.k c_length_of.b .nil L2.passL (pa_cons (pv 0) (pa_cons (pe_callTy call_tuple_of (by rfl) n_tuple (by decide +kernel) (pa_cons (pe_slice sl_list (pv 1) po_none (po_some pe_int)) pa_nil)) pa_nil))) pe_int (nomark _)) (pe_one (pe_cmpR op_eq (pe_call c_length_of.G (hr.mono (by decide)) (by rfl) c_length_of.m c_length_of.k c_length_of.b .nil L2.passL (pa_cons (pv 0) (pa_cons (pe_tup pa_nil) pa_nil))) pe_int (nomark _)))))))))), ?_⟩
  refine b_par3 (b_cons ?_)
  refine p_rkT (K := K) (r := r0) (q_cons p_c (q_cons (p_tupF (ns := ["u"]) (q_cons p_c q_nil) (by show 1 ≤ 100000; decide)) (q_cons (ed_tup (ds := [.str "x"]) (q_cons (ed_st ev_c) q_nil) (by decide)) q_nil))) H k.e _ fun vr B1 H1 g1 hR => ?_
  have k1 := k.gr g1
  refine b_cons (b_lst (b_nil ⟨by decide, fun l hl => b_cons (b_c (b_nil ⟨_, _, _, rfl, ?_⟩))⟩))
  have A0 := acc_new k1.e hl
  dsimp only
  refine b_forD (b_c ⟨9, rfl, by decide, by decide, for_range (lo := 0) (n := 9) (fun i σ H' => ∃ (Bi : Hp) (x3 : Option V), AccAt B1 H1 l ((js9.take i).map (jpP K)) Bi H' ∧ σ = [some vr, some (.ref l), some .non, x3, none])
    ⟨B1, none, A0, rfl⟩ (fun i σ H' hi pv => ?_) (fun σ H' pv => ?_)⟩)
  · obtain ⟨Bi, x3, A, rfl⟩ := pv
    rw [Int.zero_add]
    refine g_name ?_
    dsimp only [List.set_cons_succ, List.set_cons_zero]
    refine ps_app rfl A (p := jpP K (⟨"u", (i : Int), 0⟩, (((i : Nat) : Int) : Rat))) ?_ (by rw [List.length_map, List.length_take]; omega) fun B2 H2 _ A2 => ?_
    · exact p_tup (K := K) (q_cons (p_dv (u := ⟨"u", (i : Int), 0⟩) rfl rfl rfl (q_cons p_c (q_cons (p_varV rfl) (q_cons p_c q_nil)))) (q_cons (p_tup (K := K) (q_cons (p_varV (v := .int (i : Int)) rfl) (q_cons (p_c (v := .int 1)) q_nil)) (by show 2 ≤ 100000; decide)) q_nil)) (by show 2 ≤ 100000; decide)
    · refine ⟨B2, _, ?_, rfl⟩
      rw [js9_at hi, List.map_append]
      exact A2
  · obtain ⟨Bi, x3, A, rfl⟩ := pv
    have e9 : js9.take 9 = js9 := List.take_of_length_le (by unfold js9; rw [List.length_map, List.length_range]; exact Nat.le_refl _)
    rw [e9] at A
    obtain ⟨B3, g3, hL⟩ := A.fin hl
    have k3 := k1.gr g3
    have hR := (RkP K r0).m g3.b hR
    have tup : ∀ {σ : L2.St} {B' : Hp} {js : List (Dv × Rat)} {tx : TE}, EvP tx σ B' (LsP (js.map (jpP K))) → EvP _ σ B' (jtP K js) := fun h => p_tupOf (K := K) (p_lq h)
    have ok9 := js_ok 9
    rw [e9] at ok9
    refine c_drop (o_callT (E := WE _) (o := .exc aBJ [("place", IsV (.int ((8 : Nat) : Int)))]) k3 (q_cons (p_var (σ := [some vr, some (.ref l), some .non, x3, none]) rfl hR) (q_cons (tup (p_var (i := 1) rfl hL)) q_nil)) ⟨r0, js9, r0_ok, ok9, rfl, .inr ⟨8, js9_bad, rfl⟩⟩ fun d B4 H4 g4 hd => ?_)
    refine ⟨true, x_BJ, fun _ => ⟨aBJ, rfl, fun _ a na => ?_⟩, fun z => nomatch z⟩
    have k4 := k3.gt g4
    obtain ⟨B5, g5, h5⟩ := exc_grow (C := aBJ) k4.e na hd
    have k5 := k4.gr g5
    have hR := (RkP K r0).m (g4.b.trans g5.b) hR
    have hL := (LsP (js9.map (jpP K))).m (g4.b.trans g5.b) hL
    dsimp only
    refine ps_ifN k5.e (et_is (et_or (a := false) (b := false) (et_is (et_test (ev_isN0 (ev_var (i := 2) rfl))) rfl) fun _ => et_is (et_test (ev_op (ev_p (p_xat xc_BJ f_BJ_place (p_var (p := XF aBJ [("place", IsV (.int ((8 : Nat) : Int)))]) rfl h5) rfl)) ev_c (rv_ne rfl))) rfl) rfl) fun H6 e6 => ?_
    dsimp only
    have k6 := k5.ex e6
    refine b_ret (b_andV (b_op ?_))
    refine t_callO k6 (q_cons (p_var rfl hR) (q_cons (tup (js := js9.take 8) (by
      rw [List.map_take]
      exact p_sl (K := K) (k := 8) (p_lq (p_var (i := 1) rfl hL)) ev_c)) q_nil)) ⟨r0, js9.take 8, r0_ok, js_ok 8, rfl, .inl ⟨8, js8_good, rfl⟩⟩ fun v7 B7 H7 g7 hp => ?_
    obtain rfl : v7 = .int ((8 : Nat) : Int) := hp
    refine b_c ⟨rfl, true, rfl, ?_⟩
    rw [if_pos rfl]
    have k7 := k6.gt g7
    refine b_op ?_
    refine t_callO k7 (q_cons (p_var rfl ((RkP K r0).m g7.b hR)) (q_cons (p_tup (K := K) (ps := []) q_nil (by show 0 ≤ 100000; decide)) q_nil)) ⟨r0, [], r0_ok, js_ok 0, rfl, .inl ⟨0, js0_good, rfl⟩⟩ fun v8 B8 H8 g8 hp => ?_
    obtain rfl : v8 = .int ((0 : Nat) : Int) := hp
    refine b_c ⟨rfl, ?_⟩
    have gg := ((GT.gr (T := T) (g1.trans g3)).trans (g4.trans (GT.gr (g5.trans (Gr.wide k5.e e6))))).trans (g7.trans g8)
    exact q H8 gg.a (gg.t k.t)

end
end K12
namespace Nd
set_option autoImplicit false
open PySem PySem.Spec PySem.W PyProof.Rows L2 My Evl LamX NdefX
structure Shw (d : PyData) (n : Nat) (k : Nat) : Prop where
  s : d.showable = true
  l : d.shown.length ≤ n
  d : d.depth ≤ k
theorem depthAll_le {k : Nat} : ∀ {ds : List PyData}, (∀ d ∈ ds, d.depth ≤ k) → PyData.depthAll ds ≤ k
  | [], _ => by simp [PyData.depthAll]
  | d :: ds, h => by
    simp only [PyData.depthAll]
    have := h d List.mem_cons_self
    have := depthAll_le (k := k) (ds := ds) fun e he => h e (List.mem_cons_of_mem _ he)
    omega
theorem shw_tup {ds : List PyData} {n k : Nat} (h : ∀ d ∈ ds, Shw d n k) : Shw (.tuple ds) (ds.length * (n + 2) + 3) (k + 1) := by
  refine ⟨?_, Gd.shown_tup fun d hd => (h d hd).l, ?_⟩
  · simp only [PyData.showable]
    exact PySem.Spec.showableAll_of fun d hd => (h d hd).s
  · have := depthAll_le (k := k) fun d hd => (h d hd).d
    simp only [PyData.depth]
    omega
theorem Shw.le {d : PyData} {n k m j : Nat} (h : Shw d n k) (a : n ≤ m) (b : k ≤ j) : Shw d m j := ⟨h.s, Nat.le_trans h.l a, Nat.le_trans h.d b⟩
theorem shw_dv {r : Rk} {u : Dv} (hr : r.Ok) (h : u.Of r) (hi : u.i ≤ 20) (hj : u.j ≤ 20) : Shw u.D 300 1 := by
  obtain ⟨h1, h2⟩ := Gd.show_dv hr h hi hj
  exact ⟨h2, h1, by rw [deep_dv]; exact Nat.le_refl _⟩
theorem shw_int {i : Int} {k : Nat} (hk : 0 < k) (hk2 : k < 500) (h : i.natAbs < 10 ^ k) : Shw (.int i) (k + 1) 0 := by
  refine ⟨?_, ?_, by simp [PyData.depth]⟩
  · simp only [PyData.showable, decide_eq_true_eq]
    by_cases h0 : i.natAbs = 0
    · rw [h0]
      decide
    · rw [Nat.log2_lt h0]
      refine Nat.lt_of_lt_of_le h (Nat.le_trans (Nat.pow_le_pow_right (by decide) (Nat.le_of_lt hk2)) ?_)
      decide +kernel
  · simp only [PyData.shown]
    rw [show ((toString i : String) : Str) = Str.ofString (toString i) from rfl, PySem.ofString_length]
    exact int_text_length_le10 hk h
theorem shw_fr {f : Fr} (h1 : f.1.natAbs < 1000) (h2 : f.2.natAbs < 1000) : Shw (frD f) 17 1 := by
  have := shw_tup (ds := [.int f.1, .int f.2]) (n := 4) (k := 0) fun d hd => by
    simp only [List.mem_cons, List.not_mem_nil, or_false] at hd
    rcases hd with rfl | rfl
    · exact shw_int (k := 3) (by decide) (by decide) h1
    · exact shw_int (k := 3) (by decide) (by decide) h2
  exact this.le (by show 2 * (4 + 2) + 3 ≤ 17; decide) (by decide)
theorem shw_lst {ds : List PyData} {n k : Nat} (h : ∀ d ∈ ds, Shw d n k) : Shw (.list ds) (ds.length * (n + 2) + 3) (k + 1) := by
  refine ⟨?_, Gd.shown_lst fun d hd => (h d hd).l, ?_⟩
  · simp only [PyData.showable]
    exact PySem.Spec.showableAll_of fun d hd => (h d hd).s
  · have := depthAll_le (k := k) fun d hd => (h d hd).d
    simp only [PyData.depth]
    omega
theorem clAll {ds : List PyData} (h : ∀ d ∈ ds, d.canLay0 = true) : PyData.canLayAll0 ds = true := by
  induction ds with
  | nil => rfl
  | cons d ds ih =>
    rw [PyData.canLayAll0, h d List.mem_cons_self, ih fun e he => h e (List.mem_cons_of_mem _ he)]
    rfl
/-! ### sums and products as the law has them -/
theorem mul_val (r s : Rat) : Rat.divInt ((fr r).1 * (fr s).1) ((fr r).2 * (fr s).2) = r * s := by
  conv => rhs; rw [← fr_val r, ← fr_val s, Rat.divInt_mul_divInt]
theorem sum_val (r s : Rat) : Rat.divInt ((fr r).1 * (fr s).2 + (fr s).1 * (fr r).2) ((fr r).2 * (fr s).2) = r + s := by
  have a := Int.ne_of_gt (fr_pos r)
  have b := Int.ne_of_gt (fr_pos s)
  conv => rhs; rw [← fr_val r, ← fr_val s, Rat.divInt_add_divInt _ _ a b]
/-- numbers that are not great -/
def SmN (r : Rat) : Prop := (fr r).1.natAbs < 1000 ∧ (fr r).2.natAbs < 1000
theorem smN_of {D N : Nat} {r : Rat} (h : Wh D r) (k : ab D r ≤ N) (hD : 0 < D) (hD2 : D < 1000) (hN : N < 1000) : SmN r := by
  obtain ⟨a, b⟩ := ab_small hD h
  exact ⟨Nat.lt_of_le_of_lt (Nat.le_trans a k) hN, Nat.lt_of_le_of_lt b hD2⟩
theorem numZ_n {s : Rat} (h : NumZ s) : SmN s := smN_of h.1 h.2 (by decide) (by decide) (by decide)
theorem numZ_mul {r s : Rat} (h : NumZ r) (k : NumZ s) : SmN (r * s) := by
  obtain ⟨a, b⟩ := wh_mul h.1 k.1
  exact smN_of a (N := 900) (by rw [b]; exact Nat.mul_le_mul h.2 k.2) (by decide) (by decide) (by decide)
theorem numZ_add {r s : Rat} (h : NumZ r) (k : NumZ s) : SmN (r + s) := by
  obtain ⟨a, b⟩ := wh_add h.1 k.1
  exact smN_of a (N := 60) (Nat.le_trans b (Nat.add_le_add h.2 k.2)) (by decide) (by decide) (by decide)
/-- a jet whose text is not long -/
structure JS (r : Rk) (js : List (Dv × Rat)) : Prop where
  of : ∀ x ∈ js, x.1.Of r ∧ x.1.i ≤ 20 ∧ x.1.j ≤ 20
  sm : ∀ x ∈ js, SmN x.2
  le : js.length ≤ 75
def jtD (js : List (Dv × Rat)) : PyData := .tuple (js.map jpD)
theorem to_jt {K : PySem.W.Frag} (js : List (Dv × Rat)) : To K (jtP K js) (jtD js) := to_tup (toAll_map js to_jp)
theorem shw_jt {r : Rk} (hr : r.Ok) {js : List (Dv × Rat)} (h : JS r js) : Shw (jtD js) 50000 3 := by
  have := shw_tup (ds := js.map jpD) (n := 650) (k := 2) fun d hd => by
    obtain ⟨x, hx, rfl⟩ := List.mem_map.mp hd
    obtain ⟨h1, h2, h3⟩ := h.of x hx
    have h4 := h.sm x hx
    have := shw_tup (ds := [x.1.D, frD (fr x.2)]) (n := 300) (k := 1) fun d hd => by
      simp only [List.mem_cons, List.not_mem_nil, or_false] at hd
      rcases hd with rfl | rfl
      · exact shw_dv hr h1 h2 h3
      · exact (shw_fr h4.1 h4.2).le (by decide) (by decide)
    exact this.le (by show 2 * (300 + 2) + 3 ≤ 650; decide) (Nat.le_refl _)
  rw [List.length_map] at this
  have hl := h.le
  exact this.le (by omega) (Nat.le_refl _)
theorem shp_jt {r : Rk} (hr : r.Ok) {js : List (Dv × Rat)} (h : ∀ x ∈ js, x.1.Of r) : SeqAt.shaped (jtD js) = true := by
  have h1 : (jtD js).canLay0 = true := by
    unfold jtD
    rw [PyData.canLay0]
    refine clAll fun d hd => ?_
    obtain ⟨x, hx, rfl⟩ := List.mem_map.mp hd
    have h2 := (Bool.and_eq_true_iff.mp (Gd.shp_dv hr (h x hx))).1
    unfold jpD
    rw [PyData.canLay0]
    refine clAll fun d hd => ?_
    simp only [List.mem_cons, List.not_mem_nil, or_false] at hd
    rcases hd with rfl | rfl
    · exact h2
    · rfl
  have h2 : (jtD js).depth ≤ 4 := by
    unfold jtD
    simp only [PyData.depth]
    have := depthAll_le (ds := js.map jpD) (k := 3) fun d hd => by
      obtain ⟨x, hx, rfl⟩ := List.mem_map.mp hd
      unfold jpD
      simp only [PyData.depth, PyData.depthAll]
      have := deep_dv x.1
      simp only [frD, PyData.depth, PyData.depthAll]
      omega
    omega
  unfold SeqAt.shaped
  rw [h1, decide_eq_true (by omega)]
  rfl
theorem lawD_len5 {r : Rk} (hr : r.Ok) {n : Nat} (hn : n ≤ 5) : (lawD r n).length ≤ 75 := by
  have h := flat_len (f := fun x => r.rowsN (n - 1) x n) (m := 25) (l := srtN r.ns) fun x _ => by
    have h2 := flat_len (f := r.row (n - 1) x) (m := 5) (l := List.range n) fun i hi => by
      have := List.mem_range.mp hi
      unfold Rk.row Rk.most
      rw [List.length_map, List.length_range]
      split <;> omega
    rw [List.length_range] at h2
    unfold Rk.rowsN
    omega
  rw [srtN_len] at h
  have := hr.le
  unfold lawD
  omega
theorem LawJ.ord {r : Rk} {n : Nat} {js : List (Dv × Rat)} (h : LawJ r n js) : ∀ x ∈ js, x.1.Of r ∧ x.1.i + x.1.j < n := fun x hx => by
  have hx1 : x.1 ∈ lawD r n := by rw [← h.1]; exact List.mem_map.mpr ⟨x, hx, rfl⟩
  cases n with
  | zero => unfold lawD Rk.rowsN at hx1; simp at hx1
  | succ n =>
    have hx2 := mem_lawD.mp hx1
    refine ⟨Rk.mem_all hx2, ?_⟩
    unfold Rk.all at hx2
    obtain ⟨y, hy, hx2⟩ := List.mem_flatMap.mp hx2
    unfold Rk.rowsN at hx2
    obtain ⟨i, hi, hx2⟩ := List.mem_flatMap.mp hx2
    obtain ⟨a, b, c, d⟩ := Rk.mem_row hx2
    have hi := List.mem_range.mp hi
    unfold Rk.most at d
    split at d <;> omega
theorem LawJ.js {r : Rk} (hr : r.Ok) {n : Nat} (hn : n ≤ 5) {js : List (Dv × Rat)} (h : LawJ r n js) : JS r js := by
  refine ⟨fun x hx => ?_, fun x hx => numZ_n (h.2 x hx), ?_⟩
  · obtain ⟨a, b⟩ := h.ord x hx
    have := a.i
    have := a.j
    exact ⟨a, by omega, by omega⟩
  · have := lawD_len5 hr hn
    have e := congrArg List.length h.1
    rw [List.length_map] at e
    omega
theorem JS.map {r : Rk} {js ks : List (Dv × Rat)} (h : JS r js) (hk : ∀ x ∈ ks, x.1 ∈ js.map (·.1)) (hs : ∀ x ∈ ks, SmN x.2) (hl : ks.length ≤ js.length) : JS r ks := by
  refine ⟨fun x hx => ?_, hs, Nat.le_trans hl h.le⟩
  obtain ⟨y, hy, e⟩ := List.mem_map.mp (hk x hx)
  rw [← e]
  exact h.of y hy
theorem cut_all {r : Rk} {n : Nat} {js : List (Dv × Rat)} (h : LawJ r n js) : cutJ js n = js := List.filter_eq_self.mpr fun x hx => decide_eq_true (h.ord x hx).2
theorem JS.cut {r : Rk} {js : List (Dv × Rat)} (h : JS r js) (l : Int) : JS r (cutJ js l) := h.map (fun x hx => List.mem_map.mpr ⟨x, (List.mem_filter.mp hx).1, rfl⟩) (fun x hx => h.sm x (List.mem_filter.mp hx).1) (List.length_filter_le _ _)
theorem JS.sca {r : Rk} {n : Nat} {js : List (Dv × Rat)} (h : JS r js) (k : LawJ r n js) {b : Rat} (hb : NumZ b) : JS r (js.map fun x => (x.1, x.2 * b)) := h.map (fun x hx => by
    obtain ⟨y, hy, rfl⟩ := List.mem_map.mp hx
    exact List.mem_map.mpr ⟨y, hy, rfl⟩) (fun x hx => by
    obtain ⟨y, hy, rfl⟩ := List.mem_map.mp hx
    exact numZ_mul (k.2 y hy) hb) (by rw [List.length_map]; exact Nat.le_refl _)
theorem JS.sum {r : Rk} {n m : Nat} {js ks : List (Dv × Rat)} (h : JS r js) (k : LawJ r n js) (k2 : LawJ r m ks) : JS r (sumJ js ks) := h.map (fun x hx => by
    obtain ⟨z, hz, rfl⟩ := List.mem_map.mp hx
    exact List.mem_map.mpr ⟨z.1, (List.of_mem_zip hz).1, rfl⟩) (fun x hx => by
    obtain ⟨z, hz, rfl⟩ := List.mem_map.mp hx
    exact numZ_add (k.2 _ (List.of_mem_zip hz).1) (k2.2 _ (List.of_mem_zip hz).2)) (by unfold sumJ; rw [List.length_map, List.length_zip]; omega)
/-- what is told, and due -/
theorem shw_tl {r : Rk} (hr : r.Ok) {s f : Nat} (hs : s ≤ 5) (hf : f ≤ 5) {l : List (List (Dv × Rat))} (h : ∀ js ∈ l, JS r js) (hl : l.length ≤ 3) : Shw (.list (.int (s : Int) :: .int (f : Int) :: l.map jtD)) 1000000 60 := by
  have := shw_lst (ds := .int (s : Int) :: .int (f : Int) :: l.map jtD) (n := 50000) (k := 3) fun d hd => by
    rcases List.mem_cons.mp hd with rfl | hd
    · exact (shw_int (k := 3) (by decide) (by decide) (by show s < 1000; omega)).le (by decide) (by decide)
    · rcases List.mem_cons.mp hd with rfl | hd
      · exact (shw_int (k := 3) (by decide) (by decide) (by show f < 1000; omega)).le (by decide) (by decide)
      · obtain ⟨js, hj, rfl⟩ := List.mem_map.mp hd
        exact shw_jt hr (h js hj)
  simp only [List.length_cons, List.length_map] at this
  exact this.le (by omega) (by decide)
theorem shw_two {r : Rk} (hr : r.Ok) {js ks : List (Dv × Rat)} (h : JS r js) (k : JS r ks) : Shw (.tuple [jtD js, jtD ks]) 1000000 60 := by
  have := shw_tup (ds := [jtD js, jtD ks]) (n := 50000) (k := 3) fun d hd => by
    simp only [List.mem_cons, List.not_mem_nil, or_false] at hd
    rcases hd with rfl | rfl
    · exact shw_jt hr h
    · exact shw_jt hr k
  exact this.le (by show 2 * (50000 + 2) + 3 ≤ 1000000; decide) (by decide)
theorem to_tl {K : PySem.W.Frag} {s f : Nat} {l : List (List (Dv × Rat))} : To K (LsP (IsV (.int (s : Int)) :: IsV (.int (f : Int)) :: l.map (jtP K))) (.list (.int (s : Int) :: .int (f : Int) :: l.map jtD)) := to_lst (.cons to_int (.cons to_int (toAll_map l to_jt)))
end Nd
namespace K12
set_option autoImplicit false
open PySem PySem.W L2 Evl My Nd LamX NdefX
section
variable {T : List (Addr × Str)} {d D : Addr} {n m : Nat} {B H B1 H1 : Hp} {xs ys acc : List V}
theorem Kx.lst (k : Kx T d n B H) (hD : H D = some (.lst xs)) (hB : B D = none) (ne : D ≠ d) : Kx T d n B (upd H D (.lst ys)) := ⟨fun b o e => by
  rw [upd_ne (fun z => by subst z; rw [hB] at e; cases e)]
  exact k.e b o e, k.nt, tabs_lst k.t hD, k.z, k.s.upd ne.symm⟩
theorem Kx.fin (k : Kx T d n B1 H1) (hB : B1 D = none) (hD : H1 D = some (.lst acc)) (ne : D ≠ d) : Kx T d n (upd B1 D (.lst acc)) H1 := ⟨fun b o e => by
  by_cases z : b = D
  · subst z
    rw [upd_same] at e
    rw [← e]
    exact hD
  · rw [upd_ne z] at e
    exact k.e b o e, nt_upd k.nt (fun _ z => nomatch z), k.t, by rw [upd_ne ne.symm]; exact k.z, k.s⟩
theorem GX.fin (g : GX d B H B1 H1) (hB : B1 D = none) (h0 : H D = none) : GX d B H (upd B1 D (.lst acc)) H1 := ⟨g.a, g.b.trans (Ex.new hB), fun x o n hb hh z => by
  rw [upd_ne (fun e => by subst e; rw [h0] at hh; cases hh)]
  exact g.f x o n hb hh z⟩
end
section
variable {te ta tb : TE} {c1 c2 : TT} {t u : TS} {ts tx : TA} {σ : L2.St} {B H : Hp} {D : Ends} {Q : VK} {K : PySem.W.Frag}
theorem iteF {A B : Prop} (h : B) : if (false = true) then A else B := by rw [if_neg Bool.false_ne_true]; exact h
theorem b_app {i : Nat} {l : Addr} {xs : List V} (hs : σ[i]? = some (some (.ref l))) (hl : H l = some (.lst xs)) (h : te σ H fun v H1 => rAppend (.ref l) [v] H1 fun _ H2 => D.nx σ H2) : tDrop (tBM K "list" rAppend (tVar i) (tCons te tNil)) D σ H :=
  ⟨.ref l, hs, .inl ⟨rfl, _, sq_of hl⟩, h⟩
theorem b_ifOrNot (h : te σ H fun v H1 => ∃ b, v = V.bl b ∧ (if (!b) = true then (if true = true then t D σ H1 else u D σ H1) else tIfS c2 t u D σ H1)) : tIfS (tOr (tNot (tTest te)) c2) t u D σ H := h
theorem b_ifNot (h : te σ H fun v H1 => ∃ b, v = V.bl b ∧ (if (!b) = true then t D σ H1 else u D σ H1)) : tIfS (tNot (tTest te)) t u D σ H := h
theorem b_ifOp {R : R2} (h : ta σ H fun v H1 => tb σ H1 fun w H2 => R v w H2 fun z H3 => ∃ b, z = V.bl b ∧ (if b = true then t D σ H3 else u D σ H3)) : tIfS (tTest (tOp R ta tb)) t u D σ H := h
theorem ev_rep {d : PyData} (h : EvP te σ B (IsD K d)) (s : Shw d 1000000 60) : Ev (tCB (Gd.rRepr K) (tCons te tNil)) σ B (.str d.shown) := Gd.ev_repr h s.s s.d s.l
theorem et_same {d : PyData} (h : EvP ta σ B (IsD K d)) (h2 : EvP tb σ B (IsD K d)) (s : Shw d 1000000 60) : EvT (tTest (tOp rNe (tCB (Gd.rRepr K) (tCons ta tNil)) (tCB (Gd.rRepr K) (tCons tb tNil)))) σ B false :=
  et_is (et_test (ev_op (ev_rep h s) (ev_rep h2 s) (rv_ne rfl))) (by simp)
theorem x_at {ps : List Pr} {v : V} {m : Int} (e : Ex B H) (hv : (LsP ps).P v B) (m0 : 0 ≤ m) (m1 : m < ps.length) (q : ∀ (j : Nat) p w, ps[j]? = some p → p.P w B → Q w H) : rIxL K v (.int m) H Q := by
  obtain ⟨l, xs, rfl, hx, al⟩ := hv
  obtain ⟨j, p, w, hj, rfl, hp, hat, hw⟩ := pick al m0 m1
  exact ⟨l, xs, _, _, rfl, rfl, sq_of (e _ _ hx), hat, q j p w hp hw⟩
end
def spLaw (K : PySem.W.Frag) (T : List (Addr × Str)) : Sp := fun vs H Q _ => ∃ (a : Addr) (ns : List Int), vs = [.ref a] ∧ SqL K H a (ns.map V.int) ∧ ns.length ≤ 63 ∧ Tabs T H ∧ ∀ H', Q (.bl true) H'
end K12
namespace Gd
set_option autoImplicit false
open PySem PySem.Spec PyProof.Rows L2 LamX My
theorem okGC {P : Program} {w : World} {K : PySem.W.Frag} {mg : Str → Option Value} {base : Heap} {k : Nat} {f c : Addr} {fd : FuncData} {ps : List Str} {sp : Sp} {x qual : Str} {st : Stmt} {N : List Str} (F : Nd.FunC K x qual st c f fd) (S : FnScope N ps (defScope st)) (len : ∀ vs H Q E, sp vs H Q E → vs.length = ps.length)
    (go : ∀ (A : Around) (outer : List Env) (s : Shared) (H : Hp) (vs : List V) (Q : VK) (E : XK), Room k (A.deeper (envOfC qual (defScope st) s.heap.objs.size f (.ref c))) → (A.deeper (envOfC qual (defScope st) s.heap.objs.size f (.ref c))).guards = some [] → sp vs H Q E →
      ∃ t, PSs (cxOf CX0 P w K mg base N qual (defScope st) f (.ref c) A outer s H E).nox (defBody st) t ∧ t { nx := fun _ H' => Q .non H', rt := Q } (start N vs) H) : FnG P w K mg base (k + 1) f fd ps sp := by
  obtain ⟨oc, od, kV, doc, pm, an, ct, osl, rfl, lk, hcd⟩ := F.ex
  exact fnG_of lk hcd S len fun A outer s H vs Q E hr hg hsp => let ⟨t, h1, h2⟩ := go A outer s H vs Q E hr hg hsp; ⟨t, h1.nox, h2⟩
end Gd
namespace K12
set_option autoImplicit false
open PySem PySem.W L2 Evl My Nd LamX NdefX
section
variable {te ta tb : TE} {σ : L2.St} {B : Hp} {K : PySem.W.Frag} {r s : Rat}
theorem two_ways {c : TT} {t u : TS} {D : Ends} {σ : L2.St} {H : Hp} {P : L2.St → Hp → Prop} (h1 : ∀ σ' H', P σ' H' → D.nx σ' H') (h2 : (∀ σ' H', P σ' H' → D.nx σ' H') → tIfS c t u D σ H) : tIfS c t u D σ H := h2 h1
theorem ix_rt0 (h : EvP te σ B (rtP K r)) : Ev (tOp (rIxT K) te (tC (.int 0))) σ B (.int (fr r).1) := ev_p (p_ixT (K := K) h p_c rfl)
theorem ix_rt1 (h : EvP te σ B (rtP K r)) : Ev (tOp (rIxT K) te (tC (.int 1))) σ B (.int (fr r).2) := ev_p (p_ixT (K := K) h p_c rfl)
theorem ev_mulS {i j : Int} (ha : Ev ta σ B (.int i)) (hb : Ev tb σ B (.int j)) (hi : i.natAbs < 1000) : Ev (tOp (rI CMul fun i j => .int (i * j)) ta tb) σ B (.int (i * j)) := ev_op ha hb (rv_I (.inl ⟨by omega, by omega⟩))
theorem low_den (h : SmN r) (k : SmN s) : (fr r).2 * (fr s).2 ≠ 0 ∧ ((fr r).2 * (fr s).2).natAbs < 2 ^ 4000 := by
  refine ⟨Int.ne_of_gt (Int.mul_pos (fr_pos r) (fr_pos s)), ?_⟩
  rw [Int.natAbs_mul]
  have : (fr r).2.natAbs * (fr s).2.natAbs ≤ 1000 * 1000 := Nat.mul_le_mul (Nat.le_of_lt h.2) (Nat.le_of_lt k.2)
  exact Nat.lt_of_le_of_lt this (Nat.lt_of_lt_of_le (by decide : 1000 * 1000 < 2 ^ 20) (Nat.pow_le_pow_right (by decide) (by decide)))
theorem p_lowM (ha : EvP ta σ B (rtP K r)) (hb : EvP tb σ B (rtP K s)) (h : SmN r) (k : SmN s) : EvP (tCall (spP (Rlow2 K)) [] E0 (tCons (tOp (rI CMul fun i j => .int (i * j)) (tOp (rIxT K) ta (tC (.int 0))) (tOp (rIxT K) tb (tC (.int 0)))) (tCons (tOp (rI CMul fun i j => .int (i * j)) (tOp (rIxT K) ta (tC (.int 1))) (tOp (rIxT K) tb (tC (.int 1)))) tNil))) σ B (rtP K (r * s)) := by
  rw [← mul_val]
  exact p_callP (q_cons (p_ev (ev_mulS (ix_rt0 ha) (ix_rt0 hb) h.1)) (q_cons (p_ev (ev_mulS (ix_rt1 ha) (ix_rt1 hb) h.2)) q_nil)) ⟨_, _, (low_den h k).1, (low_den h k).2, rfl, rfl⟩
theorem p_lowA (ha : EvP ta σ B (rtP K r)) (hb : EvP tb σ B (rtP K s)) (h : SmN r) (k : SmN s) : EvP (tCall (spP (Rlow2 K)) [] E0 (tCons (tOp (rI0 fun i j => .int (i + j)) (tOp (rI CMul fun i j => .int (i * j)) (tOp (rIxT K) ta (tC (.int 0))) (tOp (rIxT K) tb (tC (.int 1)))) (tOp (rI CMul fun i j => .int (i * j)) (tOp (rIxT K) tb (tC (.int 0))) (tOp (rIxT K) ta (tC (.int 1))))) (tCons (tOp (rI CMul fun i j => .int (i * j)) (tOp (rIxT K) ta (tC (.int 1))) (tOp (rIxT K) tb (tC (.int 1)))) tNil))) σ B (rtP K (r + s)) := by
  rw [← sum_val]
  exact p_callP (q_cons (p_ev (ev_op (ev_mulS (ix_rt0 ha) (ix_rt1 hb) h.1) (ev_mulS (ix_rt0 hb) (ix_rt1 ha) k.1) rv_I0)) (q_cons (p_ev (ev_mulS (ix_rt1 ha) (ix_rt1 hb) h.2)) q_nil)) ⟨_, _, (low_den h k).1, (low_den h k).2, rfl, rfl⟩
end
/-- a list under way, beside what is known -/
structure Tl (d : Addr) (B H : Hp) (l : Addr) (ps : List Pr) : Prop where
  h : ∃ xs, H l = some (.lst xs) ∧ AllP ps xs B
  b : B l = none
  n : l ≠ d
section
variable {T : List (Addr × Str)} {d l l' : Addr} {n : Nat} {B H B' H' : Hp} {ps qs : List Pr} {p : Pr} {xs : List V} {v : V} {D : Ends} {σ : L2.St} {o : HO}
theorem Tl.new (k : Kx T d n B H) (hl : H l = none) (al : AllP ps xs B) : Tl d B (upd H l (.lst xs)) l ps := ⟨⟨xs, upd_same, al⟩, fresh_back k.e hl, fun e => k.s.ne0 (e ▸ hl)⟩
theorem Tl.gx (t : Tl d B H l ps) (g : GX d B H B' H') : Tl d B' H' l ps := by
  obtain ⟨⟨xs, h1, h2⟩, h3, h4⟩ := t
  exact ⟨⟨xs, g.a l _ h4 h1 (fun _ z => nomatch z), h2.m g.b⟩, g.f l _ h4 h3 h1 (fun _ z => nomatch z), h4⟩
theorem Tl.upd (t : Tl d B H l ps) (n : l ≠ l') : Tl d B (upd H l' o) l ps := by
  obtain ⟨⟨xs, h1, h2⟩, h3, h4⟩ := t
  exact ⟨⟨xs, by rw [upd_ne n]; exact h1, h2⟩, h3, h4⟩
theorem Tl.put (t : Tl d B H l ps) (k : Kx T d n B H) (hv : p.P v B) (hl : ps.length < 1000) (q : ∀ H2, Kx T d n B H2 → Tl d B H2 l (ps ++ [p]) → (∀ l' qs, l' ≠ l → Tl d B H l' qs → Tl d B H2 l' qs) → D.nx σ H2) : rAppend (.ref l) [v] H fun _ H2 => D.nx σ H2 := by
  obtain ⟨⟨xs, h1, h2⟩, h3, h4⟩ := t
  have hlen := h2.len
  exact ⟨l, xs, v, rfl, rfl, h1, small1000 (by omega), q _ (k.lst h1 h3 h4) ⟨⟨_, upd_same, h2.app ⟨hv, trivial⟩⟩, h3, h4⟩ fun l' qs ne t' => t'.upd ne⟩
theorem Tl.fin (t : Tl d B H l ps) (k : Kx T d n B H) : ∃ B', Kx T d n B' H ∧ Ex B B' ∧ (LsP ps).P (.ref l) B' ∧ ∀ l' qs, l' ≠ l → Tl d B H l' qs → Tl d B' H l' qs := by
  obtain ⟨⟨xs, h1, h2⟩, h3, h4⟩ := t
  have e : Ex B (L2.upd B l (.lst xs)) := Ex.new h3
  exact ⟨_, k.fin h3 h1 h4, e, ⟨l, xs, rfl, upd_same, h2.m e⟩, fun l' qs ne t' => ⟨t'.h.imp fun ys z => ⟨z.1, z.2.m e⟩, by rw [upd_ne ne]; exact t'.b, t'.n⟩⟩
theorem Tl.ne (t : Tl d B H l ps) (h : H l' = none) : l ≠ l' := fun e => by
  obtain ⟨⟨xs, h1, _⟩, _⟩ := t
  rw [e, h] at h1
  cases h1
end
section
variable {P : Program} {w : World} {K : PySem.W.Frag} {mg : Str → Option Value} {base : Heap} {T : List (Addr × Str)}

/-- law -/
abbrev s_law : Stmt := topS 56
abbrev N_law : List Str := ["_law_script", "_law_k", "_law_cell", "_law_state", "_law_ranking_here", "_law_size", "_law_by", "_law_far", "_law_one", "_law_other", "_law_kept", "_law_fewer", "_law_told", "_law_due", "_law_pair", "_law_own", "_law_number_here", "_law_sums", "_law_a", "_law_same", "_law_b"]
theorem sc_law : FnScope N_law ["_law_script"] (defScope s_law) := ⟨rfl, rfl, rfl, by decide +kernel, rfl, by decide +kernel, by decide +kernel⟩
theorem ok_law {f c tb : Addr} {fd : FuncData} (F : FunC K "law" "law" s_law c f fd) {aBJ aOP : Addr} {f_Ldraw : Addr} {d_Ldraw : FuncData} (c_Ldraw : Cal P w K mg base "_law_draw" 1 ["_law_cell", "_law_k"] spDraw f_Ldraw d_Ldraw) {f_Lranking : Addr} {d_Lranking : FuncData} (c_Lranking : Cal P w K mg base "_law_ranking" 5 ["_law_state"] (spRkX K T) f_Lranking d_Lranking) {f_Ldigit : Addr} {d_Ldigit : FuncData} (c_Ldigit : Cal P w K mg base "_law_digit" 2 ["_law_state", "_law_size"] spDigit f_Ldigit d_Ldigit) {f_Lnumber : Addr} {d_Lnumber : FuncData} (c_Lnumber : Cal P w K mg base "_law_number" 3 ["_law_state"] (spNum K T) f_Lnumber d_Lnumber) {f_Ljet : Addr} {d_Ljet : FuncData} (c_Ljet : Cal P w K mg base "_law_jet" 4 ["_law_state", "_law_ranking_here", "_law_size"] (spJet K T) f_Ljet d_Ljet) {f_length_of : Addr} {d_length_of : FuncData} (c_length_of : CalX P w K mg base "length_of" 9 ["ranking", "jet"] (spOT T (RlenO K aBJ)) f_length_of d_length_of) {f_cut_jet : Addr} {d_cut_jet : FuncData} (c_cut_jet : CalX P w K mg base "cut_jet" 10 ["ranking", "jet", "length"] (spOT T (RcutO K aOP)) f_cut_jet d_cut_jet) {f_scaled_jet : Addr} {d_scaled_jet : FuncData} (c_scaled_jet : CalX P w K mg base "scaled_jet" 10 ["ranking", "jet", "by"] (spOT T (RscaJ K)) f_scaled_jet d_scaled_jet) {f_Llowest : Addr} {d_Llowest : FuncData} (c_Llowest : Cal P w K mg base "_law_lowest" 1 ["_law_top", "_law_bottom"] (spP (Rlow2 K)) f_Llowest d_Llowest) {f_added_jets : Addr} {d_added_jets : FuncData} (c_added_jets : CalX P w K mg base "added_jets" 10 ["ranking", "jet", "other"] (spOT T (RaddJ K aOP)) f_added_jets d_added_jets) {f_Lbounds_right : Addr} {d_Lbounds_right : FuncData} (c_Lbounds_right : Cal P w K mg base "_law_bounds_right" 10 [] (spBnd T) f_Lbounds_right d_Lbounds_right) (n_enumerate : mg "enumerate" = none) (n_sum : mg "sum" = none) (n_repr : mg "repr" = none) (n_tuple : mg "tuple" = none) (n_zip : mg "zip" = none) (n_isinstance : mg "isinstance" = none) {f_Lsaid aCE : Addr} {d_Lsaid : FuncData} (F_Lsaid : Fun K "_law_said" "_law_said" s_Lsaid f_Lsaid d_Lsaid) (m_Lsaid : mg "_law_said" = some (.ref f_Lsaid)) (k_Lsaid : PySem.W.keepIn K (.ref f_Lsaid) = true) (b_Lsaid : L2.Binds K d_Lsaid ["_law_deed"] []) (g_CE : mg "ChainError" = some (.ref aCE)) (g_OP : mg "OutOfPlace" = some (.ref aOP)) (xc_OP : XC K aOP (bmI 13) (nwI 13)) (xm_OP : PySem.W.exmOne K (.ref aOP) (.ref aCE) = some true) (kt_OP : PySem.W.kitOne K (.ref aOP) (.ref aOP) = some true) (TB : TabB base mg c tb) (hT : TO T tb "law.<locals>.<lambda>") :
    Gd.FnG P w K mg base 15 f fd ["_law_script"] (spLaw K T) := by
  refine Gd.okGC F sc_law (fun vs H Q E h => by obtain ⟨a, ns, rfl, _⟩ := h; rfl) (fun A outer s H vs Q E hr hG h => ?_)
  obtain ⟨a, ns, rfl, hS, hlen, hTb, q⟩ := h
  have hu := hu_of hr
  refine ⟨_, (pss_cons (ps_for PassesOwn.never rfl (pi_enum (by rfl) n_enumerate (pa_cons (pe_op op_cat (pe_slice sl_list (pv 0) po_none (po_some pe_int)) (pe_lst (pa_cons (pe_callB (cr_sum rfl) (by rfl) n_sum (by decide +kernel) (pa_cons (pv 0) pa_nil)) pa_nil))) pa_nil)) (pg_tup (by rfl) (pgs_cons (pg_name (i := 1) sc_law.nd rfl (by first | exact .inl rfl | exact .inr rfl)) (pgs_cons (pg_name (i := 2) sc_law.nd rfl (by first | exact .inl rfl | exact .inr rfl)) pgs_nil)))
      (pss_cons (ps_set (i := 3) sc_law.nd rfl (by first | exact .inl rfl | exact .inr rfl) (pe_call c_Ldraw.G (hr.mono (by decide)) (by rfl) c_Ldraw.m c_Ldraw.k c_Ldraw.b .nil pass0 (pa_cons (pv 2) (pa_cons (pv 1) pa_nil))))
    (pss_cons (ps_asg (pe_tup (pa_cons (pe_call c_Lranking.G (hr.mono (by decide)) (by rfl) c_Lranking.m c_Lranking.k c_Lranking.b .nil pass0 (pa_cons (pv 3) pa_nil)) (pa_cons (pe_call c_Ldigit.G (hr.mono (by decide)) (by rfl) c_Ldigit.m c_Ldigit.k c_Ldigit.b .nil pass0 (pa_cons (pv 3) (pa_cons pe_int pa_nil))) pa_nil))) (pg_tup (by rfl) (pgs_cons (pg_name (i := 4) sc_law.nd rfl (by first | exact .inl rfl | exact .inr rfl)) (pgs_cons (pg_name (i := 5) sc_law.nd rfl (by first | exact .inl rfl | exact .inr rfl)) pgs_nil))))
    (pss_cons (ps_set (i := 6) sc_law.nd rfl (by first | exact .inl rfl | exact .inr rfl) (pe_ix ix_list (pe_lst (pa_cons (pe_call c_Lnumber.G (hr.mono (by decide)) (by rfl) c_Lnumber.m c_Lnumber.k c_Lnumber.b .nil pass0 (pa_cons (pv 3) pa_nil)) (pa_cons (pe_tup (pa_cons pe_int (pa_cons pe_int pa_nil))) pa_nil))) (pe_op op_fdiv (pe_call c_Ldigit.G (hr.mono (by decide)) (by rfl) c_Ldigit.m c_Ldigit.k c_Ldigit.b .nil pass0 (pa_cons (pv 3) (pa_cons pe_int pa_nil))) pe_int) (fun _ _ => rfl)))
    (pss_cons (ps_set (i := 7) sc_law.nd rfl (by first | exact .inl rfl | exact .inr rfl) (pe_ix ix_list (pe_lst (pa_cons (pv 5) (pa_cons (pv 5) (pa_cons (pv 5) (pa_cons (pe_call c_Ldigit.G (hr.mono (by decide)) (by rfl) c_Ldigit.m c_Ldigit.k c_Ldigit.b .nil pass0 (pa_cons (pv 3) (pa_cons pe_int pa_nil))) pa_nil))))) (pe_call c_Ldigit.G (hr.mono (by decide)) (by rfl) c_Ldigit.m c_Ldigit.k c_Ldigit.b .nil pass0 (pa_cons (pv 3) (pa_cons pe_int pa_nil))) (fun _ _ => rfl)))
    (pss_cons (ps_asg (pe_tup (pa_cons (pe_call c_Ljet.G (hr.mono (by decide)) (by rfl) c_Ljet.m c_Ljet.k c_Ljet.b .nil pass0 (pa_cons (pv 3) (pa_cons (pv 4) (pa_cons (pv 5) pa_nil)))) (pa_cons (pe_call c_Ljet.G (hr.mono (by decide)) (by rfl) c_Ljet.m c_Ljet.k c_Ljet.b .nil pass0 (pa_cons (pv 3) (pa_cons (pv 4) (pa_cons (pv 7) pa_nil)))) pa_nil))) (pg_tup (by rfl) (pgs_cons (pg_name (i := 8) sc_law.nd rfl (by first | exact .inl rfl | exact .inr rfl)) (pgs_cons (pg_name (i := 9) sc_law.nd rfl (by first | exact .inl rfl | exact .inr rfl)) pgs_nil))))
    (pss_cons (ps_asg (pe_tup (pa_cons (pe_callB (Gd.call_reprG hG hr.units) (by rfl) n_repr (by decide +kernel) (pa_cons (pe_tup (pa_cons (pv 8) (pa_cons (pv 9) pa_nil))) pa_nil)) (pa_cons (pe_call c_Ldigit.G (hr.mono (by decide)) (by rfl) c_Ldigit.m c_Ldigit.k c_Ldigit.b .nil pass0 (pa_cons (pv 3) (pa_cons (pe_op op_add (pv 5) pe_int) pa_nil))) pa_nil))) (pg_tup (by rfl) (pgs_cons (pg_name (i := 10) sc_law.nd rfl (by first | exact .inl rfl | exact .inr rfl)) (pgs_cons (pg_name (i := 11) sc_law.nd rfl (by first | exact .inl rfl | exact .inr rfl)) pgs_nil))))
    (pss_cons (ps_set (i := 12) sc_law.nd rfl (by first | exact .inl rfl | exact .inr rfl) (pe_lst (pa_cons (pe_call c_length_of.G (hr.mono (by decide)) (by rfl) c_length_of.m c_length_of.k c_length_of.b .nil L2.passL (pa_cons (pv 4) (pa_cons (pv 8) pa_nil))) (pa_cons (pe_call c_length_of.G (hr.mono (by decide)) (by rfl) c_length_of.m c_length_of.k c_length_of.b .nil L2.passL (pa_cons (pv 4) (pa_cons (pv 9) pa_nil))) (pa_cons (pe_call c_cut_jet.G (hr.mono (by decide)) (by rfl) c_cut_jet.m c_cut_jet.k c_cut_jet.b .nil L2.passL (pa_cons (pv 4) (pa_cons (pv 8) (pa_cons (pv 11) pa_nil)))) pa_nil)))))
    (pss_cons (ps_set (i := 13) sc_law.nd rfl (by first | exact .inl rfl | exact .inr rfl) (pe_lst (pa_cons (pv 5) (pa_cons (pv 7) (pa_cons (pe_callTy call_tuple_of (by rfl) n_tuple (by decide +kernel) (pa_cons (pe_lc (te := tVar 14) (tt := tTest (tOp (rI0 fun i j => .bl (decide (i < j))) (tOp (rI0 fun i j => .int (i + j)) (tOp (rIxT K) (tOp (rIxT K) (tVar 14) (tC (.int 0))) (tC (.int 1))) (tOp (rIxT K) (tOp (rIxT K) (tVar 14) (tC (.int 0))) (tC (.int 2)))) (tVar 11))) (own := [("_law_pair", 14)]) rfl sc_law.nd (pi_tup (pv 8)) (blkOk_by (N := N_law) (sc := defScope s_law) (by decide +kernel)) (fun _ _ _ _ _ => (pg_name (i := 14) sc_law.nd rfl (Or.inl rfl))) (fun _ _ _ _ _ => (pts_one (pt_cmpR op_lt (pe_op op_add (pe_ix ix_tup (pe_ix ix_tup (pv 14) pe_int (fun _ _ => rfl)) pe_int (fun _ _ => rfl)) (pe_ix ix_tup (pe_ix ix_tup (pv 14) pe_int (fun _ _ => rfl)) pe_int (fun _ _ => rfl))) (pv 11) (nomark _)))) (fun _ _ _ _ _ => (pv 14))) pa_nil)) pa_nil)))))
    (pss_cons (ps_expr (pe_bm PySem.F.plainAttrs_list PySem.F.slot_list_append PySem.F.type_list_append mt_append (pv 12) (pa_cons (pe_call c_scaled_jet.G (hr.mono (by decide)) (by rfl) c_scaled_jet.m c_scaled_jet.k c_scaled_jet.b .nil L2.passL (pa_cons (pv 4) (pa_cons (pv 8) (pa_cons (pv 6) pa_nil)))) pa_nil)))
    (pss_cons (ps_expr (pe_bm PySem.F.plainAttrs_list PySem.F.slot_list_append PySem.F.type_list_append mt_append (pv 13) (pa_cons (pe_callTy call_tuple_of (by rfl) n_tuple (by decide +kernel) (pa_cons (pe_lc (te := tTup (tCons (tVar 15) (tCons (tCall (spP (Rlow2 K)) [] E0 (tCons (tOp (rI CMul fun i j => .int (i * j)) (tOp (rIxT K) (tVar 16) (tC (.int 0))) (tOp (rIxT K) (tVar 6) (tC (.int 0)))) (tCons (tOp (rI CMul fun i j => .int (i * j)) (tOp (rIxT K) (tVar 16) (tC (.int 1))) (tOp (rIxT K) (tVar 6) (tC (.int 1)))) tNil))) tNil))) (own := [("_law_own", 15), ("_law_number_here", 16)]) (g := (gTup K 2 (gCons (gName 15) (gCons (gName 16) gNil)))) rfl sc_law.nd (pi_tup (pv 8)) (blkOk_by (N := N_law) (sc := defScope s_law) (by decide +kernel)) (fun _ _ _ _ _ => (pg_tup (by rfl) (pgs_cons (pg_name (i := 15) sc_law.nd rfl (Or.inl rfl)) (pgs_cons (pg_name (i := 16) sc_law.nd rfl (Or.inl rfl)) pgs_nil)))) (fun _ _ _ _ _ => pts_nil) (fun _ _ _ _ _ => (pe_tup (pa_cons (pv 15) (pa_cons (pe_call c_Llowest.G (hr.mono (by decide)) (by rfl) c_Llowest.m c_Llowest.k c_Llowest.b .nil pass0 (pa_cons (pe_op op_mul (pe_ix ix_tup (pv 16) pe_int (fun _ _ => rfl)) (pe_ix ix_tup (pv 6) pe_int (fun _ _ => rfl))) (pa_cons (pe_op op_mul (pe_ix ix_tup (pv 16) pe_int (fun _ _ => rfl)) (pe_ix ix_tup (pv 6) pe_int (fun _ _ => rfl))) pa_nil))) pa_nil))))) pa_nil)) pa_nil)))
    (pss_cons (ps_if (pt_cmpR op_eq (pv 7) (pv 5) (nomark _)) (pss_cons (ps_set (i := 17) sc_law.nd rfl (by first | exact .inl rfl | exact .inr rfl) (pe_lst pa_nil))
    (pss_cons (ps_for PassesOwn.never rfl (RZ.pi_zipA (by rfl) n_zip (pa_cons (pv 8) (pa_cons (pv 9) pa_nil))) (pg_tup (by rfl) (pgs_cons (pg_tup (by rfl) (pgs_cons (pg_name (i := 15) sc_law.nd rfl (by first | exact .inl rfl | exact .inr rfl)) (pgs_cons (pg_name (i := 18) sc_law.nd rfl (by first | exact .inl rfl | exact .inr rfl)) pgs_nil))) (pgs_cons (pg_tup (by rfl) (pgs_cons (pg_name (i := 19) sc_law.nd rfl (by first | exact .inl rfl | exact .inr rfl)) (pgs_cons (pg_name (i := 20) sc_law.nd rfl (by first | exact .inl rfl | exact .inr rfl)) pgs_nil))) pgs_nil)))
      (pss_one (ps_expr (pe_bm PySem.F.plainAttrs_list PySem.F.slot_list_append PySem.F.type_list_append mt_append (pv 17) (pa_cons (pe_tup (pa_cons (pv 15) (pa_cons (pe_call c_Llowest.G (hr.mono (by decide)) (by rfl) c_Llowest.m c_Llowest.k c_Llowest.b .nil pass0 (pa_cons (pe_op op_add (pe_op op_mul (pe_ix ix_tup (pv 18) pe_int (fun _ _ => rfl)) (pe_ix ix_tup (pv 20) pe_int (fun _ _ => rfl))) (pe_op op_mul (pe_ix ix_tup (pv 20) pe_int (fun _ _ => rfl)) (pe_ix ix_tup (pv 18) pe_int (fun _ _ => rfl)))) (pa_cons (pe_op op_mul (pe_ix ix_tup (pv 18) pe_int (fun _ _ => rfl)) (pe_ix ix_tup (pv 20) pe_int (fun _ _ => rfl))) pa_nil))) pa_nil))) pa_nil)))))
    (pss_cons (ps_expr (pe_bm PySem.F.plainAttrs_list PySem.F.slot_list_append PySem.F.type_list_append mt_append (pv 12) (pa_cons (pe_call c_added_jets.G (hr.mono (by decide)) (by rfl) c_added_jets.m c_added_jets.k c_added_jets.b .nil L2.passL (pa_cons (pv 4) (pa_cons (pv 8) (pa_cons (pv 9) pa_nil)))) pa_nil)))
    (pss_one (ps_expr (pe_bm PySem.F.plainAttrs_list PySem.F.slot_list_append PySem.F.type_list_append mt_append (pv 13) (pa_cons (pe_callTy call_tuple_of (by rfl) n_tuple (by decide +kernel) (pa_cons (pv 17) pa_nil)) pa_nil))))))) (pss_one (ps_if (pt_not (pt_val (pe_said (T := T) (k := 11) (t := fun E => tCallS (spOT T (RaddJ K aOP)) (WE fun cls d _ H => E cls d H) _) F_Lsaid m_Lsaid k_Lsaid b_Lsaid n_isinstance g_CE g_OP xc_OP xm_OP kt_OP TB rfl hT (hr.mono (by decide)) (by rfl) (lamS_by (sc := defScope s_law) (by decide +kernel)) rfl (fun _ _ _ _ _ => rfl)
      (fun A' outer' s0 H0 E0 f' c' hr' => pe_callS c_added_jets.G (hr'.mono (by decide)) (by rfl) c_added_jets.m c_added_jets.k c_added_jets.b (fun σ => passAt (L2.takes_of rfl rfl rfl rfl) σ) (pa_cons (pv 4) (pa_cons (pv 8) (pa_cons (pv 9) pa_nil))))))) (pss_one (ps_ret pe_bl)) pss_nil)))
    (pss_cons (ps_if (PW.pt (pw_or (pt_cmpR op_ne (pe_callB (Gd.call_reprG hG hr.units) (by rfl) n_repr (by decide +kernel) (pa_cons (pv 12) pa_nil)) (pe_callB (Gd.call_reprG hG hr.units) (by rfl) n_repr (by decide +kernel) (pa_cons (pv 13) pa_nil)) (nomark _)) (pw_or1 (pt_cmpR op_ne (pe_callB (Gd.call_reprG hG hr.units) (by rfl) n_repr (by decide +kernel) (pa_cons (pe_tup (pa_cons (pv 8) (pa_cons (pv 9) pa_nil))) pa_nil)) (pv 10) (nomark _))))) (pss_one (ps_ret pe_bl)) pss_nil)
    (pss_one (ps_if (PW.pt (pw_or (pt_not (pt_val (pe_said (T := T) (k := 11) (t := fun E => tCallS (spOT T (RcutO K aOP)) (WE fun cls d _ H => E cls d H) _) F_Lsaid m_Lsaid k_Lsaid b_Lsaid n_isinstance g_CE g_OP xc_OP xm_OP kt_OP TB rfl hT (hr.mono (by decide)) (by rfl) (lamS_by (sc := defScope s_law) (by decide +kernel)) rfl (fun _ _ _ _ _ => rfl)
      (fun A' outer' s0 H0 E0 f' c' hr' => pe_callS c_cut_jet.G (hr'.mono (by decide)) (by rfl) c_cut_jet.m c_cut_jet.k c_cut_jet.b (fun σ => passAt (L2.takes_of rfl rfl rfl rfl) σ) (pa_cons (pv 4) (pa_cons (pv 8) (pa_cons (pe_op op_add (pv 5) pe_int) pa_nil))))))) (pw_or1 (pt_cmpR (show OpR _ (compareOp .NotEq) (rNeD K) from op_neD hr.units) (pe_call c_cut_jet.G (hr.mono (by decide)) (by rfl) c_cut_jet.m c_cut_jet.k c_cut_jet.b .nil L2.passL (pa_cons (pv 4) (pa_cons (pv 8) (pa_cons (pv 5) pa_nil)))) (pv 8) (nomark _))))) (pss_one (ps_ret pe_bl)) pss_nil)))))))))))))))
    (pss_one (ps_ret (pe_call0 c_Lbounds_right.G (hr.mono (by decide)) (by rfl) c_Lbounds_right.m c_Lbounds_right.k c_Lbounds_right.b .nil pass0)))), ?_⟩
  walk_at "go"
  refine ⟨a, _, rfl, hS, fun p1 hp1 => ?_⟩
  walk_at "go"
  refine ⟨a, ns, rfl, (Same.seq (My.new hp1) hS), ?_⟩
  refine ⟨by show 1 ≤ sizeLine; decide, fun p2 hp2 => ?_⟩
  have n12 : p1 ≠ p2 := ne_of_none upd_same hp2
  refine ⟨p1, p2, _, _, rfl, rfl, by rw [upd_ne n12]; exact upd_same, upd_same, ?_, fun p3 hp3 => ?_⟩
  · have := My.cutTo (ns.map V.int) 3
    rw [show (3 : Int) = ((3 : Nat) : Int) from rfl, this, List.length_take]
    exact sz_of (by simp only [List.length_singleton]; omega)
  rw [show (3 : Int) = ((3 : Nat) : Int) from rfl, My.cutTo, ← List.map_take, show [V.int ns.sum] = [ns.sum].map V.int from rfl, ← List.map_append] at *
  have hT3 := ((hTb.ext (Ex.new hp1)).ext (Ex.new hp2)).ext (Ex.new (o := .lst ((ns.take 3 ++ [ns.sum]).map V.int)) hp3)
  generalize hcs : ns.take 3 ++ [ns.sum] = cs at hT3
  have hcl : cs.length ≤ 4 := by
    rw [← hcs, List.length_append, List.length_take]
    simp only [List.length_singleton]
    omega
  refine ⟨p3, cs.map V.int, rfl, sq_of upd_same, for_it (walk_enum (K := K) (a := p3) (xs := cs.map V.int)) (fun i σ H' => Tabs T H' ∧ H' p3 = some (.lst (cs.map V.int)) ∧ ∃ x1 x2 x3 x4 x5 x6 x7 x8 x9 x10 x11 x12 x13 x15 x17 x18 x19 x20 : Option V, σ = [some (.ref a), x1, x2, x3, x4, x5, x6, x7, x8, x9, x10, x11, x12, x13, none, x15, none, x17, x18, x19, x20])
    ⟨hT3, upd_same, none, none, none, none, none, none, none, none, none, none, none, none, none, none, none, none, none, none, rfl⟩ (fun i σ H' _ h => sq_of h.2.1) ?_ ?_⟩
  rotate_left
  · rintro σ H1 h
    dsimp only
    refine b_ret (c_call (b_nil ?_))
    exact ⟨fun _ => none, rfl, ⟨(fun b o e => by cases e), (fun b ps e => by cases e), h.1⟩, fun H' _ _ => q H'⟩
  rintro i v σ H1 H2 hi ⟨t1, h3, x1, x2, x3, x4, x5, x6, x7, x8, x9, x10, x11, x12, x13, x15, x17, x18, x19, x20, rfl⟩ ⟨t, x, y, rfl, ht, rfl, hx, hy⟩
  obtain rfl := Option.some.inj hx
  rw [List.length_map] at hi
  obtain ⟨z, rfl⟩ : ∃ z : Int, y = V.int z := by
    have hy' : (cs.map V.int)[i]? = some y := hy
    rw [List.getElem?_map, List.getElem?_eq_getElem hi] at hy'
    exact ⟨_, (Option.some.inj hy').symm⟩
  have h3' : upd H1 t (HO.tup [V.int (i : Nat), V.int z]) p3 = some (.lst (cs.map V.int)) := by
    rw [upd_ne (ne_of_none h3 ht)]
    exact h3
  have T2 : Tabs T (upd H1 t (HO.tup [V.int (i : Nat), V.int z])) := t1.ext (Ex.new ht)
  refine ⟨t, _, rfl, st_of upd_same, rfl, _, _, rfl, _, _, rfl, rfl, ?_⟩
  generalize upd H1 t (HO.tup [V.int (i : Nat), V.int z]) = H2 at h3' T2 ⊢
  walk_at "go"
  refine ⟨z, (i : Nat), rfl, by omega, by omega, fun d Hd hd0 hDS S => ?_⟩
  have hd3 := S _ _ h3'
  have nd3 : p3 ≠ d := ne_of_none h3' hd0
  have Td : Tabs T Hd := T2.ext S
  dsimp only [gName, List.set_cons_succ, List.set_cons_zero]
  let C0 : Hp := upd (fun _ => none) p3 (.lst (cs.map V.int))
  have cp : C0 p3 = some (.lst (cs.map V.int)) := upd_same
  have k0 : Kx T d 1000000 C0 Hd := by
    refine ⟨fun b o e => ?_, nt_upd (fun _ _ z => nomatch z) (fun _ z => nomatch z), Td, by show upd (fun _ => none) p3 _ d = none; rw [upd_ne nd3.symm], hDS⟩
    by_cases n : b = p3
    · subst n
      have e : C0 b = some o := e
      rw [cp] at e
      rw [← e]
      exact hd3
    · have e : upd (fun _ => none) p3 (.lst (cs.map V.int)) b = some o := e
      rw [upd_ne n] at e
      cases e
  -- the ranking, the size
  refine b_seq (b_asg (b_tup (b_cons (c_call (b_cons ⟨_, rfl, b_nil ?_⟩)))))
  refine ⟨C0, d, 1000000, rfl, k0, by decide, fun r vr B1 H3 hok k1 g1 hR => ?_⟩
  have cp := g1.b _ _ cp
  refine b_cons ?_
  refine x_digit (z := 6) k1 rfl ev_c (by decide) (by decide) (by omega) fun m1 H4 m10 m11 k2 g2 => b_nil ⟨by show 2 ≤ sizeLine; decide, fun p4 hp4 => ?_⟩
  obtain ⟨s, rfl⟩ : ∃ s : Nat, m1 = (s : Int) := ⟨m1.toNat, by omega⟩
  have hs5 : s ≤ 5 := by omega
  have k3 := k2.ex (Ex.new (o := .tup [vr, .int (s : Int)]) hp4)
  refine ⟨p4, _, rfl, st_of upd_same, rfl, _, _, rfl, _, _, rfl, rfl, ?_⟩
  generalize upd H4 p4 (.tup [vr, .int (s : Int)]) = H5 at k3 ⊢
  clear k1 k2 g1 g2 k0 hd3 hDS
  dsimp only [gName, List.set_cons_succ, List.set_cons_zero]
  -- the fraction
  refine b_seq (b_asg (b_op (b_lst (b_cons (c_call (b_cons ⟨_, rfl, b_nil ?_⟩))))))
  refine ⟨B1, d, _, rfl, k3, by omega, fun s1 v1 B2 H6 hs1 k4 g4 hv1 => ?_⟩
  refine b_cons (b_tup (b_cons (b_c (b_cons (b_c (b_nil ⟨by show 2 ≤ sizeLine; decide, fun p5 hp5 => ?_⟩))))))
  have n1 := Gr.new (B := B2) (.tup [.int 0, .int 1]) k4.e hp5
  have k5 := k4.gr n1
  refine b_nil ?_
  refine ⟨by show 2 ≤ sizeLine; decide, fun p6 hp6 => ?_⟩
  have n2 := Gr.new (.lst [v1, .ref p5]) k5.e hp6
  have k6 := k5.gr n2
  have hl2 : (LsP [rtP K s1, rtP K 0]).P (.ref p6) (upd (upd B2 p5 (.tup [.int 0, .int 1])) p6 (.lst [v1, .ref p5])) := ⟨p6, _, rfl, upd_same, (rtP K s1).m (n1.b.trans n2.b) hv1, by rw [rt_zero]; exact ⟨p5, _, rfl, st_of (n2.b _ _ upd_same), rfl, rfl, trivial⟩, trivial⟩
  refine b_op (x_digit (z := 4) k6 rfl ev_c (by decide) (by decide) (by omega) fun m2 H7 m20 m21 k7 g7 => b_c ⟨m2, 3, rfl, rfl, ⟨by decide, by decide⟩, ?_⟩)
  refine x_at k7.e hl2 (by omega) (by show m2 / 3 < 2; omega) fun j p vb hp hb => ?_
  obtain ⟨by_, hby, rfl⟩ : ∃ s2 : Rat, NumZ s2 ∧ p = rtP K s2 := by
    match j, hp with
    | 0, hp => exact ⟨s1, hs1.2, (Option.some.inj hp).symm⟩
    | 1, hp => exact ⟨0, numZ_0, (Option.some.inj hp).symm⟩
    | j + 2, hp => cases hp
  have G1 := g4.trans ((GX.gr (n1.trans n2)).trans g7)
  have hR := (RkP K r).m G1.b hR
  have cp := G1.b _ _ cp
  clear k3 k4 k5 k6 hl2 n1 n2 g4 g7 hv1
  generalize upd (upd B2 p5 (.tup [.int 0, .int 1])) p6 (.lst [v1, .ref p5]) = B3 at k7 hb hR cp ⊢
  dsimp only [gName, List.set_cons_succ, List.set_cons_zero]
  -- how far the other one goes
  refine b_seq (b_asg (b_op (b_lst (b_cons ⟨_, rfl, b_cons ⟨_, rfl, b_cons ⟨_, rfl, b_cons ?_⟩⟩⟩))))
  refine x_digit (z := 6) k7 rfl ev_c (by decide) (by decide) (by omega) fun m3 H8 m30 m31 k8 g8 => b_nil ⟨by show 4 ≤ sizeLine; decide, fun p7 hp7 => ?_⟩
  have n3 := Gr.new (B := B3) (.lst [.int (s : Int), .int (s : Int), .int (s : Int), .int m3]) k8.e hp7
  have k9 := k8.gr n3
  have hl4 : (LsP [IsV (.int (s : Int)), IsV (.int (s : Int)), IsV (.int (s : Int)), IsV (.int m3)]).P (.ref p7) (upd B3 p7 (.lst [.int (s : Int), .int (s : Int), .int (s : Int), .int m3])) := ⟨p7, _, rfl, upd_same, rfl, rfl, rfl, rfl, trivial⟩
  refine x_pickV k9 hl4 rfl rfl (by show 0 < 4; decide) (by show 4 < 1000; decide) (by omega) fun j p vf H9 hp k10 g10 hvf => ?_
  obtain ⟨f, hf5, rfl⟩ : ∃ f : Nat, f ≤ 5 ∧ p = IsV (.int (f : Int)) := by
    match j, hp with
    | 0, hp => exact ⟨s, hs5, (Option.some.inj hp).symm⟩
    | 1, hp => exact ⟨s, hs5, (Option.some.inj hp).symm⟩
    | 2, hp => exact ⟨s, hs5, (Option.some.inj hp).symm⟩
    | 3, hp => exact ⟨m3.toNat, by omega, by rw [show ((m3.toNat : Nat) : Int) = m3 by omega]; exact (Option.some.inj hp).symm⟩
    | j + 4, hp => cases hp
  obtain rfl : vf = _ := hvf
  have hR := (RkP K r).m n3.b hR
  have hb := (rtP K by_).m n3.b hb
  have cp := n3.b _ _ cp
  clear k7 k8 k9 hl4 n3 g8 g10 G1
  generalize upd B3 p7 (.lst [.int (s : Int), .int (s : Int), .int (s : Int), .int m3]) = B4 at k10 hR hb cp ⊢
  dsimp only [gName, List.set_cons_succ, List.set_cons_zero]
  -- the jets
  refine b_seq (b_asg (b_tup (b_cons (c_call (b_cons ⟨_, rfl, b_cons ⟨_, rfl, b_cons ⟨_, rfl, b_nil ?_⟩⟩⟩)))))
  refine ⟨B4, d, _, s, r, vr, rfl, by omega, hok, hR, k10, by omega, fun js vj B5 H10 lj k11 g11 hj => ?_⟩
  have hR := (RkP K r).m g11.b hR
  have hb := (rtP K by_).m g11.b hb
  have cp := g11.b _ _ cp
  refine b_cons (c_call (b_cons ⟨_, rfl, b_cons ⟨_, rfl, b_cons ⟨_, rfl, b_nil ?_⟩⟩⟩))
  refine ⟨B5, d, _, f, r, vr, rfl, by omega, hok, hR, k11, by omega, fun ks vk B6 H11 lk k12 g12 hk => ?_⟩
  have hR := (RkP K r).m g12.b hR
  have hb := (rtP K by_).m g12.b hb
  have hj := (jtP K js).m g12.b hj
  have cp := g12.b _ _ cp
  refine b_nil ⟨by show 2 ≤ sizeLine; decide, fun p8 hp8 => ?_⟩
  have k13 := k12.ex (Ex.new (o := .tup [vj, vk]) hp8)
  refine ⟨p8, _, rfl, st_of upd_same, rfl, _, _, rfl, _, _, rfl, rfl, ?_⟩
  generalize upd H11 p8 (.tup [vj, vk]) = H12 at k13 ⊢
  clear k10 k11 k12 g11 g12
  have sj := lj.js hok hs5
  have sk := lk.js hok hf5
  have oj := lj.ok hok (by omega)
  have ok_ := lk.ok hok (by omega)
  have dj := lj.good hok (by omega)
  have dk := lk.good hok (by omega)
  have s2 := shw_two hok sj sk
  dsimp only [gName, List.set_cons_succ, List.set_cons_zero]
  -- their text, and where the first is cut
  refine b_seq (b_asg (b_tup (b_cons ?_)))
  refine ev_rep (K := K) (d := .tuple [jtD js, jtD ks]) (p_to (p_tup (K := K) (ps := [jtP K js, jtP K ks]) (q_cons (p_var (i := 8) rfl hj) (q_cons (p_var (i := 9) rfl hk) q_nil)) (by show 2 ≤ 100000; decide)) (to_tup (.cons (to_jt js) (.cons (to_jt ks) .nil)))) s2 H12 k13.e _ fun H13 e13 => b_cons ?_
  refine x_digit (z := (s : Int) + 1) (k13.ex e13) rfl (ev_op (ev_var (i := 5) rfl) ev_c rv_I0) (by omega) (by omega) (by omega) fun m4 H14 m40 m41 k14 g14 => b_nil ⟨by show 2 ≤ sizeLine; decide, fun p9 hp9 => ?_⟩
  obtain ⟨e, rfl⟩ : ∃ e : Nat, m4 = (e : Int) := ⟨m4.toNat, by omega⟩
  have k15 := k14.ex (Ex.new (o := .tup [.str (PyData.tuple [jtD js, jtD ks]).shown, .int (e : Int)]) hp9)
  refine ⟨p9, _, rfl, st_of upd_same, rfl, _, _, rfl, _, _, rfl, rfl, ?_⟩
  generalize upd H14 p9 (.tup [.str (PyData.tuple [jtD js, jtD ks]).shown, .int (e : Int)]) = H15 at k15 ⊢
  clear k13 k14 g14
  dsimp only [gName, List.set_cons_succ, List.set_cons_zero]
  -- what is told
  refine b_seq (b_asg (b_lst (b_cons ?_)))
  refine t_callO k15.kn (q_cons (p_var (i := 4) rfl hR) (q_cons (p_var (i := 8) rfl hj) q_nil)) ⟨r, js, hok, oj, rfl, .inl ⟨s, dj, rfl⟩⟩ fun w1 B7 H16 g16 hw => b_cons ?_
  obtain rfl : w1 = .int (s : Int) := hw
  have k16 := k15.gt g16
  have hR := (RkP K r).m g16.b hR
  have hb := (rtP K by_).m g16.b hb
  have hj := (jtP K js).m g16.b hj
  have hk := (jtP K ks).m g16.b hk
  have cp := g16.b _ _ cp
  refine t_callO k16.kn (q_cons (p_var (i := 4) rfl hR) (q_cons (p_var (i := 9) rfl hk) q_nil)) ⟨r, ks, hok, ok_, rfl, .inl ⟨f, dk, rfl⟩⟩ fun w1 B8 H17 g17 hw => b_cons ?_
  obtain rfl : w1 = .int (f : Int) := hw
  have k17 := k16.gt g17
  have hR := (RkP K r).m g17.b hR
  have hb := (rtP K by_).m g17.b hb
  have hj := (jtP K js).m g17.b hj
  have hk := (jtP K ks).m g17.b hk
  have cp := g17.b _ _ cp
  refine t_callO k17.kn (q_cons (p_var (i := 4) rfl hR) (q_cons (p_var (i := 8) rfl hj) (q_cons (p_varV (i := 11) (v := .int (e : Int)) rfl) q_nil))) ⟨r, js, s, (e : Int), hok, oj, dj, by omega, by omega, rfl, .inl ⟨by omega, rfl⟩⟩ fun w1 B9 H18 g18 hw => b_nil ⟨by show 3 ≤ sizeLine; decide, fun pt hpt => ?_⟩
  have k18 := k17.gt g18
  have hR := (RkP K r).m g18.b hR
  have hb := (rtP K by_).m g18.b hb
  have hj := (jtP K js).m g18.b hj
  have hk := (jtP K ks).m g18.b hk
  have cp := g18.b _ _ cp
  have t19 := Tl.new (xs := [.int (s : Int), .int (f : Int), w1]) (ps := [IsV (.int (s : Int)), IsV (.int (f : Int)), jtP K (cutJ js e)]) k18 hpt ⟨rfl, rfl, hw, trivial⟩
  have k19 := k18.ex (Ex.new (o := .lst [.int (s : Int), .int (f : Int), w1]) hpt)
  generalize upd H18 pt (.lst [.int (s : Int), .int (f : Int), w1]) = H19 at k19 t19 ⊢
  clear k15 k16 k17 k18 g16 g17 g18
  dsimp only [gName, List.set_cons_succ, List.set_cons_zero]
  -- what is due
  have cut : EvP (tCB (fun xs H Q => ∃ p ys, xs = [V.ref p] ∧ ((SqL K H p ys ∧ ∀ l, H l = none → Q (.ref l) (upd H l (.tup ys))) ∨ (SqT K H p ys ∧ Q (.ref p) H))) (tCons (tLc (iTup K (tVar 8)) (gName 14) ( tTest (tOp (rI0 fun i j => .bl (decide (i < j))) (tOp (rI0 fun i j => .int (i + j)) (tOp (rIxT K) (tOp (rIxT K) (tVar 14) (tC (.int 0))) (tC (.int 1))) (tOp (rIxT K) (tOp (rIxT K) (tVar 14) (tC (.int 0))) (tC (.int 2)))) (tVar 11))) (tVar 14) [14]) tNil)) [some (.ref a), some (.int (i : Nat)), some (.int z), some (.ref d), some vr, some (.int (s : Nat)), some vb, some (.int (f : Nat)), some vj, some vk, some (.str (PyData.tuple [jtD js, jtD ks]).shown), some (.int (e : Nat)), some (.ref pt), x13, none, x15, none, x17, x18, x19, x20] B9 (jtP K (cutJ js e)) := by
    have := p_lcS (g := gName 14) (tt := ( tTest (tOp (rI0 fun i j => .bl (decide (i < j))) (tOp (rI0 fun i j => .int (i + j)) (tOp (rIxT K) (tOp (rIxT K) (tVar 14) (tC (.int 0))) (tC (.int 1))) (tOp (rIxT K) (tOp (rIxT K) (tVar 14) (tC (.int 0))) (tC (.int 2)))) (tVar 11)))) (te := tVar 14) (σ := [some (.ref a), some (.int (i : Nat)), some (.int z), some (.ref d), some vr, some (.int (s : Nat)), some vb, some (.int (f : Nat)), some vj, some vk, some (.str (PyData.tuple [jtD js, jtD ks]).shown), some (.int (e : Nat)), some (.ref pt), x13, none, x15, none, x17, x18, x19, x20]) (vs := [14]) (src_tu (K := K) (p_var (i := 8) rfl hj)) (by rw [List.length_map]; have := sj.le; omega) (fun i => decide ((js.getD i (⟨"", 0, 0⟩, 0)).1.i + (js.getD i (⟨"", 0, 0⟩, 0)).1.j < (e : Int))) (fun i => jpP K (js.getD i (⟨"", 0, 0⟩, 0))) fun ii v B5 hi e5 pv => by
      rw [List.length_map] at hi
      rw [getD_map hi] at pv
      have ej : js.getD ii (⟨"", 0, 0⟩, 0) = js[ii] := by rw [List.getD_eq_getElem?_getD, List.getElem?_eq_getElem hi]; rfl
      rw [ej]
      refine ⟨[some (.ref a), some (.int (i : Nat)), some (.int z), some (.ref d), some vr, some (.int (s : Nat)), some vb, some (.int (f : Nat)), some vj, some vk, some (.str (PyData.tuple [jtD js, jtD ks]).shown), some (.int (e : Nat)), some (.ref pt), x13, some v, x15, none, x17, x18, x19, x20], rfl, fun H2 Q e q => q, ?_, fun _ => p_var rfl pv⟩
      have p0 := fun (σ : L2.St) (hσ : σ[14]? = some (some v)) => p_ixT (K := K) (p_var (p := jpP K js[ii]) (B := B5) hσ pv) (p_c (v := .int 0)) rfl
      exact et_test (ev_op (ev_op (p_ixD1 (K := K) (p0 _ rfl)) (p_ixD2 (K := K) (p0 _ rfl)) rv_I0) (ev_var rfl) rv_I0)
    rw [List.length_map, keep_map js (⟨"", 0, 0⟩, 0) (fun x => decide (x.1.i + x.1.j < (e : Int))) (jpP K)] at this
    exact p_tupOf (K := K) (p_lq this)
  refine b_seq (b_asg (b_lst (b_cons ⟨_, rfl, b_cons ⟨_, rfl, b_cons (cut H19 k19.e _ fun w2 B10 H20 g20 hw2 => b_nil ⟨by show 3 ≤ sizeLine; decide, fun pd hpd => ?_⟩)⟩⟩)))
  have k20 := k19.gr g20
  have t20 := t19.gx (GX.gr g20)
  have hR := (RkP K r).m g20.b hR
  have hb := (rtP K by_).m g20.b hb
  have hj := (jtP K js).m g20.b hj
  have hk := (jtP K ks).m g20.b hk
  have cp := g20.b _ _ cp
  have u21 := Tl.new (xs := [.int (s : Int), .int (f : Int), w2]) (ps := [IsV (.int (s : Int)), IsV (.int (f : Int)), jtP K (cutJ js e)]) k20 hpd ⟨rfl, rfl, hw2, trivial⟩
  have ntd : pt ≠ pd := t20.ne hpd
  have t21 := t20.upd (o := .lst [.int (s : Int), .int (f : Int), w2]) ntd
  have k21 := k20.ex (Ex.new (o := .lst [.int (s : Int), .int (f : Int), w2]) hpd)
  generalize upd H20 pd (.lst [.int (s : Int), .int (f : Int), w2]) = H21 at k21 t21 u21 ⊢
  clear k19 k20 t19 t20 g20 cut
  dsimp only [gName, List.set_cons_succ, List.set_cons_zero]
  -- so many times
  obtain ⟨xs21, ht21, _⟩ := t21.h
  refine b_seq (b_app rfl ht21 ?_)
  refine t_callO k21.kn (q_cons (p_var (i := 4) rfl hR) (q_cons (p_var (i := 8) rfl hj) (q_cons (p_var (i := 6) rfl hb) q_nil))) ⟨r, js, s, by_, hok, oj, dj, lj.sm, numZ_sm hby, rfl, rfl⟩ fun w3 B11 H22 g22 hw3 => ?_
  have k22 := k21.gt g22
  have t22 := t21.gx (GX.gt g22)
  have u22 := u21.gx (GX.gt g22)
  have hR := (RkP K r).m g22.b hR
  have hb := (rtP K by_).m g22.b hb
  have hj := (jtP K js).m g22.b hj
  have hk := (jtP K ks).m g22.b hk
  have cp := g22.b _ _ cp
  refine t22.put k22 hw3 (by show 3 < 1000; decide) fun H23 k23 t23 o23 => ?_
  have u23 := o23 _ _ ntd.symm u22
  clear ht21 k21 k22 t21 t22 u21 u22 g22 o23
  dsimp only
  obtain ⟨xs23, hu23, _⟩ := u23.h
  refine b_seq (b_app rfl hu23 ?_)
  have sca : EvP (tCB (fun xs H Q => ∃ p ys, xs = [V.ref p] ∧ ((SqL K H p ys ∧ ∀ l, H l = none → Q (.ref l) (upd H l (.tup ys))) ∨ (SqT K H p ys ∧ Q (.ref p) H))) (tCons (tLc (iTup K (tVar 8)) (gTup K 2 (gCons (gName 15) (gCons (gName 16) gNil))) tYes (tTup (tCons (tVar 15) (tCons (tCall (spP (Rlow2 K)) [] E0 (tCons (tOp (rI CMul fun i j => .int (i * j)) (tOp (rIxT K) (tVar 16) (tC (.int 0))) (tOp (rIxT K) (tVar 6) (tC (.int 0)))) (tCons (tOp (rI CMul fun i j => .int (i * j)) (tOp (rIxT K) (tVar 16) (tC (.int 1))) (tOp (rIxT K) (tVar 6) (tC (.int 1)))) tNil))) tNil))) [15, 16]) tNil)) [some (.ref a), some (.int (i : Nat)), some (.int z), some (.ref d), some vr, some (.int (s : Nat)), some vb, some (.int (f : Nat)), some vj, some vk, some (.str (PyData.tuple [jtD js, jtD ks]).shown), some (.int (e : Nat)), some (.ref pt), some (.ref pd), none, x15, none, x17, x18, x19, x20] B11 (jtP K (js.map fun x => (x.1, x.2 * by_))) := by
    have := p_lcS (g := gTup K 2 (gCons (gName 15) (gCons (gName 16) gNil))) (tt := tYes) (te := (tTup (tCons (tVar 15) (tCons (tCall (spP (Rlow2 K)) [] E0 (tCons (tOp (rI CMul fun i j => .int (i * j)) (tOp (rIxT K) (tVar 16) (tC (.int 0))) (tOp (rIxT K) (tVar 6) (tC (.int 0)))) (tCons (tOp (rI CMul fun i j => .int (i * j)) (tOp (rIxT K) (tVar 16) (tC (.int 1))) (tOp (rIxT K) (tVar 6) (tC (.int 1)))) tNil))) tNil)))) (σ := [some (.ref a), some (.int (i : Nat)), some (.int z), some (.ref d), some vr, some (.int (s : Nat)), some vb, some (.int (f : Nat)), some vj, some vk, some (.str (PyData.tuple [jtD js, jtD ks]).shown), some (.int (e : Nat)), some (.ref pt), some (.ref pd), none, x15, none, x17, x18, x19, x20]) (vs := [15, 16]) (src_tu (K := K) (p_var (i := 8) rfl hj)) (by rw [List.length_map]; have := sj.le; omega) (fun _ => true) (fun i => jpP K ((fun x : Dv × Rat => (x.1, x.2 * by_)) (js.getD i (⟨"", 0, 0⟩, 0)))) fun ii v B5 hi e5 pv => by
      rw [List.length_map] at hi
      rw [getD_map hi] at pv
      have ej : js.getD ii (⟨"", 0, 0⟩, 0) = js[ii] := by rw [List.getD_eq_getElem?_getD, List.getElem?_eq_getElem hi]; rfl
      rw [ej]
      obtain ⟨p3, ys, rfl, hp3, al⟩ := pv
      obtain ⟨y1, y2, rfl, m1, m2⟩ := all2 al
      refine ⟨[some (.ref a), some (.int (i : Nat)), some (.int z), some (.ref d), some vr, some (.int (s : Nat)), some vb, some (.int (f : Nat)), some vj, some vk, some (.str (PyData.tuple [jtD js, jtD ks]).shown), some (.int (e : Nat)), some (.ref pt), some (.ref pd), none, some y1, some y2, x17, x18, x19, x20], rfl, fun H2 Q e q => ⟨p3, _, rfl, ex_t e hp3, rfl, _, _, rfl, _, _, rfl, rfl, q⟩, et_yes, fun _ => ?_⟩
      exact p_tup (K := K) (q_cons (p_var rfl m1) (q_cons (p_lowM (p_var rfl m2) (p_var rfl ((rtP K by_).m e5 hb)) (numZ_n (lj.2 _ (List.getElem_mem hi))) (numZ_n hby)) q_nil)) (by show 2 ≤ 100000; decide)
    rw [List.length_map, all_map js (⟨"", 0, 0⟩, 0) (fun z => jpP K ((fun x : Dv × Rat => (x.1, x.2 * by_)) z))] at this
    refine p_tupOf (K := K) (ps := (js.map fun x => (x.1, x.2 * by_)).map (jpP K)) ?_
    rw [List.map_map]
    exact p_lq this
  refine sca H23 k23.e _ fun w4 B12 H24 g24 hw4 => ?_
  have k24 := k23.gr g24
  have t24 := t23.gx (GX.gr g24)
  have u24 := u23.gx (GX.gr g24)
  have hR := (RkP K r).m g24.b hR
  have hb := (rtP K by_).m g24.b hb
  have hj := (jtP K js).m g24.b hj
  have hk := (jtP K ks).m g24.b hk
  have cp := g24.b _ _ cp
  refine u24.put k24 hw4 (by show 3 < 1000; decide) fun H25 k25 u25 o25 => ?_
  have t25 := o25 _ _ ntd t24
  clear hu23 k23 k24 t23 t24 u23 u24 g24 o25 sca
  dsimp only
  -- both ways
  refine b_seq (two_ways (P := fun σ' H' => ∃ (B' : Hp) (n' : Nat) (l : List (List (Dv × Rat))) (y15 y17 y18 y19 y20 : Option V), Kx T d n' B' H' ∧ Ex B12 B' ∧ Tl d B' H' pt (IsV (.int (s : Int)) :: IsV (.int (f : Int)) :: l.map (jtP K)) ∧ Tl d B' H' pd (IsV (.int (s : Int)) :: IsV (.int (f : Int)) :: l.map (jtP K)) ∧ (∀ j ∈ l, JS r j) ∧ l.length ≤ 3 ∧ σ' = [some (.ref a), some (.int (i : Nat)), some (.int z), some (.ref d), some vr, some (.int (s : Nat)), some vb, some (.int (f : Nat)), some vj, some vk, some (.str (PyData.tuple [jtD js, jtD ks]).shown), some (.int (e : Nat)), some (.ref pt), some (.ref pd), none, y15, none, y17, y18, y19, y20]) (fun σ' H' hp => ?_) fun rest => ?_)
  rotate_left
  · by_cases hfs : f = s
    · refine My.ps_ifT k25.e (et_is (et_test (ev_op (ev_var rfl) (ev_var rfl) (rv_eq rfl))) (by rw [hfs]; simp)) fun H26 e26 => ?_
      have k26 := k25.ex e26
      have t26 := t25.gx (GX.ex e26)
      have u26 := u25.gx (GX.ex e26)
      refine b_seq (b_asg (b_lst (b_nil ⟨by decide, fun psu hps => ?_⟩)))
      have A0 := acc_new k26.e hps
      dsimp only [gName, List.set_cons_succ, List.set_cons_zero]
      have hlen : js.length = ks.length := by
        have e1 := congrArg List.length lj.1
        have e2 := congrArg List.length lk.1
        rw [List.length_map] at e1 e2
        rw [hfs] at e2
        omega
      refine b_seq (ps_forX (B := B12) A0.ex (srcX_zipT (K := K) (ps := js.map (jpP K)) (qs := ks.map (jpP K)) (q_cons (p_var (i := 8) rfl hj) (q_cons (p_var (i := 9) rfl hk) q_nil)) (by rw [List.length_map, List.length_map]; exact hlen)) fun C1 H27 gC => ?_)
      have A1 := A0.step gC
      refine ⟨fun ii σ' H' => ∃ (Bi : Hp) (y15 y18 y19 y20 : Option V), AccAt B12 H26 psu (((sumJ js ks).take ii).map (jpP K)) Bi H' ∧ Ex C1 Bi ∧ σ' = [some (.ref a), some (.int (i : Nat)), some (.int z), some (.ref d), some vr, some (.int (s : Nat)), some vb, some (.int (f : Nat)), some vj, some vk, some (.str (PyData.tuple [jtD js, jtD ks]).shown), some (.int (e : Nat)), some (.ref pt), some (.ref pd), none, y15, none, some (.ref psu), y18, y19, y20], ⟨C1, _, _, _, _, A1, Ex.refl C1, rfl⟩, fun ii σ' H' _ h => ?_, fun ii v σ' H' H'' hi pv eH hC => ?_, fun σ' H' pv => ?_⟩
      · obtain ⟨Bi, _, _, _, _, A, e, _⟩ := h
        exact e.trans A.ex
      · obtain ⟨Bi, y15, y18, y19, y20, A, eC, rfl⟩ := pv
        rw [List.length_map] at hi
        have hi2 : ii < ks.length := by omega
        obtain ⟨C', gC', pv⟩ := hC Bi eC A.ex
        rw [getD_map hi, getD_map hi2] at pv
        have A' := A.step gC'
        obtain ⟨p3', ys, rfl, hp3', al⟩ := pv
        obtain ⟨y1, y2, rfl, ⟨p4', us, rfl, hp4', al4⟩, ⟨p5', ws, rfl, hp5', al5⟩⟩ := all2 al
        obtain ⟨u1, u2, rfl, m1, m2⟩ := all2 al4
        obtain ⟨w1', w2', rfl, m3, m4⟩ := all2 al5
        refine ⟨p3', _, rfl, ex_t gC'.c hp3', rfl, _, _, rfl, ⟨p4', _, rfl, ex_t gC'.c hp4', rfl, _, _, rfl, _, _, rfl, rfl, _, _, rfl, ⟨p5', _, rfl, ex_t gC'.c hp5', rfl, _, _, rfl, _, _, rfl, rfl, rfl, ?_⟩⟩⟩
        dsimp only [List.set_cons_succ, List.set_cons_zero]
        refine ps_app rfl A' (p := jpP K (js[ii].1, js[ii].2 + ks[ii].2)) ?_ (by have := sj.le; rw [List.length_map, List.length_take]; unfold sumJ; rw [List.length_map, List.length_zip]; omega) fun B2 H2 eB A2 => ?_
        · exact p_tup (K := K) (q_cons (p_var rfl m1) (q_cons (p_lowA (p_var rfl m2) (p_var rfl m4) (numZ_n (lj.2 _ (List.getElem_mem hi))) (numZ_n (lk.2 _ (List.getElem_mem hi2)))) q_nil)) (by show 2 ≤ 100000; decide)
        · refine ⟨B2, _, _, _, _, ?_, (eC.trans gC'.b).trans eB, rfl⟩
          have e9 : (sumJ js ks).take (ii + 1) = (sumJ js ks).take ii ++ [(js[ii].1, js[ii].2 + ks[ii].2)] := by
            rw [List.take_add_one]
            unfold sumJ
            rw [List.getElem?_map, List.getElem?_eq_getElem (by rw [List.length_zip]; omega), List.getElem_zip]
            rfl
          rw [e9, List.map_append]
          exact A2
      · obtain ⟨Bi, y15, y18, y19, y20, A, eC, rfl⟩ := pv
        have e9 : (sumJ js ks).take (js.map (jpP K)).length = sumJ js ks := List.take_of_length_le (by unfold sumJ; rw [List.length_map, List.length_zip, List.length_map]; omega)
        rw [e9] at A
        obtain ⟨B13, g13, hL⟩ := A.fin hps
        have k27 := k26.gr g13
        have t27 := t26.gx (GX.gr g13)
        have u27 := u26.gx (GX.gr g13)
        have hR := (RkP K r).m g13.b hR
        have hj := (jtP K js).m g13.b hj
        have hk := (jtP K ks).m g13.b hk
        obtain ⟨xs27, ht27, _⟩ := t27.h
        dsimp only
        refine b_seq (b_app rfl ht27 ?_)
        refine t_callO k27.kn (q_cons (p_var (i := 4) rfl hR) (q_cons (p_var (i := 8) rfl hj) (q_cons (p_var (i := 9) rfl hk) q_nil))) ⟨r, js, ks, s, f, hok, oj, dj, ok_, dk, lj.sm, lk.sm, rfl, .inl ⟨hfs.symm, rfl⟩⟩ fun w5 B14 H28 g28 hw5 => ?_
        have k28 := k27.gt g28
        have t28 := t27.gx (GX.gt g28)
        have u28 := u27.gx (GX.gt g28)
        have hL := (LsP ((sumJ js ks).map (jpP K))).m g28.b hL
        refine t28.put k28 hw5 (by show 4 < 1000; decide) fun H29 k29 t29 o29 => ?_
        have u29 := o29 _ _ ntd.symm u28
        obtain ⟨xs29, hu29, _⟩ := u29.h
        dsimp only
        refine b_app rfl hu29 ?_
        refine p_tupOf (K := K) (ps := (sumJ js ks).map (jpP K)) (p_lq (p_var (i := 17) rfl hL)) H29 k29.e _ fun w6 B15 H30 g30 hw6 => ?_
        have k30 := k29.gr g30
        have t30 := t29.gx (GX.gr g30)
        have u30 := u29.gx (GX.gr g30)
        refine u30.put k30 (p := jtP K (sumJ js ks)) hw6 (by show 4 < 1000; decide) fun H31 k31 u31 o31 => ?_
        have t31 := o31 _ _ ntd t30
        refine rest _ _ ⟨B15, _, [cutJ js e, js.map (fun x : Dv × Rat => (x.1, x.2 * by_)), sumJ js ks], _, _, _, _, _, k31, g13.b.trans (g28.b.trans g30.b), t31, u31, fun j hj' => ?_, by show 3 ≤ 3; decide, rfl⟩
        simp only [List.mem_cons, List.not_mem_nil, or_false] at hj'
        rcases hj' with rfl | rfl | rfl
        · exact sj.cut _
        · exact sj.sca lj hby
        · exact sj.sum lj lk
    · refine ps_ifF k25.e (et_is (et_test (ev_op (ev_var rfl) (ev_var rfl) (rv_eq rfl))) (decide_eq_false fun z => hfs (by have := V.int.inj z; omega))) fun H26 e26 => ?_
      have k26 := k25.ex e26
      have t26 := t25.gx (GX.ex e26)
      have u26 := u25.gx (GX.ex e26)
      refine b_ifNot (x_said k26.kn (q_cons (p_var (i := 4) rfl hR) (q_cons (p_var (i := 8) rfl hj) (q_cons (p_var (i := 9) rfl hk) q_nil))) ⟨r, js, ks, s, f, hok, oj, dj, ok_, dk, lj.sm, lk.sm, rfl, .inr ⟨fun z => hfs z.symm, rfl⟩⟩ fun H27 eN T27 => ⟨true, rfl, iteF (b_nx ?_)⟩)
      have gt := GT.xn k26.kn eN T27
      refine rest _ _ ⟨B12, _, [cutJ js e, js.map (fun x : Dv × Rat => (x.1, x.2 * by_))], _, _, _, _, _, k26.gt gt, Ex.refl _, t26.gx (GX.gt gt), u26.gx (GX.gt gt), fun j hj' => ?_, by show 2 ≤ 3; decide, rfl⟩
      simp only [List.mem_cons, List.not_mem_nil, or_false] at hj'
      rcases hj' with rfl | rfl
      · exact sj.cut _
      · exact sj.sca lj hby
  · obtain ⟨B13, n13, l, y15, y17, y18, y19, y20, k26, e13, t26, u26, hjs, hl3, rfl⟩ := hp
    obtain ⟨B14, k27, e14, hL1, o14⟩ := t26.fin k26
    obtain ⟨B15, k28, e15, hL2, _⟩ := (o14 _ _ ntd.symm u26).fin k27
    have eB := e13.trans (e14.trans e15)
    have hL1 := (LsP (IsV (.int (s : Int)) :: IsV (.int (f : Int)) :: l.map (jtP K))).m e15 hL1
    have hR := (RkP K r).m eB hR
    have hj := (jtP K js).m eB hj
    have hk := (jtP K ks).m eB hk
    have cp := eB _ _ cp
    have stl := shw_tl hok hs5 hf5 hjs hl3
    dsimp only
    refine b_seq (ps_ifN k28.e (et_is (et_or (a := false) (b := false) (et_same (K := K) (p_to (p_var (i := 12) rfl hL1) to_tl) (p_to (p_var (i := 13) rfl hL2) to_tl) stl) fun _ => et_is (et_test (ev_op (ev_rep (K := K) (d := .tuple [jtD js, jtD ks]) (p_to (p_tup (K := K) (ps := [jtP K js, jtP K ks]) (q_cons (p_var (i := 8) rfl hj) (q_cons (p_var (i := 9) rfl hk) q_nil)) (by show 2 ≤ 100000; decide)) (to_tup (.cons (to_jt js) (.cons (to_jt ks) .nil)))) s2) (ev_var rfl) (rv_ne rfl))) (by simp)) rfl) fun H29 e29 => ?_)
    have k29 := k28.ex e29
    dsimp only
    refine b_ifOrNot (x_said k29.kn (q_cons (p_var (i := 4) rfl hR) (q_cons (p_var (i := 8) rfl hj) (q_cons (p_ev (v := .int ((s : Int) + 1)) (ev_op (ev_var (i := 5) rfl) ev_c rv_I0)) q_nil))) ⟨r, js, s, (s : Int) + 1, hok, oj, dj, by omega, by omega, rfl, .inr ⟨by omega, rfl⟩⟩ fun H30 eN T30 => ⟨true, rfl, iteF ?_⟩)
    have k30 := k29.gt (GT.xn k29.kn eN T30)
    refine b_ifOp (t_callO k30.kn (q_cons (p_var (i := 4) rfl hR) (q_cons (p_var (i := 8) rfl hj) (q_cons (p_varV (i := 5) (v := .int (s : Int)) rfl) q_nil))) ⟨r, js, s, (s : Int), hok, oj, dj, by omega, by omega, rfl, .inl ⟨by omega, rfl⟩⟩ fun w7 B16 H31 g31 hw7 => ⟨vj, rfl, ?_⟩)
    rw [cut_all lj] at hw7
    have k31 := k30.gt g31
    have hj := (jtP K js).m g31.b hj
    have cp := g31.b _ _ cp
    have sh := shp_jt hok (js := js) fun x hx => oj.of x hx
    refine ⟨jtD js, jtD js, dp_m k31.e (to_jt js _ _ hw7), dp_m k31.e (to_jt js _ _ hj), sh, sh, false, by rw [SeqAt.eqv_refl _ (Bool.and_eq_true_iff.mp sh).1]; rfl, iteF (b_nx ?_)⟩
    exact ⟨k31.t, k31.e _ _ cp, _, _, _, _, _, _, _, _, _, _, _, _, _, _, _, _, _, _, rfl⟩

end
end K12
namespace K12
open PySem PySem.W L2 Evl My LamX Nd
set_option autoImplicit false
def cxOfL (l : List Addr) : Nat → Addr := fun i => l.getD i 0
/-- the facts of an own exception class, asked at once -/
def xcB (K : PySem.W.Frag) (C : Addr) (bmB : List Value) (newId : String) : Bool :=
  PySem.W.excInitIn K C bmB newId && PySem.W.hasDictIn K C && decide (PySem.W.findIn K (.ref C) "__setattr__" = some (some (.builtin "object.__setattr__"))) && decide (PySem.W.findIn K (.ref C) "__getattribute__" = some (some (.builtin "BaseException.__getattribute__"))) &&
  decide (PySem.W.findIn K (.ref C) "__getattr__" = some none) && decide (PySem.W.subIn K (.ref C) (.type "BaseException") = some true) && decide (PySem.W.findIn K (.ref C) "__class__" = some (some (.builtin "object.__class__"))) &&
  decide (PySem.W.specialIn K (.builtin "object.__class__") "__get__" = some (some (.builtin "getset_descriptor.__get__"))) && decide (PySem.W.takesIn K (.builtin "object.__class__") = some true) && decide (PySem.W.mroIn K C (.type "object") = some true) && PySem.W.keepIn K (.ref C)
theorem xc_of {K : PySem.W.Frag} {C : Addr} {bmB : List Value} {newId : String} (h : xcB K C bmB newId = true) : XC K C bmB newId := by
  unfold xcB at h
  simp only [Bool.and_eq_true, decide_eq_true_eq] at h
  obtain ⟨⟨⟨⟨⟨⟨⟨⟨⟨⟨h1, h2⟩, h3⟩, h4⟩, h5⟩, h6⟩, h7⟩, h8⟩, h9⟩, h10⟩, h11⟩ := h
  exact ⟨h1, h2, h3, h4, h5, h6, h7, h8, h9, h10, h11⟩
abbrev s_BadRanking : Stmt := inClass (topS 3) 0
theorem sc_BadRanking : FnScope ["self", "place"] ["self", "place"] (defScope s_BadRanking) := ⟨rfl, rfl, rfl, by decide +kernel, rfl, by decide +kernel, by decide +kernel⟩
theorem ok_BadRanking {P : Program} {w : World} {K : PySem.W.Frag} {mg : Str → Option Value} {base : Heap} {f C D : Addr} {fd : FuncData} (F : FunD K "__init__" "BadRanking.__init__" (defArgs s_BadRanking) (defBody s_BadRanking) (defScope s_BadRanking) [.non] [] f fd) (T : XC K C [.type "ValueError", .type "Exception", .type "BaseException", .type "object"] "ValueError.__new__") (Z : XD K mg "ChainError" D "ValueError.__init__") (no0 : PySem.W.findIn K (.ref C) "place" = some none) : FnOk P w K mg base CX0 1 f fd ["self", "place"] (spI1 C "place") := by
  refine F.ok sc_BadRanking (fun vs H Q E h => ?_) (fun cdv A outer s H vs Q E hr h => ?_)
  · obtain ⟨a, v, rfl, _⟩ := h
    rfl
  · obtain ⟨a, v, rfl, ha, q⟩ := h
    refine ⟨_, (pss_cons (ps_expr (pe_xinit xbV (by rfl) Z.m Z.s Z.r Z.f Z.h (pa_cons (pv 0) (pa_cons pe_str pa_nil)))) (pss_one (ps_xset xbV (pv 0) (pv 1)))), ?_⟩
    refine ⟨_, rfl, a, C, _, rfl, by decide, T, ha, ?_⟩
    exact ⟨_, rfl, _, rfl, a, C, rfl, T, no0, .inl ⟨ha, fun dx hd ne => q dx hd ne⟩⟩
abbrev s_BadJet : Stmt := inClass (topS 4) 0
theorem sc_BadJet : FnScope ["self", "place"] ["self", "place"] (defScope s_BadJet) := ⟨rfl, rfl, rfl, by decide +kernel, rfl, by decide +kernel, by decide +kernel⟩
theorem ok_BadJet {P : Program} {w : World} {K : PySem.W.Frag} {mg : Str → Option Value} {base : Heap} {f C D : Addr} {fd : FuncData} (F : FunD K "__init__" "BadJet.__init__" (defArgs s_BadJet) (defBody s_BadJet) (defScope s_BadJet) [.non] [] f fd) (T : XC K C [.type "ValueError", .type "Exception", .type "BaseException", .type "object"] "ValueError.__new__") (Z : XD K mg "ChainError" D "ValueError.__init__") (no0 : PySem.W.findIn K (.ref C) "place" = some none) : FnOk P w K mg base CX0 1 f fd ["self", "place"] (spI1 C "place") := by
  refine F.ok sc_BadJet (fun vs H Q E h => ?_) (fun cdv A outer s H vs Q E hr h => ?_)
  · obtain ⟨a, v, rfl, _⟩ := h
    rfl
  · obtain ⟨a, v, rfl, ha, q⟩ := h
    refine ⟨_, (pss_cons (ps_expr (pe_xinit xbV (by rfl) Z.m Z.s Z.r Z.f Z.h (pa_cons (pv 0) (pa_cons pe_str pa_nil)))) (pss_one (ps_xset xbV (pv 0) (pv 1)))), ?_⟩
    refine ⟨_, rfl, a, C, _, rfl, by decide, T, ha, ?_⟩
    exact ⟨_, rfl, _, rfl, a, C, rfl, T, no0, .inl ⟨ha, fun dx hd ne => q dx hd ne⟩⟩
end K12
namespace Hd
set_option autoImplicit false
open PySem PySem.Spec PySem.W PyProof.Rows L2 He
theorem func_of {K : PySem.W.Frag} {x : Str} {st : Stmt} {fd : FuncData} (F : Fun K x x st (ga K x) fd) (h : lamB K x = true) : Nd.FunC K x x st (fcode K x) (ga K x) fd := by
  obtain ⟨⟨oc, od, kV, doc, pm, an, cdv, ct, osl, e, lk, hc⟩, kp⟩ := F
  unfold lamB at h
  rw [lk] at h
  simp only [Bool.and_eq_true, decide_eq_true_eq] at h
  obtain ⟨h1, _⟩ := h
  subst e
  have h1 : cdv = .ref (fcode K x) := h1
  rw [h1] at lk hc
  exact ⟨⟨oc, od, kV, doc, pm, an, ct, osl, by rw [h1], by rw [h1]; exact lk, hc⟩⟩
end Hd
namespace K12
set_option autoImplicit false
open PySem PySem.W L2 Evl My LamX Nd
theorem all_mk2 {l : PySem.W.OpenLaw} {w : World} {K : PySem.W.Frag} {h : Heap} {mg : Str → Option Value} {fa : Addr} (X : K.In h) (G : h.Ns mainGlobals mg) (hfa : mg "law" = some (.ref fa)) (SD : He.SaysD K12.hfa hfn K) (E : hex K = true) (EV : hvf K = hvv) (LM : ∀ x ∈ hlams, Hd.lamB K x = true ∧ h.get? (Hd.ctab K (Hd.fcode K x)) = some (tabObj #[])) : Gd.LawAtG l w K 15 63 "_law_script" mg fa h := by
  have gc_ChainError := Hd.glo_ns (SD.fact 36 (f := .glo "ChainError") rfl)
  have gc_BadRanking := Hd.glo_ns (SD.fact 37 (f := .glo "BadRanking") rfl)
  have gc_BadJet := Hd.glo_ns (SD.fact 38 (f := .glo "BadJet") rfl)
  have gc_OutOfPlace := Hd.glo_ns (SD.fact 39 (f := .glo "OutOfPlace") rfl)
  have a35 := Hd.glo_ns (SD.fact 35 (f := .glo "law") rfl)
  have e := hfa.symm.trans (PySem.W.mg_of X G a35)
  cases e
  obtain ⟨lm1, hT1⟩ := LM "rising" (by decide +kernel)
  obtain ⟨lm2, hT2⟩ := LM "law" (by decide +kernel)
  obtain ⟨fd0, D0⟩ := SD.def_ 0 (d := hd0) rfl
  have a0 := Hd.glo_ns (SD.fact 0 (f := .glo "_law_draw") rfl)
  have k0 := D0.kp
  have F0 : Fun K "_law_draw" "_law_draw" s_Ldraw (He.ga K "_law_draw") fd0 := Hd.fun_of D0
  have b0 := F0.binds (ps := ["_law_cell", "_law_k"]) fun _ _ _ _ _ _ us hl => match us, hl with | [_, _], _ => rfl
  obtain ⟨fd1, D1⟩ := SD.def_ 1 (d := hd1) rfl
  have a1 := Hd.glo_ns (SD.fact 1 (f := .glo "_law_mixed") rfl)
  have k1 := D1.kp
  have F1 : Fun K "_law_mixed" "_law_mixed" s_Lmixed (He.ga K "_law_mixed") fd1 := Hd.fun_of D1
  have b1 := F1.binds (ps := ["_law_cell", "_law_k"]) fun _ _ _ _ _ _ us hl => match us, hl with | [_, _], _ => rfl
  obtain ⟨fd2, D2⟩ := SD.def_ 2 (d := hd2) rfl
  have a2 := Hd.glo_ns (SD.fact 2 (f := .glo "_law_digit") rfl)
  have k2 := D2.kp
  have F2 : Fun K "_law_digit" "_law_digit" s_Ldigit (He.ga K "_law_digit") fd2 := Hd.fun_of D2
  have b2 := F2.binds (ps := ["_law_state", "_law_size"]) fun _ _ _ _ _ _ us hl => match us, hl with | [_, _], _ => rfl
  obtain ⟨fd3, D3⟩ := SD.def_ 3 (d := hd3) rfl
  have a3 := Hd.glo_ns (SD.fact 3 (f := .glo "_law_word") rfl)
  have k3 := D3.kp
  have F3 : Fun K "_law_word" "_law_word" s_Lword (He.ga K "_law_word") fd3 := Hd.fun_of D3
  have b3 := F3.binds (ps := ["_law_state"]) fun _ _ _ _ _ _ us hl => match us, hl with | [_], _ => rfl
  obtain ⟨fd4, D4⟩ := SD.def_ 4 (d := hd4) rfl
  have a4 := Hd.glo_ns (SD.fact 4 (f := .glo "_law_names") rfl)
  have k4 := D4.kp
  have F4 : Fun K "_law_names" "_law_names" s_Lnames (He.ga K "_law_names") fd4 := Hd.fun_of D4
  have b4 := F4.binds (ps := ["_law_state", "_law_many"]) fun _ _ _ _ _ _ us hl => match us, hl with | [_, _], _ => rfl
  obtain ⟨fd5, D5⟩ := SD.def_ 5 (d := hd5) rfl
  have a5 := Hd.glo_ns (SD.fact 5 (f := .glo "_law_ranking") rfl)
  have k5 := D5.kp
  have F5 : Fun K "_law_ranking" "_law_ranking" s_Lranking (He.ga K "_law_ranking") fd5 := Hd.fun_of D5
  have b5 := F5.binds (ps := ["_law_state"]) fun _ _ _ _ _ _ us hl => match us, hl with | [_], _ => rfl
  obtain ⟨fd6, D6⟩ := SD.def_ 6 (d := hd6) rfl
  have a6 := Hd.glo_ns (SD.fact 6 (f := .glo "_law_lowest") rfl)
  have k6 := D6.kp
  have F6 : Fun K "_law_lowest" "_law_lowest" s_Llowest (He.ga K "_law_lowest") fd6 := Hd.fun_of D6
  have b6 := F6.binds (ps := ["_law_top", "_law_bottom"]) fun _ _ _ _ _ _ us hl => match us, hl with | [_, _], _ => rfl
  obtain ⟨fd7, D7⟩ := SD.def_ 7 (d := hd7) rfl
  have a7 := Hd.glo_ns (SD.fact 7 (f := .glo "_law_number") rfl)
  have k7 := D7.kp
  have F7 : Fun K "_law_number" "_law_number" s_Lnumber (He.ga K "_law_number") fd7 := Hd.fun_of D7
  have b7 := F7.binds (ps := ["_law_state"]) fun _ _ _ _ _ _ us hl => match us, hl with | [_], _ => rfl
  obtain ⟨fd8, D8⟩ := SD.def_ 8 (d := hd8) rfl
  have a8 := Hd.glo_ns (SD.fact 8 (f := .glo "_law_jet") rfl)
  have k8 := D8.kp
  have F8 : Fun K "_law_jet" "_law_jet" s_Ljet (He.ga K "_law_jet") fd8 := Hd.fun_of D8
  have b8 := F8.binds (ps := ["_law_state", "_law_ranking_here", "_law_size"]) fun _ _ _ _ _ _ us hl => match us, hl with | [_, _, _], _ => rfl
  obtain ⟨fd9, D9⟩ := SD.def_ 9 (d := hd9) rfl
  have a9 := Hd.glo_ns (SD.fact 9 (f := .glo "is_name") rfl)
  have k9 := D9.kp
  have F9 : Fun K "is_name" "is_name" s_is_name (He.ga K "is_name") fd9 := Hd.fun_of D9
  have b9 := F9.binds (ps := ["thing"]) fun _ _ _ _ _ _ us hl => match us, hl with | [_], _ => rfl
  obtain ⟨fd10, D10⟩ := SD.def_ 10 (d := hd10) rfl
  have a10 := Hd.glo_ns (SD.fact 10 (f := .glo "_are_names") rfl)
  have k10 := D10.kp
  have F10 : Fun K "_are_names" "_are_names" s__are_names (He.ga K "_are_names") fd10 := Hd.fun_of D10
  have b10 := F10.binds (ps := ["thing"]) fun _ _ _ _ _ _ us hl => match us, hl with | [_], _ => rfl
  obtain ⟨fd11, D11⟩ := SD.def_ 11 (d := hd11) rfl
  have a11 := Hd.glo_ns (SD.fact 11 (f := .glo "is_axis") rfl)
  have k11 := D11.kp
  have F11 : Fun K "is_axis" "is_axis" s_is_axis (He.ga K "is_axis") fd11 := Hd.fun_of D11
  have b11 := F11.binds (ps := ["thing"]) fun _ _ _ _ _ _ us hl => match us, hl with | [_], _ => rfl
  obtain ⟨fd12, D12⟩ := SD.def_ 12 (d := hd12) rfl
  have a12 := Hd.glo_ns (SD.fact 12 (f := .glo "_are_axes") rfl)
  have k12 := D12.kp
  have F12 : Fun K "_are_axes" "_are_axes" s__are_axes (He.ga K "_are_axes") fd12 := Hd.fun_of D12
  have b12 := F12.binds (ps := ["thing"]) fun _ _ _ _ _ _ us hl => match us, hl with | [_], _ => rfl
  obtain ⟨fd13, D13⟩ := SD.def_ 13 (d := hd13) rfl
  have a13 := Hd.glo_ns (SD.fact 13 (f := .glo "need_ranking") rfl)
  have k13 := D13.kp
  have F13 : Fun K "need_ranking" "need_ranking" s_need_ranking (He.ga K "need_ranking") fd13 := Hd.fun_of D13
  have b13 := F13.binds (ps := ["ranking"]) fun _ _ _ _ _ _ us hl => match us, hl with | [_], _ => rfl
  obtain ⟨fd14, D14⟩ := SD.def_ 14 (d := hd14) rfl
  have a14 := Hd.glo_ns (SD.fact 14 (f := .glo "is_whole") rfl)
  have k14 := D14.kp
  have F14 : Fun K "is_whole" "is_whole" s_is_whole (He.ga K "is_whole") fd14 := Hd.fun_of D14
  have b14 := F14.binds (ps := ["thing"]) fun _ _ _ _ _ _ us hl => match us, hl with | [_], _ => rfl
  obtain ⟨fd15, D15⟩ := SD.def_ 15 (d := hd15) rfl
  have a15 := Hd.glo_ns (SD.fact 15 (f := .glo "is_derivative") rfl)
  have k15 := D15.kp
  have F15 : Fun K "is_derivative" "is_derivative" s_is_derivative (He.ga K "is_derivative") fd15 := Hd.fun_of D15
  have b15 := F15.binds (ps := ["thing"]) fun _ _ _ _ _ _ us hl => match us, hl with | [_], _ => rfl
  obtain ⟨fd16, D16⟩ := SD.def_ 16 (d := hd16) rfl
  have a16 := Hd.glo_ns (SD.fact 16 (f := .glo "_stands_there") rfl)
  have k16 := D16.kp
  have F16 : Fun K "_stands_there" "_stands_there" s__stands_there (He.ga K "_stands_there") fd16 := Hd.fun_of D16
  have b16 := F16.binds (ps := ["ranking", "derivative"]) fun _ _ _ _ _ _ us hl => match us, hl with | [_, _], _ => rfl
  obtain ⟨fd17, D17⟩ := SD.def_ 17 (d := hd17) rfl
  have a17 := Hd.glo_ns (SD.fact 17 (f := .glo "derivative_fits") rfl)
  have k17 := D17.kp
  have F17 : Fun K "derivative_fits" "derivative_fits" s_derivative_fits (He.ga K "derivative_fits") fd17 := Hd.fun_of D17
  have b17 := F17.binds (ps := ["ranking", "thing"]) fun _ _ _ _ _ _ us hl => match us, hl with | [_, _], _ => rfl
  obtain ⟨fd18, D18⟩ := SD.def_ 18 (d := hd18) rfl
  have a18 := Hd.glo_ns (SD.fact 18 (f := .glo "is_fraction") rfl)
  have k18 := D18.kp
  have F18 : Fun K "is_fraction" "is_fraction" s_is_fraction (He.ga K "is_fraction") fd18 := Hd.fun_of D18
  have b18 := F18.binds (ps := ["thing"]) fun _ _ _ _ _ _ us hl => match us, hl with | [_], _ => rfl
  obtain ⟨fd19, D19⟩ := SD.def_ 19 (d := hd19) rfl
  have a19 := Hd.glo_ns (SD.fact 19 (f := .glo "is_numbered") rfl)
  have k19 := D19.kp
  have F19 : Fun K "is_numbered" "is_numbered" s_is_numbered (He.ga K "is_numbered") fd19 := Hd.fun_of D19
  have b19 := F19.binds (ps := ["ranking", "thing"]) fun _ _ _ _ _ _ us hl => match us, hl with | [_, _], _ => rfl
  obtain ⟨fd20, D20⟩ := SD.def_ 20 (d := hd20) rfl
  have a20 := Hd.glo_ns (SD.fact 20 (f := .glo "is_among") rfl)
  have k20 := D20.kp
  have F20 : Fun K "is_among" "is_among" s_is_among (He.ga K "is_among") fd20 := Hd.fun_of D20
  have b20 := F20.binds (ps := ["thing", "least", "most"]) fun _ _ _ _ _ _ us hl => match us, hl with | [_, _, _], _ => rfl
  obtain ⟨fd21, D21⟩ := SD.def_ 21 (d := hd21) rfl
  have a21 := Hd.glo_ns (SD.fact 21 (f := .glo "rank_key") rfl)
  have k21 := D21.kp
  have F21 : Fun K "rank_key" "rank_key" s_rank_key (He.ga K "rank_key") fd21 := Hd.fun_of D21
  have b21 := F21.binds (ps := ["ranking", "derivative"]) fun _ _ _ _ _ _ us hl => match us, hl with | [_, _], _ => rfl
  obtain ⟨fd22, D22⟩ := SD.def_ 22 (d := hd22) rfl
  have a22 := Hd.glo_ns (SD.fact 22 (f := .glo "rising") rfl)
  have k22 := D22.kp
  have F22' : Fun K "rising" "rising" s_rising (He.ga K "rising") fd22 := Hd.fun_of D22
  have F22 : Nd.FunC K "rising" "rising" s_rising (Hd.fcode K "rising") (He.ga K "rising") fd22 := Hd.func_of F22' lm1
  have b22 := F22'.binds (ps := ["ranking", "derivatives"]) fun _ _ _ _ _ _ us hl => match us, hl with | [_, _], _ => rfl
  obtain ⟨fd23, D23⟩ := SD.def_ 23 (d := hd23) rfl
  have a23 := Hd.glo_ns (SD.fact 23 (f := .glo "all_to") rfl)
  have k23 := D23.kp
  have F23 : Fun K "all_to" "all_to" s_all_to (He.ga K "all_to") fd23 := Hd.fun_of D23
  have b23 := F23.binds (ps := ["ranking", "order"]) fun _ _ _ _ _ _ us hl => match us, hl with | [_, _], _ => rfl
  obtain ⟨fd24, D24⟩ := SD.def_ 24 (d := hd24) rfl
  have a24 := Hd.glo_ns (SD.fact 24 (f := .glo "places_to") rfl)
  have k24 := D24.kp
  have F24 : Fun K "places_to" "places_to" s_places_to (He.ga K "places_to") fd24 := Hd.fun_of D24
  have b24 := F24.binds (ps := ["ranking", "length"]) fun _ _ _ _ _ _ us hl => match us, hl with | [_, _], _ => rfl
  obtain ⟨fd25, D25⟩ := SD.def_ 25 (d := hd25) rfl
  have a25 := Hd.glo_ns (SD.fact 25 (f := .glo "length_in") rfl)
  have k25 := D25.kp
  have F25 : Fun K "length_in" "length_in" s_length_in (He.ga K "length_in") fd25 := Hd.fun_of D25
  have b25 := F25.binds (ps := ["ranking", "jet"]) fun _ _ _ _ _ _ us hl => match us, hl with | [_, _], _ => rfl
  obtain ⟨fd26, D26⟩ := SD.def_ 26 (d := hd26) rfl
  have a26 := Hd.glo_ns (SD.fact 26 (f := .glo "length_of") rfl)
  have k26 := D26.kp
  have F26 : Fun K "length_of" "length_of" s_length_of (He.ga K "length_of") fd26 := Hd.fun_of D26
  have b26 := F26.binds (ps := ["ranking", "jet"]) fun _ _ _ _ _ _ us hl => match us, hl with | [_, _], _ => rfl
  obtain ⟨fd27, D27⟩ := SD.def_ 27 (d := hd27) rfl
  have a27 := Hd.glo_ns (SD.fact 27 (f := .glo "need_length") rfl)
  have k27 := D27.kp
  have F27 : Fun K "need_length" "need_length" s_need_length (He.ga K "need_length") fd27 := Hd.fun_of D27
  have b27 := F27.binds (ps := ["thing"]) fun _ _ _ _ _ _ us hl => match us, hl with | [_], _ => rfl
  obtain ⟨fd28, D28⟩ := SD.def_ 28 (d := hd28) rfl
  have a28 := Hd.glo_ns (SD.fact 28 (f := .glo "cut_jet") rfl)
  have k28 := D28.kp
  have F28 : Fun K "cut_jet" "cut_jet" s_cut_jet (He.ga K "cut_jet") fd28 := Hd.fun_of D28
  have b28 := F28.binds (ps := ["ranking", "jet", "length"]) fun _ _ _ _ _ _ us hl => match us, hl with | [_, _, _], _ => rfl
  obtain ⟨fd29, D29⟩ := SD.def_ 29 (d := hd29) rfl
  have a29 := Hd.glo_ns (SD.fact 29 (f := .glo "product") rfl)
  have k29 := D29.kp
  have F29 : Fun K "product" "product" s_product (He.ga K "product") fd29 := Hd.fun_of D29
  have b29 := F29.binds (ps := ["one", "other"]) fun _ _ _ _ _ _ us hl => match us, hl with | [_, _], _ => rfl
  obtain ⟨fd30, D30⟩ := SD.def_ 30 (d := hd30) rfl
  have a30 := Hd.glo_ns (SD.fact 30 (f := .glo "scaled_jet") rfl)
  have k30 := D30.kp
  have F30 : Fun K "scaled_jet" "scaled_jet" s_scaled_jet (He.ga K "scaled_jet") fd30 := Hd.fun_of D30
  have b30 := F30.binds (ps := ["ranking", "jet", "by"]) fun _ _ _ _ _ _ us hl => match us, hl with | [_, _, _], _ => rfl
  obtain ⟨fd31, D31⟩ := SD.def_ 31 (d := hd31) rfl
  have a31 := Hd.glo_ns (SD.fact 31 (f := .glo "sum_of") rfl)
  have k31 := D31.kp
  have F31 : Fun K "sum_of" "sum_of" s_sum_of (He.ga K "sum_of") fd31 := Hd.fun_of D31
  have b31 := F31.binds (ps := ["one", "other"]) fun _ _ _ _ _ _ us hl => match us, hl with | [_, _], _ => rfl
  obtain ⟨fd32, D32⟩ := SD.def_ 32 (d := hd32) rfl
  have a32 := Hd.glo_ns (SD.fact 32 (f := .glo "added_jets") rfl)
  have k32 := D32.kp
  have F32 : Fun K "added_jets" "added_jets" s_added_jets (He.ga K "added_jets") fd32 := Hd.fun_of D32
  have b32 := F32.binds (ps := ["ranking", "jet", "other"]) fun _ _ _ _ _ _ us hl => match us, hl with | [_, _, _], _ => rfl
  obtain ⟨fd33, D33⟩ := SD.def_ 33 (d := hd33) rfl
  have a33 := Hd.glo_ns (SD.fact 33 (f := .glo "_law_bounds_right") rfl)
  have k33 := D33.kp
  have F33 : Fun K "_law_bounds_right" "_law_bounds_right" s_Lbounds_right (He.ga K "_law_bounds_right") fd33 := Hd.fun_of D33
  have b33 := F33.binds (ps := []) fun _ _ _ _ _ _ us hl => match us, hl with | [], _ => rfl
  obtain ⟨fd34, D34⟩ := SD.def_ 34 (d := hd34) rfl
  have a34 := Hd.glo_ns (SD.fact 34 (f := .glo "_law_said") rfl)
  have k34 := D34.kp
  have F34 : Fun K "_law_said" "_law_said" s_Lsaid (He.ga K "_law_said") fd34 := Hd.fun_of D34
  have b34 := F34.binds (ps := ["_law_deed"]) fun _ _ _ _ _ _ us hl => match us, hl with | [_], _ => rfl
  obtain ⟨fd35, D35⟩ := SD.def_ 35 (d := hd35) rfl
  have k35 := D35.kp
  have F35' : Fun K "law" "law" s_law (He.ga K "law") fd35 := Hd.fun_of D35
  have F35 : Nd.FunC K "law" "law" s_law (Hd.fcode K "law") (He.ga K "law") fd35 := Hd.func_of F35' lm2
  have hb := D35.bindsA (ps := ["_law_script"]) fun _ _ _ _ _ _ us hl => match us, hl with | [_], _ => rfl
  obtain ⟨fd102, D102⟩ := SD.def_ 36 (d := hd36) rfl
  have F102 : FunD K "__init__" "BadRanking.__init__" (defArgs s_BadRanking) (defBody s_BadRanking) (defScope s_BadRanking) [.non] [] (He.ma K (He.ga K "BadRanking") "__init__") fd102 := D102
  obtain ⟨_, kP2⟩ := F102.kbindsD (ps := ["self", "place"]) 2 [] (fun us _ _ => us) (by simp) (fun a _ _ => a) fun T kV doc pm an cdv ct us its ws l1 l2 l3 => match us, its, ws, l1, l2, l3 with | [_, _], [_], [], _, _, _ => ⟨_, rfl, rfl⟩
  obtain ⟨_, kZ2⟩ := F102.kbindsD (ps := ["self", "place"]) 1 [] (fun us its _ => us ++ its) (by simp) (fun a b _ => a.append b) fun T kV doc pm an cdv ct us its ws l1 l2 l3 => match us, its, ws, l1, l2, l3 with | [_], [_], [], _, _, _ => ⟨_, rfl, rfl⟩
  have i2 : PySem.W.findIn K (.ref (He.ga K "BadRanking")) "__init__" = some (some (.ref (He.ma K (He.ga K "BadRanking") "__init__"))) := of_decide_eq_true (Bool.and_eq_true_iff.mp (SD.fact 65 (f := .meth "BadRanking" "__init__") rfl)).1
  have n2_place : PySem.W.findIn K (.ref (He.ga K "BadRanking")) "place" = some none := of_decide_eq_true (SD.fact 67 (f := .noat "BadRanking" "place") rfl)
  obtain ⟨fd105, D105⟩ := SD.def_ 37 (d := hd37) rfl
  have F105 : FunD K "__init__" "BadJet.__init__" (defArgs s_BadJet) (defBody s_BadJet) (defScope s_BadJet) [.non] [] (He.ma K (He.ga K "BadJet") "__init__") fd105 := D105
  obtain ⟨_, kP5⟩ := F105.kbindsD (ps := ["self", "place"]) 2 [] (fun us _ _ => us) (by simp) (fun a _ _ => a) fun T kV doc pm an cdv ct us its ws l1 l2 l3 => match us, its, ws, l1, l2, l3 with | [_, _], [_], [], _, _, _ => ⟨_, rfl, rfl⟩
  obtain ⟨_, kZ5⟩ := F105.kbindsD (ps := ["self", "place"]) 1 [] (fun us its _ => us ++ its) (by simp) (fun a b _ => a.append b) fun T kV doc pm an cdv ct us its ws l1 l2 l3 => match us, its, ws, l1, l2, l3 with | [_], [_], [], _, _, _ => ⟨_, rfl, rfl⟩
  have i5 : PySem.W.findIn K (.ref (He.ga K "BadJet")) "__init__" = some (some (.ref (He.ma K (He.ga K "BadJet") "__init__"))) := of_decide_eq_true (Bool.and_eq_true_iff.mp (SD.fact 66 (f := .meth "BadJet" "__init__") rfl)).1
  have n5_place : PySem.W.findIn K (.ref (He.ga K "BadJet")) "place" = some none := of_decide_eq_true (SD.fact 68 (f := .noat "BadJet" "place") rfl)
  have m_abs := PySem.W.mg_none_of X G (Hd.free_ns (SD.fact 40 (f := .free "abs") rfl))
  have m_all := PySem.W.mg_none_of X G (Hd.free_ns (SD.fact 41 (f := .free "all") rfl))
  have m_bool := PySem.W.mg_none_of X G (Hd.free_ns (SD.fact 42 (f := .free "bool") rfl))
  have m_enumerate := PySem.W.mg_none_of X G (Hd.free_ns (SD.fact 43 (f := .free "enumerate") rfl))
  have m_int := PySem.W.mg_none_of X G (Hd.free_ns (SD.fact 44 (f := .free "int") rfl))
  have m_isinstance := PySem.W.mg_none_of X G (Hd.free_ns (SD.fact 45 (f := .free "isinstance") rfl))
  have m_len := PySem.W.mg_none_of X G (Hd.free_ns (SD.fact 46 (f := .free "len") rfl))
  have m_list := PySem.W.mg_none_of X G (Hd.free_ns (SD.fact 47 (f := .free "list") rfl))
  have m_max := PySem.W.mg_none_of X G (Hd.free_ns (SD.fact 48 (f := .free "max") rfl))
  have m_range := PySem.W.mg_none_of X G (Hd.free_ns (SD.fact 49 (f := .free "range") rfl))
  have m_repr := PySem.W.mg_none_of X G (Hd.free_ns (SD.fact 50 (f := .free "repr") rfl))
  have m_set := PySem.W.mg_none_of X G (Hd.free_ns (SD.fact 51 (f := .free "set") rfl))
  have m_sorted := PySem.W.mg_none_of X G (Hd.free_ns (SD.fact 52 (f := .free "sorted") rfl))
  have m_str := PySem.W.mg_none_of X G (Hd.free_ns (SD.fact 53 (f := .free "str") rfl))
  have m_sum := PySem.W.mg_none_of X G (Hd.free_ns (SD.fact 54 (f := .free "sum") rfl))
  have m_tuple := PySem.W.mg_none_of X G (Hd.free_ns (SD.fact 55 (f := .free "tuple") rfl))
  have m_zip := PySem.W.mg_none_of X G (Hd.free_ns (SD.fact 56 (f := .free "zip") rfl))
  have xm_OutOfPlace_ChainError : PySem.W.exmOne K (.ref (He.ga K "OutOfPlace")) (.ref (He.ga K "ChainError")) = some true := of_decide_eq_true (SD.fact 69 (f := .exm "OutOfPlace" "ChainError" true) rfl)
  have xm_BadJet_BadJet : PySem.W.exmOne K (.ref (He.ga K "BadJet")) (.ref (He.ga K "BadJet")) = some true := of_decide_eq_true (SD.fact 70 (f := .exm "BadJet" "BadJet" true) rfl)
  have kq13 : PySem.W.keepIn K (.ref (He.ga K "OutOfPlace")) = true := SD.fact 71 (f := .keep "OutOfPlace") rfl
  obtain ⟨tk_gML, gML⟩ := Hd.int_ns (SD.fact 57 (f := .int "MOST_LETTERS" 8) rfl)
  obtain ⟨tk_gMN, gMN⟩ := Hd.int_ns (SD.fact 58 (f := .int "MOST_NAMES" 3) rfl)
  obtain ⟨tk_gMO, gMO⟩ := Hd.int_ns (SD.fact 59 (f := .int "MOST_ORDER" 12) rfl)
  obtain ⟨tk_gMJ, gMJ⟩ := Hd.int_ns (SD.fact 60 (f := .int "MOST_LENGTH" 8) rfl)
  obtain ⟨tk_gLE, gLE⟩ := Hd.str_ns (SD.fact 61 (f := .str "LETTERS" "abcdefghijklmnopqrstuvwxyz") rfl)
  have gAX := Hd.glo_ns (SD.fact 62 (f := .glo "AXES") rfl)
  have gSO := Hd.glo_ns (SD.fact 63 (f := .glo "SORTS") rfl)
  have gAL := Hd.glo_ns (SD.fact 64 (f := .glo "AXES_ALL") rfl)
  have x2 : xcB K (He.ga K "BadRanking") (bmI 2) (nwI 2) = true := hex_at E 0 (e := hx_x2) rfl
  have x5 : xcB K (He.ga K "BadJet") (bmI 5) (nwI 5) = true := hex_at E 1 (e := hx_x5) rfl
  have x13 : xcB K (He.ga K "OutOfPlace") (bmI 13) (nwI 13) = true := hex_at E 2 (e := hx_x13) rfl
  have q13 : PySem.W.excIn K (He.ga K "OutOfPlace") (bmI 13) (nwI 13) = true := hex_at E 3 (e := hx_q13) rfl
  have kt13_13 := of_decide_eq_true (p := PySem.W.kitOne K (.ref (He.ga K "OutOfPlace")) (.ref (He.ga K "OutOfPlace")) = some true) (hex_at E 4 (e := hx_kt13_13) rfl)
  have r16 : PySem.W.readsIn K (He.ga K "ChainError") (.type "type") = true := hex_at E 5 (e := hx_r16) rfl
  have y16 := Hd.isVal_ok (hex_at E 6 (e := hx_y16) rfl)
  have ty2 := of_decide_eq_true (p := PySem.W.typeIn K (.ref (He.ga K "BadRanking")) = some (.type "type")) (hex_at E 7 (e := hx_ty2) rfl)
  have ty5 := of_decide_eq_true (p := PySem.W.typeIn K (.ref (He.ga K "BadJet")) = some (.type "type")) (hex_at E 8 (e := hx_ty5) rfl)
  have ty13 := of_decide_eq_true (p := PySem.W.typeIn K (.ref (He.ga K "OutOfPlace")) = some (.type "type")) (hex_at E 9 (e := hx_ty13) rfl)
  have t102 := of_decide_eq_true (p := PySem.W.typeIn K (.ref (He.ma K (He.ga K "BadRanking") "__init__")) = some (.type "function")) (hex_at E 10 (e := hx_t102) rfl)
  have t105 := of_decide_eq_true (p := PySem.W.typeIn K (.ref (He.ma K (He.ga K "BadJet") "__init__")) = some (.type "function")) (hex_at E 11 (e := hx_t105) rfl)
  have vAX := Hd.tupAt_ok (hex_at E 12 (e := hx_vAX) rfl)
  have vSO := Hd.tupAt_ok (hex_at E 13 (e := hx_vSO) rfl)
  have vAL := Hd.tupAt_ok (hex_at E 14 (e := hx_vAL) rfl)
  have vb1 := Hd.tupAt_ok (hex_at E 15 (e := hx_vb1) rfl)
  have vb2 := Hd.tupAt_ok (hex_at E 16 (e := hx_vb2) rfl)
  have vb3 := Hd.tupAt_ok (hex_at E 17 (e := hx_vb3) rfl)
  have d1_2 := of_decide_eq_true (p := (Hd.ctab K (Hd.fcode K "rising")) ≠ (Hd.ctab K (Hd.fcode K "law"))) (hex_at E 18 (e := hx_d1_2) rfl)
  have s16 : PySem.W.specialIn K (.ref (He.ga K "ChainError")) "__getattribute__" = some (some (.builtin "type.__getattribute__")) := (List.cons.inj EV).1
  have gGC : PySem.W.nsIn K mainGlobals "gcd" = some (some (.builtin "math.gcd")) := (List.cons.inj (List.cons.inj EV).2).1
  have z16 : PySem.W.handedIn (.builtin "ValueError.__init__") = true := by decide +kernel
  have hcd1 := Hd.lam_cd lm1
  have htn1 := Hd.lam_no lm1
  have hcd2 := Hd.lam_cd lm2
  have htn2 := Hd.lam_no lm2
  have Z16 : XD K mg "ChainError" (He.ga K "ChainError") "ValueError.__init__" := ⟨(PySem.W.mg_of X G gc_ChainError), s16, r16, y16, z16⟩
  have vA : ∀ H, Dp K H (.ref (He.ga K "AXES")) (.tuple ((["x", "y"] : List Str).map PyData.str)) := fun H => .tup (vAX H) (dps_of_strs ["x", "y"])
  have vS : ∀ H, Dp K H (.ref (He.ga K "SORTS")) (.tuple ((["total", "names"] : List Str).map PyData.str)) := fun H => .tup (vSO H) (dps_of_strs ["total", "names"])
  have vL : ∀ H, Dp K H (.ref (He.ga K "AXES_ALL")) (.tuple [PyData.tuple [.str "x"], .tuple [.str "x", .str "y"], .tuple [.str "y", .str "x"]]) := fun H =>
    .tup (vAL H) (.cons (.tup (vb1 H) (dps_of_strs ["x"])) (.cons (.tup (vb2 H) (dps_of_strs ["x", "y"])) (.cons (.tup (vb3 H) (dps_of_strs ["y", "x"])) .nil)))
  let TT : List (Addr × Str) := [((Hd.ctab K (Hd.fcode K "rising")), "rising.<locals>.<lambda>"), ((Hd.ctab K (Hd.fcode K "law")), "law.<locals>.<lambda>")]
  have O1 : Nd.TO TT (Hd.ctab K (Hd.fcode K "rising")) "rising.<locals>.<lambda>" := by
    refine ⟨by simp [TT], fun p hp e => ?_⟩
    simp only [TT, List.mem_cons, List.not_mem_nil, or_false] at hp
    rcases hp with rfl | rfl
    · rfl
    · exact absurd e (Ne.symm d1_2)
  have O2 : Nd.TO TT (Hd.ctab K (Hd.fcode K "law")) "law.<locals>.<lambda>" := by
    refine ⟨by simp [TT], fun p hp e => ?_⟩
    simp only [TT, List.mem_cons, List.not_mem_nil, or_false] at hp
    rcases hp with rfl | rfl
    · exact absurd e d1_2
    · rfl
  have scq : ∀ {Q : Addr × Addr → Prop}, Q ((Hd.fcode K "rising"), (Hd.ctab K (Hd.fcode K "rising"))) → Q ((Hd.fcode K "law"), (Hd.ctab K (Hd.fcode K "law"))) → ∀ p ∈ [((Hd.fcode K "rising"), (Hd.ctab K (Hd.fcode K "rising"))), ((Hd.fcode K "law"), (Hd.ctab K (Hd.fcode K "law")))], Q p := fun {Q} h1 h2 p hp => by
    simp only [List.mem_cons, List.not_mem_nil, or_false] at hp
    rcases hp with rfl | rfl
    · exact h1
    · exact h2
  refine ⟨fd35, [((Hd.fcode K "rising"), (Hd.ctab K (Hd.fcode K "rising"))), ((Hd.fcode K "law"), (Hd.ctab K (Hd.fcode K "law")))], spLaw K TT, scq (Q := fun p => h.get? p.2 = some Gd.tabO) hT1 hT2, scq (Q := fun p => K.lookup p.2 = none) htn1 htn2, scq (Q := fun p => PySem.W.CodeHd h p.1 p.2) (PySem.W.codeHd_of_K X hcd1) (PySem.W.codeHd_of_K X hcd2), fun s v => hb s [v] rfl, fun H a ns hl _ hT hS => ⟨a, ns, rfl, hS, hl, fun p hp => ?_, fun _ => rfl⟩, fun base hKb hNb hTB => ?_⟩
  · simp only [TT, List.mem_cons, List.not_mem_nil, or_false] at hp
    rcases hp with rfl | rfl
    · exact TabS.nil (hT ((Hd.fcode K "rising"), (Hd.ctab K (Hd.fcode K "rising"))) (by simp))
    · exact TabS.nil (hT ((Hd.fcode K "law"), (Hd.ctab K (Hd.fcode K "law"))) (by simp))
  have TB1 := hTB ((Hd.fcode K "rising"), (Hd.ctab K (Hd.fcode K "rising"))) (by simp)
  have TB2 := hTB ((Hd.fcode K "law"), (Hd.ctab K (Hd.fcode K "law"))) (by simp)
  have RBR : RP l.prog w K mg base "BadRanking" (He.ga K "BadRanking") "place" (He.ma K (He.ga K "BadRanking") "__init__") _ _ := ⟨xc_of x2, ⟨(xc_of x2).ex, ty2⟩, (PySem.W.mg_of X G gc_BadRanking), i2, t102, ok_BadRanking F102 (xc_of x2) Z16 n2_place, kP2, kZ2⟩
  have RBJ : RP l.prog w K mg base "BadJet" (He.ga K "BadJet") "place" (He.ma K (He.ga K "BadJet") "__init__") _ _ := ⟨xc_of x5, ⟨(xc_of x5).ex, ty5⟩, (PySem.W.mg_of X G gc_BadJet), i5, t105, ok_BadJet F105 (xc_of x5) Z16 n5_place, kP5, kZ5⟩
  have ROP : RQ K mg "OutOfPlace" (He.ga K "OutOfPlace") := ⟨q13, kq13, ⟨(xc_of x13).ex, ty13⟩, (PySem.W.mg_of X G gc_OutOfPlace)⟩
  have C0_ : Cal l.prog w K mg base "_law_draw" 1 ["_law_cell", "_law_k"] spDraw (He.ga K "_law_draw") _ := ⟨ok_Ldraw F0, (PySem.W.mg_of X G a0), k0, b0⟩
  have gM := ok_Lmixed (P := l.prog) (w := w) (mg := mg) (base := base) F1
  have C2_ : Cal l.prog w K mg base "_law_digit" 2 ["_law_state", "_law_size"] spDigit (He.ga K "_law_digit") _ := ⟨ok_Ldigit F2 gM m_range (PySem.W.mg_of X G a1) k1 b1, (PySem.W.mg_of X G a2), k2, b2⟩
  have C3_ : Cal l.prog w K mg base "_law_word" 3 ["_law_state"] spWord (He.ga K "_law_word") _ := ⟨ok_Lword F3 C2_.G m_range (PySem.W.mg_of X G a2) k2 b2, (PySem.W.mg_of X G a3), k3, b3⟩
  have C4_ : Cal l.prog w K mg base "_law_names" 4 ["_law_state", "_law_many"] spNames (He.ga K "_law_names") _ := ⟨ok_Lnames F4 C3_ m_range m_list, (PySem.W.mg_of X G a4), k4, b4⟩
  have C5_ : Cal l.prog w K mg base "_law_ranking" 5 ["_law_state"] (spRkX K TT) (He.ga K "_law_ranking") _ := ⟨ok_Lranking F5 C4_ C2_ m_tuple, (PySem.W.mg_of X G a5), k5, b5⟩
  have C6_ : Cal l.prog w K mg base "_law_lowest" 1 ["_law_top", "_law_bottom"] (spP (Rlow2 K)) (He.ga K "_law_lowest") _ := ⟨ok_Llowest F6 m_abs, (PySem.W.mg_of X G a6), k6, b6⟩
  have C7_ : Cal l.prog w K mg base "_law_number" 3 ["_law_state"] (spNum K TT) (He.ga K "_law_number") _ := ⟨ok_Lnumber F7 C2_ C6_, (PySem.W.mg_of X G a7), k7, b7⟩
  have C8_ : Cal l.prog w K mg base "_law_jet" 4 ["_law_state", "_law_ranking_here", "_law_size"] (spJet K TT) (He.ga K "_law_jet") _ := ⟨ok_Ljet F8 C7_ C2_ m_tuple m_sorted m_list m_range, (PySem.W.mg_of X G a8), k8, b8⟩
  have C9_ : Cal l.prog w K mg base "is_name" 2 ["thing"] (spP (RB K nameB)) (He.ga K "is_name") _ := ⟨ok_is_name F9 m_isinstance m_str m_len m_all (PySem.W.mg_of X G gML) (PySem.W.mg_of X G gLE), (PySem.W.mg_of X G a9), k9, b9⟩
  have C10_ : Cal l.prog w K mg base "_are_names" 3 ["thing"] (spP (RnamesA K)) (He.ga K "_are_names") _ := ⟨ok__are_names F10 C9_ m_isinstance m_tuple m_len m_all m_set (PySem.W.mg_of X G gMN), (PySem.W.mg_of X G a10), k10, b10⟩
  have C11_ : Cal l.prog w K mg base "is_axis" 1 ["thing"] (spP Raxis) (He.ga K "is_axis") _ := ⟨ok_is_axis F11 m_isinstance m_str (PySem.W.mg_of X G gAX) vA, (PySem.W.mg_of X G a11), k11, b11⟩
  have C12_ : Cal l.prog w K mg base "_are_axes" 2 ["thing"] (spP (RaxesA K)) (He.ga K "_are_axes") _ := ⟨ok__are_axes F12 C11_ m_isinstance m_tuple m_all (PySem.W.mg_of X G gAL) vL, (PySem.W.mg_of X G a12), k12, b12⟩
  have C13_ : CalX l.prog w K mg base "need_ranking" 4 ["ranking"] (spO (RrkO K (He.ga K "BadRanking"))) (He.ga K "need_ranking") _ := ⟨ok_need_ranking F13 C10_ C12_ m_isinstance m_tuple m_len m_str (PySem.W.mg_of X G gSO) vS RBR, (PySem.W.mg_of X G a13), k13, b13⟩
  have C14_ : Cal l.prog w K mg base "is_whole" 2 ["thing"] (spP (RB K wholeB)) (He.ga K "is_whole") _ := ⟨ok_is_whole F14 m_isinstance m_int m_bool, (PySem.W.mg_of X G a14), k14, b14⟩
  have C15_ : Cal l.prog w K mg base "is_derivative" 3 ["thing"] (spP (RB K dvB)) (He.ga K "is_derivative") _ := ⟨ok_is_derivative F15 C9_ C14_ m_isinstance m_tuple m_len, (PySem.W.mg_of X G a15), k15, b15⟩
  have C16_ : Cal l.prog w K mg base "_stands_there" 1 ["ranking", "derivative"] (spP (Rst K)) (He.ga K "_stands_there") _ := ⟨ok__stands_there F16 , (PySem.W.mg_of X G a16), k16, b16⟩
  have C17_ : Cal l.prog w K mg base "derivative_fits" 4 ["ranking", "thing"] (spP (RB2 K fitsB)) (He.ga K "derivative_fits") _ := ⟨ok_derivative_fits F17 C15_ C16_, (PySem.W.mg_of X G a17), k17, b17⟩
  have C18_ : Cal l.prog w K mg base "is_fraction" 3 ["thing"] (spP (RB K frB)) (He.ga K "is_fraction") _ := ⟨ok_is_fraction F18 C14_ m_isinstance m_tuple m_len (PySem.W.mg_of X G gGC), (PySem.W.mg_of X G a18), k18, b18⟩
  have C19_ : Cal l.prog w K mg base "is_numbered" 5 ["ranking", "thing"] (spP (RnumJ K)) (He.ga K "is_numbered") _ := ⟨ok_is_numbered F19 C17_ C18_ m_isinstance m_tuple m_len, (PySem.W.mg_of X G a19), k19, b19⟩
  have C20_ : Cal l.prog w K mg base "is_among" 3 ["thing", "least", "most"] (spP Ramong) (He.ga K "is_among") _ := ⟨ok_is_among F20 C14_, (PySem.W.mg_of X G a20), k20, b20⟩
  have C21_ : Cal l.prog w K mg base "rank_key" 1 ["ranking", "derivative"] (spP (Rrd K fun r u => IsD K (.tuple ((r.key u).map .int)))) (He.ga K "rank_key") _ := ⟨ok_rank_key F21 , (PySem.W.mg_of X G a21), k21, b21⟩
  have C22_ : Cal l.prog w K mg base "rising" 5 ["ranking", "derivatives"] (spRis K TT) (He.ga K "rising") _ := ⟨ok_rising F22 C21_ m_sorted TB1 O1, (PySem.W.mg_of X G a22), k22, b22⟩
  have C23_ : Cal l.prog w K mg base "all_to" 6 ["ranking", "order"] (spAll K TT) (He.ga K "all_to") _ := ⟨ok_all_to F23 C13_ C20_ C22_ m_range (PySem.W.mg_of X G gMO), (PySem.W.mg_of X G a23), k23, b23⟩
  have C24_ : Cal l.prog w K mg base "places_to" 7 ["ranking", "length"] (spPl K TT) (He.ga K "places_to") _ := ⟨ok_places_to F24 C23_ m_sorted, (PySem.W.mg_of X G a24), k24, b24⟩
  have C25_ : CalX l.prog w K mg base "length_in" 8 ["ranking", "jet"] (spOT TT (RlenO K (He.ga K "BadJet"))) (He.ga K "length_in") _ := ⟨ok_length_in F25 RBJ C19_ C24_ m_isinstance m_tuple m_enumerate m_max m_len (PySem.W.mg_of X G gMJ), (PySem.W.mg_of X G a25), k25, b25⟩
  have C26_ : CalX l.prog w K mg base "length_of" 9 ["ranking", "jet"] (spOT TT (RlenO K (He.ga K "BadJet"))) (He.ga K "length_of") _ := ⟨ok_length_of F26 C13_ C25_, (PySem.W.mg_of X G a26), k26, b26⟩
  have C27_ : Cal l.prog w K mg base "need_length" 4 ["thing"] (spP RndL) (He.ga K "need_length") _ := ⟨ok_need_length F27 C20_ (PySem.W.mg_of X G gMJ), (PySem.W.mg_of X G a27), k27, b27⟩
  have C28_ : CalX l.prog w K mg base "cut_jet" 10 ["ranking", "jet", "length"] (spOT TT (RcutO K (He.ga K "OutOfPlace"))) (He.ga K "cut_jet") _ := ⟨ok_cut_jet F28 ROP C26_ C27_ m_tuple, (PySem.W.mg_of X G a28), k28, b28⟩
  have C29_ : Cal l.prog w K mg base "product" 1 ["one", "other"] (spP (Rprod K)) (He.ga K "product") _ := ⟨ok_product F29 (PySem.W.mg_of X G gGC), (PySem.W.mg_of X G a29), k29, b29⟩
  have C30_ : CalX l.prog w K mg base "scaled_jet" 10 ["ranking", "jet", "by"] (spOT TT (RscaJ K)) (He.ga K "scaled_jet") _ := ⟨ok_scaled_jet F30 C26_ C18_ C29_ m_tuple, (PySem.W.mg_of X G a30), k30, b30⟩
  have C31_ : Cal l.prog w K mg base "sum_of" 1 ["one", "other"] (spP (Rsum K)) (He.ga K "sum_of") _ := ⟨ok_sum_of F31 (PySem.W.mg_of X G gGC), (PySem.W.mg_of X G a31), k31, b31⟩
  have C32_ : CalX l.prog w K mg base "added_jets" 10 ["ranking", "jet", "other"] (spOT TT (RaddJ K (He.ga K "OutOfPlace"))) (He.ga K "added_jets") _ := ⟨ok_added_jets F32 ROP C26_ C31_ m_tuple m_zip, (PySem.W.mg_of X G a32), k32, b32⟩
  have C33_ : Cal l.prog w K mg base "_law_bounds_right" 10 [] (spBnd TT) (He.ga K "_law_bounds_right") _ := ⟨ok_Lbounds_right F33 C26_ m_range m_tuple (PySem.W.mg_of X G gc_BadJet) (xc_of x5) n5_place xm_BadJet_BadJet, (PySem.W.mg_of X G a33), k33, b33⟩
  exact ok_law F35 C0_ C5_ C2_ C7_ C8_ C26_ C28_ C30_ C6_ C32_ C33_ m_enumerate m_sum m_repr m_tuple m_zip m_isinstance F34 (PySem.W.mg_of X G a34) k34 b34 (PySem.W.mg_of X G gc_ChainError) (PySem.W.mg_of X G gc_OutOfPlace) (xc_of x13) xm_OutOfPlace_ChainError kt13_13 TB2 O2
theorem walk2 {l : PySem.W.OpenLaw} {q : Program} {loose : List Str} {XP : (Str → Option Value) → Heap → Prop} {YP : World → Heap → Prop} {d : DefRec} (hn : l.most = some 63) (hdf : d.params.defaults = [])
    (F : ∀ (w : World) (mg : Str → Option Value) (fa : Addr) (h : Heap), YP w h → h.Ns mainGlobals mg → mg d.name = some (.ref fa) → ∃ K : PySem.W.Frag, K.In h ∧ Gd.LawAtG l w K 15 63 "_law_script" mg fa h) :
    PySem.W.WalkO q loose XP YP l.row.toRowW d [] (fun f vs => PySem.call f vs) :=
  Att.attach_callB hn hdf fun w _ _ mg _ fa _ _ _ _ a _ ns G Y _ _ _ hmg hobj hints hlen hbits hg => by
    obtain ⟨K, KX, fd, cs, sp, hT, nT, C, hb, hsp, hF⟩ := F w mg fa _ Y G.T.g hmg
    exact Gd.lawG KX G.T.g G.T.b G.T.builtins G.T.nolimit hg hT nT C G.T.bmain hobj hints (Nat.le_trans hlen (by decide)) ⟨rfl, by decide, by decide⟩ hF hb fun H hH hS => hsp H a ns hlen hbits hH hS
end K12
open PySem PySem.W PySem.Calls PyProof.Rows
set_option maxRecDepth 100000 in
set_option maxHeartbeats 0 in
theorem PySem.Challenge.cw_rankedchains_k57_jets_cut_and_added_holds : PySem.Challenge.rw_rankedchains_k57_jets_cut_and_added.Holds := by
  w_on; o_law
  refine HandSHeadRun.head_imp (r := OpenLaw.row PySem.Challenge.rw_rankedchains_k57_jets_cut_and_added) (q := view (OpenLaw.row PySem.Challenge.rw_rankedchains_k57_jets_cut_and_added).prog [0, 56]) (H := K12.hk) (ob := K12.hob) (M := 7000) (loose := K12.hnames) (d := HandSHeadRun.topDef (OpenLaw.row PySem.Challenge.rw_rankedchains_k57_jets_cut_and_added).prog 56) (kwd := []) K12.hob_eq
    K12.hrun (by kernel_rfl) (by kernel_rfl) (by kernel_rfl) (by rfl) (by first | assumption | decide +kernel) (by decide +kernel) ⟨rfl, rfl, rfl, rfl, rfl, by decide +kernel⟩ ?hw ?hc
  case hw => w_witness2
  case hc =>
    refine K12.walk2 (l := PySem.Challenge.rw_rankedchains_k57_jets_cut_and_added) rfl (by kernel_rfl) (fun w mg fa h Y G hmg0 => ?_)
    obtain ⟨K, KX, c, e, ev, lm⟩ := Y
    have hmg : mg ("law" : PySem.Str) = some (.ref fa) := by
      have e : (HandSHeadRun.topDef (OpenLaw.row PySem.Challenge.rw_rankedchains_k57_jets_cut_and_added).prog 56).name = ("law" : PySem.Str) := by kernel_rfl
      rw [← e]
      exact hmg0
    exact ⟨K, KX, K12.all_mk2 KX G hmg c e ev lm⟩
#print axioms PySem.Challenge.cw_rankedchains_k57_jets_cut_and_added_holds
