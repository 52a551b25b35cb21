import PyProof.Rows.All
import Wide.All
import OpenK.AllK
import Wide.FinOn
import HandS.ForMost
import HandS.ForExc
import HandS.Walk
import HandS.Strs
import HandS.Deep
import HandS.Conv
import HandS.IsInst
import HandS.Style
import HandS.Evl
import HandS.Wide
import HandS.Set
import HandS.Nested
import HandS.EndTab
import KE.SortKeyHeap
import KE.KDictCopyH
import HandS.Head0
import HandS.Head1
import HandS.Head2
import HandS.Head3
import HandS.HeadEnd
import HandS.HeadHook1
import HandS.HeadHook2
import HandS.Words
import HandS.WordsExc
import HandS.ExcInit
import KE.KExcInit
import KE.KExcIs
import HandS.ExcOwn
import KE.KDictPairs
import KE.DataMinKey
import KE.DataCmp
import HandS.More
import HandS.Defaults
import HandS.Gcd
import HandS.Zip
import HandS.TryOnly
import HandS.Conv
import HandS.TupAny
import HandS.NoneIn
import KE.SortData
import KE.SortCalls
import KE.KDictKeyed
import PyProof.DictRoadsH
import PyProof.DictCompW
import HandS.DictComp
import HandS.DictTup
import HandS.RaiseMore
import HandS.Comp
import HandS.Lambda
import HandS.SortKw
import PyProof.ReprRoads
import PyProof.CallFns
import PyProof.ReprLen
import PyProof.StrLawsRepr
import PyProof.ReprText
import PyProof.DictItems
import KE.KRevSl
import KE.KDictWalk
import KE.GoesMore
import KE.GoesEnum
import KE.LtData
import HandS.New
import HandS.ExcValue
import HandS.MakeKw
import KE.DataMinMax
import HandS.TupSets
import HandS.SetTxt0
import HandS.SetBool
import HandS.WideBits
import PySem.Challenge.RW_rankedchains_k03_polynomials_reckoned
set_option Elab.async false
set_option maxRecDepth 100000
set_option maxHeartbeats 4000000
namespace Hd
set_option autoImplicit false
open PySem PySem.Spec PySem.W PyProof.Rows L2 He
theorem fun_of {K : PySem.W.Frag} {x qual : Str} {st : Stmt} {f : Addr} {fd : FuncData} {kws : List (Str × V)} (F : FunD K x qual (defArgs st) (defBody st) (defScope st) [] kws f fd) : Fun K x qual st f fd := by
  obtain ⟨⟨oc, od, dV, kV, doc, pm, an, cdv, ct, osl, e, lk, hc, hd, hk⟩, kp⟩ := F
  rcases hd with ⟨_, rfl⟩ | ⟨ne, _⟩
  · exact ⟨⟨oc, od, kV, doc, pm, an, cdv, ct, osl, e, lk, hc⟩, kp⟩
  · exact absurd rfl ne
/-- where a def's code stands, and its table -/
def fcode (K : PySem.W.Frag) (x : Str) : Addr := match K.lookup (ga K x) with
  | some ⟨_, _, .func fd, _⟩ => (match fd.code with | .ref c => c | _ => 0)
  | _ => 0
def ctab (K : PySem.W.Frag) (c : Addr) : Addr := match K.lookup c with
  | some ⟨_, _, .fields vs, _⟩ => (match (vs[11]? : Option Value) with | some (Value.ref p) => p | _ => 0)
  | _ => 0
def lamB (K : PySem.W.Frag) (x : Str) : Bool := (match K.lookup (ga K x) with
  | some ⟨_, _, .func fd, _⟩ => decide (fd.code = .ref (fcode K x))
  | _ => false) && (codeHdIn K (fcode K x) (ctab K (fcode K x)) && (K.lookup (ctab K (fcode K x))).isNone)
def tabB (g : Addr → Option Obj) (tb : Addr) : Bool := match g tb with
  | some ⟨c, d, .fields vs, sl⟩ => decide (c = .none) && (d.isNone && (vs.isEmpty && sl.isEmpty))
  | _ => false
theorem tabB_ok {g : Addr → Option Obj} {tb : Addr} (h : tabB g tb = true) : g tb = some (tabObj #[]) := by
  unfold tabB at h
  split at h
  · rename_i c d vs sl e
    rw [e]
    simp only [Bool.and_eq_true, decide_eq_true_eq, Option.isNone_iff_eq_none, Array.isEmpty_iff] at h
    obtain ⟨rfl, rfl, rfl, rfl⟩ := h
    rfl
  · cases h
/-- what stands at the end, at these addresses -/
def frX (g : Addr → Option Obj) (as : List Addr) : PySem.W.Frag := frG g as
theorem frX_in {h : Heap} {as : List Addr} : (frX h.get? as).In h := frG_in
def obsX (n : List Addr) (fa : List Fa) (fn : List DefD) (lams : List Str) (ex : PySem.W.Frag → Bool) (vf : PySem.W.Frag → List (Option (Option Value))) (g : Addr → Option Obj) : AlD × Bool × List (Option (Option Value)) :=
  (obsD fa fn (frX g n), (ex (frX g n) && lams.all fun x => lamB (frX g n) x && tabB g (ctab (frX g n) (fcode (frX g n) x))), vf (frX g n))
def hookX (n : List Addr) (fa : List Fa) (fn : List DefD) (lams : List Str) (ex : PySem.W.Frag → Bool) (vf : PySem.W.Frag → List (Option (Option Value))) (vv : List (Option (Option Value))) : PySem.W.Hook where
  α := AlD × Bool × List (Option (Option Value))
  obs s := obsX n fa fn lams ex vf s.heap.get?
  val _ := (valD fn, true, vv)
  says _ h := ∃ K : PySem.W.Frag, K.In h ∧ SaysD fa fn K ∧ ex K = true ∧ vf K = vv ∧ ∀ x ∈ lams, lamB K x = true ∧ h.get? (ctab K (fcode K x)) = some (tabObj #[])
  of w s e := by
    have e1 : obsD fa fn (frX s.heap.get? n) = valD fn := congrArg Prod.fst e
    have e2 : (ex (frX s.heap.get? n) && lams.all fun x => lamB (frX s.heap.get? n) x && tabB s.heap.get? (ctab (frX s.heap.get? n) (fcode (frX s.heap.get? n) x))) = true := congrArg (fun z => z.2.1) e
    have e3 : vf (frX s.heap.get? n) = vv := congrArg (fun z => z.2.2) e
    rw [Bool.and_eq_true, List.all_eq_true] at e2
    exact ⟨frX s.heap.get? n, frX_in, e1, e2.1, e3, fun x hx => by
      have := e2.2 x hx
      rw [Bool.and_eq_true] at this
      exact ⟨this.1, tabB_ok this.2⟩⟩
  keeps w h h' := fun ⟨K, k, c, e, v, l⟩ m => ⟨K, fun a o z => m a o (k a o z), c, e, v, fun x hx => ⟨(l x hx).1, m _ _ (l x hx).2⟩⟩
theorem obsX_eq {n : List Addr} {fa : List Fa} {fn : List DefD} {lams : List Str} {ex : PySem.W.Frag → Bool} {vf : PySem.W.Frag → List (Option (Option Value))} {vv : List (Option (Option Value))} {g : Addr → Option Obj} {s : Shared} (h : ∀ a, g a = s.heap.get? a) : obsX n fa fn lams ex vf g = (hookX n fa fn lams ex vf vv).obs s := by
  have e := funext h
  rw [e]
  rfl
theorem glo_ns {K : PySem.W.Frag} {x : Str} (h : Fa.ok K (.glo x) = true) : nsIn K mainGlobals x = some (some (.ref (ga K x))) := of_decide_eq_true h
theorem free_ns {K : PySem.W.Frag} {x : Str} (h : Fa.ok K (.free x) = true) : nsIn K mainGlobals x = some none := of_decide_eq_true h
/-- a tuple at a place -/
def tupAt (K : PySem.W.Frag) (a : Addr) (vs : List V) : Bool := match K.lookup a with
  | some ⟨Value.type c, _, .seq its _, _⟩ => decide (c = "tuple") && (decide (its.size ≤ sizeLine) && relAll vs its.toList)
  | _ => false
theorem tupAt_ok {K : PySem.W.Frag} {a : Addr} {vs : List V} (h : tupAt K a vs = true) (H : Hp) : SqT K H a vs := by
  unfold tupAt at h
  split at h
  · rename_i c d its n sl e
    simp only [Bool.and_eq_true, decide_eq_true_eq] at h
    obtain ⟨rfl, h2, h3⟩ := h
    exact .inr ⟨_, its, n, e, rfl, rfl, h2, relAll_ok h3⟩
  · cases h
end Hd
namespace HdC
set_option autoImplicit false
open PySem PySem.Spec PySem.W
def zero : Nat := 0
end HdC
namespace K12
set_option autoImplicit false
open PySem PySem.Spec PySem.W PyProof.Rows L2 HdC
abbrev hS (i : Nat) : Stmt := PySem.Challenge.pw_rankedchains_k03_polynomials_reckoned.main.body.getD i (.Pass ⟨0, 0, 0, 0⟩)
def hd0 : He.DefD := ⟨("_law_draw", none), "_law_draw", "_law_draw", defArgs (hS 34), defBody (hS 34), defScope (hS 34), [], []⟩
def hd1 : He.DefD := ⟨("_law_mixed", none), "_law_mixed", "_law_mixed", defArgs (hS 33), defBody (hS 33), defScope (hS 33), [], []⟩
def hd2 : He.DefD := ⟨("_law_digit", none), "_law_digit", "_law_digit", defArgs (hS 35), defBody (hS 35), defScope (hS 35), [], []⟩
def hd3 : He.DefD := ⟨("_law_derivative", none), "_law_derivative", "_law_derivative", defArgs (hS 42), defBody (hS 42), defScope (hS 42), [], []⟩
def hd4 : He.DefD := ⟨("_law_monomial", none), "_law_monomial", "_law_monomial", defArgs (hS 38), defBody (hS 38), defScope (hS 38), [], []⟩
def hd5 : He.DefD := ⟨("_law_lowest", none), "_law_lowest", "_law_lowest", defArgs (hS 36), defBody (hS 36), defScope (hS 36), [], []⟩
def hd6 : He.DefD := ⟨("_law_number", none), "_law_number", "_law_number", defArgs (hS 41), defBody (hS 41), defScope (hS 41), [], []⟩
def hd7 : He.DefD := ⟨("_law_added", none), "_law_added", "_law_added", defArgs (hS 37), defBody (hS 37), defScope (hS 37), [], []⟩
def hd8 : He.DefD := ⟨("_law_poly", none), "_law_poly", "_law_poly", defArgs (hS 43), defBody (hS 43), defScope (hS 43), [], []⟩
def hd9 : He.DefD := ⟨("sum_of", none), "sum_of", "sum_of", defArgs (hS 4), defBody (hS 4), defScope (hS 4), [], []⟩
def hd10 : He.DefD := ⟨("add_term", none), "add_term", "add_term", defArgs (hS 29), defBody (hS 29), defScope (hS 29), [], []⟩
def hd11 : He.DefD := ⟨("add_to", none), "add_to", "add_to", defArgs (hS 28), defBody (hS 28), defScope (hS 28), [], []⟩
def hd12 : He.DefD := ⟨("polynomial_of", none), "polynomial_of", "polynomial_of", defArgs (hS 30), defBody (hS 30), defScope (hS 30), [], []⟩
def hd13 : He.DefD := ⟨("plus", none), "plus", "plus", defArgs (hS 9), defBody (hS 9), defScope (hS 9), [], []⟩
def hd14 : He.DefD := ⟨("product", none), "product", "product", defArgs (hS 5), defBody (hS 5), defScope (hS 5), [], []⟩
def hd15 : He.DefD := ⟨("scaled", none), "scaled", "scaled", defArgs (hS 12), defBody (hS 12), defScope (hS 12), [], []⟩
def hd16 : He.DefD := ⟨("less", none), "less", "less", defArgs (hS 10), defBody (hS 10), defScope (hS 10), [], []⟩
def hd17 : He.DefD := ⟨("monomials_together", none), "monomials_together", "monomials_together", defArgs (hS 31), defBody (hS 31), defScope (hS 31), [], []⟩
def hd18 : He.DefD := ⟨("times", none), "times", "times", defArgs (hS 11), defBody (hS 11), defScope (hS 11), [], []⟩
def hd19 : He.DefD := ⟨("_law_times", none), "_law_times", "_law_times", defArgs (hS 39), defBody (hS 39), defScope (hS 39), [], []⟩
def hd20 : He.DefD := ⟨("constant", none), "constant", "constant", defArgs (hS 7), defBody (hS 7), defScope (hS 7), [], []⟩
def hd21 : He.DefD := ⟨("raised", none), "raised", "raised", defArgs (hS 13), defBody (hS 13), defScope (hS 13), [], []⟩
def hd22 : He.DefD := ⟨("_law_plain_right", none), "_law_plain_right", "_law_plain_right", defArgs (hS 47), defBody (hS 47), defScope (hS 47), [], []⟩
def hd23 : He.DefD := ⟨("_law_derived", none), "_law_derived", "_law_derived", defArgs (hS 40), defBody (hS 40), defScope (hS 40), [], []⟩
def hd24 : He.DefD := ⟨("derivatives_in", none), "derivatives_in", "derivatives_in", defArgs (hS 26), defBody (hS 26), defScope (hS 26), [], []⟩
def hd25 : He.DefD := ⟨("by_powers", none), "by_powers", "by_powers", defArgs (hS 18), defBody (hS 18), defScope (hS 18), [], []⟩
def hd26 : He.DefD := ⟨("put_into", none), "put_into", "put_into", defArgs (hS 17), defBody (hS 17), defScope (hS 17), [], []⟩
def hd27 : He.DefD := ⟨("_law_put", none), "_law_put", "_law_put", defArgs (hS 44), defBody (hS 44), defScope (hS 44), [], []⟩
def hd28 : He.DefD := ⟨("_power_of", none), "_power_of", "_power_of", defArgs (hS 20), defBody (hS 20), defScope (hS 20), [], []⟩
def hd29 : He.DefD := ⟨("value_of", none), "value_of", "value_of", defArgs (hS 19), defBody (hS 19), defScope (hS 19), [], []⟩
def hd30 : He.DefD := ⟨("_law_value", none), "_law_value", "_law_value", defArgs (hS 45), defBody (hS 45), defScope (hS 45), [], []⟩
def hd31 : He.DefD := ⟨("number_in", none), "number_in", "number_in", defArgs (hS 22), defBody (hS 22), defScope (hS 22), [], []⟩
def hd32 : He.DefD := ⟨("is_number", none), "is_number", "is_number", defArgs (hS 21), defBody (hS 21), defScope (hS 21), [], []⟩
def hd33 : He.DefD := ⟨("monomial_degree", none), "monomial_degree", "monomial_degree", defArgs (hS 24), defBody (hS 24), defScope (hS 24), [], []⟩
def hd34 : He.DefD := ⟨("degree_of", none), "degree_of", "degree_of", defArgs (hS 23), defBody (hS 23), defScope (hS 23), [], []⟩
def hd35 : He.DefD := ⟨("order_of", none), "order_of", "order_of", defArgs (hS 25), defBody (hS 25), defScope (hS 25), [], []⟩
def hd36 : He.DefD := ⟨("names_in", none), "names_in", "names_in", defArgs (hS 27), defBody (hS 27), defScope (hS 27), [], []⟩
def hd37 : He.DefD := ⟨("_law_told_right", none), "_law_told_right", "_law_told_right", defArgs (hS 46), defBody (hS 46), defScope (hS 46), [], []⟩
def hd38 : He.DefD := ⟨("of_derivative", none), "of_derivative", "of_derivative", defArgs (hS 8), defBody (hS 8), defScope (hS 8), [], [("power", .int 1)]⟩
def hd39 : He.DefD := ⟨("_law_made_right", none), "_law_made_right", "_law_made_right", defArgs (hS 48), defBody (hS 48), defScope (hS 48), [], []⟩
def hd40 : He.DefD := ⟨("_higher", none), "_higher", "_higher", defArgs (hS 16), defBody (hS 16), defScope (hS 16), [], []⟩
def hd41 : He.DefD := ⟨("_derived_once", none), "_derived_once", "_derived_once", defArgs (hS 15), defBody (hS 15), defScope (hS 15), [], []⟩
def hd42 : He.DefD := ⟨("derived", none), "derived", "derived", defArgs (hS 14), defBody (hS 14), defScope (hS 14), [], [("many", .int 1)]⟩
def hd43 : He.DefD := ⟨("law", none), "law", "law", defArgs (hS 49), defBody (hS 49), defScope (hS 49), [], []⟩
def hfn : List He.DefD := ([hd0, hd1, hd2, hd3, hd4, hd5, hd6, hd7, hd8, hd9, hd10, hd11, hd12, hd13] : List He.DefD) ++ ([hd14, hd15, hd16, hd17, hd18, hd19, hd20, hd21, hd22, hd23, hd24, hd25, hd26, hd27] : List He.DefD) ++ ([hd28, hd29, hd30, hd31, hd32, hd33, hd34, hd35, hd36, hd37, hd38, hd39, hd40, hd41] : List He.DefD) ++ ([hd42, hd43] : List He.DefD)
def hfa : List He.Fa := ([.glo "_law_draw", .glo "_law_mixed", .glo "_law_digit", .glo "_law_derivative", .glo "_law_monomial", .glo "_law_lowest", .glo "_law_number", .glo "_law_added", .glo "_law_poly", .glo "sum_of", .glo "add_term", .glo "add_to", .glo "polynomial_of", .glo "plus"] : List He.Fa) ++ ([.glo "product", .glo "scaled", .glo "less", .glo "monomials_together", .glo "times", .glo "_law_times", .glo "constant", .glo "raised", .glo "_law_plain_right", .glo "_law_derived", .glo "derivatives_in", .glo "by_powers", .glo "put_into", .glo "_law_put"] : List He.Fa) ++ ([.glo "_power_of", .glo "value_of", .glo "_law_value", .glo "number_in", .glo "is_number", .glo "monomial_degree", .glo "degree_of", .glo "order_of", .glo "names_in", .glo "_law_told_right", .glo "of_derivative", .glo "_law_made_right", .glo "_higher", .glo "_derived_once"] : List He.Fa) ++ ([.glo "derived", .glo "law", .free "abs", .free "all", .free "dict", .free "enumerate", .free "len", .free "list", .free "max", .free "range", .free "repr", .free "set", .free "sorted", .free "sum"] : List He.Fa) ++ ([.free "tuple", .glo "ONE", .glo "NOUGHT"] : List He.Fa)
def haddr : List Addr := ([3, 2, 6, 4, 43, 44, 51, 58, 65, 73, 78, 85, 92, 97] : List Addr) ++ ([104, 112, 119, 126, 133, 138, 145, 152, 157, 164, 169, 174, 179, 186] : List Addr) ++ ([191, 198, 205, 210, 215, 222, 229, 236, 243, 248, 253, 258, 265, 272] : List Addr) ++ ([279, 284, 289, 296, 301, 308, 315, 322, 0, 50, 57, 64, 72, 66] : List Addr) ++ ([77, 84, 91, 96, 103, 111, 105, 118, 125, 132, 137, 144, 151, 156] : List Addr) ++ ([163, 168, 173, 178, 185, 190, 197, 204, 209, 214, 221, 228, 235, 242] : List Addr) ++ ([247, 252, 257, 264, 271, 278, 283, 288, 295, 300, 307, 314, 321, 45] : List Addr) ++ ([47, 48, 52, 54, 55, 59, 61, 62, 67, 69, 70, 74, 79, 81] : List Addr) ++ ([82, 86, 88, 89, 93, 98, 100, 101, 106, 108, 109, 113, 115, 116] : List Addr) ++ ([120, 122, 123, 127, 129, 130, 134, 139, 141, 142, 146, 148, 149, 153] : List Addr) ++ ([158, 160, 161, 165, 170, 175, 180, 182, 183, 187, 192, 194, 195, 199] : List Addr) ++ ([201, 202, 206, 211, 216, 218, 219, 223, 225, 226, 230, 232, 233, 237] : List Addr) ++ ([239, 240, 244, 249, 254, 259, 261, 262, 266, 268, 269, 273, 275, 276] : List Addr) ++ ([280, 285, 290, 292, 293, 297, 302, 304, 305, 309, 311, 312, 316, 318] : List Addr) ++ ([319] : List Addr)
def hnames : List Str := (["gcd", "__name__", "NOUGHT", "ONE", "sum_of", "product", "constant", "of_derivative", "plus", "less", "times", "scaled", "raised", "derived"] : List Str) ++ (["_derived_once", "_higher", "put_into", "by_powers", "value_of", "_power_of", "is_number", "number_in", "degree_of", "monomial_degree", "order_of", "derivatives_in", "names_in", "add_to"] : List Str) ++ (["add_term", "polynomial_of", "monomials_together", "_law_mixed", "_law_draw", "_law_digit", "_law_lowest", "_law_added", "_law_monomial", "_law_times", "_law_derived", "_law_number", "_law_derivative", "_law_poly"] : List Str) ++ (["_law_put", "_law_value", "_law_told_right", "_law_plain_right", "_law_made_right"] : List Str)
def hx_tON (K : PySem.W.Frag) : Bool := Hd.tupAt K (He.ga K "ONE") [.int 1, .int 1]
def hx_tNO (K : PySem.W.Frag) : Bool := Hd.tupAt K (He.ga K "NOUGHT") [.int 0, .int 1]
def hexs : List (PySem.W.Frag → Bool) := ([hx_tON, hx_tNO] : List (PySem.W.Frag → Bool))
def hex (K : PySem.W.Frag) : Bool := hexs.all fun e => e K
def hlams : List Str := []
theorem hex_at {K : PySem.W.Frag} (h : hex K = true) (i : Nat) {e : PySem.W.Frag → Bool} (q : hexs[i]? = some e) : e K = true := List.all_eq_true.mp h e (List.mem_of_getElem? q)
abbrev hR : PySem.W.OpenRow := PySem.W.OpenLaw.row PySem.Challenge.rw_rankedchains_k03_polynomials_reckoned
def hvf (K : PySem.W.Frag) : List (Option (Option Value)) := [PySem.W.nsIn K mainGlobals "gcd"]
def hvv : List (Option (Option Value)) := [some (some (.builtin "math.gcd"))]
abbrev hk : PySem.W.Hook := Hd.hookX haddr hfa hfn hlams hex hvf hvv
def hob (s : PySem.W.SharedT) : He.AlD × Bool × List (Option (Option Value)) := Hd.obsX haddr hfa hfn hlams hex hvf (HandSHeadRun.getT s)
theorem hob_eq (s : PySem.W.SharedT) : hob s = hk.obs s.abs := Hd.obsX_eq (HandSHeadRun.getT_eq s)
set_option maxRecDepth 100000 in
set_option maxHeartbeats 0 in
theorem hrun (w : World) : HandSHeadRun.RunEqI hR (PySem.W.view hR.prog [0, 49]) hk hob 7000 hnames w := by
  unfold HandSHeadRun.RunEqI
  kernel_rfl
end K12
namespace My
open PySem L2
theorem isP {p : Prop} (h : p) : p := h
theorem new {H : Hp} {p : Addr} {o : HO} (hp : H p = none) : Same H (upd H p o) := fun b u e => by
  rw [upd_ne (ne_of_none e hp)]
  exact e
theorem new2 {H : Hp} {p : Addr} {o o' : HO} (hp : H p = none) : Same H (upd (upd H p o) p o') := fun b u e => by
  rw [upd_ne (ne_of_none e hp), upd_ne (ne_of_none e hp)]
  exact e
theorem lstNew {K : PySem.W.Frag} {H : Hp} {p : Addr} {xs : List V} : SqL K (upd H p (.lst xs)) p xs := .inl (.inl upd_same)
theorem atIn {α : Type} (xs : List α) (i : Int) (h0 : 0 ≤ i) (h1 : i < xs.length) : ∃ v, v ∈ xs ∧ atI xs i = some v := by
  obtain ⟨n, rfl⟩ : ∃ n : Nat, i = (n : Int) := ⟨i.toNat, by omega⟩
  have hn : n < xs.length := by omega
  exact ⟨xs[n], List.getElem_mem hn, atI_nat (List.getElem?_eq_getElem hn)⟩
theorem cutTo (xs : List V) (k : Nat) : cutV xs none (some (k : Int)) = xs.take k := by
  unfold cutV
  rw [HT.sIx_none, HT.sIx_nat, List.drop_zero, Nat.sub_zero]
  by_cases h : k ≤ xs.length
  · rw [Nat.min_eq_left h]
  · rw [Nat.min_eq_right (by omega), List.take_length, List.take_of_length_le (by omega)]
theorem small {n : Nat} (h : n ≤ 1000) : n ≤ sizeLine := Nat.le_of_lt (small1000 h)
end My
namespace My
set_option autoImplicit false
open PySem L2 Evl
/-- what is known of a value, whatever is made beside -/
structure Pr where
  P : V → Hp → Prop
  m : ∀ {v : V} {H H' : Hp}, Ex H H' → P v H → P v H'
def AllP : List Pr → List V → Hp → Prop
  | [], [], _ => True
  | p :: ps, v :: vs, H => p.P v H ∧ AllP ps vs H
  | [], _ :: _, _ => False
  | _ :: _, [], _ => False
theorem AllP.m {H H' : Hp} (e : Ex H H') : ∀ {ps : List Pr} {vs : List V}, AllP ps vs H → AllP ps vs H'
  | [], [], _ => trivial
  | _ :: _, _ :: _, h => ⟨Pr.m _ e h.1, AllP.m e h.2⟩
theorem AllP.len {H : Hp} : ∀ {ps : List Pr} {vs : List V}, AllP ps vs H → vs.length = ps.length
  | [], [], _ => rfl
  | _ :: _, _ :: _, h => congrArg Nat.succ (AllP.len h.2)
theorem AllP.app {H : Hp} : ∀ {ps qs : List Pr} {vs ws : List V}, AllP ps vs H → AllP qs ws H → AllP (ps ++ qs) (vs ++ ws) H
  | [], _, [], _, _, h => h
  | _ :: _, _, _ :: _, _, a, h => ⟨a.1, AllP.app a.2 h⟩
theorem AllP.get {H : Hp} : ∀ {ps : List Pr} {vs : List V} {i : Nat} {v : V}, AllP ps vs H → vs[i]? = some v → ∃ p, ps[i]? = some p ∧ p.P v H
  | [], [], i, v, _, h => by simp at h
  | p :: _, w :: _, 0, v, a, h => by
    obtain rfl : w = v := Option.some.inj h
    exact ⟨p, rfl, a.1⟩
  | _ :: _, _ :: _, i + 1, v, a, h => AllP.get (i := i) a.2 h
theorem AllP.at {H : Hp} : ∀ {ps : List Pr} {vs : List V} {i : Nat} {p : Pr}, AllP ps vs H → ps[i]? = some p → ∃ v, vs[i]? = some v ∧ p.P v H
  | [], [], i, v, _, h => by simp at h
  | q :: _, w :: _, 0, p, a, h => by
    obtain rfl : q = p := Option.some.inj h
    exact ⟨w, rfl, a.1⟩
  | _ :: _, _ :: _, i + 1, v, a, h => AllP.at (i := i) a.2 h
/-- without tables of code -/
def NoTab (B : Hp) : Prop := ∀ b ps, B b ≠ some (.tbl ps)
/-- from what is known, B, within the heap H, to B' within H': what is known of B' leans on nothing else that stood in H -/
structure Gr (B H B' H' : Hp) : Prop where
  a : Ex H H'
  b : Ex B B'
  c : Ex B' H'
  d : ∀ x, B x = none → H x ≠ none → B' x = none
  e : NoTab B → NoTab B'
theorem Gr.refl {B H : Hp} (e : Ex B H) : Gr B H B H := ⟨Ex.refl H, Ex.refl B, e, fun _ h _ => h, id⟩
theorem has {H H' : Hp} {x : Addr} (e : Ex H H') (h : H x ≠ none) : H' x ≠ none := by
  cases q : H x with
  | none => exact absurd q h
  | some o =>
    rw [e x o q]
    exact fun z => nomatch z
theorem Gr.trans {B H B1 H1 B2 H2 : Hp} (g : Gr B H B1 H1) (k : Gr B1 H1 B2 H2) : Gr B H B2 H2 :=
  ⟨g.a.trans k.a, g.b.trans k.b, k.c, fun x hb hh => k.d x (g.d x hb hh) (has g.a hh), fun z => k.e (g.e z)⟩
/-- nothing new is known -/
theorem Gr.wide {B H H1 : Hp} (e : Ex B H) (k : Ex H H1) : Gr B H B H1 := ⟨k, Ex.refl B, e.trans k, fun _ h _ => h, id⟩
/-- a new object -/
theorem Gr.new {B H : Hp} {r : Addr} (o : HO) (e : Ex B H) (hr : H r = none) (ho : ∀ ps, o ≠ .tbl ps := by intro _ z; cases z) : Gr B H (upd B r o) (upd H r o) :=
  ⟨Ex.new hr, Ex.new (fresh_back e hr), fun a u h => by
    by_cases q : a = r
    · subst q
      rw [upd_same] at h ⊢
      exact h
    · rw [upd_ne q] at h ⊢
      exact e a u h, fun x hb hh => by
    by_cases q : x = r
    · subst q
      exact absurd hr hh
    · rw [upd_ne q]
      exact hb, fun z b ps q => by
    by_cases n : b = r
    · subst n
      rw [upd_same] at q
      exact ho ps (Option.some.inj q)
    · rw [upd_ne n] at q
      exact z b ps q⟩
/-- two parts of one heap together -/
def both (B C : Hp) : Hp := fun b => match B b with
  | some o => some o
  | none => C b
theorem both_l {B C : Hp} : Ex B (both B C) := fun a o h => by
  unfold both
  rw [h]
theorem both_r {B C H : Hp} (e : Ex B H) (k : Ex C H) : Ex C (both B C) := fun a o h => by
  unfold both
  cases q : B a with
  | none => exact h
  | some u =>
    have h1 := e a u q
    have h2 := k a o h
    rw [h1] at h2
    exact h2
theorem both_in {B C H : Hp} (e : Ex B H) (k : Ex C H) : Ex (both B C) H := fun a o h => by
  unfold both at h
  cases q : B a with
  | none =>
    rw [q] at h
    exact k a o h
  | some u =>
    rw [q] at h
    obtain rfl : u = o := Option.some.inj h
    exact e a u q
theorem both_none {B C : Hp} {x : Addr} (h : B x = none) (k : C x = none) : both B C x = none := by
  unfold both
  rw [h]
  exact k
theorem both_nt {B C : Hp} (h : NoTab B) (k : NoTab C) : NoTab (both B C) := fun b ps q => by
  unfold both at q
  cases z : B b with
  | none =>
    rw [z] at q
    exact k b ps q
  | some o =>
    rw [z] at q
    have q : some o = some (HO.tbl ps) := q
    rw [q] at z
    exact h b ps z
/-- one behind the other, each from the same B -/
theorem Gr.join {B H B1 H1 B2 H2 : Hp} (g : Gr B H B1 H1) (k : Gr B H1 B2 H2) : Gr B H (both B1 B2) H2 :=
  ⟨g.a.trans k.a, g.b.trans both_l, both_in (g.c.trans k.a) k.c, fun x hb hh => both_none (g.d x hb hh) (k.d x hb (has g.a hh)), fun z => both_nt (g.e z) (k.e z)⟩
/-- without D -/
def wo (D : Addr) (H : Hp) : Hp := fun b => if b = D then none else H b
theorem wo_ne {D b : Addr} {H : Hp} (n : b ≠ D) : wo D H b = H b := if_neg n
theorem wo_same {D : Addr} {H : Hp} : wo D H D = none := if_pos rfl
theorem wo_some {D b : Addr} {H : Hp} {o : HO} (h : wo D H b = some o) : b ≠ D ∧ H b = some o := by
  by_cases n : b = D
  · rw [n, wo_same] at h
    exact nomatch h
  · rw [wo_ne n] at h
    exact ⟨n, h⟩
theorem wo_ex {D : Addr} {H : Hp} : Ex (wo D H) H := fun _ _ e => (wo_some e).2
theorem ex_wo {B H : Hp} {D : Addr} (e : Ex B H) (h : B D = none) : Ex B (wo D H) := fun b o k => by
  rw [wo_ne (ne_of_none k h)]
  exact e b o k
theorem wo_none {B H : Hp} {D : Addr} (e : Ex B (wo D H)) : B D = none := by
  cases q : B D with
  | none => rfl
  | some o =>
    have := e _ _ q
    rw [wo_same] at this
    exact nomatch this
theorem wo_new {H : Hp} {D : Addr} {o : HO} (h : H D = none) : wo D (upd H D o) = H := funext fun b => by
  by_cases n : b = D
  · rw [n, wo_same, h]
  · rw [wo_ne n, upd_ne n]
theorem wo_upd {H : Hp} {D : Addr} {o : HO} : wo D (upd H D o) = wo D H := funext fun b => by
  by_cases n : b = D
  · rw [n, wo_same, wo_same]
  · rw [wo_ne n, wo_ne n, upd_ne n]
theorem wo_mono {H H' : Hp} {D : Addr} (e : Ex H H') : Ex (wo D H) (wo D H') := fun b o k => by
  obtain ⟨n, q⟩ := wo_some k
  rw [wo_ne n]
  exact e b o q
/-- what a turn adds, the list at D left aside -/
theorem Gr.side {B H B1 H1 B2 H2 : Hp} {D : Addr} (g : Gr B H B1 (wo D H1)) (hD : H1 D ≠ none) (k : Gr B1 H1 B2 H2) : Gr B H B2 (wo D H2) :=
  ⟨fun b o e => by
    obtain ⟨n, q⟩ := wo_some (g.a b o e)
    rw [wo_ne n]
    exact k.a b o q, g.b.trans k.b, ex_wo k.c (k.d D (wo_none g.c) hD), fun x hb hh => k.d x (g.d x hb hh) (has wo_ex (has g.a hh)), fun z => k.e (g.e z)⟩
/-- just this value -/
def IsV (x : V) : Pr := ⟨fun v _ => v = x, fun _ h => h⟩
/-- a new list | a list | a tuple, of what -/
def LsP (ps : List Pr) : Pr := ⟨fun v H => ∃ p xs, v = .ref p ∧ H p = some (.lst xs) ∧ AllP ps xs H, fun e ⟨p, xs, a, b, c⟩ => ⟨p, xs, a, e _ _ b, c.m e⟩⟩
def LqP (K : PySem.W.Frag) (ps : List Pr) : Pr := ⟨fun v H => ∃ p xs, v = .ref p ∧ SqL K H p xs ∧ AllP ps xs H, fun e ⟨p, xs, a, b, c⟩ => ⟨p, xs, a, ex_l e b, c.m e⟩⟩
def TuP (K : PySem.W.Frag) (ps : List Pr) : Pr := ⟨fun v H => ∃ p xs, v = .ref p ∧ SqT K H p xs ∧ AllP ps xs H, fun e ⟨p, xs, a, b, c⟩ => ⟨p, xs, a, ex_t e b, c.m e⟩⟩
theorem lq_ls {K : PySem.W.Frag} {ps : List Pr} {v : V} {H : Hp} (h : (LsP ps).P v H) : (LqP K ps).P v H := by
  obtain ⟨p, xs, a, b, c⟩ := h
  exact ⟨p, xs, a, sq_of b, c⟩
mutual
theorem dp_m {K : PySem.W.Frag} {H H' : Hp} (e : Ex H H') : ∀ {d : PyData} {v : V}, Dp K H v d → Dp K H' v d
  | _, _, .non => .non
  | _, _, .bl b => .bl b
  | _, _, .int i => .int i
  | _, _, .str x => .str x
  | _, _, .lst a b => .lst (ex_l e a) (dps_m e b)
  | _, _, .tup a b => .tup (ex_t e a) (dps_m e b)
theorem dps_m {K : PySem.W.Frag} {H H' : Hp} (e : Ex H H') : ∀ {ds : List PyData} {vs : List V}, DpAll K H vs ds → DpAll K H' vs ds
  | _, _, .nil => .nil
  | _, _, .cons a b => .cons (dp_m e a) (dps_m e b)
end
/-- plain data -/
def IsD (K : PySem.W.Frag) (d : PyData) : Pr := ⟨fun v H => Dp K H v d, fun e h => dp_m e h⟩
theorem dps_of {K : PySem.W.Frag} {H : Hp} : ∀ {ds : List PyData} {vs : List V}, AllP (ds.map (IsD K)) vs H → DpAll K H vs ds
  | [], [], _ => .nil
  | _ :: _, _ :: _, h => .cons h.1 (dps_of h.2)
/-- an expression gives such a value, over all that stands beside -/
def EvP (te : TE) (σ : L2.St) (B : Hp) (p : Pr) : Prop := ∀ H1, Ex B H1 → ∀ Q : VK, (∀ v B' H2, Gr B H1 B' H2 → p.P v B' → Q v H2) → te σ H1 Q
def EvPs (ta : TA) (σ : L2.St) (B : Hp) (ps : List Pr) : Prop := ∀ H1, Ex B H1 → ∀ Q : List V → Hp → Prop, (∀ vs B' H2, Gr B H1 B' H2 → AllP ps vs B' → Q vs H2) → ta σ H1 Q
section
variable {te ta tb : TE} {t tr : TA} {σ : L2.St} {B B' H : Hp} {p q : Pr} {ps qs : List Pr} {v : V} {K : PySem.W.Frag} {D : Ends}
theorem EvP.mono (e : Ex B B') (h : EvP te σ B p) : EvP te σ B' p := fun H1 a Q k => h H1 (e.trans a) Q fun v C H2 g b =>
  k v (both B' C) H2 ⟨g.a, both_l, both_in (a.trans g.a) g.c, fun x hb hh => both_none hb (g.d x (fresh_back e hb) hh), fun z => both_nt z (g.e fun b ps q => z b ps (e _ _ q))⟩ (p.m (both_r (a.trans g.a) g.c) b)
theorem EvP.imp (h : EvP te σ B p) (i : ∀ v B1, Ex B B1 → p.P v B1 → q.P v B1) : EvP te σ B q := fun H1 a _ k => h H1 a _ fun v B2 H2 g b => k v B2 H2 g (i v B2 g.b b)
theorem p_var {i : Nat} (h : σ[i]? = some (some v)) (hp : p.P v B) : EvP (tVar i) σ B p := fun H1 a _ k => ⟨v, h, k v B H1 (Gr.refl a) hp⟩
theorem p_c : EvP (tC v) σ B (IsV v) := fun H1 a _ k => k v B H1 (Gr.refl a) rfl
theorem p_ev (h : Ev te σ B v) : EvP te σ B (IsV v) := fun H1 a _ k => h H1 a _ fun H2 e => k v B H2 (Gr.wide a e) rfl
theorem ev_p (h : EvP te σ B (IsV v)) : Ev te σ B v := fun H1 a _ k => h H1 a _ fun w B2 H2 g b => by
  obtain rfl : w = v := b
  exact k H2 g.a
theorem q_nil : EvPs tNil σ B [] := fun H1 a _ k => k [] B H1 (Gr.refl a) trivial
theorem q_cons (h : EvP te σ B p) (hr : EvPs tr σ B ps) : EvPs (tCons te tr) σ B (p :: ps) := fun H1 a _ k =>
  h H1 a _ fun v B2 H2 g b => hr H2 (g.b.trans g.c) _ fun vs B3 H3 g3 b3 => k (v :: vs) (both B2 B3) H3 (g.join g3) ⟨p.m both_l b, b3.m (both_r (g.c.trans g3.a) g3.c)⟩
theorem p_lst (h : EvPs t σ B ps) (hl : ps.length ≤ 100000) : EvP (tLst t) σ B (LsP ps) := fun H1 a _ k =>
  h H1 a _ fun vs B2 H2 g b => ⟨sz_of (by rw [b.len]; exact hl), fun r hr => k _ _ _ (g.trans (Gr.new _ g.c hr)) ⟨r, vs, rfl, upd_same, b.m (Ex.new (fresh_back g.c hr))⟩⟩
theorem p_tup (h : EvPs t σ B ps) (hl : ps.length ≤ 100000) : EvP (tTup t) σ B (TuP K ps) := fun H1 a _ k =>
  h H1 a _ fun vs B2 H2 g b => ⟨sz_of (by rw [b.len]; exact hl), fun r hr => k _ _ _ (g.trans (Gr.new _ g.c hr)) ⟨r, vs, rfl, st_of upd_same, b.m (Ex.new (fresh_back g.c hr))⟩⟩
theorem p_cat (ha : EvP ta σ B (LsP ps)) (hb : EvP tb σ B (LsP qs)) (hl : ps.length + qs.length ≤ 100000) : EvP (tOp rCat ta tb) σ B (LsP (ps ++ qs)) := fun H1 a Q k =>
  ha H1 a _ fun v B2 H2 g b => hb H2 (g.b.trans g.c) _ fun w B3 H3 g3 b3 => by
    obtain ⟨p, xs, rfl, hp, hx⟩ := b
    obtain ⟨q, ys, rfl, hq, hy⟩ := b3
    have l1 := hx.len
    have l2 := hy.len
    have gj := g.join g3
    refine ⟨p, q, xs, ys, rfl, rfl, g3.a _ _ (g.c _ _ hp), g3.c _ _ hq, sz_of (by omega), fun r hr => k _ _ _ (gj.trans (Gr.new _ gj.c hr)) ⟨r, xs ++ ys, rfl, upd_same, ?_⟩⟩
    have en : Ex (both B2 B3) (upd (both B2 B3) r (.lst (xs ++ ys))) := Ex.new (fresh_back gj.c hr)
    exact (hx.m (both_l.trans en)).app (hy.m ((both_r (g.c.trans g3.a) g3.c).trans en))
/-- of data -/
theorem d_lst {ds : List PyData} (h : EvP te σ B (LsP (ds.map (IsD K)))) : EvP te σ B (IsD K (.list ds)) := h.imp fun v H1 _ b => by
  obtain ⟨r, xs, rfl, hr, hx⟩ := b
  exact .lst (sq_of hr) (dps_of hx)
theorem d_int {i : Int} (h : EvP te σ B (IsV (.int i))) : EvP te σ B (IsD K (.int i)) := h.imp fun v H1 _ b => by
  obtain rfl : v = V.int i := b
  exact .int i
theorem d_bl {x : Bool} (h : EvP te σ B (IsV (.bl x))) : EvP te σ B (IsD K (.bool x)) := h.imp fun v H1 _ b => by
  obtain rfl : v = V.bl x := b
  exact .bl x
theorem ev_eqD {d e : PyData} (ha : EvP ta σ B (IsD K d)) (hb : EvP tb σ B (IsD K e)) (hd : SeqAt.shaped d = true) (he : SeqAt.shaped e = true) : Ev (tOp (rEqD K) ta tb) σ B (.bl (PyData.eqv d e)) := fun H1 a Q k =>
  ha H1 a _ fun v B2 H2 g b => hb H2 (g.b.trans g.c) _ fun w B3 H3 g3 b3 => ⟨d, e, dp_m (g.c.trans g3.a) b, dp_m g3.c b3, hd, he, k H3 (g.a.trans g3.a)⟩
theorem ev_neD {d e : PyData} (ha : EvP ta σ B (IsD K d)) (hb : EvP tb σ B (IsD K e)) (hd : SeqAt.shaped d = true) (he : SeqAt.shaped e = true) : Ev (tOp (rNeD K) ta tb) σ B (.bl (!PyData.eqv d e)) := fun H1 a Q k =>
  ha H1 a _ fun v B2 H2 g b => hb H2 (g.b.trans g.c) _ fun w B3 H3 g3 b3 => ⟨d, e, dp_m (g.c.trans g3.a) b, dp_m g3.c b3, hd, he, k H3 (g.a.trans g3.a)⟩
theorem ps_asg {i : Nat} (a : Ex B H) (h : EvP te σ B p) (k : ∀ v B1 H1, Gr B H B1 H1 → p.P v B1 → D.nx (σ.set i (some v)) H1) : tAsg te (gName i) D σ H := h H a _ k
theorem ps_asgN {i : Nat} (σ' : V → L2.St) (a : Ex B H) (h : EvP te σ B p) (k : ∀ v B1 H1, Gr B H B1 H1 → p.P v B1 → D.nx (σ' v) H1) (e : ∀ v, σ.set i (some v) = σ' v := by intro _; rfl) : tAsg te (gName i) D σ H := h H a _ fun v B1 H1 g b => by
  have := k v B1 H1 g b
  rw [← e v] at this
  exact this
theorem ps_ret (a : Ex B H) (h : EvP te σ B p) (k : ∀ v B1 H1, Gr B H B1 H1 → p.P v B1 → D.rt v H1) : tRet te D σ H := h H a _ k
/-- a call: what the def is handed, what it tells -/
def SpOk (sp : Sp) (ps : List Pr) (p : Pr) : Prop := ∀ vs B H Q E, Ex B H → AllP ps vs B → (∀ u B' H', Gr B H B' H' → p.P u B' → Q u H') → sp vs H Q E
/-- a comprehension over a list, some items left out -/
theorem p_lc {g : TG} {tt : TT} {vs : List Nat} (h : EvP ta σ B (LqP K ps)) (hl : ps.length ≤ 100000) (keep : Nat → Bool) (res : Nat → Pr)
    (step : ∀ i p v B1, ps[i]? = some p → Ex B B1 → p.P v B1 → ∃ σ2, wipe σ2 vs = wipe σ vs ∧ (∀ H2 Q, Ex B1 H2 → Q σ2 H2 → g v (wipe σ vs) H2 Q) ∧ EvT tt σ2 B1 (keep i) ∧ (keep i = true → EvP te σ2 B1 (res i))) :
    EvP (tLc (iList K ta) g tt te vs) σ B (LsP (((List.range ps.length).filter keep).map res)) := fun H1 a Q k =>
  h H1 a _ fun v B2 H2 gr b => by
    obtain ⟨l, xs, rfl, hx, hal⟩ := b
    have hlen := hal.len
    refine ⟨l, rfl, ⟨xs, ex_l gr.c hx⟩, fun Dd hD => ?_⟩
    refine lc_list (K := K) (a := l) (xs := xs) (fun i H3 => ∃ B3 acc, Gr B2 H2 B3 (wo Dd H3) ∧ H3 Dd = some (.lst acc) ∧ AllP (((List.range i).filter keep).map res) acc B3) ?_ ?_ ?_ ?_
    · exact ⟨B2, [], by rw [wo_new hD]; exact Gr.refl gr.c, upd_same, trivial⟩
    · rintro i H3 _ ⟨B3, acc, g3, _, _⟩
      exact ex_l (g3.b.trans (g3.c.trans wo_ex)) hx
    · rintro i x H3 hi ⟨B3, acc, g3, hDd, hacc⟩
      obtain ⟨p, hp, px⟩ := hal.get hi
      have hil : i < xs.length := (List.getElem?_eq_some_iff.mp hi).1
      have exB : Ex B3 H3 := g3.c.trans wo_ex
      have hB3 : B3 Dd = none := wo_none g3.c
      have some3 : H3 Dd ≠ none := by
        rw [hDd]
        exact fun z => nomatch z
      obtain ⟨σ2, hw, hg, ht, he⟩ := step i p x B3 hp (gr.b.trans g3.b) (p.m g3.b px)
      refine hg H3 _ exB ⟨hw, ht H3 exB _ fun H4 e4 => ?_⟩
      have e34 : Ex B3 H4 := exB.trans e4
      have hD4 := e4 _ _ hDd
      have g4 : Gr B2 H2 B3 (wo Dd H4) := g3.side some3 (Gr.wide exB e4)
      have some4 : H4 Dd ≠ none := has e4 some3
      cases hk : keep i with
      | true =>
        rw [if_pos rfl]
        refine he hk H4 e34 _ fun y B5 H5 g5 hy => ?_
        have la : acc.length ≤ i := by
          rw [hacc.len, List.length_map]
          exact Nat.le_trans (List.length_filter_le _ _) (by rw [List.length_range]; exact Nat.le_refl _)
        refine ⟨acc, g5.a _ _ hD4, sz_lt (by omega), B5, acc ++ [y], by rw [wo_upd]; exact g4.side some4 g5, upd_same, ?_⟩
        rw [List.range_succ, List.filter_append, List.map_append]
        refine (hacc.m g5.b).app ?_
        have : List.filter keep [i] = [i] := by simp [hk]
        rw [this]
        exact ⟨hy, trivial⟩
      | false =>
        rw [if_neg Bool.false_ne_true]
        refine ⟨B3, acc, g4, hD4, ?_⟩
        rw [List.range_succ, List.filter_append, List.map_append]
        have : List.filter keep [i] = [] := by simp [hk]
        rw [this, List.map_nil, List.append_nil]
        exact hacc
    · rintro H3 ⟨B3, acc, g3, hDd, hacc⟩
      have hB3 : B3 Dd = none := wo_none g3.c
      rw [hlen] at hacc
      refine k (.ref Dd) (upd B3 Dd (.lst acc)) H3 ⟨gr.a.trans (g3.a.trans wo_ex), gr.b.trans (g3.b.trans (Ex.new hB3)), fun b o e => ?_, fun x hb hh => ?_, fun z b ps q => ?_⟩ ⟨Dd, acc, rfl, upd_same, hacc.m (Ex.new hB3)⟩
      · by_cases n : b = Dd
        · subst n
          rw [upd_same] at e
          rw [hDd]
          exact e
        · rw [upd_ne n] at e
          exact g3.c.trans wo_ex _ _ e
      · have n : x ≠ Dd := fun z => by
          subst z
          exact has gr.a hh hD
        rw [upd_ne n]
        exact g3.d x (gr.d x hb hh) (has gr.a hh)
      · by_cases n : b = Dd
        · subst n
          rw [upd_same] at q
          cases q
        · rw [upd_ne n] at q
          exact g3.e (gr.e z) b ps q
end
end My
namespace My
set_option autoImplicit false
open PySem L2 Evl
/-- what is known says which data it is -/
def To (K : PySem.W.Frag) (p : Pr) (d : PyData) : Prop := ∀ v H, p.P v H → Dp K H v d
inductive ToAll (K : PySem.W.Frag) : List Pr → List PyData → Prop
  | nil : ToAll K [] []
  | cons {p : Pr} {d : PyData} {ps : List Pr} {ds : List PyData} : To K p d → ToAll K ps ds → ToAll K (p :: ps) (d :: ds)
section
variable {te ta tb : TE} {t tr : TA} {σ : L2.St} {B B' H : Hp} {p q : Pr} {ps qs : List Pr} {v : V} {K : PySem.W.Frag} {D : Ends} {d e : PyData} {ds : List PyData}
theorem to_int {i : Int} : To K (IsV (.int i)) (.int i) := fun v H h => by
  obtain rfl : v = _ := h
  exact .int i
theorem to_str {x : Str} : To K (IsV (.str x)) (.str x) := fun v H h => by
  obtain rfl : v = _ := h
  exact .str x
theorem toAll_all {H : Hp} : ∀ {ps : List Pr} {ds : List PyData} {vs : List V}, ToAll K ps ds → AllP ps vs H → DpAll K H vs ds
  | [], _, [], .nil, _ => .nil
  | _ :: _, _, _ :: _, .cons a b, h => .cons (a _ _ h.1) (toAll_all b h.2)
theorem to_lst (h : ToAll K ps ds) : To K (LsP ps) (.list ds) := fun v H hv => by
  obtain ⟨r, xs, rfl, hr, hx⟩ := hv
  exact .lst (sq_of hr) (toAll_all h hx)
theorem to_tup (h : ToAll K ps ds) : To K (TuP K ps) (.tuple ds) := fun v H hv => by
  obtain ⟨r, xs, rfl, hr, hx⟩ := hv
  exact .tup hr (toAll_all h hx)
theorem toAll_map {α : Type} {f : α → Pr} {g : α → PyData} (l : List α) (h : ∀ x, To K (f x) (g x)) : ToAll K (l.map f) (l.map g) := by
  induction l with
  | nil => exact .nil
  | cons x r ih => exact .cons (h x) ih
theorem p_to (h : EvP te σ B p) (k : To K p d) : EvP te σ B (IsD K d) := h.imp fun v B1 _ b => k v B1 b
theorem p_varV {i : Nat} (h : σ[i]? = some (some v)) : EvP (tVar i) σ B (IsV v) := p_var h rfl
theorem p_lq (h : EvP te σ B (LsP ps)) : EvP te σ B (LqP K ps) := h.imp fun _ _ _ b => lq_ls b
/-- an item at a written place -/
theorem p_ix {j : Int} (h : EvP ta σ B (LqP K ps)) (hj : EvP tb σ B (IsV (.int j))) (hp : atI ps j = some p) : EvP (tOp (rIxL K) ta tb) σ B p := fun H1 a Q k =>
  h H1 a _ fun v B2 H2 g b => hj H2 (g.b.trans g.c) _ fun w B3 H3 g3 b3 => by
    obtain ⟨l, xs, rfl, hx, hal⟩ := b
    obtain rfl : w = _ := b3
    have hlen := hal.len
    unfold atI at hp
    rw [← hlen] at hp
    obtain ⟨n, hn, hq⟩ := Option.bind_eq_some_iff.mp hp
    obtain ⟨z, hz, pz⟩ := hal.at hq
    have gj := g.join g3
    refine ⟨l, xs, j, z, rfl, rfl, ex_l (g.c.trans g3.a) hx, ?_, k z _ _ gj (p.m both_l pz)⟩
    unfold atI
    rw [hn]
    exact hz
theorem p_ixT {j : Int} (h : EvP ta σ B (TuP K ps)) (hj : EvP tb σ B (IsV (.int j))) (hp : atI ps j = some p) : EvP (tOp (rIxT K) ta tb) σ B p := fun H1 a Q k =>
  h H1 a _ fun v B2 H2 g b => hj H2 (g.b.trans g.c) _ fun w B3 H3 g3 b3 => by
    obtain ⟨l, xs, rfl, hx, hal⟩ := b
    obtain rfl : w = _ := b3
    have hlen := hal.len
    unfold atI at hp
    rw [← hlen] at hp
    obtain ⟨n, hn, hq⟩ := Option.bind_eq_some_iff.mp hp
    obtain ⟨z, hz, pz⟩ := hal.at hq
    have gj := g.join g3
    refine ⟨l, xs, j, z, rfl, rfl, ex_t (g.c.trans g3.a) hx, ?_, k z _ _ gj (p.m both_l pz)⟩
    unfold atI
    rw [hn]
    exact hz
theorem et_yes : EvT tYes σ B true := fun H1 _ _ q => q H1 (Ex.refl H1)
theorem p_lcM {g : TG} {tt : TT} {vs : List Nat} (h : EvP ta σ B (LqP K ps)) (hl : ps.length ≤ 100000) (res : Nat → Pr)
    (step : ∀ i p v B1, ps[i]? = some p → Ex B B1 → p.P v B1 → ∃ σ2, wipe σ2 vs = wipe σ vs ∧ (∀ H2 Q, Ex B1 H2 → Q σ2 H2 → g v (wipe σ vs) H2 Q) ∧ EvT tt σ2 B1 true ∧ EvP te σ2 B1 (res i)) :
    EvP (tLc (iList K ta) g tt te vs) σ B (LsP ((List.range ps.length).map res)) := by
  have := p_lc h hl (fun _ => true) res fun i p v B1 hp e pv => by
    obtain ⟨σ2, a, b, c, d⟩ := step i p v B1 hp e pv
    exact ⟨σ2, a, b, c, fun _ => d⟩
  rw [List.filter_eq_self.mpr (fun _ _ => rfl)] at this
  exact this
theorem ps_ifT {t : TT} {tu tw : TS} (a : Ex B H) (h : EvT t σ B true) (k : ∀ H1, Ex H H1 → tu D σ H1) : tIfS t tu tw D σ H := h H a _ fun H1 e => by
  rw [if_pos rfl]
  exact k H1 e
theorem et_ne {d : PyData} (ha : EvP ta σ B (IsD K d)) (hb : EvP tb σ B (IsD K d)) (hd : SeqAt.shaped d = true) : EvT (tTest (tOp (rNeD K) ta tb)) σ B false :=
  et_is (et_test (ev_neD ha hb hd hd)) (by rw [SeqAt.eqv_refl d (Bool.and_eq_true_iff.mp hd).1]; rfl)
end
end My
namespace My
set_option autoImplicit false
open PySem PySem.Spec PySem.W PyProof.Rows L2 Evl NdefX LamX
/-- an address of ours that nothing else speaks of -/
structure Fre (X : Cx) (pins : List (Addr × Obj)) (a : Addr) : Prop where
  base : X.s_0.heap.objs.size ≤ a
  loc : a ≠ X.env.locals
  cel : ∀ y c, X.env.cells.lookup y = some c → c ≠ a
  pin : ∀ p ∈ X.pn ++ pins, p.1 ≠ a
  fs : a ∉ X.fs
section
variable {X : Cx} {pins : List (Addr × Obj)} {σ : L2.St} {H : Hp} {s : Shared} {a b : Addr}
theorem Fre.of (I : Inv X pins σ H s) (h : s.heap.objs.size ≤ a) : Fre X pins a := by
  have no : ∀ c : Addr, c < s.heap.objs.size → c ≠ a := fun c hc z => by
    rw [z] at hc
    exact Nat.lt_irrefl _ (Nat.lt_of_lt_of_le hc h)
  refine ⟨Nat.le_trans I.sz h, (no _ I.lt).symm, fun y c e => ?_, fun p hp => ?_, I.nofs h⟩
  · obtain ⟨v, o, ho, _⟩ := I.cell y c e
    exact no c (Heap.lt_size ho)
  · exact no p.1 (Heap.lt_size (I.pin p hp).1)
theorem Fre.more (f : Fre X pins a) {o : Obj} (h : b ≠ a) : Fre X ((b, o) :: pins) a :=
  ⟨f.base, f.loc, f.cel, fun p hp => (List.mem_append.mp hp).elim (fun z => f.pin p (List.mem_append_left _ z)) fun z => by
    rcases List.mem_cons.mp z with rfl | z
    · exact h
    · exact f.pin p (List.mem_append_right _ z), f.fs⟩
/-- two objects that are not known of, written; one may be known from now on -/
theorem free2 {h' : Heap} {t' : Nat} {ys : List V} (I : Inv X pins σ H s) (fa : Fre X pins a) (fb : Fre X pins b) (na : H a = none) (nb : H b = none)
    (k : ∀ c o, c ≠ a → c ≠ b → s.heap.get? c = some o → h'.get? c = some o) (new : ys.length ≤ sizeLine ∧ ∃ (its : List Value) (n : Nat), Vals ys its ∧ h'.get? a = some { cls := .type "list", data := .seq its.toArray n }) :
    Inv X pins σ (upd H a (.lst ys)) { s with heap := h', toks := t' } := by
  have ne : ∀ c u, H c = some u → c ≠ a := fun c u e => ne_of_none e na
  have neb : ∀ c u, H c = some u → c ≠ b := fun c u e => ne_of_none e nb
  have up : ∀ c u, H c = some u → upd H a (.lst ys) c = some u := fun c u e => by rw [upd_ne (ne c u e)]; exact e
  have out : ∀ c, c ∉ [a, b] → c ≠ a ∧ c ≠ b := fun c hc => ⟨fun z => hc (by simp [z]), fun z => hc (by simp [z])⟩
  refine I.step (g' := s.gens) (d' := s.drawn) (ch := [a, b]) (fun c hc => ?_) (fun c o _ _ hc e _ => k c o (out c hc).1 (out c hc).2 e) (fun c o _ _ hc e _ => ⟨o.slots, k c o (out c hc).1 (out c hc).2 e⟩) (fun c o hc _ n => ?_)
    (fun c o hc e => ⟨o, k c o (out c hc).1 (out c hc).2 e⟩) (fun c xs e => up _ _ e) (fun c o u e => up _ _ e) (fun c ps e => ⟨#[], by rw [up _ _ e]; simp⟩) (fun m hn => ?_) (fun c u e => ?_) I.bare
  · rcases List.mem_cons.mp hc with rfl | hc
    · exact ⟨.inr fa.base, fa.loc, fa.cel, fa.pin⟩
    · obtain rfl := List.mem_singleton.mp hc
      exact ⟨.inr fb.base, fb.loc, fb.cel, fb.pin⟩
  · rw [upd_ne (out c hc).1]
    exact n
  · obtain ⟨ob, es, ep, ho, r⟩ := hn
    exact ⟨ob, es, ep, k _ ob fa.loc.symm fb.loc.symm ho, r⟩
  · by_cases hc : c = a
    · subst hc
      rw [upd_same] at e
      cases e
      exact new
    · rw [upd_ne hc] at e
      refine (I.hok c u e).stay (fun d v hd q => ?_) (fun d q => up _ _ q) fun d xs q => up _ _ q
      rcases hd with rfl | z
      · exact k _ v (ne _ _ e) (neb _ _ e) q
      · exact k _ v (ne _ _ z) (neb _ _ z) q
end
end My
namespace My
set_option autoImplicit false
open PySem PySem.Spec PySem.W PySem.Calls PyProof.Rows L2 Evl NdefX LamX
theorem dpAll_len {K : PySem.W.Frag} {H : Hp} : ∀ {vs : List V} {ds : List PyData}, DpAll K H vs ds → vs.length = ds.length
  | [], [], _ => rfl
  | _ :: _, _ :: _, .cons _ b => congrArg Nat.succ (dpAll_len b)
theorem vals_app {vs ws : List V} {us zs : List Value} (a : Vals vs us) (b : Vals ws zs) : Vals (vs ++ ws) (us ++ zs) := by
  induction a with
  | nil => exact b
  | cons r _ ih => exact .cons r ih
/-- the items, each with its key, in order, equal ones as they stood: the items alone -/
def byKey (xs : List V) (ks : List PyData) : List V := ((xs.zip ks).mergeSort (dataLe false (·.2))).map (·.1)
theorem vals_each {h : Heap} : ∀ {xs : List V} {us : List Value} {ks : List PyData}, Vals xs us → ks.length = xs.length → EachIs (fun (u : Value) (p : V × PyData) => RelV p.1 u) us (xs.zip ks)
  | [], [], ks, _, h => by
    obtain rfl := List.length_eq_zero_iff.mp h
    exact .nil
  | _ :: _, _ :: _, [], _, h => by simp at h
  | _ :: _, _ :: _, _ :: _, .cons r t, h => .cons r (vals_each (h := ‹Heap›) t (by simpa using h))
theorem each_vals : ∀ {us : List Value} {ps : List (V × PyData)}, EachIs (fun (u : Value) (p : V × PyData) => RelV p.1 u) us ps → Vals (ps.map (·.1)) us
  | _, _, .nil => .nil
  | _, _, .cons r t => .cons r (each_vals t)
theorem zip_snd {α β : Type} : ∀ {xs : List α} {ks : List β}, ks.length = xs.length → (xs.zip ks).map (·.2) = ks
  | [], ks, h => by
    obtain rfl := List.length_eq_zero_iff.mp h
    rfl
  | _ :: _, [], h => by simp at h
  | _ :: _, k :: _, h => congrArg (k :: ·) (zip_snd (by simpa using h))
theorem dps_each {X : Cx} {pins : List (Addr × Obj)} {σ : L2.St} {H : Hp} {s : Shared} (I : Inv X pins σ H s) : ∀ {vs : List V} {us : List Value} {ds : List PyData}, Vals vs us → DpAll X.K H vs ds → EachIs (fun u d => ∃ as, Reads s.heap u d as) us ds
  | [], [], [], _, _ => .nil
  | _ :: _, _ :: _, _ :: _, .cons r t, .cons a b => .cons (Dp.reads I _ _ _ a r) (dps_each I t b)
section
variable {X : Cx} {pins : List (Addr × Obj)} {σ : L2.St} {H : Hp} {s : Shared} {A : Around} {f : Addr} {fo : Obj} {xs : List V} {ks : List PyData} {E : Value → Shared → Prop}
end
end My
namespace My
set_option autoImplicit false
open PySem PySem.Spec PySem.W PySem.Calls PyProof.Rows L2 Evl NdefX LamX
section
variable {X : Cx} {pins : List (Addr × Obj)} {σ : L2.St} {H : Hp} {s : Shared} {A : Around} {f : Addr} {fo : Obj} {E : Value → Shared → Prop}
theorem vals_refs : ∀ (as : List Addr), Vals (as.map V.ref) (as.map Value.ref)
  | [] => .nil
  | _ :: r => .cons rfl (vals_refs r)
end
end My
namespace My
set_option autoImplicit false
open PySem L2 Evl
/-- what a walk over this hands out: n things, the i-th of which P i is known -/
def Src (wi : TI) (σ : L2.St) (B : Hp) (n : Nat) (P : Nat → Pr) : Prop := ∀ H1, Ex B H1 → ∀ R : It → Hp → Prop, (∀ (J : It) (B' H2 : Hp) (G : Hp → Prop) (Y : Nat → Hp → V → Hp → Prop), Gr B H1 B' H2 → Walk J n G Y → (∀ H, Ex B' H → G H) →
  (∀ i H v H', i < n → Ex B' H → Y i H v H' → H' = H ∧ (P i).P v B') → R J H2) → wi σ H1 R
section
variable {te ta tb : TE} {t tr : TA} {tt : TT} {σ : L2.St} {B B' H : Hp} {p q : Pr} {ps qs : List Pr} {v : V} {K : PySem.W.Frag} {D : Ends} {d e : PyData} {ds es : List PyData}
theorem dps_len : ∀ {vs : List V} {ds : List PyData}, DpAll K H vs ds → vs.length = ds.length
  | [], [], _ => rfl
  | _ :: _, _ :: _, .cons _ b => congrArg Nat.succ (dps_len b)
theorem src_rng {j : Nat} (h : EvPs t σ B [IsV (.int (j : Int))]) (hj : (j : Int) < 2 ^ 62) : Src (iRng1 t) σ B j (fun i => IsV (.int (i : Int))) := fun H1 a R k => h H1 a _ fun vs B2 H2 g b => by
  match vs, b with
  | [v], b =>
    obtain rfl : v = V.int j := b.1
    refine ⟨j, rfl, by omega, hj, ?_⟩
    rw [show ((j : Int)).toNat = j from rfl]
    refine k _ B2 H2 _ _ g walk_range (fun _ _ => trivial) fun i H v H' _ _ z => ⟨z.1, ?_⟩
    show v = V.int i
    rw [z.2]
    simp
/-- a comprehension over it, some items left out -/
theorem p_lcS {wi : TI} {n : Nat} {P : Nat → Pr} {g : TG} {vs : List Nat} (h : Src wi σ B n P) (hl : n ≤ 100000) (keep : Nat → Bool) (res : Nat → Pr)
    (step : ∀ i v B1, i < n → Ex B B1 → (P i).P v B1 → ∃ σ2, wipe σ2 vs = wipe σ vs ∧ (∀ H2 Q, Ex B1 H2 → Q σ2 H2 → g v (wipe σ vs) H2 Q) ∧ EvT tt σ2 B1 (keep i) ∧ (keep i = true → EvP te σ2 B1 (res i))) :
    EvP (tLc wi g tt te vs) σ B (LsP (((List.range n).filter keep).map res)) := fun H1 a Q k =>
  h H1 a _ fun J B2 H2 G Y gr w hG hY Dd hD => by
    refine lc_it w (fun i H3 => ∃ B3 acc, Gr B2 H2 B3 (wo Dd H3) ∧ H3 Dd = some (.lst acc) ∧ AllP (((List.range i).filter keep).map res) acc B3) ?_ ?_ ?_ ?_
    · exact ⟨B2, [], by rw [wo_new hD]; exact Gr.refl gr.c, upd_same, trivial⟩
    · rintro i H3 _ ⟨B3, acc, g3, _, _⟩
      exact hG H3 (g3.b.trans (g3.c.trans wo_ex))
    · rintro i v H3 H3' hi ⟨B3, acc, g3, hDd, hacc⟩ hy
      have exB : Ex B3 H3 := g3.c.trans wo_ex
      obtain ⟨rfl, pv⟩ := hY i H3 v H3' hi (g3.b.trans exB) hy
      have some3 : H3' Dd ≠ none := by
        rw [hDd]
        exact fun z => nomatch z
      obtain ⟨σ2, hw, hg, ht, he⟩ := step i v B3 hi (gr.b.trans g3.b) ((P i).m g3.b pv)
      refine hg H3' _ exB ⟨hw, ht H3' exB _ fun H4 e4 => ?_⟩
      have hD4 := e4 _ _ hDd
      have g4 : Gr B2 H2 B3 (wo Dd H4) := g3.side some3 (Gr.wide exB e4)
      have some4 : H4 Dd ≠ none := has e4 some3
      cases hk : keep i with
      | true =>
        rw [if_pos rfl]
        refine he hk H4 (exB.trans e4) _ fun y B5 H5 g5 hy => ?_
        have la : acc.length ≤ i := by
          rw [hacc.len, List.length_map]
          exact Nat.le_trans (List.length_filter_le _ _) (by rw [List.length_range]; exact Nat.le_refl _)
        refine ⟨acc, g5.a _ _ hD4, sz_lt (by omega), B5, acc ++ [y], by rw [wo_upd]; exact g4.side some4 g5, upd_same, ?_⟩
        rw [List.range_succ, List.filter_append, List.map_append]
        refine (hacc.m g5.b).app ?_
        have : List.filter keep [i] = [i] := by simp [hk]
        rw [this]
        exact ⟨hy, trivial⟩
      | false =>
        rw [if_neg Bool.false_ne_true]
        refine ⟨B3, acc, g4, hD4, ?_⟩
        rw [List.range_succ, List.filter_append, List.map_append]
        have : List.filter keep [i] = [] := by simp [hk]
        rw [this, List.map_nil, List.append_nil]
        exact hacc
    · rintro H3 ⟨B3, acc, g3, hDd, hacc⟩
      have hB3 : B3 Dd = none := wo_none g3.c
      refine k (.ref Dd) (upd B3 Dd (.lst acc)) H3 ⟨gr.a.trans (g3.a.trans wo_ex), gr.b.trans (g3.b.trans (Ex.new hB3)), fun b o e => ?_, fun x hb hh => ?_, fun z b ps q => ?_⟩ ⟨Dd, acc, rfl, upd_same, hacc.m (Ex.new hB3)⟩
      · by_cases n : b = Dd
        · subst n
          rw [upd_same] at e
          rw [hDd]
          exact e
        · rw [upd_ne n] at e
          exact g3.c.trans wo_ex _ _ e
      · have n : x ≠ Dd := fun z => by
          subst z
          exact has gr.a hh hD
        rw [upd_ne n]
        exact g3.d x (gr.d x hb hh) (has gr.a hh)
      · by_cases n : b = Dd
        · subst n
          rw [upd_same] at q
          cases q
        · rw [upd_ne n] at q
          exact g3.e (gr.e z) b ps q
/-- all items kept -/
theorem p_lcA {wi : TI} {n : Nat} {P : Nat → Pr} {g : TG} {vs : List Nat} (h : Src wi σ B n P) (hl : n ≤ 100000) (res : Nat → PyData)
    (step : ∀ i v B1, i < n → Ex B B1 → (P i).P v B1 → ∃ σ2, wipe σ2 vs = wipe σ vs ∧ (∀ H2 Q, Ex B1 H2 → Q σ2 H2 → g v (wipe σ vs) H2 Q) ∧ EvP te σ2 B1 (IsD K (res i))) :
    EvP (tLc wi g tYes te vs) σ B (IsD K (.list ((List.range n).map res))) := by
  have := p_lcS (tt := tYes) (te := te) h hl (fun _ => true) (fun i => IsD K (res i)) fun i v B1 hi e pv => by
    obtain ⟨σ2, a, b, c⟩ := step i v B1 hi e pv
    exact ⟨σ2, a, b, et_yes, fun _ => c⟩
  rw [List.filter_eq_self.mpr (fun _ _ => rfl)] at this
  refine d_lst (K := K) ?_
  rw [List.map_map]
  exact this
/-! ### data -/
theorem ed_bl {b : Bool} (h : Ev te σ B (.bl b)) : EvP te σ B (IsD K (.bool b)) := d_bl (p_ev h)
theorem ed_in {i : Int} (h : Ev te σ B (.int i)) : EvP te σ B (IsD K (.int i)) := d_int (p_ev h)
theorem dps_ints : ∀ {vs : List V} {ns : List Int}, DpAll K H vs (ns.map .int) → vs = ns.map .int
  | [], [], _ => rfl
  | _ :: _, _ :: _, .cons a b => by
    cases a
    rw [dps_ints b]
    rfl
theorem dps_bls : ∀ {vs : List V} {bs : List Bool}, DpAll K H vs (bs.map .bool) → vs = bs.map .bl
  | [], [], _ => rfl
  | _ :: _, _ :: _, .cons a b => by
    cases a
    rw [dps_bls b]
    rfl
theorem ev_allL {bs : List Bool} (h : EvP te σ B (IsD K (.list (bs.map .bool)))) : Ev (tCB (rAll K) (tCons te tNil)) σ B (.bl (bs.all id)) := fun H1 a Q k =>
  h H1 a _ fun v B2 H2 g x => by
    cases x with
    | lst y z =>
      have := dps_bls z
      subst this
      exact ⟨_, bs, rfl, ex_l g.c y, k H2 g.a⟩
theorem ed_lst (h : EvPs t σ B (ds.map (IsD K))) (hl : ds.length ≤ 100000) : EvP (tLst t) σ B (IsD K (.list ds)) := d_lst (p_lst h (by rw [List.length_map]; exact hl))
theorem ed_if {b : Bool} (h : EvT tt σ B b) (h1 : b = true → EvP ta σ B p) (h2 : b = false → EvP tb σ B p) : EvP (tIf tt ta tb) σ B p := fun H1 a Q k => h H1 a _ fun H2 e2 => by
  cases b with
  | true => exact h1 rfl H2 (a.trans e2) _ fun v B3 H3 g x => k v B3 H3 ((Gr.wide a e2).trans g) x
  | false => exact h2 rfl H2 (a.trans e2) _ fun v B3 H3 g x => k v B3 H3 ((Gr.wide a e2).trans g) x
/-! ### statements -/
/-! ### defs from data to data -/
/-- a def of the program's, as it is called -/
structure Cal (P : Program) (w : World) (K : PySem.W.Frag) (mg : Str → Option Value) (base : Heap) (x : Str) (k : Nat) (ps : List Str) (sp : Sp) (f : Addr) (fd : FuncData) : Prop where
  G : FnOk P w K mg base CX0 k f fd ps sp
  m : mg x = some (.ref f)
  k : PySem.W.keepIn K (.ref f) = true
  b : Binds K fd ps []
end
end My
namespace My
set_option autoImplicit false
open PySem PySem.Spec PyProof.Rows L2 Evl
section
variable {X : Cx}
end
section
variable {te ta tb : TE} {t tr : TA} {tt : TT} {σ : L2.St} {B B' H : Hp} {p q : Pr} {v : V} {K : PySem.W.Frag} {D : Ends} {d e : PyData} {ds es : List PyData}
end
/-! ### rankings and derivatives -/
def isNmB (x : Str) : Bool := decide (1 ≤ x.length) && decide (x.length ≤ 8) && x.cps.toList.all fun c => decide (97 ≤ c) && decide (c ≤ 122)
def IsNm (x : Str) : Prop := isNmB x = true
structure Rk where
  tot : Bool
  ns : List Str
  ax : Fin 3
def axsOf (a : Fin 3) : List Str := if a = 0 then ["x"] else if a = 1 then ["x", "y"] else ["y", "x"]
def Rk.axs (r : Rk) : List Str := axsOf r.ax
def Rk.srt (r : Rk) : Str := if r.tot then "total" else "names"
def Rk.D (r : Rk) : PyData := .tuple [.str r.srt, .tuple (r.ns.map .str), .tuple (r.axs.map .str)]
structure Rk.Ok (r : Rk) : Prop where
  ne : 1 ≤ r.ns.length
  le : r.ns.length ≤ 3
  nd : r.ns.Nodup
  nm : ∀ x ∈ r.ns, IsNm x
structure Dv where
  n : Str
  i : Int
  j : Int
deriving DecidableEq
def Dv.D (v : Dv) : PyData := .tuple [.str v.n, .int v.i, .int v.j]
structure Dv.Of (v : Dv) (r : Rk) : Prop where
  n : v.n ∈ r.ns
  i : 0 ≤ v.i
  j : 0 ≤ v.j
  y : v.j = 0 ∨ (Str.ofString "y") ∈ r.axs
def Rk.first (r : Rk) (v : Dv) : Int := if r.ax = 2 then v.j else v.i
def Rk.ahead (r : Rk) (v : Dv) : Int := -((r.ns.idxOf v.n : Nat) : Int)
def Rk.key (r : Rk) (v : Dv) : List Int := if r.tot then [v.i + v.j, r.first v, r.ahead v] else [r.ahead v, v.i + v.j, r.first v]
def cmpL (a b : List Int) : Int := if a = b then 0 else if HT.lexLt a b = true then -1 else 1
def Rk.cmp (r : Rk) (v u : Dv) : Int := cmpL (r.key v) (r.key u)

/-! ### what is known of such values -/
def DvP (u : Dv) : Pr := ⟨fun v H => ∃ a, v = .ref a ∧ H a = some (.tup [.str u.n, .int u.i, .int u.j]), fun e ⟨a, h1, h2⟩ => ⟨a, h1, e _ _ h2⟩⟩
theorem dv_d {K : PySem.W.Frag} {u : Dv} {v : V} {H : Hp} (h : (DvP u).P v H) : Dp K H v u.D := by
  obtain ⟨a, rfl, h2⟩ := h
  exact .tup (st_of h2) (.cons (.str _) (.cons (.int _) (.cons (.int _) .nil)))
section
variable {te ta tb : TE} {t tr : TA} {tt : TT} {σ : L2.St} {B B' H : Hp} {p q : Pr} {ps : List Pr} {v : V} {K : PySem.W.Frag} {D : Ends} {r : Rk} {u : Dv}
theorem ed_dv (h : EvP te σ B (DvP u)) : EvP te σ B (IsD K u.D) := h.imp fun _ _ _ x => dv_d x
/-- (name, i, j), made -/
theorem p_dv {a b c : V} (ha : a = .str u.n) (hb : b = .int u.i) (hc : c = .int u.j) (h : EvPs t σ B [IsV a, IsV b, IsV c]) : EvP (tTup t) σ B (DvP u) := fun H1 e Q k =>
  h H1 e _ fun vs B2 H2 g b => by
    subst ha hb hc
    match vs, b with
    | [x, y, z], b =>
      obtain rfl : x = _ := b.1
      obtain rfl : y = _ := b.2.1
      obtain rfl : z = _ := b.2.2.1
      exact ⟨sz_of (by show 3 ≤ 100000; decide), fun w hw => k _ _ _ (g.trans (Gr.new _ g.c hw)) ⟨w, rfl, upd_same⟩⟩
theorem ps_unD {i j k : Nat} (a : Ex B H) (h : EvP te σ B (DvP u)) (n : ∀ B1 H1, Gr B H B1 H1 → D.nx (((σ.set i (some (.str u.n))).set j (some (.int u.i))).set k (some (.int u.j))) H1) :
    tAsg te (gTup K 3 (gCons (gName i) (gCons (gName j) (gCons (gName k) gNil)))) D σ H := h H a _ fun v B1 H1 g x => by
  obtain ⟨p, rfl, h2⟩ := x
  exact ⟨_, _, rfl, st_of (g.c _ _ h2), rfl, _, _, rfl, _, _, rfl, _, _, rfl, rfl, n B1 H1 g⟩
/-! ### defs by what is known of what is handed in -/
def spP (R : List Pr → Pr → Prop) : Sp := fun vs H Q _ => ∃ B ps p, Ex B H ∧ AllP ps vs B ∧ R ps p ∧ ∀ v B' H', Gr B H B' H' → p.P v B' → Q v H'
theorem p_callP {R : List Pr → Pr → Prop} (h : EvPs t σ B ps) (hr : R ps p) : EvP (tCall (spP R) [] E0 t) σ B p := fun H1 a Q k =>
  h H1 a _ fun vs B2 H2 g b => by
    rw [List.append_nil]
    exact ⟨B2, ps, p, g.c, b, hr, fun v B3 H3 g3 x => k v B3 H3 (g.trans g3) x⟩
theorem spP_len {R : List Pr → Pr → Prop} {n : Nat} (h : ∀ ps p, R ps p → ps.length = n) : ∀ vs H Q E, spP R vs H Q E → vs.length = n := fun vs H Q E ⟨B, ps, p, _, a, b, _⟩ => by rw [a.len, h ps p b]
end
/-! ### t.index(x) -/
section
open PySem PySem.Spec PyProof.Rows
variable {X : Cx}
/-- tuple(l), the new tuple known as it stands -/
theorem call_tupleF : CallR X (.type "tuple") (fun xs H Q => ∃ p ys, xs = [.ref p] ∧ SqL X.K H p ys ∧ ∀ l o, H l = none → o.dict = none → Q (.ref l) (upd H l (.frz o (.tup ys)))) := by
  intro pins s σ H xs us Q I r ⟨p, ys, ex, hq, q⟩
  subst ex
  obtain ⟨u, rfl, rx⟩ := vals1 r
  obtain rfl : u = Value.ref p := rx
  obtain ⟨its, rv, pl, hz⟩ := I.list hq
  have hlen := rv.length
  refine call_tuple_list pl.isList (fun h1 kp => ?_) (by simp only [List.size_toArray] <;> omega)
  have I1 : Inv X pins σ H { s with heap := h1 } := I.kept (t' := s.toks) kp
  have n1 := I1.hok.fresh (Nat.le_refl h1.objs.size)
  have I2 : Inv X pins σ (upd H h1.objs.size (.frz { cls := .type "tuple", data := .seq its.toArray } (.tup ys))) { s with heap := h1.push { cls := .type "tuple", data := .seq its.toArray } } :=
    I1.laid (t' := s.toks) (fun b o e => Heap.get?_push_of_some _ e) (Nat.le_refl _) ⟨Heap.get?_push_size _ rfl, hz, its, rv, IsTup.new _ _⟩
  exact ⟨.ref h1.objs.size, _, I2, rfl, q _ _ n1 rfl⟩
end
section
open PySem L2 Evl
variable {te ta tb : TE} {t tr : TA} {tt : TT} {σ : L2.St} {B B' H : Hp} {p q : Pr} {ps : List Pr} {v : V} {K : PySem.W.Frag} {D : Ends} {r : Rk} {u : Dv}
end
end My
namespace My
set_option autoImplicit false
open PySem PySem.Spec PySem.W PySem.Calls PyProof.Rows L2 Evl
section
variable {prog : Program} {w : World} {A : Around} {R : Result → Shared → Prop} {I : Addr} {fp wr : List Addr} {n : Nat} {G : Array GenState → Array GenState → Prop} {P : Nat → Value → Prop} {St : Nat → Shared → Prop}
end
section
variable {prog : Program} {w : World} {A : Around} {E : Value → Shared → Prop} {s : Shared}
end
end My
namespace My
set_option autoImplicit false
open PySem L2 Evl
section
variable {te ta tb tc : TE} {t tr : TA} {tt : TT} {σ : L2.St} {B B' H : Hp} {p q : Pr} {ps : List Pr} {v : V} {K : PySem.W.Frag} {D : Ends}
/-- an if whose test fails, without an else -/
theorem ps_ifN {tu : TS} (a : Ex B H) (h : EvT tt σ B false) (k : ∀ H1, Ex H H1 → D.nx σ H1) : tIfS tt tu tNext D σ H := h H a _ fun H1 e => by
  rw [if_neg Bool.false_ne_true]
  exact k H1 e
end
theorem nm_facts {x : Str} (h : IsNm x) : 1 ≤ x.length ∧ x.length ≤ 8 ∧ ∀ c ∈ x.cps, 97 ≤ c ∧ c ≤ 122 := by
  unfold IsNm isNmB at h
  simp only [Bool.and_eq_true, decide_eq_true_eq, List.all_eq_true] at h
  exact ⟨h.1.1, h.1.2, fun c hc => h.2 c (by simpa using hc)⟩
end My
namespace My
set_option autoImplicit false
open PySem PySem.W L2 Evl
/-! ### the order of derivatives -/
def Rk.lt (r : Rk) (u v : Dv) : Prop := r.key u < r.key v
instance (r : Rk) (u v : Dv) : Decidable (r.lt u v) := inferInstanceAs (Decidable (r.key u < r.key v))
def Rk.le (r : Rk) (u v : Dv) : Bool := !decide (r.lt v u)
theorem lt3 (a b c x y z : Int) : [a, b, c] < [x, y, z] ↔ a < x ∨ (a = x ∧ (b < y ∨ (b = y ∧ c < z))) := by
  simp [List.cons_lt_cons_iff]
theorem lex3 (a b c x y z : Int) : HT.lexLt [a, b, c] [x, y, z] = decide ([a, b, c] < [x, y, z]) := by
  rw [Bool.eq_iff_iff, decide_eq_true_iff, lt3]
  unfold HT.lexLt
  by_cases h : a = x
  · rw [if_pos h]
    unfold HT.lexLt
    by_cases h2 : b = y
    · rw [if_pos h2]
      unfold HT.lexLt
      by_cases h3 : c = z
      · rw [if_pos h3]
        unfold HT.lexLt
        simp
        omega
      · rw [if_neg h3]
        simp
        omega
    · rw [if_neg h2]
      simp
      omega
  · rw [if_neg h]
    simp
    omega
theorem Rk.key3 (r : Rk) (u : Dv) : ∃ a b c, r.key u = [a, b, c] := by
  unfold Rk.key
  cases r.tot
  · exact ⟨_, _, _, rfl⟩
  · exact ⟨_, _, _, rfl⟩
theorem Rk.lt_irrefl (r : Rk) (u : Dv) : ¬ r.lt u u := by
  unfold Rk.lt
  obtain ⟨a, b, c, e⟩ := r.key3 u
  rw [e, lt3]
  omega
theorem Rk.lt_trans (r : Rk) {u v w : Dv} (h : r.lt u v) (k : r.lt v w) : r.lt u w := by
  unfold Rk.lt at *
  obtain ⟨a, b, c, e⟩ := r.key3 u
  obtain ⟨a', b', c', e'⟩ := r.key3 v
  obtain ⟨a2, b2, c2, e2⟩ := r.key3 w
  rw [e, e', lt3] at h
  rw [e', e2, lt3] at k
  rw [e, e2, lt3]
  omega
theorem Rk.tri (r : Rk) (u v : Dv) : r.lt u v ∨ r.key u = r.key v ∨ r.lt v u := by
  unfold Rk.lt
  obtain ⟨a, b, c, e⟩ := r.key3 u
  obtain ⟨a', b', c', e'⟩ := r.key3 v
  rw [e, e', lt3, lt3]
  by_cases h : a = a'
  · by_cases h2 : b = b'
    · by_cases h3 : c = c'
      · exact .inr (.inl (by rw [h, h2, h3]))
      · omega
    · omega
  · omega
theorem idx_inj {ns : List Str} {x y : Str} (hx : x ∈ ns) (hy : y ∈ ns) (h : ns.idxOf x = ns.idxOf y) : x = y := by
  have h1 := List.getElem_idxOf (List.idxOf_lt_length_of_mem hx)
  have h2 := List.getElem_idxOf (List.idxOf_lt_length_of_mem hy)
  rw [← h1, ← h2]
  congr 1
theorem Rk.key_inj (r : Rk) {u v : Dv} (hu : u.n ∈ r.ns) (hv : v.n ∈ r.ns) (h : r.key u = r.key v) : u = v := by
  obtain ⟨n, i, j⟩ := u
  obtain ⟨n', i', j'⟩ := v
  have : (i + j = i' + j') ∧ r.first ⟨n, i, j⟩ = r.first ⟨n', i', j'⟩ ∧ r.ahead ⟨n, i, j⟩ = r.ahead ⟨n', i', j'⟩ := by
    unfold Rk.key at h
    cases ht : r.tot with
    | true =>
      rw [ht, if_pos rfl, if_pos rfl] at h
      simp at h
      exact h
    | false =>
      rw [ht, if_neg Bool.false_ne_true, if_neg Bool.false_ne_true] at h
      simp at h
      exact ⟨h.2.1, h.2.2, h.1⟩
  obtain ⟨h1, h2, h3⟩ := this
  have e : n = n' := idx_inj hu hv (by unfold Rk.ahead at h3; simp only at h3; omega)
  subst e
  unfold Rk.first at h2
  by_cases hx : r.ax = 2
  · rw [if_pos hx, if_pos hx] at h2
    simp only at h2
    have : i = i' := by omega
    rw [this, h2]
  · rw [if_neg hx, if_neg hx] at h2
    simp only at h2
    have : j = j' := by omega
    rw [this, h2]
theorem Rk.cmp_lt (r : Rk) (u v : Dv) : r.cmp u v = -1 ↔ r.lt u v := by
  unfold Rk.cmp cmpL Rk.lt
  obtain ⟨a, b, c, e⟩ := r.key3 u
  obtain ⟨a', b', c', e'⟩ := r.key3 v
  rw [e, e', lex3]
  by_cases h : [a, b, c] = [a', b', c']
  · rw [if_pos h, ← h, lt3]
    omega
  · rw [if_neg h]
    by_cases k : [a, b, c] < [a', b', c']
    · simp [k]
    · simp [k]
theorem Rk.cmp_eq (r : Rk) (u v : Dv) : r.cmp u v = 0 ↔ r.key u = r.key v := by
  unfold Rk.cmp cmpL
  by_cases h : r.key u = r.key v
  · simp [h]
  · rw [if_neg h]
    constructor
    · intro k
      split at k <;> omega
    · intro k
      exact absurd k h
theorem Rk.cmp_gt (r : Rk) (u v : Dv) : r.cmp u v = 1 ↔ r.lt v u := by
  have h := r.tri u v
  have h1 := r.cmp_lt u v
  have h2 := r.cmp_eq u v
  have h3 : r.cmp u v = -1 ∨ r.cmp u v = 0 ∨ r.cmp u v = 1 := by
    unfold Rk.cmp cmpL
    split
    · exact .inr (.inl rfl)
    · split
      · exact .inl rfl
      · exact .inr (.inr rfl)
  have n1 : r.lt u v → r.lt v u → False := fun a b => r.lt_irrefl u (r.lt_trans a b)
  have n2 : r.key u = r.key v → r.lt v u → False := fun a b => by
    unfold Rk.lt at b
    rw [a] at b
    exact r.lt_irrefl v b
  constructor
  · intro k
    rcases h with h | h | h
    · rw [h1.mpr h] at k
      omega
    · rw [h2.mpr h] at k
      omega
    · exact h
  · intro k
    rcases h3 with e | e | e
    · exact (n1 (h1.mp e) k).elim
    · exact (n2 (h2.mp e) k).elim
    · exact e
/-- from u on, once more by x, or by y -/
def Dv.up (u : Dv) (x : Str) : Dv := if x = "x" then ⟨u.n, u.i + 1, u.j⟩ else ⟨u.n, u.i, u.j + 1⟩
/-! ### sorted by it -/
def Rk.sort (r : Rk) (us : List Dv) : List Dv := us.mergeSort r.le
theorem Rk.le_tot (r : Rk) (u v : Dv) : (r.le u v || r.le v u) = true := by
  unfold Rk.le
  simp
  by_cases h : r.lt v u
  · right
    intro k
    exact r.lt_irrefl u (r.lt_trans k h)
  · exact .inl h
theorem Rk.le_tr (r : Rk) (u v w : Dv) (h : r.le u v = true) (k : r.le v w = true) : r.le u w = true := by
  unfold Rk.le at *
  simp at *
  intro z
  rcases r.tri u v with a | a | a
  · exact k (r.lt_trans z a)
  · apply k
    unfold Rk.lt at *
    rw [← a]
    exact z
  · exact h a
theorem Rk.sort_le (r : Rk) (us : List Dv) : (r.sort us).Pairwise (fun u v => r.le u v = true) := List.pairwise_mergeSort (r.le_tr) (r.le_tot) us
theorem Rk.sort_perm (r : Rk) (us : List Dv) : (r.sort us).Perm us := List.mergeSort_perm us r.le
/-- strictly rising -/
theorem Rk.sort_lt (r : Rk) {us : List Dv} (hu : ∀ u ∈ us, u.n ∈ r.ns) (nd : us.Nodup) : (r.sort us).Pairwise r.lt := by
  have nd2 : (r.sort us).Nodup := (r.sort_perm us).nodup_iff.mpr nd
  have m : ∀ u ∈ r.sort us, u.n ∈ r.ns := fun u h => hu u ((r.sort_perm us).mem_iff.mp h)
  have h := r.sort_le us
  rw [List.pairwise_iff_getElem] at *
  intro i j hi hj hij
  have a := h i j hi hj hij
  have b := List.pairwise_iff_getElem.mp nd2 i j hi hj hij
  unfold Rk.le at a
  simp at a
  rcases r.tri (r.sort us)[i] (r.sort us)[j] with z | z | z
  · exact z
  · exact (b (r.key_inj (m _ (List.getElem_mem hi)) (m _ (List.getElem_mem hj)) z)).elim
  · exact (a z).elim
/-! ### what sorted with keys makes of them -/
theorem zip_pairs {α β γ : Type} (f : β → γ) : ∀ {xs : List α} {us : List β}, xs.length = us.length → xs.zip (us.map f) = (xs.zip us).map fun p => (p.1, f p.2)
  | [], [], _ => rfl
  | _ :: _, _ :: _, h => congrArg (_ :: ·) (zip_pairs f (by simpa using h))
theorem AllP.zip {H : Hp} (f : Dv → Pr) : ∀ {xs : List V} {us : List Dv}, AllP (us.map f) xs H → ∀ p ∈ xs.zip us, (f p.2).P p.1 H
  | [], [], _, p, h => by simp at h
  | x :: xs, u :: us, a, p, h => by
    rcases List.mem_cons.mp h with rfl | h
    · exact a.1
    · exact AllP.zip f a.2 p h
theorem AllP.of {H : Hp} (f : Dv → Pr) : ∀ {ps : List (V × Dv)}, (∀ p ∈ ps, (f p.2).P p.1 H) → AllP ((ps.map (·.2)).map f) (ps.map (·.1)) H
  | [], _ => trivial
  | p :: ps, h => ⟨h p List.mem_cons_self, AllP.of f fun q hq => h q (List.mem_cons_of_mem _ hq)⟩
end My
namespace My
set_option autoImplicit false
open PySem PySem.W L2 Evl LamX
theorem AllP.ix {H : Hp} : ∀ {ps : List Pr} {vs : List V}, ps.length = vs.length → (∀ (i : Nat) (p : Pr) (v : V), ps[i]? = some p → vs[i]? = some v → p.P v H) → AllP ps vs H
  | [], [], _, _ => trivial
  | p :: ps, v :: vs, hl, h => ⟨h 0 p v rfl rfl, AllP.ix (by simpa using hl) fun i q u a b => h (i + 1) q u a b⟩
/-- tables of code: what of the heap they lean on -/
theorem exN_ex {B H H2 : Hp} (e : Ex B H) (n : NoTab B) (k : ExtN H H2) : Ex B H2 := fun b o h => k b o (e b o h) fun ps z => n b ps (by rw [← z]; exact h)
theorem exN_of {H H' : Hp} (e : Ex H H') : ExtN H H' := fun b o h _ => e b o h
theorem nt_upd {B : Hp} {a : Addr} {o : HO} (n : NoTab B) (ho : ∀ ps, o ≠ .tbl ps) : NoTab (upd B a o) := fun b ps q => by
  by_cases h : b = a
  · subst h
    rw [upd_same] at q
    exact ho ps (Option.some.inj q)
  · rw [upd_ne h] at q
    exact n b ps q
/-! ### a for over what is known -/
section
variable {te ta tb : TE} {t tr : TA} {tt : TT} {σ : L2.St} {B B' H : Hp} {p q : Pr} {ps : List Pr} {v : V} {K : PySem.W.Frag} {D : Ends}
theorem ps_forS {wi : TI} {n : Nat} {P : Nat → Pr} {g : TG} {tbd : TS} (a : Ex B H) (h : Src wi σ B n P)
    (k : ∀ B1 H1, Gr B H B1 H1 → ∃ Pv : Nat → L2.St → Hp → Prop, Pv 0 σ H1 ∧ (∀ i σ' H', i ≤ n → Pv i σ' H' → Ex B1 H') ∧
      (∀ i v σ' H', i < n → Pv i σ' H' → (P i).P v B1 → g v σ' H' fun σ2 H2 => tbd { D with nx := Pv (i + 1), ct := Pv (i + 1), bk := D.nx } σ2 H2) ∧ ∀ σ' H', Pv n σ' H' → D.nx σ' H') :
    tFor wi g tbd D σ H := h H a _ fun J B1 H1 G Y gr w hG hY => by
  obtain ⟨Pv, h0, hE, hs, hd⟩ := k B1 H1 gr
  refine for_it w Pv h0 (fun i σ' H' hi pv => hG H' (hE i σ' H' hi pv)) (fun i x σ' H' H2 hi pv y => ?_) hd
  obtain ⟨rfl, px⟩ := hY i H' x H2 hi (hE i σ' H' (Nat.le_of_lt hi) pv) y
  exact hs i x σ' H2 hi pv px
theorem src_lq (h : EvP te σ B (LqP K ps)) : Src (iList K te) σ B ps.length (fun i => ps.getD i (IsV .non)) := fun H1 a R k => h H1 a _ fun v B2 H2 g b => by
  obtain ⟨l, xs, rfl, hx, al⟩ := b
  refine ⟨l, rfl, ⟨xs, ex_l g.c hx⟩, k _ B2 H2 _ _ g (by rw [← al.len]; exact walk_list) (fun H e => ex_l e hx) fun i H v H' _ e (z : H' = H ∧ _) => ⟨z.1, ?_⟩⟩
  obtain ⟨p, hp, k2⟩ := al.get z.2
  show (ps.getD i (IsV .non)).P v B2
  rw [List.getD_eq_getElem?_getD, hp]
  exact k2
end
/-! ### dicts by derivatives -/
def addD (ds : List Dv) (u : Dv) : List Dv := if u ∈ ds then ds else ds ++ [u]
def dedD (us : List Dv) : List Dv := us.foldl addD []
theorem add_mem {ds : List Dv} {u v : Dv} : v ∈ addD ds u ↔ v ∈ ds ∨ v = u := by
  unfold addD
  by_cases h : u ∈ ds
  · rw [if_pos h]
    constructor
    · exact .inl
    · rintro (k | rfl)
      · exact k
      · exact h
  · rw [if_neg h]
    simp
theorem add_nd {ds : List Dv} {u : Dv} (h : ds.Nodup) : (addD ds u).Nodup := by
  unfold addD
  by_cases k : u ∈ ds
  · rw [if_pos k]
    exact h
  · rw [if_neg k, List.nodup_append]
    exact ⟨h, by simp, fun a ha b hb => by
      rw [List.mem_singleton.mp hb]
      rintro rfl
      exact k ha⟩
theorem fold_add : ∀ (us ds : List Dv), (∀ v, v ∈ us.foldl addD ds ↔ v ∈ ds ∨ v ∈ us) ∧ (ds.Nodup → (us.foldl addD ds).Nodup)
  | [], ds => ⟨fun v => by simp, id⟩
  | u :: us, ds => by
    obtain ⟨h1, h2⟩ := fold_add us (addD ds u)
    refine ⟨fun v => ?_, fun h => h2 (add_nd h)⟩
    show v ∈ us.foldl addD (addD ds u) ↔ _
    rw [h1, add_mem, List.mem_cons]
    constructor
    · rintro ((a | a) | a)
      · exact .inl a
      · exact .inr (.inl a)
      · exact .inr (.inr a)
    · rintro (a | a | a)
      · exact .inl (.inl a)
      · exact .inl (.inr a)
      · exact .inr a
theorem ded_mem {us : List Dv} {v : Dv} : v ∈ dedD us ↔ v ∈ us := by
  unfold dedD
  rw [(fold_add us []).1]
  simp
theorem ded_nd (us : List Dv) : (dedD us).Nodup := (fold_add us []).2 List.nodup_nil
theorem ded_len (us : List Dv) : (dedD us).length ≤ us.length := by
  have : ∀ (us ds : List Dv), (us.foldl addD ds).length ≤ ds.length + us.length := by
    intro us
    induction us with
    | nil => intro ds; simp
    | cons u us ih =>
      intro ds
      show (us.foldl addD (addD ds u)).length ≤ _
      have := ih (addD ds u)
      have h : (addD ds u).length ≤ ds.length + 1 := by
        unfold addD
        split <;> simp
      rw [List.length_cons]
      omega
  have := this us []
  unfold dedD
  simpa using this
/-! ### all derivatives to an order -/
def Rk.most (r : Rk) (o i : Nat) : Nat := if (Str.ofString "y") ∈ r.axs then o - i else 0
def Rk.row (r : Rk) (o : Nat) (n : Str) (i : Nat) : List Dv := (List.range (r.most o i + 1)).map fun (j : Nat) => ⟨n, (i : Int), (j : Int)⟩
def Rk.rowsN (r : Rk) (o : Nat) (n : Str) (m : Nat) : List Dv := (List.range m).flatMap (r.row o n)
def Rk.all (r : Rk) (o : Nat) : List Dv := r.ns.flatMap fun n => r.rowsN o n (o + 1)
theorem Rk.mem_row {r : Rk} {o i : Nat} {n : Str} {u : Dv} (h : u ∈ r.row o n i) : u.n = n ∧ u.i = i ∧ 0 ≤ u.j ∧ u.j ≤ r.most o i := by
  unfold Rk.row at h
  obtain ⟨j, hj, rfl⟩ := List.mem_map.mp h
  have := List.mem_range.mp hj
  exact ⟨rfl, rfl, by simp, by simp; omega⟩
theorem Rk.mem_all {r : Rk} {o : Nat} {u : Dv} (h : u ∈ r.all o) : u.Of r := by
  unfold Rk.all Rk.rowsN at h
  obtain ⟨n, hn, h⟩ := List.mem_flatMap.mp h
  obtain ⟨i, hi, h⟩ := List.mem_flatMap.mp h
  obtain ⟨h1, h2, h3, h4⟩ := Rk.mem_row h
  refine ⟨by rw [h1]; exact hn, by rw [h2]; simp, h3, ?_⟩
  unfold Rk.most at h4
  by_cases hy : (Str.ofString "y") ∈ r.axs
  · exact .inr hy
  · rw [if_neg hy] at h4
    exact .inl (by simp at h4; omega)
theorem nd_flat {α β : Type} {f : α → List β} : ∀ {l : List α}, l.Nodup → (∀ a ∈ l, (f a).Nodup) → (∀ a ∈ l, ∀ b ∈ l, ∀ x, x ∈ f a → x ∈ f b → a = b) → (l.flatMap f).Nodup
  | [], _, _, _ => List.nodup_nil
  | a :: l, nd, h1, h2 => by
    rw [List.flatMap_cons, List.nodup_append]
    refine ⟨h1 a List.mem_cons_self, nd_flat (List.nodup_cons.mp nd).2 (fun b hb => h1 b (List.mem_cons_of_mem _ hb)) (fun b hb c hc => h2 b (List.mem_cons_of_mem _ hb) c (List.mem_cons_of_mem _ hc)), fun x hx y hy => ?_⟩
    rintro rfl
    obtain ⟨b, hb, hx2⟩ := List.mem_flatMap.mp hy
    have := h2 a List.mem_cons_self b (List.mem_cons_of_mem _ hb) x hx hx2
    subst this
    exact (List.nodup_cons.mp nd).1 hb
theorem Rk.all_nd {r : Rk} (o : Nat) (h : r.ns.Nodup) : (r.all o).Nodup := by
  unfold Rk.all
  refine nd_flat h (fun n _ => ?_) fun a _ b _ x hx hy => ?_
  · unfold Rk.rowsN
    refine nd_flat List.nodup_range (fun i _ => ?_) fun a _ b _ x hx hy => ?_
    · unfold Rk.row
      rw [List.nodup_iff_pairwise_ne, List.pairwise_map]
      refine List.Pairwise.imp ?_ (List.pairwise_lt_range)
      intro a b hab e
      simp at e
      omega
    · have := (Rk.mem_row hx).2.1
      have := (Rk.mem_row hy).2.1
      omega
  · unfold Rk.rowsN at hx hy
    obtain ⟨i, _, hx⟩ := List.mem_flatMap.mp hx
    obtain ⟨j, _, hy⟩ := List.mem_flatMap.mp hy
    rw [← (Rk.mem_row hx).1, (Rk.mem_row hy).1]
end My
namespace My
open PySem L2 Evl
end My
namespace My
set_option autoImplicit false
open PySem L2 Evl
end My
namespace My
set_option autoImplicit false
open PySem PySem.Spec PyProof.Rows L2
end My
namespace My
set_option autoImplicit false
open PySem PySem.W L2 Evl LamX
section
variable {te ta tb : TE} {t tr : TA} {tt : TT} {σ : L2.St} {B B' H : Hp} {p q : Pr} {ps : List Pr} {v : V} {K : PySem.W.Frag} {D : Ends}
theorem AllP.take {H : Hp} : ∀ {ps : List Pr} {vs : List V} (n : Nat), AllP ps vs H → AllP (ps.take n) (vs.take n) H
  | _, _, 0, _ => trivial
  | [], [], _ + 1, _ => trivial
  | _ :: _, _ :: _, n + 1, h => ⟨h.1, AllP.take n h.2⟩
theorem ev_lenQ (h : EvP te σ B (LqP K ps)) : Ev (tCB (rLenS K) (tCons te tNil)) σ B (.int (ps.length : Int)) := fun H1 a Q k =>
  h H1 a _ fun v B2 H2 g x => by
    obtain ⟨l, xs, rfl, hl, al⟩ := x
    refine ⟨l, xs, rfl, .inl (ex_l g.c hl), ?_⟩
    rw [al.len]
    exact k H2 g.a
end
theorem eqv_nil (ds : List PyData) : PyData.eqv (.list ds) (.list []) = ds.isEmpty := by
  cases ds <;> simp [PyData.eqv, PyData.eqvAll]
/-- which of a rising row is below the k-th -/
theorem Rk.below {r : Rk} {us : List Dv} (h : us.Pairwise r.lt) {i k : Nat} (hi : i < us.length) (hk : k < us.length) : decide (r.cmp us[i] us[k] < 0) = decide (i < k) := by
  rw [List.pairwise_iff_getElem] at h
  by_cases e : i < k
  · rw [decide_eq_true e, (r.cmp_lt _ _).mpr (h i k hi hk e)]
    rfl
  · rw [decide_eq_false e, decide_eq_false_iff_not]
    by_cases e2 : i = k
    · subst e2
      rw [(r.cmp_eq _ _).mpr rfl]
      decide
    · rw [(r.cmp_gt _ _).mpr (h k i hk hi (by omega))]
      decide
/-- an object at d, a dict, left out -/
theorem wo_at {d b : Addr} {H : Hp} {o : HO} {kvs : List (Key × V)} (hd : H d = some (.dK kvs)) (h : H b = some o) (n : ∀ kvs, o ≠ .dK kvs) : wo d H b = some o := by
  rw [wo_ne fun z => by
    subst z
    rw [hd] at h
    exact n kvs (Option.some.inj h).symm]
  exact h
/-- all but d and the tables of code -/
def ExtB (d : Addr) (H H' : Hp) : Prop := ∀ b o, b ≠ d → H b = some o → (∀ ps, o ≠ .tbl ps) → H' b = some o
theorem ExtB.of {d : Addr} {H H' : Hp} (h : ExtN H H') : ExtB d H H' := fun b o _ e n => h b o e n
theorem ExtB.trans {d : Addr} {H H1 H2 : Hp} (a : ExtB d H H1) (b : ExtB d H1 H2) : ExtB d H H2 := fun c o h e n => b c o h (a c o h e n) n
theorem ExtB.ex {d : Addr} {B H H' : Hp} (h : ExtB d H H') (e : Ex B H) (n : NoTab B) (hd : B d = none) : Ex B H' := fun b o k => h b o (ne_of_none k hd) (e b o k) fun ps z => n b ps (by rw [← z]; exact k)
theorem tabs_but {T : List (Addr × Str)} {d : Addr} {H H' : Hp} {kvs : List (Key × V)} (t : Tabs T H) (hd : H d = some (.dK kvs)) (s : ∀ b o, b ≠ d → H b = some o → H' b = some o) : Tabs T H' := by
  have e : ∀ b o, wo d H b = some o → H' b = some o := fun b o k => by
    obtain ⟨n, q⟩ := wo_some k
    exact s b o n q
  refine Tabs.ext (H := wo d H) (fun p hp => ?_) e
  obtain ⟨ps, h1, h2, h3⟩ := t p hp
  refine ⟨ps, (wo_at hd h1 (fun _ z => nomatch z)), h2, fun pos cv hc => ?_⟩
  obtain ⟨c, e1, e2⟩ := h3 pos cv hc
  exact ⟨c, e1, wo_at hd e2 fun kvs z => by unfold CodeO at z; cases z⟩
end My
namespace My
set_option autoImplicit false
open PySem PySem.W L2 Evl LamX
section
variable {te ta tb : TE} {t tr : TA} {tt : TT} {σ : L2.St} {B B' H : Hp} {p q : Pr} {ps : List Pr} {v : V} {K : PySem.W.Frag} {D : Ends}
end
end My
namespace My
set_option autoImplicit false
open PySem PySem.W L2 Evl
/-! ### which one is above, told otherwise -/
/-! ### rising, one put in behind the other -/
/-- where a derivative is put -/
def Rk.spot (r : Rk) (us : List Dv) (a : Dv) : Nat := (us.filter fun b => decide (r.lt b a)).length
def Rk.put (r : Rk) (us : List Dv) (a : Dv) : List Dv := if a ∈ us then us else us.insertIdx (r.spot us a) a
theorem Rk.spot_le (r : Rk) (us : List Dv) (a : Dv) : r.spot us a ≤ us.length := List.length_filter_le _ _
theorem ins_eq {α : Type} (a : α) : ∀ (n : Nat) (l : List α), n ≤ l.length → l.insertIdx n a = l.take n ++ a :: l.drop n
  | 0, l, _ => by simp
  | n + 1, x :: l, h => by
    rw [List.insertIdx_succ_cons, ins_eq a n l (by simpa using h)]
    simp
theorem Rk.put_len (r : Rk) (us : List Dv) (a : Dv) : (r.put us a).length ≤ us.length + 1 := by
  unfold Rk.put
  split
  · omega
  · rw [ins_eq _ _ _ (r.spot_le us a), List.length_append, List.length_cons, List.length_take, List.length_drop]
    have := r.spot_le us a
    omega
def Rk.rise (r : Rk) (us : List Dv) : List Dv := us.foldl r.put []
/-- strictly rising rows of the same derivatives are the same -/
theorem Rk.rise_one (r : Rk) {us vs : List Dv} (h : us.Pairwise r.lt) (k : vs.Pairwise r.lt) (e : ∀ v, v ∈ us ↔ v ∈ vs) : us = vs := by
  have nd : ∀ {l : List Dv}, l.Pairwise r.lt → l.Nodup := fun {l} h => List.Pairwise.imp (fun {a b} z e => by
    subst e
    exact r.lt_irrefl _ z) h
  refine List.Perm.eq_of_pairwise (le := r.lt) (fun u v _ _ a b => (r.lt_irrefl u (r.lt_trans a b)).elim) h k ((List.perm_ext_iff_of_nodup (nd h) (nd k)).mpr e)
/-! ### all to an order, told otherwise -/
def Rk.line (r : Rk) (n : Str) (t : Nat) : List Dv := (List.range (if r.axs.length = 2 then t + 1 else 1)).map fun (j : Nat) => ⟨n, (t : Int) - j, (j : Int)⟩
theorem ax2 (r : Rk) : (r.axs.length = 2) ↔ (Str.ofString "y") ∈ r.axs := by
  have : ∀ a : Fin 3, ((axsOf a).length = 2) ↔ (Str.ofString "y") ∈ axsOf a := by decide +kernel
  exact this r.ax
/-- those of the order 0, rising -/
theorem Rk.zero (r : Rk) (hn : r.ns.Nodup) : r.sort (r.all 0) = r.ns.reverse.map fun n => ⟨n, 0, 0⟩ := by
  have e0 : r.all 0 = r.ns.map fun n => (⟨n, 0, 0⟩ : Dv) := by
    unfold Rk.all Rk.rowsN Rk.row Rk.most
    induction r.ns with
    | nil => rfl
    | cons n ns ih =>
      rw [List.flatMap_cons, ih, List.map_cons]
      split <;> simp [List.range_succ]
  refine r.rise_one (r.sort_lt (fun u hu => (Rk.mem_all hu).n) (r.all_nd 0 hn)) ?_ fun v => ?_
  · rw [List.pairwise_map, List.pairwise_reverse]
    rw [List.pairwise_iff_getElem]
    intro i j hi hj hij
    unfold Rk.lt Rk.key Rk.first Rk.ahead
    have ix : ∀ (k : Nat) (hk : k < r.ns.length), r.ns.idxOf r.ns[k] = k := fun k hk => by
      have h1 := List.idxOf_lt_length_of_mem (List.getElem_mem hk)
      have h2 := List.getElem_idxOf h1
      by_cases e : r.ns.idxOf r.ns[k] = k
      · exact e
      · exact ((List.nodup_iff_pairwise_ne.mp hn) |> fun hp => by
          rw [List.pairwise_iff_getElem] at hp
          rcases Nat.lt_or_gt_of_ne e with z | z
          · exact (hp _ _ h1 hk z h2).elim
          · exact (hp _ _ hk h1 z h2.symm).elim)
    have e1 := ix i hi
    have e2 := ix j hj
    simp only [e1, e2]
    cases r.tot
    · simp [lt3]
      omega
    · simp only [if_true, lt3]
      exact .inr ⟨trivial, .inr ⟨trivial, by omega⟩⟩
  · rw [(r.sort_perm _).mem_iff, e0]
    simp
end My
namespace Gd
set_option autoImplicit false
open PySem PySem.Spec PyProof.Rows L2 LamX My
/-- a def's promise, where no repr is under way -/
structure FnG (P : Program) (w : World) (K : PySem.W.Frag) (mg : Str → Option Value) (base : Heap) (k : Nat) (f : Addr) (fd : FuncData) (ps : List Str) (sp : Sp) : Prop where
  len : ∀ vs H Q E, sp vs H Q E → vs.length = ps.length
  run : ∀ (A : Around) (outer : List Env) (s : Shared) (H : Hp) (args : Args) (us : List Value) (vs : List V) (Q : VK) (E : XK), Room k A → A.guards = some [] → Env0 P w K mg base A outer s H → BindsTo s fd args (ps.zip us) → Vals vs us → sp vs H Q E →
    codeAny (model P w) A (.call (.ref f) args) (CR CX0 outer P w H s Q E) s
section
variable {P : Program} {w : World} {K : PySem.W.Frag} {mg : Str → Option Value} {base : Heap} {k : Nat} {f : Addr} {fd : FuncData} {ps : List Str} {sp : Sp}
theorem FnG.of (F : FnOk P w K mg base CX0 k f fd ps sp) : FnG P w K mg base k f fd ps sp := ⟨F.len, fun A outer s H args us vs Q E hr _ => F.run A outer s H args us vs Q E hr⟩
theorem fnG_of {name qual : Str} {params : Arguments} {body : List Stmt} {scope : Scope} {dV kV doc pm cdv ct oc : Value} {an od : Option Addr} {osl : Array (Option Value)} {N : List Str}
    (lk : K.lookup f = some ⟨oc, od, .func (PySem.W.fnOf name qual params body scope dV kV doc pm an cdv ct), osl⟩) (hcd : PySem.W.codeIn K cdv qual = true) (S : FnScope N ps scope) (len : ∀ vs H Q E, sp vs H Q E → vs.length = ps.length)
    (go : ∀ (A : Around) (outer : List Env) (s : Shared) (H : Hp) (vs : List V) (Q : VK) (E : XK), Room k (A.deeper (envOfC qual scope s.heap.objs.size f cdv)) → (A.deeper (envOfC qual scope s.heap.objs.size f cdv)).guards = some [] → sp vs H Q E →
      ∃ t, PSs (cxOf CX0 P w K mg base N qual scope f cdv A outer s H E) body t ∧ t { nx := fun _ H' => Q .non H', rt := Q } (start N vs) H) :
    FnG P w K mg base (k + 1) f (PySem.W.fnOf name qual params body scope dV kV doc pm an cdv ct) ps sp := by
  refine ⟨len, fun A outer s H args us vs Q E hr hg e0 hb r hsp => ?_⟩
  have old := fun (b : Addr) (o : Obj) (e : base.get? b = some o) => (e0.bs b o e).1
  have inK : K.In s.heap := e0.mod.kin.keeps old
  have local_ := fun (y : Str × Value) (hy : y ∈ ps.zip us) => (S.par y.1 (List.of_mem_zip hy).1).imp id fun q => (⟨q, PySem.W.cellsFrom_some _ _ _ (.inl q)⟩ : scope.names.lookup y.1 = some .cell ∧ ((cellsFrom (s.heap.objs.size + 1) scope.names []).lookup y.1).isSome = true)
  refine codeAny_call_function hr.depth (inK _ _ lk) rfl S.co S.gen rfl (PySem.W.codeRec_of inK hcd) (hb _ _ _ _ (wpAny_newFunctionEnv_cells S.kind local_ fun env he s1 x => ?_))
  subst he
  obtain ⟨t, ht, hq⟩ := go A outer s H vs Q E (hr.deeper _) hg hsp
  refine ⟨(e0.mod.nolimit.keeps old).keeps x.toInCall.keep, codeAny_func (wpAny_mono (ht.run [] s1 _ H _ (inv_start S hr.hd e0 (len _ _ _ _ hsp) r x) hq) (fun fl s' hs => ?_) fun e s' hs => hs)⟩
  cases fl with
  | ret u => exact let ⟨v, _, H', J, rv, q⟩ := hs; ⟨v, H', J.os, J.bare, J.base, J.hok, rv, q⟩
  | next => exact let ⟨_, H', J, q⟩ := hs; ⟨V.non, H', J.os, J.bare, J.base, J.hok, rfl, q⟩
  | brk => exact let ⟨_, _, _, q⟩ := hs; q.elim
  | cont => exact let ⟨_, _, _, q⟩ := hs; q.elim
/-- the rule for a def by its body -/
theorem okG {x qual : Str} {st : Stmt} {N : List Str} (F : Fun K x qual st f fd) (S : FnScope N ps (defScope st)) (len : ∀ vs H Q E, sp vs H Q E → vs.length = ps.length)
    (go : ∀ (cdv : Value) (A : Around) (outer : List Env) (s : Shared) (H : Hp) (vs : List V) (Q : VK) (E : XK), Room k (A.deeper (envOfC qual (defScope st) s.heap.objs.size f cdv)) → (A.deeper (envOfC qual (defScope st) s.heap.objs.size f cdv)).guards = some [] → sp vs H Q E →
      ∃ t, PSs (cxOf CX0 P w K mg base N qual (defScope st) f cdv A outer s H E).nox (defBody st) t ∧ t { nx := fun _ H' => Q .non H', rt := Q } (start N vs) H) : FnG P w K mg base (k + 1) f fd ps sp := by
  obtain ⟨oc, od, kV, doc, pm, an, cdv, ct, osl, rfl, lk, hcd⟩ := F.ex
  exact fnG_of lk hcd S len fun A outer s H vs Q E hr hg hsp => let ⟨t, h1, h2⟩ := go cdv A outer s H vs Q E hr hg hsp; ⟨t, h1.nox, h2⟩
/-- a def as it is called -/
structure CalG (P : Program) (w : World) (K : PySem.W.Frag) (mg : Str → Option Value) (base : Heap) (x : Str) (k : Nat) (ps : List Str) (sp : Sp) (f : Addr) (fd : FuncData) : Prop where
  G : FnG P w K mg base k f fd ps sp
  m : mg x = some (.ref f)
  k : PySem.W.keepIn K (.ref f) = true
  b : Binds K fd ps []
end
section
variable {X : Cx} {k : Nat} {f : Addr} {fd : FuncData} {ps : List Str} {sp : Sp} {dvs : List V} {ds : List Value} {E : XK} {x : Str} {p pos : Pos} {e : Expr} {es : List Expr} {t : TA}
theorem pe_callG (F : FnG X.prog X.w X.K X.mg X.base k f fd ps sp) (hr : Room k X.A) (hG : X.A.guards = some []) (hg : Gl X x) (hm : X.mg x = some (.ref f)) (hk : PySem.W.keepIn X.K (.ref f) = true) (hb : Binds X.K fd ps ds) (hd : Vals dvs ds) (hx : Passes CX0 X E) (ha : PA X (e :: es) t)
    (hdb : (x == ("__debug__" : Str)) = false := by decide) (he : starEach (e :: es) X.env = (false, eval e X.env) :: starEach es X.env := by rfl) (hpl : (backTo pos (starEach es X.env)).any (·.1) = false := by rfl) : PE X (.Call (.Name x p) (e :: es) [] pos) (tCall sp dvs E t) :=
  ⟨fun pins s σ H Q I h => wpAny_Call_Name_kw (ld_glob I hg hm (PySem.W.callWith_K (h₀ := X.base) I.ok.mod.kin hk (thn (ha.run pos pins s σ H _ I h) fun us s1 ⟨vs, H1, I1, r, q⟩ => ⟨I1.kIn, by
    have ra := r.append hd
    have hl : (us ++ ds).length = ps.length := ra.length.symm.trans (F.len _ _ _ _ q)
    refine wpAny_call (codeAny_mono (F.run X.A X.stack s1 H1 ⟨us, []⟩ (us ++ ds) (vs ++ dvs) Q E hr hG I1.env0 (hb s1 us I1.kIn hl) ra q) fun r s' hq => ?_)
    match r, hq with
    | .error e, hq => exact hx pins σ H1 s1 e s' I1 hq
    | .ok (.ret u), hq => exact I1.after hq⟩) he hpl) hdb)⟩
end
/-! ### repr of data -/
mutual
theorem dp_nd {K : PySem.W.Frag} {H : Hp} : ∀ {d : PyData} {v : V}, Dp K H v d → d.hasDict = false
  | _, _, .non => by simp only [PyData.hasDict]
  | _, _, .bl b => by simp only [PyData.hasDict]
  | _, _, .int i => by simp only [PyData.hasDict]
  | _, _, .str x => by simp only [PyData.hasDict]
  | _, _, .lst _ b => by simp only [PyData.hasDict]; exact dps_nd b
  | _, _, .tup _ b => by simp only [PyData.hasDict]; exact dps_nd b
theorem dps_nd {K : PySem.W.Frag} {H : Hp} : ∀ {ds : List PyData} {vs : List V}, DpAll K H vs ds → PyData.hasDictAll ds = false
  | _, _, .nil => by simp only [PyData.hasDictAll]
  | _, _, .cons a b => by simp only [PyData.hasDictAll, dp_nd a, dps_nd b, Bool.or_self]
end
def rRepr (K : PySem.W.Frag) : List V → Hp → VK → Prop := fun xs H Q => ∃ x d, xs = [x] ∧ Dp K H x d ∧ d.showable = true ∧ d.depth ≤ 60 ∧ d.shown.length ≤ 1000000 ∧ Q (.str d.shown) H
theorem call_reprG {X : Cx} (hG : X.A.guards = some []) (hu : X.A.units + 64 < cLine) : CallR X (.builtin "repr") (rRepr X.K) := by
  intro pins s σ H xs us Q I r ⟨x, d, e, hd, hs, hp, hz, q⟩
  subst e
  obtain ⟨u, rfl, rx⟩ := vals1 r
  have hz' : d.shown.length ≤ sizeLine := Nat.le_trans hz (by decide)
  have hn := dp_nd hd
  have fin : ∀ {a : Addr}, u = .ref a → wpAny (model X.prog X.w) X.A (call (.builtin "repr") [u]) (EP X pins σ Q) X.xe s := fun {a} e => by
    subst e
    obtain ⟨as, ra⟩ := Dp.reads I d x _ hd rx
    exact repr_of_reads' ra hs (PyData.noDict_hsm hn) hG (by omega) (fun _ _ e => e) (fun h' u tk hk => ⟨.str d.shown, H, I.kept (t' := tk) hk, ⟨u, rfl⟩, q⟩) hz'
  cases hd with
  | non =>
    obtain rfl : u = Value.none := rx
    simp only [PyData.shown] at q
    exact PySem.P.repr_of_none ⟨.str _, H, I.tok _, ⟨_, rfl⟩, q⟩
  | bl b =>
    obtain rfl : u = Value.bool b := rx
    simp only [PyData.shown] at q
    exact PySem.P.repr_of_bool ⟨.str _, H, I.tok _, ⟨_, rfl⟩, q⟩
  | int i =>
    obtain ⟨t, rfl⟩ := rx
    simp only [PyData.shown] at q
    refine PySem.P.repr_of_int ?_ ⟨.str _, H, I.tok _, ⟨_, rfl⟩, q⟩
    simpa only [PyData.showable, decide_eq_true_eq] using hs
  | str y =>
    obtain ⟨t, rfl⟩ := rx
    simp only [PyData.shown] at q hz'
    exact PySem.P.repr_of_str ⟨.str _, H, I.tok _, ⟨_, rfl⟩, q⟩ hz'
  | lst a b => exact fin rx
  | tup a b => exact fin rx
end Gd
namespace Gd
set_option autoImplicit false
open PySem PySem.Spec PyProof.Rows L2 LamX My
/-- the abstract heap at the law's call: the script where it isn't written, the empty tables -/
def scrO (vs : List Value) : Obj := { cls := .type "list", data := .seq vs.toArray }
def tabO : Obj := { cls := .none, data := .fields #[] }
open Classical in
noncomputable def H0 (K : PySem.W.Frag) (a : Addr) (vs : List Value) (ns : List Int) (ts : List Addr) : Hp := fun b => if b ∈ ts then some (.tbl #[]) else if b = a ∧ K.lookup a = none then some (.frz (scrO vs) (.lst (ns.map V.int))) else none
theorem H0_t {K : PySem.W.Frag} {a : Addr} {vs : List Value} {ns : List Int} {ts : List Addr} {b : Addr} (h : b ∈ ts) : H0 K a vs ns ts b = some (.tbl #[]) := if_pos h
theorem H0_some {K : PySem.W.Frag} {a : Addr} {vs : List Value} {ns : List Int} {ts : List Addr} {b : Addr} {u : HO} (h : H0 K a vs ns ts b = some u) : (b ∈ ts ∧ u = .tbl #[]) ∨ (b = a ∧ K.lookup a = none ∧ u = .frz (scrO vs) (.lst (ns.map V.int))) := by
  unfold H0 at h
  split at h
  · rename_i q
    exact .inl ⟨q, (Option.some.inj h).symm⟩
  · split at h
    · rename_i q
      exact .inr ⟨q.1, q.2, (Option.some.inj h).symm⟩
    · cases h
section
variable {P : Program} {w : World} {K : PySem.W.Frag} {mg mb : Str → Option Value} {k : Nat} {fa a : Addr} {cs : List (Addr × Addr)} {fd : FuncData} {x : Str} {sp : Sp} {s1 : Shared} {vs : List Value} {ns : List Int}
theorem lawG (KX : K.In s1.heap) (hns : s1.heap.Ns mainGlobals mg) (hb : s1.heap.Ns builtinsNs mb) (hbb : ∀ x : Str, x ≠ "__name__" → mb x = bootBuiltins x) (hlim : s1.heap.NoLimit) (hgen : s1.gens = #[])
    (hT : ∀ p ∈ cs, s1.heap.get? p.2 = some tabO) (nT : ∀ p ∈ cs, K.lookup p.2 = none) (hC : ∀ p ∈ cs, PySem.W.CodeHd s1.heap p.1 p.2)
    (hbm : ∃ (bm : Addr) (ob : Obj), mg "__builtins__" = some (.ref bm) ∧ bm ≠ builtinsNs ∧ s1.heap.get? bm = some ob ∧ ob.cls = .type "module" ∧ ob.dict = some builtinsNs ∧ ob.data = .plain)
    (ha : s1.heap.get? a = some (scrO vs)) (hi : IntsAre vs ns) (hl : ns.length ≤ sizeLine) (hr : Room k callerA)
    (F : ∀ base : Heap, K.In base → base.Ns mainGlobals mg → (∀ p ∈ cs, TabB base mg p.1 p.2) → FnG P w K mg base k fa fd [x] sp) (hbind : ∀ (s : Shared) (u : Value), BindsTo s fd ⟨[u], []⟩ [(x, u)])
    (hsp : ∀ H : Hp, (∀ p ∈ cs, H p.2 = some (.tbl #[])) → SqL K H a (ns.map V.int) → sp [.ref a] H (fun v _ => v = .bl true) fun _ _ _ => False) :
    codeAny (model P w) callerA (.call (.ref fa) ⟨[.ref a], []⟩) (fun r s' => r = .ok (.ret (.bool true)) ∧ OldK s1.heap s'.heap ∧ s'.os = s1.os ∧ AllBare s'.gens) s1 := by
  let ts := cs.map (·.2)
  have tab : ∀ b ∈ ts, ∃ p ∈ cs, p.2 = b := fun b q => by
    obtain ⟨p, h1, h2⟩ := List.mem_map.mp q
    exact ⟨p, h1, h2⟩
  have inT : ∀ p ∈ cs, p.2 ∈ ts := fun p q => List.mem_map.mpr ⟨p, q, rfl⟩
  have tAt : ∀ b ∈ ts, s1.heap.get? b = some tabO := fun b q => by
    obtain ⟨p, h1, rfl⟩ := tab b q
    exact hT p h1
  have aT : a ∉ ts := fun q => by
    have := tAt a q
    rw [ha] at this
    exact nomatch congrArg Obj.data (Option.some.inj this)
  generalize hH : H0 K a vs ns ts = H
  have at1 : ∀ {b u}, H b = some u → (b ∈ ts ∧ u = .tbl #[]) ∨ (b = a ∧ K.lookup a = none ∧ u = .frz (scrO vs) (.lst (ns.map V.int))) := fun {b u} q => by
    rw [← hH] at q
    exact H0_some q
  have atT : ∀ p ∈ cs, H p.2 = some (.tbl #[]) := fun p q => by
    rw [← hH]
    exact H0_t (inT p q)
  -- what is neither a list of that kind nor a table is not tracked
  have free : ∀ {b : Addr} {o : Obj}, s1.heap.get? b = some o → (∀ us m, o.data ≠ .seq us m) → o.data ≠ .fields #[] → H b = none := fun {b o} e n1 n2 => by
    cases q : H b with
    | none => rfl
    | some u =>
      rcases at1 q with ⟨h1, _⟩ | ⟨h1, _⟩
      · have := tAt b h1
        rw [e] at this
        exact absurd (congrArg Obj.data (Option.some.inj this)) n2
      · rw [h1, ha] at e
        exact absurd (congrArg Obj.data (Option.some.inj e)).symm (n1 _ _)
  have ground : ∀ {b : Addr} {m : Str → Option Value}, s1.heap.Ns b m → (hidT s1.heap H).Ns b m := fun {b m} h => by
    obtain ⟨o, es, ep, e, d, r⟩ := h
    exact ⟨o, es, ep, hidT_get e (free e (fun us m z => by rw [d] at z; cases z) fun z => by rw [d] at z; cases z), d, r⟩
  have KB : K.In (hidT s1.heap H) := fun b o e => hidT_get (KX b o e) <| by
    cases q : H b with
    | none => rfl
    | some u =>
      rcases at1 q with ⟨h1, _⟩ | ⟨h1, h2, _⟩
      · obtain ⟨p, hp, rfl⟩ := tab b h1
        rw [nT p hp] at e
        cases e
      · rw [h1, h2] at e
        cases e
  have TB : ∀ p ∈ cs, TabB (hidT s1.heap H) mg p.1 p.2 := fun p hp => by
    have t1 := hT p hp
    have gne : mainGlobals ≠ p.2 := fun z => by
      obtain ⟨o, es, ep, e, hd, _⟩ := hns
      rw [z, t1] at e
      cases e
      cases hd
    refine ⟨?_, ?_, gne⟩
    · obtain ⟨o, us, fi, tf, fl, tg, inF, tx, tt, e1, r1, r2, r3, rest⟩ := hC p hp
      exact ⟨o, us, fi, tf, fl, tg, inF, tx, tt, hidT_get e1 (free e1 (fun us m z => by rw [r2] at z; cases z) fun z => by rw [r2] at z; cases z; simp at r3), r1, r2, r3, rest⟩
    · obtain ⟨bm, ob, b1, b2, b3, b4, b5, b6⟩ := hbm
      refine ⟨bm, ob, b1, b2, fun z => ?_, fun z => ?_, hidT_get b3 (free b3 (fun us m z => by rw [b6] at z; cases z) fun z => by rw [b6] at z; cases z), b4, b5, b6⟩
      · obtain ⟨o, es, ep, e, hd, _⟩ := hns
        rw [← z, b3] at e
        cases e
        rw [b6] at hd
        cases hd
      · rw [z, t1] at b3
        cases b3
        cases b6
  have rv := vals_ints hi
  have hvs := hi.length
  have sq : SqL K H a (ns.map V.int) := by
    cases q : K.lookup a with
    | none => exact .inl (.inr ⟨scrO vs, by rw [← hH]; exact (if_neg aT).trans (if_pos ⟨rfl, q⟩)⟩)
    | some o =>
      have e := KX a o q
      rw [ha] at e
      cases e
      exact .inr ⟨scrO vs, vs.toArray, _, q, rfl, rfl, rfl, by rw [List.size_toArray, hvs]; exact hl, by simpa using rv⟩
  have hok : HOk P w H s1.heap := fun b u q => by
    rcases at1 q with ⟨h1, rfl⟩ | ⟨rfl, _, rfl⟩
    · exact tAt b h1
    · exact ⟨ha, by rw [List.length_map]; exact hl, vs, _, rv, ha⟩
  have env : Env0 P w K mg (hidT s1.heap H) callerA [] s1 H := ⟨rfl, ⟨KB, ground hns, ⟨mb, ground hb, hbb⟩, (let ⟨mc, h1, h2⟩ := hlim; ⟨mc, ground h1, h2⟩)⟩, fun b o e => of_hidT e, Nat.le_of_eq (hidT_size _ _), trivial, fun b z => (nomatch z), hok, .of_eq hgen⟩
  refine codeAny_mono ((F _ KB (ground hns) TB).run callerA [] s1 H ⟨[.ref a], []⟩ [.ref a] [.ref a] _ _ hr rfl env (hbind s1 (.ref a)) (.cons rfl .nil) (hsp H atT sq)) fun r s' h => ?_
  match r, h with
  | .ok (.ret u), h =>
    obtain ⟨v, H', os, bare, un, hok', r', q⟩ := h
    obtain rfl : v = .bl true := q
    obtain rfl : u = Value.bool true := r'
    have more : ∀ b ∈ ts, ∃ m : Array Value, s'.heap.get? b = some { cls := .none, data := .fields m } := fun b hb => by
      obtain ⟨p, hp, rfl⟩ := tab b hb
      obtain ⟨m, z⟩ := un.tbls _ #[] (atT p hp)
      exact ⟨_, hok' _ _ z⟩
    have stay : ∀ b o, b ∉ ts → s1.heap.get? b = some o → s'.heap.get? b = some o := fun b o nb e => by
      cases q : H b with
      | none => exact un.keep b o e q (fun z => (nomatch z)) (fun z => (nomatch z))
      | some u =>
        rcases at1 q with ⟨h1, _⟩ | ⟨_, _, rfl⟩
        · exact absurd h1 nb
        · have e1 := (hok b _ q).1
          have e2 := (hok' b _ (un.frzs b _ _ q)).1
          rw [e1] at e
          cases e
          exact e2
    refine ⟨rfl, ⟨fun b o e => ?_, fun b o e => ?_⟩, os, bare⟩
    · by_cases hbt : b ∈ ts
      · obtain ⟨m, hm⟩ := more b hbt
        obtain ⟨p, hp, rfl⟩ := tab b hbt
        have t1 := hT p hp
        rw [t1] at e
        cases e
        exact .inr (.inl ⟨((hC p hp).tab t1).isCodeTable, rfl, #[], m, rfl, by rw [Array.empty_append]; exact hm⟩)
      · exact .inl (stay b o hbt e)
    · by_cases hbt : b ∈ ts
      · exact let ⟨m, hm⟩ := more b hbt; ⟨_, hm⟩
      · exact ⟨o, stay b o hbt e⟩
/-- what the end asks, at the head's heap -/
def LawAtG (l : PySem.W.OpenLaw) (w : World) (K : PySem.W.Frag) (k n : Nat) (x : Str) (mg : Str → Option Value) (fa : Addr) (h : Heap) : Prop :=
  ∃ (fd : FuncData) (cs : List (Addr × Addr)) (sp : Sp), (∀ p ∈ cs, h.get? p.2 = some tabO) ∧ (∀ p ∈ cs, K.lookup p.2 = none) ∧ (∀ p ∈ cs, PySem.W.CodeHd h p.1 p.2) ∧ (∀ (s : Shared) (u : Value), BindsTo s fd ⟨[u], []⟩ [(x, u)]) ∧
    (∀ (H : Hp) (a : Addr) (ns : List Int), ns.length ≤ n → (∀ z ∈ ns, Builtin.Int.intBits z ≤ 1048576) → (∀ p ∈ cs, H p.2 = some (.tbl #[])) → SqL K H a (ns.map V.int) → sp [.ref a] H (fun v _ => v = .bl true) fun _ _ _ => False) ∧
    ∀ base : Heap, K.In base → base.Ns mainGlobals mg → (∀ p ∈ cs, TabB base mg p.1 p.2) → FnG l.prog w K mg base k fa fd [x] sp
end
end Gd
namespace Gd
set_option autoImplicit false
open PySem PySem.Spec PyProof.Rows L2 LamX My Evl
/-! ### how long what repr tells is -/
theorem small_int {i : Int} (h0 : -100 ≤ i) (h1 : i ≤ 100) : ((toString i : String) : Str).length ≤ 4 ∧ i.natAbs.log2 < 1920 := by
  have : ∀ k : Fin 201, ((toString ((k.val : Int) - 100) : String) : Str).length ≤ 4 ∧ ((k.val : Int) - 100).natAbs.log2 < 1920 := by decide +kernel
  have := this ⟨(i + 100).toNat, by omega⟩
  have e : (((i + 100).toNat : Nat) : Int) - 100 = i := by omega
  simp only [e] at this
  exact this
theorem all_len {ds : List PyData} {m : Nat} (h : ∀ d ∈ ds, d.shown.length ≤ m) : ((PyData.shownAll ds).map (·.length)).sum ≤ ds.length * m ∧ (PyData.shownAll ds).length = ds.length := by
  induction ds with
  | nil => simp [PyData.shownAll]
  | cons d ds ih =>
    obtain ⟨h1, h2⟩ := ih fun e he => h e (List.mem_cons_of_mem _ he)
    simp only [PyData.shownAll, List.map_cons, List.sum_cons, List.length_cons, h2, Nat.add_mul]
    have := h d List.mem_cons_self
    refine ⟨by omega, trivial⟩
theorem shown_lst {ds : List PyData} {m : Nat} (h : ∀ d ∈ ds, d.shown.length ≤ m) : (PyData.list ds).shown.length ≤ ds.length * (m + 2) + 3 := by
  simp only [PyData.shown]
  have h1 := listText_len_le (PyData.shownAll ds)
  obtain ⟨h2, h3⟩ := all_len h
  rw [h3] at h1
  rw [Nat.mul_add]
  omega
theorem shown_tup {ds : List PyData} {m : Nat} (h : ∀ d ∈ ds, d.shown.length ≤ m) : (PyData.tuple ds).shown.length ≤ ds.length * (m + 2) + 3 := by
  simp only [PyData.shown]
  have h1 := tupleText_len_le (PyData.shownAll ds)
  obtain ⟨h2, h3⟩ := all_len h
  rw [h3] at h1
  rw [Nat.mul_add]
  omega
theorem shown_int {i : Int} (h0 : -100 ≤ i) (h1 : i ≤ 100) : (PyData.int i).shown.length ≤ 4 ∧ (PyData.int i).showable = true := by
  obtain ⟨a, b⟩ := small_int h0 h1
  refine ⟨by simp only [PyData.shown]; exact a, ?_⟩
  simp only [PyData.showable, decide_eq_true_eq]
  exact b
theorem shown_nm {x : Str} (h : My.IsNm x) : (PyData.str x).shown.length ≤ 82 := by
  obtain ⟨h1, h2, h3⟩ := nm_facts h
  simp only [PyData.shown]
  have := StrLaws.reprText_len x fun c hc => by
    have := h3 c (by simpa using hc)
    omega
  omega
theorem nm_okS {x : Str} (h : My.IsNm x) : PyData.strOk x = true := by
  have h2 := (nm_facts h).2.2
  unfold PyData.strOk
  rw [Array.all_eq_true']
  intro c hc
  have := h2 c hc
  simp
  omega
theorem shp_dv {r : Rk} {u : Dv} (hr : r.Ok) (h : u.Of r) : SeqAt.shaped u.D = true := by
  have := nm_okS (hr.nm _ h.n)
  unfold Dv.D SeqAt.shaped
  simp [PyData.canLay0, PyData.canLayAll0, PyData.depth, PyData.depthAll, this]
theorem show_dv {r : Rk} {u : Dv} (hr : r.Ok) (h : u.Of r) (hi : u.i ≤ 20) (hj : u.j ≤ 20) : u.D.shown.length ≤ 300 ∧ u.D.showable = true := by
  have i0 := h.i
  have j0 := h.j
  have h1 := shown_nm (hr.nm _ h.n)
  obtain ⟨h2, h4⟩ := shown_int (i := u.i) (by omega) (by omega)
  obtain ⟨h3, h5⟩ := shown_int (i := u.j) (by omega) (by omega)
  unfold Dv.D
  refine ⟨?_, ?_⟩
  · have := shown_tup (ds := [.str u.n, .int u.i, .int u.j]) (m := 82) fun d hd => by
      simp only [List.mem_cons, List.not_mem_nil, or_false] at hd
      rcases hd with rfl | rfl | rfl <;> omega
    simp only [List.length_cons, List.length_nil] at this
    omega
  · simp only [PyData.showable, PyData.showableAll, Bool.and_true, Bool.true_and] at h4 h5 ⊢
    rw [h4, h5]
    rfl
section
variable {te : TE} {σ : L2.St} {B : Hp} {K : PySem.W.Frag} {d : PyData}
/-- repr of what is known -/
theorem ev_repr (h : EvP te σ B (IsD K d)) (hs : d.showable = true) (hp : d.depth ≤ 60) (hz : d.shown.length ≤ 1000000) : Ev (tCB (rRepr K) (tCons te tNil)) σ B (.str d.shown) := fun H1 a Q k =>
  h H1 a _ fun v B2 H2 g x => ⟨v, d, rfl, dp_m g.c x, hs, hp, hz, k H2 g.a⟩
end
end Gd
namespace Gd
set_option autoImplicit false
open PySem PySem.Spec PyProof.Rows L2 LamX My
section
variable {X : Cx} {k n : Nat} {f : Addr} {fd : FuncData} {ps ks : List Str} {sp : Sp} {E : XK} {x : Str} {p pos : Pos} {kws : List Keyword} {tk : TA} {g : List Value → List Value → List Value} {gV : List V → List V → List V}
end
section
variable {K : PySem.W.Frag} {x qual : Str} {st : Stmt} {f : Addr} {fd : FuncData} {ps ks : List Str} {n : Nat}
def gKs : List V → List V → List V := fun vs zs => vs ++ zs
def gKu : List Value → List Value → List Value := fun us ws => us ++ ws
theorem kbn_of {g : List Value → List Value → List Value} {gV : List V → List V → List V} (F : Fun K x qual st f fd) (hr : ∀ {vs : List V} {us : List Value} {zs : List V} {ws : List Value}, Vals vs us → Vals zs ws → Vals (gV vs zs) (g us ws))
    (h : ∀ (kV doc pm : Value) (an : Option Addr) (cdv ct : Value) (us ws : List Value), us.length = n → ws.length = ks.length → bindArgs (PySem.W.fnOf x qual (defArgs st) (defBody st) (defScope st) .none kV doc pm an cdv ct) ⟨us, ks.zip ws⟩ = pure (ps.zip (g us ws))) : KBn K fd ps n ks g gV := by
  obtain ⟨_, _, kV, doc, pm, an, cdv, ct, _, rfl, _⟩ := F.ex
  exact ⟨fun s us ws _ l1 l2 => .of_eq (h kV doc pm an cdv ct us ws l1 l2), hr⟩
theorem relK {vs : List V} {us : List Value} {zs : List V} {ws : List Value} (a : Vals vs us) (b : Vals zs ws) : Vals (gKs vs zs) (gKu us ws) := a.append b
end
end Gd
namespace Gd
set_option autoImplicit false
open PySem PySem.Spec PyProof.Rows L2 My HT
section
variable {prog : Program} {w : World} {A : Around} {E : Value → Shared → Prop} {s : Shared}
theorem fm_congr {α β : Type} {f g : α → Option β} : ∀ {l : List α}, (∀ x ∈ l, f x = g x) → l.filterMap f = l.filterMap g
  | [], _ => rfl
  | x :: l, h => by
    rw [List.filterMap_cons, List.filterMap_cons, h x List.mem_cons_self, fm_congr (l := l) fun y hy => h y (List.mem_cons_of_mem _ hy)]
end
/-! ### t[::-1] of a tuple -/
end Gd
namespace Nd
set_option autoImplicit false
open PySem PySem.Spec PyProof.Rows L2 My
/-! ### data as keys -/
mutual
def nk : PyData → NestedKey
  | .none => .none
  | .bool b => .num (if b = true then 1 else 0)
  | .int i => .num i
  | .str x => .text x
  | .tuple ds => .tup (nkAll ds)
  | .list _ => .none
  | .dict _ => .none
def nkAll : List PyData → List NestedKey
  | [] => []
  | d :: ds => nk d :: nkAll ds
end
mutual
def keyish : PyData → Bool
  | .none => true
  | .bool _ => true
  | .int _ => true
  | .str _ => true
  | .tuple ds => keyishAll ds
  | .list _ => false
  | .dict _ => false
def keyishAll : List PyData → Bool
  | [] => true
  | d :: ds => keyish d && keyishAll ds
end
section
variable {X : Cx} {pins : List (Addr × Obj)} {σ : L2.St} {H : Hp} {s : Shared}
mutual
theorem dp_nk (I : Inv X pins σ H s) : ∀ {d : PyData} {v : V} {u : Value}, Dp X.K H v d → keyish d = true → RelV v u → NestedIs s.heap (nk d) u
  | _, _, u, .non, _, r => by
    obtain rfl : u = Value.none := r
    simp only [nk]
    exact .none
  | _, _, u, .bl b, _, r => by
    obtain rfl : u = Value.bool b := r
    simp only [nk]
    exact .bool rfl
  | _, _, u, .int i, _, r => by
    obtain ⟨t, rfl⟩ := r
    simp only [nk]
    exact .int i t
  | _, _, u, .str x, _, r => by
    obtain ⟨t, rfl⟩ := r
    simp only [nk]
    exact .text x t
  | _, _, u, .lst _ _, h, _ => by simp [keyish] at h
  | _, _, u, .tup (a := a) x y, h, r => by
    obtain rfl : u = Value.ref a := r
    obtain ⟨its, rv, ⟨o, h1, h2, n, h3⟩, _⟩ := I.tuple x
    simp only [nk]
    simp only [keyish] at h
    exact .tup h1 h2 h3 (by simpa using dps_nk I y h rv)
theorem dps_nk (I : Inv X pins σ H s) : ∀ {ds : List PyData} {vs : List V} {us : List Value}, DpAll X.K H vs ds → keyishAll ds = true → Vals vs us → NestedAll s.heap (nkAll ds) us
  | _, _, [], .nil, _, .nil => by
    simp only [nkAll]
    exact .nil
  | _, _, _ :: _, .cons a b, h, .cons r1 r2 => by
    simp only [keyishAll, Bool.and_eq_true] at h
    simp only [nkAll]
    exact .cons (dp_nk I a h.1 r1) (dps_nk I b h.2 r2)
end
end
/-! ### a dict by such keys -/
abbrev NV := NestedKey × Addr × V
def lay : List NV → List Value → List (NestedKey × Addr × Value)
  | [], _ => []
  | _ :: _, [] => []
  | x :: xs, u :: us => (x.1, x.2.1, u) :: lay xs us
theorem lay_keys : ∀ {xs : List NV} {us : List Value}, xs.length = us.length → (lay xs us).map (·.1) = xs.map (·.1)
  | [], [], _ => rfl
  | _ :: _, _ :: _, h => congrArg (_ :: ·) (lay_keys (by simpa using h))
theorem lay_len : ∀ {xs : List NV} {us : List Value}, xs.length = us.length → (lay xs us).length = xs.length
  | [], [], _ => rfl
  | _ :: _, _ :: _, h => congrArg Nat.succ (lay_len (by simpa using h))
theorem lay_mem : ∀ {xs : List NV} {us : List Value} {y : NestedKey × Addr × Value}, y ∈ lay xs us → ∃ x ∈ xs, x.1 = y.1 ∧ x.2.1 = y.2.1
  | [], us, y, h => by simp [lay] at h
  | x :: xs, [], y, h => by simp [lay] at h
  | x :: xs, u :: us, y, h => by
    rcases List.mem_cons.mp h with rfl | h
    · exact ⟨x, List.mem_cons_self, rfl, rfl⟩
    · obtain ⟨z, hz, e⟩ := lay_mem h
      exact ⟨z, List.mem_cons_of_mem _ hz, e⟩
theorem vlen {xs : List NV} {us : List Value} (r : Vals (xs.map (·.2.2)) us) : xs.length = us.length := by
  have := r.length
  rw [List.length_map] at this
  exact this
/-- what stands at a key -/
def look (xs : List NV) (k : NestedKey) : Option V := (xs.find? fun x => decide (x.1 = k)).map (·.2.2)
def hasN (xs : List NV) (k : NestedKey) : Bool := xs.any fun x => decide (x.1 = k)
def putN (xs : List NV) (k : NestedKey) (a : Addr) (v : V) : List NV := if hasN xs k then xs.map fun x => if x.1 = k then (x.1, x.2.1, v) else x else xs ++ [(k, a, v)]
theorem at_lay {k : NestedKey} : ∀ {xs : List NV} {us : List Value}, Vals (xs.map (·.2.2)) us → (atKey (lay xs us) k).isSome = hasN xs k ∧ (∀ v, look xs k = some v → ∃ b u, atKey (lay xs us) k = some (b, u) ∧ RelV v u) ∧ (look xs k = none → atKey (lay xs us) k = none)
  | [], [], _ => ⟨rfl, fun v h => by simp [look] at h, fun _ => rfl⟩
  | x :: xs, u :: us, r => by
    cases r with
    | cons r1 r2 =>
      obtain ⟨h1, h2, h3⟩ := at_lay (k := k) (xs := xs) (us := us) r2
      unfold atKey hasN look at *
      simp only [lay, List.find?_cons, List.any_cons]
      by_cases e : x.1 = k
      · simp only [e, decide_true, Bool.true_or]
        refine ⟨rfl, fun v hv => ?_, fun h => by simp at h⟩
        simp only [Option.map_some, Option.some.injEq] at hv
        subst hv
        exact ⟨_, _, rfl, r1⟩
      · simp only [e, decide_false, Bool.false_or]
        exact ⟨h1, h2, h3⟩
theorem lay_app {xs ys : List NV} : ∀ {us ws : List Value}, xs.length = us.length → lay (xs ++ ys) (us ++ ws) = lay xs us ++ lay ys ws := by
  induction xs with
  | nil =>
    intro us ws h
    match us, h with
    | [], _ => rfl
  | cons x xs ih =>
    intro us ws h
    match us, h with
    | u :: us, h => exact congrArg (_ :: ·) (ih (by simpa using h))
theorem lay_put {k : NestedKey} {v : V} {u : Value} (rv : RelV v u) : ∀ {xs : List NV} {us : List Value}, Vals (xs.map (·.2.2)) us → ∃ ws, Vals ((xs.map fun x => if x.1 = k then (x.1, x.2.1, v) else x).map (·.2.2)) ws ∧ (lay xs us).map (putAt k u) = lay (xs.map fun x => if x.1 = k then (x.1, x.2.1, v) else x) ws
  | [], [], _ => ⟨[], .nil, rfl⟩
  | x :: xs, w :: us, r => by
    cases r with
    | cons r1 r2 =>
      obtain ⟨ws, h1, h2⟩ := lay_put (k := k) rv (xs := xs) (us := us) r2
      by_cases e : x.1 = k
      · refine ⟨u :: ws, ?_, ?_⟩
        · simp only [List.map_cons, if_pos e]
          exact .cons rv h1
        · simp only [lay, List.map_cons, if_pos e, putAt, h2]
      · refine ⟨w :: ws, ?_, ?_⟩
        · simp only [List.map_cons, if_neg e]
          exact .cons r1 h1
        · simp only [lay, List.map_cons, if_neg e, putAt, h2]
def DNf (P : Program) (w : World) (d : Addr) (xs : List NV) : Heap → Prop := fun h => (d == sysModules) = false ∧ xs.length ≤ sizeLine ∧ ∃ (us : List Value) (o : Obj) (es : Array DictEntry) (ep : Nat), Vals (xs.map (·.2.2)) us ∧ h.get? d = some o ∧ o.ExactDict ∧ o.data = .dict es ep ∧ es.toList = (lay xs us).map (entryOfKey (nestedKind P w)) ∧ (xs.map (·.1)).Nodup
/-- a dict by nested keys, in the order of insertion -/
def DN (P : Program) (w : World) (d : Addr) (xs : List NV) : HO := .ext (DNf P w d xs)
theorem dn_ok {P : Program} {w : World} {H : Hp} {h : Heap} {d : Addr} {xs : List NV} (R : DNf P w d xs h) : ObjOk P w H h d (DN P w d xs) :=
  ⟨R, (let ⟨_, _, _, o, _, _, _, e, _⟩ := R; ⟨o, e⟩), fun h1 h2 ⟨z1, z2, us, o, es, ep, a, b, c⟩ k => ⟨z1, z2, us, o, es, ep, a, k o b, c⟩⟩
/-- the object at a is such a key -/
def KeyAt (K : PySem.W.Frag) (H : Hp) (a : Addr) (k : NestedKey) : Prop := ∃ d, Dp K H (.ref a) d ∧ keyish d = true ∧ nk d = k ∧ k.depth ≤ 8
def KeysOk (K : PySem.W.Frag) (H : Hp) (xs : List NV) : Prop := ∀ x ∈ xs, KeyAt K H x.2.1 x.1
theorem KeyAt.ex {K : PySem.W.Frag} {H H' : Hp} {a : Addr} {k : NestedKey} (h : KeyAt K H a k) (e : Evl.Ex H H') : KeyAt K H' a k := let ⟨d, x, y⟩ := h; ⟨d, dp_m e x, y⟩
theorem KeysOk.ex {K : PySem.W.Frag} {H H' : Hp} {xs : List NV} (h : KeysOk K H xs) (e : Evl.Ex H H') : KeysOk K H' xs := fun x hx => (h x hx).ex e
section
variable {X : Cx} {pins : List (Addr × Obj)} {σ : L2.St} {H : Hp} {s : Shared} {d a : Addr} {xs : List NV} {k : NestedKey}
theorem key_is (I : Inv X pins σ H s) (h : KeyAt X.K H a k) : (nestedKind X.prog X.w).is s.heap k a := by
  obtain ⟨e, h1, h2, rfl, h4⟩ := h
  exact ⟨dp_nk I h1 h2 rfl, h4⟩
theorem dn_of (I : Inv X pins σ H s) (h : H d = some (DN X.prog X.w d xs)) (hk : KeysOk X.K H xs) : (d == sysModules) = false ∧ xs.length ≤ sizeLine ∧ ∃ us, Vals (xs.map (·.2.2)) us ∧ s.heap.DictOfH (nestedKind X.prog X.w) d (lay xs us) := by
  obtain ⟨z1, z2, us, o, es, ep, r, h1, h2, h3, h4, h5⟩ := (I.hok d _ h).1
  refine ⟨z1, z2, us, r, o, es, ep, h1, h2, h3, h4, fun y hy => ?_, by rw [lay_keys (vlen r)]; exact h5⟩
  obtain ⟨x, hx, e1, e2⟩ := lay_mem hy
  have := key_is I (hk x hx)
  rw [e1, e2] at this
  exact this
theorem dn_to {P : Program} {w : World} {h : Heap} {us : List Value} (z1 : (d == sysModules) = false) (z2 : xs.length ≤ sizeLine) (r : Vals (xs.map (·.2.2)) us) (m : h.DictOfH (nestedKind P w) d (lay xs us)) : DNf P w d xs h := by
  obtain ⟨o, es, ep, h1, h2, h3, h4, _, h5⟩ := m
  exact ⟨z1, z2, us, o, es, ep, r, h1, h2, h3, h4, by rw [← lay_keys (vlen r)]; exact h5⟩
/-- {} -/
def tDNewN (P : Program) (w : World) : TE := fun _ H Q => ∀ p, H p = none → Q (.ref p) (upd H p (DN P w p []))
theorem pe_dnewN {pos : Pos} : PE X (.Dict [] [] pos) (tDNewN X.prog X.w) := ⟨fun pins s σ H Q I h =>
  wpAny_Dict_empty ⟨.ref s.heap.objs.size, _, I.laid (a := s.heap.objs.size) (o := DN X.prog X.w s.heap.objs.size []) (t' := s.toks) (fun _ _ q => Heap.get?_push_of_some _ q) (Nat.le_refl _)
    (dn_ok (dn_to (us := []) (beq_eq_false_iff_ne.mpr (Nat.ne_of_gt I.big)) (by decide) .nil (Heap.DictOfH.new s.heap))), rfl, h _ (I.hok.fresh (Nat.le_refl _))⟩⟩
/-- k in d -/
def rInN (P : Program) (w : World) (K : PySem.W.Frag) : R2 := fun x y H Q => ∃ (a d : Addr) (xs : List NV) (k : NestedKey), x = .ref a ∧ y = .ref d ∧ H d = some (DN P w d xs) ∧ KeysOk K H xs ∧ KeyAt K H a k ∧ Q (.bl (hasN xs k)) H
theorem op_inN (hu : X.A.units + 9 < cLine) : OpR X (compareOp .In) (rInN X.prog X.w X.K) := by
  intro pins s σ H x y v u Q I rx ry ⟨a, d, xs, k, e1, e2, hd, hk, hkey, q⟩
  subst e1 e2
  cases rx
  cases ry
  obtain ⟨z1, z2, us, r, m⟩ := dn_of I hd hk
  have := (at_lay (k := k) r).1
  refine wpAny_in_heap (knd := nestedKind X.prog X.w) (by show X.A.units + 1 + 8 < cLine; omega) (key_is I hkey) z1 m ?_
  rw [this]
  exact ⟨.bl (hasN xs k), H, I.tok _, rfl, q⟩
end
end Nd
namespace Nd
set_option autoImplicit false
open PySem PySem.Spec PyProof.Rows L2 My Evl
section
variable {X : Cx}
end
section
variable {te ta tb : TE} {σ : L2.St} {B : Hp} {K : PySem.W.Frag} {d e : PyData}
end
end Nd
namespace Nd
set_option autoImplicit false
open PySem PySem.Spec PyProof.Rows L2 My Evl
/-! ### enumerate of a tuple -/
/-- an enumerate object over the iterator n, nothing drawn yet -/
abbrev enO (n : Addr) : Obj := { cls := .type "enumerate", data := .fields #[.none, .bool false, .ref n, rawInt 0, .none, .none] }
set_option maxHeartbeats 1000000 in
theorem en_new {v : Value} {o : Obj} {G : Heap → Prop} (B : Begins v o G) :
    Meets (Builtin.«enumerate.__new__» ⟨[.type "enumerate", v], []⟩) (fun _ R s => G s.heap ∧ R (.ok (.ret (.ref (s.heap.push o).objs.size))) { s with heap := (s.heap.push o).push (enO s.heap.objs.size) }) := .of_wp fun prog w A R s h => by
  obtain ⟨hp, gg, dd, tt, oo⟩ := s
  obtain ⟨h1, h2⟩ := h
  have sb := sub_enumerate
  have q1 : ∀ {A' : Around} {E Q : Value → Shared → Prop}, Q (.ref hp.objs.size) ⟨hp.push o, gg, dd, tt, oo⟩ → wpAny (model prog w) A' (pyIter v) Q E ⟨hp, gg, dd, tt, oo⟩ := fun q => B.iter prog w _ _ ⟨hp, gg, dd, tt, oo⟩ _ h1 q
  wp_walk using q1
  refine wpAny_stack_any fun st => wpAny_pure ?_
  split
  · rename_i c _ _ _ _ _
    cases (c == Value.type "enumerate") <;> (wp_walk using q1; exact ⟨_, rfl, h2⟩)
  · wp_walk using q1
    exact ⟨_, rfl, h2⟩
theorem en_call {P : Program} {w : World} {A : Around} {E : Value → Shared → Prop} {s : Shared} {v : Value} {o : Obj} {G : Heap → Prop} {Q : Value → Shared → Prop} (B : Begins v o G) (h1 : G s.heap)
    (h : ∀ h', IsEnum h' (s.heap.objs.size + 1) s.heap.objs.size 0 .none → h'.get? s.heap.objs.size = some o → (∀ b o, s.heap.get? b = some o → h'.get? b = some o) → Q (.ref (s.heap.objs.size + 1)) { s with heap := h' }) :
    wpAny (model P w) A (call (.type "enumerate") [v]) Q E s := by
  refine callType_new F.called_enumerate (by decide) (F.typeCall_enumerate_1 _) (F.newCall_enumerate_1 _) (fun x => F.args_object_init_2 x _) F.entry_enumerate_new (en_new B) ⟨h1, ?_⟩
  have z : (s.heap.push o).objs.size = s.heap.objs.size + 1 := Heap.size_push ..
  show _ ∧ _
  rw [z]
  have e : IsEnum ((s.heap.push o).push (enO s.heap.objs.size)) (s.heap.objs.size + 1) s.heap.objs.size 0 .none := by
    have := Heap.get?_push_size (s.heap.push o) (o := enO s.heap.objs.size) rfl
    rw [z] at this
    exact this
  exact ⟨⟨_, e, rfl⟩, h _ e (Heap.get?_push_of_some _ (Heap.get?_push_size _ B.free)) fun b o x => Heap.get?_push_of_some _ (Heap.get?_push_of_some _ x)⟩
/-- the tuple at a, each item in a new pair -/
def IteT (K : PySem.W.Frag) (a : Addr) : It :=
  ⟨fun i H => ∃ (xs : List V) (x : V), SqT K H a xs ∧ xs[i]? = some x,
   fun i H v H' => ∃ T x, v = .ref T ∧ H T = none ∧ H' = upd H T (.tup [.int (i : Nat), x]) ∧ ∀ xs, SqT K H a xs → xs[i]? = some x,
   fun i H => ∃ xs : List V, SqT K H a xs ∧ xs.length = i⟩
theorem tup_ne_it {h : Heap} {a it : Addr} {its : Array Value} {i : Nat} (p : h.IsTuple a its) (k : h.IsTupleIter it a i) : a ≠ it := by
  rintro rfl
  obtain ⟨o, h1, h2, _⟩ := p
  obtain ⟨o', k1, k2, _⟩ := k
  rw [h1] at k1
  cases k1
  rw [h2] at k2
  exact absurd k2 (by decide)
theorem tup_ne_en {h : Heap} {a e it : Addr} {its : Array Value} {i : Int} {old : Value} (p : h.IsTuple a its) (k : IsEnum h e it i old) : e ≠ a := by
  rintro rfl
  obtain ⟨o, h1, h2, _⟩ := p
  have k : h.get? e = some _ := k
  rw [h1] at k
  cases k
  have h2 : Value.type "enumerate" = Value.type "tuple" := h2
  injection h2 with z
  exact absurd z (by decide)
theorem turn_enT {P : Program} {w : World} {K : PySem.W.Frag} {elts : List Expr} {kk : Nat} {tpos : Pos} (a e it : Addr) :
    Turn P w K (.Tuple elts kk tpos) (IteT K a) [e, it] e (fun i h => (∃ old, IsEnum h e it ((i : Nat) : Int) old) ∧ h.IsTupleIter it a i ∧ e ≠ it) where
  mem := by simp
  obj := fun i h st b hb => by
    obtain ⟨⟨old, he⟩, ⟨o, ho, hc, hd⟩, _⟩ := st
    rcases (by simpa using hb : b = e ∨ b = it) with rfl | rfl
    · exact ⟨_, he, fun v q => nomatch q⟩
    · exact ⟨o, ho, fun v q => by rw [hd] at q; cases q⟩
  keep := fun i h h' st k => by
    obtain ⟨⟨old, he⟩, hi, hne⟩ := st
    exact ⟨⟨old, k e (by simp) _ he⟩, hi.at fun o q => k it (by simp) o q, hne⟩
  item := by
    intro X hP hw hK hc i pins s σ H E I hf st hg
    subst hP hw hK
    obtain ⟨⟨old, he⟩, hit, hne⟩ := st
    obtain ⟨xs, x, hq, hx⟩ := hg
    obtain ⟨its, rv, p, hz⟩ := I.tuple hq
    obtain ⟨u, hu, ru⟩ := rv.get hx
    have hel : e < s.heap.objs.size := Heap.lt_size he
    have hil : it < s.heap.objs.size := by
      obtain ⟨_, q, _⟩ := hit
      exact Heap.lt_size q
    have hit0 := hit
    refine wpAny_pyNext_enum_itemD (Draws.tuple (by exact I.ok.hd hc) it a (tup_ne_it p hit) its.toArray) he ⟨hit, p⟩ (i := i) (by
      have := (List.getElem?_eq_some_iff.mp hu).1
      simpa using this) hne (by simp [hne, tup_ne_en p he]) fun y h' tk hy ho hst' hT hsz hk => ?_
    obtain rfl : u = y := by
      have hy : its.toArray[i]? = some y := hy
      rw [List.getElem?_toArray, hu] at hy
      exact Option.some.inj hy
    refine ⟨_, rfl, wpAny_letOwnedTupleGo_enum (s := { s with heap := h', toks := tk + 1 }) ho fun h'' he' sb => ?_⟩
    have hT2 : h''.get? s.heap.objs.size = some { cls := .type "tuple", data := .seq #[.int i tk, u] } := (sb.2 _ (Nat.ne_of_gt hel)).trans hT
    have new : ObjOk X.prog X.w (upd H s.heap.objs.size (.tup [.int (i : Nat), x])) h'' s.heap.objs.size (.tup [.int (i : Nat), x]) :=
      ⟨by show 2 ≤ sizeLine; decide, [.int i tk, u], .cons ⟨_, rfl⟩ (.cons ru .nil), ⟨_, hT2, rfl, _, rfl⟩⟩
    have I1 : Inv X pins σ (upd H s.heap.objs.size (.tup [.int (i : Nat), x])) { s with heap := h'', toks := tk + 1 } :=
      I.turnedNew (ch := [e, it]) (fun b ob hb q => by
        have b1 : b ≠ e := fun z => hb (by simp [z])
        have b2 : b ≠ it := fun z => hb (by simp [z])
        exact (sb.2 b b1).trans (hk b ob b1 b2 q)) hf (Nat.le_refl _) new
    refine ⟨.ref s.heap.objs.size, _, I1, rfl, ⟨_, x, rfl, I.hok.fresh (Nat.le_refl _), rfl, fun ys hy => by rw [I.tuple_inj hy hq]; exact hx⟩, ⟨⟨u, ?_⟩, hst'.1.at fun o q => (sb.2 it (Ne.symm hne)).trans q, hne⟩, fun b hb => ?_⟩
    · rw [show ((i + 1 : Nat) : Int) = (i : Int) + 1 by omega]
      exact he'
    · have hb' : b < s.heap.objs.size := by
        rcases (by simpa using hb : b = e ∨ b = it) with rfl | rfl
        · exact hel
        · exact hil
      rw [upd_ne (Nat.ne_of_lt hb')]
      exact (hf b hb).1
  done := by
    intro X hP hw hK hc i pins s σ H E I hf st hg
    subst hP hw hK
    obtain ⟨⟨old, he⟩, hit, hne⟩ := st
    obtain ⟨xs, hq, rfl⟩ := hg
    obtain ⟨its, rv, p, hz⟩ := I.tuple hq
    obtain ⟨f0, f1, f2, f3, f4, f5⟩ := hf it (by simp)
    have hl := rv.length
    refine wpAny_pyNext_enum_endD (Draws.tuple (by exact I.ok.hd hc) it a (tup_ne_it p hit) its.toArray) he ⟨by rw [show its.toArray.size = xs.length by simp [hl]]; exact hit, p⟩ fun h' eb => ⟨rfl, I.turned (t' := s.toks) (fun b o hb q => eb b o hb q) f0 f1 f3 f4 f5⟩
  self := fun A i s Q E st h => by
    obtain ⟨⟨_, he⟩, _⟩ := st
    exact wpAny_pyIter_enum he h
def iEnumT (K : PySem.W.Frag) (ta : TA) : TI := fun σ H R => ta σ H fun vs H1 => ∃ a xs, vs = [.ref a] ∧ SqT K H1 a xs ∧ R (IteT K a) H1
theorem pi_enumT {X : Cx} {e : Expr} {ta : TA} {p pos tpos : Pos} {elts : List Expr} {kk : Nat} (hg : Gl X "enumerate") (hm : X.mg "enumerate" = none) (ha : PA X [e] ta) (hs : starEach [e] X.env = [(false, eval e X.env)] := by rfl) :
    PI X (.Tuple elts kk tpos) (.Call (.Name "enumerate" p) [e] [] pos) (iEnumT X.K ta) := by
  refine ⟨fun pins s σ H R I h => ?_⟩
  refine Call_ (ld_blt I hg hm boot_enumerate (PyProof.Rows.callWith_type1 (thn (ha.run pos pins s σ H _ I h) fun us s1 ⟨vs, H1, I1, r1, q1⟩ => ?_) hs rfl))
  obtain ⟨a, xs, rfl, hq, q⟩ := q1
  cases r1 with
  | cons r rr =>
    cases rr
    cases r
    obtain ⟨its, rv, p', hz⟩ := I1.tuple hq
    refine en_call (begins_tuple a its.toArray) p' fun h' he ho hk => wpAny_pyIter_enum he ?_
    have I2 : Inv X pins σ H1 { s1 with heap := h' } := I1.kept (t' := s1.toks) hk
    refine ⟨s1.heap.objs.size + 1, [s1.heap.objs.size + 1, s1.heap.objs.size], _, _, H1, rfl, I2, turn_enT a (s1.heap.objs.size + 1) s1.heap.objs.size, ⟨⟨.none, he⟩, ⟨_, ho, rfl, rfl⟩, Nat.succ_ne_self _⟩, fun b hb => ?_, q⟩
    have hle : s1.heap.objs.size ≤ b := by
      rcases (by simpa using hb : b = s1.heap.objs.size + 1 ∨ b = s1.heap.objs.size) with z | z
      · rw [z]
        exact Nat.le_succ _
      · rw [z]
        exact Nat.le_refl _
    exact I1.fpOk hle (I1.hok.fresh hle)
theorem walk_enT {K : PySem.W.Frag} {a : Addr} {xs : List V} : Walk (IteT K a) xs.length (fun H => SqT K H a xs) (YPair (fun i => some (.int (i : Nat))) (fun i => xs[i]?)) := by
  refine ⟨fun i _ hi q => ⟨xs, xs[i], q, by simp [hi]⟩, fun _ q => ⟨xs, q, rfl⟩, fun i H v H' _ q y => ?_⟩
  obtain ⟨T, x, h1, h2, h3, h4⟩ := y
  exact ⟨T, .int (i : Nat), x, h1, h2, h3, rfl, h4 xs q⟩
section
variable {te : TE} {σ : L2.St} {B H : Hp} {ps : List Pr} {K : PySem.W.Frag} {D : Ends} {ta : TA}
end
end Nd
namespace Nd
set_option autoImplicit false
open PySem PySem.W L2 My Evl
/-! ### monomials, fractions, polynomials, chains -/
abbrev Mo := List (Dv × Int)
abbrev Fr := Int × Int
abbrev Po := List (Mo × Fr)
def pwD (x : Dv × Int) : PyData := .tuple [x.1.D, .int x.2]
def moD (m : Mo) : PyData := .tuple (m.map pwD)
def frD (f : Fr) : PyData := .tuple [.int f.1, .int f.2]
def tmD (t : Mo × Fr) : PyData := .tuple [moD t.1, frD t.2]
def poD (p : Po) : PyData := .tuple (p.map tmD)
def pwP (K : PySem.W.Frag) (x : Dv × Int) : Pr := TuP K [DvP x.1, IsV (.int x.2)]
def moP (K : PySem.W.Frag) (m : Mo) : Pr := TuP K (m.map (pwP K))
def frP (K : PySem.W.Frag) (f : Fr) : Pr := TuP K [IsV (.int f.1), IsV (.int f.2)]
def tmP (K : PySem.W.Frag) (t : Mo × Fr) : Pr := TuP K [moP K t.1, frP K t.2]
def poP (K : PySem.W.Frag) (p : Po) : Pr := TuP K (p.map (tmP K))
section
variable {K : PySem.W.Frag}
theorem to_dv (u : Dv) : To K (DvP u) u.D := fun _ _ h => dv_d h
theorem to_pw (x : Dv × Int) : To K (pwP K x) (pwD x) := to_tup (.cons (to_dv x.1) (.cons to_int .nil))
theorem to_mo (m : Mo) : To K (moP K m) (moD m) := to_tup (toAll_map m fun x => to_pw x)
theorem to_fr (f : Fr) : To K (frP K f) (frD f) := to_tup (.cons to_int (.cons to_int .nil))
theorem to_tm (t : Mo × Fr) : To K (tmP K t) (tmD t) := to_tup (.cons (to_mo t.1) (.cons (to_fr t.2) .nil))
theorem to_po (p : Po) : To K (poP K p) (poD p) := to_tup (toAll_map p fun x => to_tm x)
end
/-! ### which are good -/
/-- each is less than what follows it, as Python compares -/
def Ups {α : Type} (f : α → PyData) (l : List α) : Prop := ∀ i (h : i + 1 < l.length), dataLt (f (l[i]'(Nat.lt_of_succ_lt h))) (f l[i + 1]) = true
structure MoOk (r : Rk) (m : Mo) : Prop where
  of : ∀ x ∈ m, x.1.Of r ∧ 0 < x.2
  up : Ups (fun x => x.1.D) m
structure FrOk (f : Fr) : Prop where
  bot : 0 < f.2
  low : Nat.gcd f.1.natAbs f.2.natAbs = 1
structure PoOk (r : Rk) (p : Po) : Prop where
  of : ∀ t ∈ p, MoOk r t.1 ∧ FrOk t.2 ∧ t.2.1 ≠ 0
  up : Ups (fun t => moD t.1) p
theorem alike_dv (u v : Dv) : alike u.D v.D = true := by simp [Dv.D, alike, alikeAll]
theorem alike_pw (x y : Dv × Int) : alike (pwD x) (pwD y) = true := by
  unfold pwD
  rw [alike, alikeAll, alikeAll, alikeAll, alike_dv]
  simp [alike]
theorem alike_map {α : Type} {f : α → PyData} (h : ∀ x y, alike (f x) (f y) = true) : ∀ l m : List α, alikeAll (l.map f) (m.map f) = true
  | [], _ => by rw [List.map_nil, alikeAll]
  | _ :: _, [] => by rw [List.map_nil, List.map_cons, alikeAll]
  | x :: l, y :: m => by rw [List.map_cons, List.map_cons, alikeAll, h x y, alike_map h l m, Bool.and_self]
theorem alike_mo (m n : Mo) : alike (moD m) (moD n) = true := by
  unfold moD
  rw [alike]
  exact alike_map alike_pw m n
theorem deep_dv (u : Dv) : u.D.depth = 1 := by simp [Dv.D, PyData.depth, PyData.depthAll]
theorem deep_pw (x : Dv × Int) : (pwD x).depth = 2 := by simp [pwD, PyData.depth, PyData.depthAll, deep_dv]
theorem deep_map {α : Type} {f : α → PyData} {n : Nat} (h : ∀ x, (f x).depth ≤ n) : ∀ l : List α, PyData.depthAll (l.map f) ≤ n
  | [] => by rw [List.map_nil, PyData.depthAll]; exact Nat.zero_le _
  | x :: l => by
    rw [List.map_cons, PyData.depthAll]
    exact Nat.max_le.mpr ⟨h x, deep_map h l⟩
theorem deep_mo (m : Mo) : (moD m).depth ≤ 3 := by
  unfold moD
  rw [PyData.depth]
  have := deep_map (f := pwD) (n := 2) (fun x => Nat.le_of_eq (deep_pw x)) m
  omega
section
variable {te ta tb : TE} {σ : L2.St} {B H : Hp} {ps : List Pr} {K : PySem.W.Frag}
theorem ev_gcd {i j : Int} (ha : Ev ta σ B (.int i)) (hb : Ev tb σ B (.int j)) : Ev (tCB rGcd (tCons ta (tCons tb tNil))) σ B (.int ((Nat.gcd i.natAbs j.natAbs : Nat) : Int)) := fun H1 e Q q =>
  ha H1 e _ fun H2 e2 => hb H2 (e.trans e2) _ fun H3 e3 => ⟨i, j, rfl, q H3 (e2.trans e3)⟩
theorem src_tu (h : EvP te σ B (TuP K ps)) : Src (iTup K te) σ B ps.length (fun i => ps.getD i (IsV .non)) := fun H1 a R k => h H1 a _ fun v B2 H2 g b => by
  obtain ⟨l, xs, rfl, hx, al⟩ := b
  refine ⟨l, rfl, ⟨xs, ex_t g.c hx⟩, k _ B2 H2 _ _ g (by rw [← al.len]; exact walk_tup) (fun H e => ex_t e hx) fun i H v H' _ e (z : H' = H ∧ _) => ⟨z.1, ?_⟩⟩
  have z2 : xs[i]? = some v := z.2
  obtain ⟨p, hp, k2⟩ := al.get z2
  show (ps.getD i (IsV .non)).P v B2
  rw [List.getD_eq_getElem?_getD, hp]
  exact k2
theorem getD_map {α : Type} {f : α → Pr} {l : List α} {i : Nat} (h : i < l.length) : (l.map f).getD i (IsV .non) = f l[i] := by
  rw [List.getD_eq_getElem?_getD, List.getElem?_map, List.getElem?_eq_getElem h]
  rfl
end
/-! ### promises of defs -/
end Nd
namespace Nd
set_option autoImplicit false
open PySem PySem.Spec PySem.W PySem.Calls PyProof.Rows L2 My Evl
theorem each_zip {R : Value → PyData → Prop} : ∀ {vs : List Value} {ks : List PyData} {xs : List V}, EachIs R vs ks → ks.length = xs.length → EachIs (fun v (p : V × PyData) => R v p.2) vs (xs.zip ks)
  | _, _, [], .nil, _ => .nil
  | _, _, [], .cons _ _, h => by simp at h
  | _, _, _ :: _, .nil, h => by simp at h
  | _, _, _ :: _, .cons a b, h => .cons a (each_zip b (by simpa using h))
section
variable {X : Cx} {pins : List (Addr × Obj)} {σ : L2.St} {H : Hp} {s : Shared} {A : Around} {E : Value → Shared → Prop}
/-- sorted(d) of a dict by tuples -/
theorem sorted_dict0 {d : Addr} {ks : List PyData} {as : List Addr} {Q : VK} (I : Inv X pins σ H s) (hh : A.in1.handled = none) {o : Obj} {es : Array DictEntry} {ep : Nat} (lo : (d == sysModules) = false)
    (ho : s.heap.get? d = some o) (ex : o.ExactDict) (hd : o.data = .dict es ep) (hes : es.toList.map (·.key) = as.map Value.ref) (hz : as.length ≤ sizeLine)
    (hl : ks.length = as.length) (hal : AllAlike ks) (hsk : Sortable ks) (hu : ∀ d, d ∈ ks → A.units + 2 + d.depth < cLine) (dp : DpAll X.K H (as.map V.ref) ks)
    (q : ∀ a, H a = none → Q (.ref a) (upd H a (.lst (byKey (as.map V.ref) ks)))) :
    wpAny (model X.prog X.w) A (call (.builtin "sorted") [.ref d]) (EP X pins σ Q) E s := by
  have hsz : es.size = as.length := by simpa using congrArg List.length hes
  refine call_function_entry_kw kind_sorted plain_sorted entry_sorted (args_sorted1 _) ?_
  unfold Builtin.«sorted»
  refine wpAny_bind (m := checkCount "sorted" 1 1 _) (wpAny_pure ?_)
  refine wpAny_bind (kdu_collect (A := A.in1) (KdlSrc.rawDict (es := es) (ep := ep) lo) hh ⟨o, ho, ex, hd⟩ (by omega) fun h1 tk acc hk hacc => ?_)
  have hA : acc.toList = as.map Value.ref := by
    apply List.ext_getElem?
    intro i
    by_cases hi : i < as.length
    · have hi2 : i < acc.size := by rw [hacc.1]; omega
      obtain ⟨hi3, e⟩ := hacc.2 i acc[i] (by rw [Array.getElem?_eq_getElem hi2])
      have e2 : (es.toList.map (·.key))[i]? = some es[i].key := by
        rw [List.getElem?_map, List.getElem?_eq_getElem (by simpa using hi3)]
        simp
      rw [← hes, e2, ← e]
      simp [hi2]
    · rw [List.getElem?_eq_none (by rw [Array.length_toList, hacc.1]; omega), List.getElem?_eq_none (by rw [List.length_map]; omega)]
  rw [hA]
  refine wpAny_bind (wpAny_newList ?_ (by rw [List.length_map]; exact hz))
  have I1 := I.kept (t' := tk) (h' := h1) hk
  have I2 := I1.kept (t' := tk) (h' := h1.push (seqObj "list" (as.map Value.ref).toArray 0)) (fun c o e => Heap.get?_push_of_some _ e)
  have at1 : (h1.push (seqObj "list" (as.map Value.ref).toArray 0)).get? h1.objs.size = some (seqObj "list" (as.map Value.ref).toArray 0) := Heap.get?_push_size _ rfl
  have hl' : ks.length = (as.map V.ref).length := by rw [List.length_map]; exact hl
  have vl : (byKey (as.map V.ref) ks).length ≤ sizeLine := by
    show (((as.map V.ref).zip ks).mergeSort (dataLe false (·.2)) |>.map (·.1)).length ≤ _
    rw [List.length_map, List.length_mergeSort, List.length_zip, List.length_map]
    omega
  have ev : EachIs (fun u d => ∃ bs, Reads (sortingHeap (h1.push (seqObj "list" (as.map Value.ref).toArray 0)) h1.objs.size (as.map Value.ref)) u d bs) (as.map Value.ref) ks :=
    (dps_each I1 (My.vals_refs as) dp).mono fun u d ⟨bs, r⟩ => ⟨bs, Reads.keeps (fun b o e => sortingHeap_old (Nat.ne_of_lt (Heap.lt_size e)) (Heap.get?_push_of_some _ e)) r⟩
  have ez := zip_snd hl'
  have er := each_zip ev hl'
  have out := sortVals_data (enc := fun p : V × PyData => p.2) false (vals_each (h := s.heap) (My.vals_refs as) hl') er (by rw [ez]; exact hal)
  obtain ⟨c, at3⟩ := sortedHeap_at (vs := as.map Value.ref) (out := (sortVals (dataKind (sortingHeap (h1.push (seqObj "list" (as.map Value.ref).toArray 0)) h1.objs.size (as.map Value.ref)) (((as.map V.ref).zip ks).map fun p => p.2)) false (as.map Value.ref) (as.map Value.ref)).toArray) at1
  refine wpAny_bind (wpAny_holding (wpAny_call_entry_kw slot_list_sort ⟨_, at1, rfl⟩ entry_list_sort ?_ (args_list_sort _)))
  refine list_sort_vals (s := { s with heap := h1.push (seqObj "list" (as.map Value.ref).toArray 0), toks := tk }) (κ := dataKind (sortingHeap (h1.push (seqObj "list" (as.map Value.ref).toArray 0)) h1.objs.size (as.map Value.ref)) (((as.map V.ref).zip ks).map fun p => p.2)) at1 ?_ (by rw [List.length_map]; exact hz) ?_
  · rw [ez]
    exact SortsAt.data (s := { s with heap := sortingHeap (h1.push (seqObj "list" (as.map Value.ref).toArray 0)) h1.objs.size (as.map Value.ref), toks := tk }) ev hal hsk hu
  · refine ⟨_, rfl, wpAny_pure ⟨_, rfl, .ref h1.objs.size, _, free2 (b := h1.objs.size + 1) (t' := tk) I2 (Fre.of I1 (Nat.le_refl _)) (Fre.of I1 (Nat.le_succ h1.objs.size)) (I1.hok.fresh (Nat.le_refl _)) (I1.hok.fresh (Nat.le_succ _)) (fun x o n1 n2 e => (sortedHeap_old n1 (Heap.lt_size e)).trans e) ⟨vl, _, c, each_vals out, at3⟩, rfl, q _ (I1.hok.fresh (Nat.le_refl _))⟩⟩
end
end Nd
namespace Nd
set_option autoImplicit false
open PySem PySem.W L2 My Evl
/-! ### derivatives in order, as Python compares -/
def leD (u v : Dv) : Bool := !dataLt v.D u.D
def srtD (us : List Dv) : List Dv := us.mergeSort leD
def dvs (p : Po) : List Dv := p.flatMap fun t => t.1.map (·.1)
def dvsIn (p : Po) : List Dv := srtD (dedD (dvs p))
theorem mem_in {p : Po} {u : Dv} : u ∈ dvsIn p ↔ u ∈ dvs p := by
  unfold dvsIn srtD
  rw [(List.mergeSort_perm _ _).mem_iff, ded_mem]
theorem byKey_dv {H : Hp} {xs : List V} {us : List Dv} (h : AllP (us.map DvP) xs H) : AllP ((srtD us).map DvP) (byKey xs (us.map Dv.D)) H := by
  have hl : xs.length = us.length := by
    have := h.len
    rw [List.length_map] at this
    exact this
  have e1 : xs.zip (us.map Dv.D) = (xs.zip us).map fun p => (p.1, p.2.D) := zip_pairs _ hl
  have e2 : ((xs.zip us).mergeSort fun p q => leD p.2 q.2).map (fun p => (p.1, p.2.D)) = (xs.zip (us.map Dv.D)).mergeSort (dataLe false (·.2)) := by
    rw [e1]
    refine List.map_mergeSort fun p _ q _ => ?_
    rw [dataLe_eq]
    rfl
  have e3 : ((xs.zip us).mergeSort fun p q => leD p.2 q.2).map (·.2) = srtD us := by
    have := List.map_mergeSort (r := fun p q : V × Dv => leD p.2 q.2) (s := leD) (f := fun p : V × Dv => p.2) (l := xs.zip us) (fun _ _ _ _ => rfl)
    rw [this, List.map_snd_zip (by omega)]
    rfl
  have e4 : byKey xs (us.map Dv.D) = ((xs.zip us).mergeSort fun p q => leD p.2 q.2).map (·.1) := by
    unfold byKey
    rw [← e2, List.map_map]
    rfl
  rw [e4, ← e3]
  exact AllP.of DvP fun p hp => AllP.zip DvP h p ((List.mergeSort_perm _ _).mem_iff.mp hp)
/-! ### derived of -/
def Rdin (K : PySem.W.Frag) : List Pr → Pr → Prop := fun ps p => ∃ c : Po, (dvs c).length ≤ 1000 ∧ ps = [poP K c] ∧ p = TuP K ((dvsIn c).map DvP)
section
variable {te ta tb : TE} {σ : L2.St} {B H : Hp} {ps : List Pr} {K : PySem.W.Frag} {t : TA}
end
end Nd
namespace Nd
set_option autoImplicit false
open PySem PySem.Spec PyProof.Rows L2 My Evl
theorem lay_store {xs : List NV} {us : List Value} {k : NestedKey} {a : Addr} {v : V} {u : Value} (r : Vals (xs.map (·.2.2)) us) (rv : RelV v u) :
    ∃ ws, Vals ((putN xs k a v).map (·.2.2)) ws ∧ storedH (lay xs us) k a u = lay (putN xs k a v) ws := by
  obtain ⟨h1, _, _⟩ := at_lay (k := k) r
  unfold storedH putN
  cases hh : hasN xs k with
  | true =>
    rw [hh] at h1
    obtain ⟨y, hy⟩ := Option.isSome_iff_exists.mp h1
    obtain ⟨ws, w1, w2⟩ := lay_put (k := k) rv r
    rw [if_pos rfl]
    exact ⟨ws, w1, by rw [← w2]; simp [hy]⟩
  | false =>
    rw [hh] at h1
    have hy : atKey (lay xs us) k = none := by simpa using h1
    rw [if_neg Bool.false_ne_true]
    refine ⟨us ++ [u], ?_, ?_⟩
    · rw [List.map_append]
      exact My.vals_app r (.cons rv .nil)
    · rw [lay_app (vlen r)]
      simp [hy, lay]
section
variable {X : Cx} {pins : List (Addr × Obj)} {σ : L2.St} {H : Hp} {s : Shared}
/-- d[y] = v, d a dict by nested keys -/
def sNPut (P : Program) (w : World) (K : PySem.W.Frag) (td ty tv : TE) : TS := fun D σ H => tv σ H fun v H1 => td σ H1 fun x H2 => ty σ H2 fun y H3 => ∃ (d a : Addr) (xs : List NV) (k : NestedKey), x = .ref d ∧ y = .ref a ∧ H3 d = some (DN P w d xs) ∧
  KeysOk K H3 xs ∧ KeyAt K H3 a k ∧ xs.length < 100000 ∧ D.nx σ (upd H3 d (DN P w d (putN xs k a v)))
theorem put_len {xs : List NV} {k : NestedKey} {a : Addr} {v : V} : (putN xs k a v).length ≤ xs.length + 1 := by
  unfold putN
  split
  · rw [List.length_map]
    exact Nat.le_succ _
  · rw [List.length_append]
    exact Nat.le_refl _
theorem ps_dputN {o i value : Expr} {td ty tv : TE} {pos pos' : Pos} (hu : X.A.units + 9 < cLine) (ho : PE X o td) (hi : PE X i ty) (hv : PE X value tv) (hs : swapsWith value (some (.Subscript o i pos')) pos.line X.env = pure false) :
    PS X (.Assign [.Subscript o i pos'] value pos) (sNPut X.prog X.w X.K td ty tv) := by
  refine ⟨fun pins s σ H D I h => ?_⟩
  refine wpAny_Assign_Subscript (thn (hv.run pins s σ H _ I h) fun r s1 ⟨v, H1, I1, rv, q1⟩ => thn (ho.run pins s1 σ H1 _ I1 q1) fun u s2 ⟨x, H2, I2, rx, q2⟩ => thn (hi.run pins s2 σ H2 _ I2 q2) fun iv s3 ⟨y, H3, I3, ry, d, a, xs, k, ex, ey, hd, hk, hkey, hz, q3⟩ => ?_) hs
  subst ex ey
  obtain rfl : u = Value.ref d := rx
  obtain rfl : iv = Value.ref a := ry
  obtain ⟨z1, z2, us, rr, m⟩ := dn_of I3 hd hk
  have big : (100000 : Nat) ≤ sizeLine := by decide
  refine wpAny_setItem_heap (knd := nestedKind X.prog X.w) (hsz := by rw [lay_len (vlen rr)]; omega) (by show X.A.units + 1 + 8 < cLine; omega) (key_is I3 hkey) m fun h' m' sb => ?_
  obtain ⟨ws, w1, w2⟩ := lay_store (k := k) (a := a) rr rv
  rw [w2] at m'
  have he : ∃ q, h'.get? d = some q := by
    obtain ⟨q, _, _, hq, _⟩ := m'
    exact ⟨q, hq⟩
  have := put_len (xs := xs) (k := k) (a := a) (v := v)
  exact ⟨σ, _, I3.write (e := d) (by rw [hd]; trivial) (.inl rfl) (fun b o hb e => (sb.2 b hb).trans e) he (dn_ok (dn_to z1 (by omega) w1 m')), q3⟩
/-- sorted(e), e a dict by nested keys -/
def tSortN (P : Program) (w : World) (K : PySem.W.Frag) (te : TE) : TE := fun σ H Q => te σ H fun v H1 => ∃ (d : Addr) (xs : List NV) (ks : List PyData), v = .ref d ∧ H1 d = some (DN P w d xs) ∧ ks.length = xs.length ∧ PySem.W.AllAlike ks ∧ PySem.W.Sortable ks ∧ (∀ e, e ∈ ks → e.depth ≤ 50) ∧
  DpAll K H1 (xs.map fun x => V.ref x.2.1) ks ∧ ∀ a, H1 a = none → Q (.ref a) (upd H1 a (.lst (byKey (xs.map fun x => V.ref x.2.1) ks)))
theorem lay_ref {P : Program} {w : World} : ∀ {xs : List NV} {us : List Value}, xs.length = us.length → ((lay xs us).map (entryOfKey (nestedKind P w))).map (·.key) = (xs.map (·.2.1)).map Value.ref
  | [], [], _ => rfl
  | _ :: _, _ :: _, h => congrArg (_ :: ·) (lay_ref (by simpa using h))
theorem pe_sortN {te : TE} {e : Expr} {p pos : Pos} {k : Nat} (hr : Room k X.A) (hg : Gl X "sorted") (hm : X.mg "sorted" = none) (he : PE X e te)
    (na : starEach [e] X.env = (false, eval e X.env) :: starEach [] X.env := by rfl) : PE X (.Call (.Name "sorted" p) [e] [] pos) (tSortN X.prog X.w X.K te) := by
  refine ⟨fun pins s σ H Q I h => ?_⟩
  refine PyProof.Rows.Call_ (ld_blt I hg hm (u := .builtin "sorted") (by decide +kernel) ?_)
  refine PyProof.Rows.callWith_builtin1 (PyProof.Rows.args_cons (thn (he.run pins s σ H _ I h) fun u s1 ⟨v, H1, I1, r1, q1⟩ => PyProof.Rows.args_nil ?_) na) na rfl
  obtain ⟨d, xs, ks, rfl, hd, a1, a2, a3, a4, a5, a6⟩ := q1
  obtain rfl : u = Value.ref d := r1
  have un := hr.un
  obtain ⟨z1, z2, us, o, es, ep, rr, e1, e2, e3, e4, e5⟩ := (I1.hok d _ hd).1
  have em : (xs.map fun x => V.ref x.2.1) = (xs.map (·.2.1)).map V.ref := by rw [List.map_map]; rfl
  rw [em] at a5
  simp only [em] at a6
  exact sorted_dict0 (E := X.xe) I1 (show X.A.in1.handled = none from hr.hd) z1 e1 e2 e3 (as := xs.map (·.2.1)) (by rw [e4, lay_ref (vlen rr)]) (by rw [List.length_map]; exact z2) (by rw [a1, List.length_map]) a2 a3 (fun d hd => by
    have := a4 d hd
    omega) a5 a6
end
/-! ### derivatives as keys -/
theorem nk_dv (u : Dv) : nk u.D = .tup [.text u.n, .num u.i, .num u.j] := by simp [Dv.D, nk, nkAll]
theorem nk_inj {u v : Dv} (h : nk u.D = nk v.D) : u = v := by
  rw [nk_dv, nk_dv] at h
  injection h with h
  injection h with h1 h
  injection h with h2 h
  injection h with h3 _
  injection h1 with h1
  injection h2 with h2
  injection h3 with h3
  cases u
  cases v
  simp_all
structure KeyL (us : List Dv) (xs : List NV) (B : Hp) : Prop where
  keys : xs.map (·.1) = us.map fun u => nk u.D
  refs : AllP (us.map DvP) (xs.map fun x => V.ref x.2.1) B
theorem KeyL.has {us : List Dv} {xs : List NV} {B : Hp} (h : KeyL us xs B) (u : Dv) : hasN xs (nk u.D) = decide (u ∈ us) := by
  have e : hasN xs (nk u.D) = (xs.map (·.1)).any fun k => decide (k = nk u.D) := by
    unfold hasN
    rw [List.any_map]
    rfl
  rw [e, h.keys, List.any_map]
  by_cases hm : u ∈ us
  · rw [decide_eq_true hm, List.any_eq_true]
    exact ⟨u, hm, by simp⟩
  · rw [decide_eq_false hm, List.any_eq_false]
    intro v hv
    simp only [Function.comp, decide_eq_true_eq]
    intro z
    exact hm (nk_inj z ▸ hv)
theorem KeyL.put {us : List Dv} {xs : List NV} {B : Hp} {u : Dv} {a : Addr} {v : V} (h : KeyL us xs B) (ha : (DvP u).P (.ref a) B) : KeyL (addD us u) (putN xs (nk u.D) a v) B := by
  unfold addD putN
  rw [h.has u]
  by_cases hm : u ∈ us
  · rw [if_pos hm, decide_eq_true hm, if_pos rfl]
    refine ⟨?_, ?_⟩
    · rw [← h.keys, List.map_map]
      refine List.map_congr_left fun x _ => ?_
      show (if x.1 = nk u.D then (x.1, x.2.1, v) else x).1 = x.1
      split <;> rfl
    · have : ((xs.map fun x => if x.1 = nk u.D then (x.1, x.2.1, v) else x).map fun x => V.ref x.2.1) = xs.map fun x => V.ref x.2.1 := by
        rw [List.map_map]
        refine List.map_congr_left fun x _ => ?_
        show V.ref (if x.1 = nk u.D then (x.1, x.2.1, v) else x).2.1 = V.ref x.2.1
        split <;> rfl
      rw [this]
      exact h.refs
  · rw [if_neg hm, decide_eq_false hm, if_neg Bool.false_ne_true]
    refine ⟨?_, ?_⟩
    · rw [List.map_append, List.map_append, h.keys]
      rfl
    · rw [List.map_append, List.map_append]
      exact h.refs.app ⟨ha, trivial⟩
theorem deep_nk (u : Dv) : (nk u.D).depth ≤ 8 := by
  rw [nk_dv]
  simp [NestedKey.depth, NestedKey.depthAll]
theorem key_dv {K : PySem.W.Frag} {H : Hp} {u : Dv} {a : Addr} (h : (DvP u).P (.ref a) H) : KeyAt K H a (nk u.D) := ⟨u.D, dv_d h, by simp [Dv.D, keyish, keyishAll], rfl, deep_nk u⟩
theorem KeyL.ok {K : PySem.W.Frag} {us : List Dv} {xs : List NV} {B H : Hp} (h : KeyL us xs B) (e : Evl.Ex B H) : KeysOk K H xs := fun x hx => by
  obtain ⟨i, hi, rfl⟩ := List.mem_iff_getElem.mp hx
  have hl : xs.length = us.length := by simpa using congrArg List.length h.keys
  have h1 := h.refs.m e
  obtain ⟨p, hp, k⟩ := h1.get (i := i) (v := V.ref xs[i].2.1) (by rw [List.getElem?_map, List.getElem?_eq_getElem hi]; rfl)
  rw [List.getElem?_map, List.getElem?_eq_getElem (by omega : i < us.length)] at hp
  obtain rfl : DvP us[i] = p := Option.some.inj hp
  have hk : xs[i].1 = nk us[i].D := by
    have := congrArg (fun l => l[i]?) h.keys
    simp only [List.getElem?_map, List.getElem?_eq_getElem hi, List.getElem?_eq_getElem (by omega : i < us.length)] at this
    exact Option.some.inj this
  rw [hk]
  exact key_dv k
/-- a for over a tuple in a slot: what is known stays as it is -/
theorem ps_forV {i : Nat} {v : V} {σ : L2.St} {B H : Hp} {ps : List Pr} {K : PySem.W.Frag} {D : Ends} {g : TG} {tbd : TS} (a : Evl.Ex B H) (hi : σ[i]? = some (some v)) (h : (TuP K ps).P v B)
    (k : ∃ Pv : Nat → L2.St → Hp → Prop, Pv 0 σ H ∧ (∀ j σ' H', j ≤ ps.length → Pv j σ' H' → Evl.Ex B H') ∧
      (∀ j v' σ' H', j < ps.length → Pv j σ' H' → (ps.getD j (IsV .non)).P v' B → g v' σ' H' fun σ2 H2 => tbd { D with nx := Pv (j + 1), ct := Pv (j + 1), bk := D.nx } σ2 H2) ∧ ∀ σ' H', Pv ps.length σ' H' → D.nx σ' H') :
    tFor (iTup K (tVar i)) g tbd D σ H := by
  obtain ⟨l, xs, rfl, hx, al⟩ := h
  obtain ⟨Pv, h0, hE, hs, hd⟩ := k
  refine ⟨_, hi, l, rfl, ⟨xs, ex_t a hx⟩, ?_⟩
  have w := walk_tup (K := K) (a := l) (xs := xs)
  rw [al.len] at w
  refine for_it w Pv h0 (fun j σ' H' hj pv => ex_t (hE j σ' H' hj pv) hx) (fun j x σ' H' H2 hj pv y => ?_) hd
  obtain ⟨rfl, y2⟩ := y
  obtain ⟨p, hp, k2⟩ := al.get y2
  refine hs j x σ' _ hj pv ?_
  rw [List.getD_eq_getElem?_getD, hp]
  exact k2
theorem dvs_take {c : Po} {i : Nat} (hi : i < c.length) : dvs (c.take (i + 1)) = dvs (c.take i) ++ c[i].1.map (·.1) := by
  unfold dvs
  rw [List.take_add_one, List.getElem?_eq_getElem hi, List.flatMap_append]
  simp
theorem dvs_le {c : Po} {i : Nat} (hi : i < c.length) (j : Nat) : (dvs (c.take i) ++ (c[i].1.take j).map (·.1)).length ≤ (dvs c).length := by
  have h1 : (dvs (c.take i) ++ (c[i].1.take j).map (·.1)).length ≤ (dvs (c.take (i + 1))).length := by
    rw [dvs_take hi, List.length_append, List.length_append, List.length_map, List.length_map, List.length_take]
    omega
  have h2 : (dvs (c.take (i + 1))).length ≤ (dvs c).length := by
    have : dvs c = dvs (c.take (i + 1)) ++ dvs (c.drop (i + 1)) := by
      unfold dvs
      rw [← List.flatMap_append, List.take_append_drop]
    rw [this, List.length_append]
    exact Nat.le_add_right _ _
  omega
theorem fold_len : ∀ (us ds : List Dv), (us.foldl addD ds).length ≤ ds.length + us.length
  | [], ds => Nat.le_refl _
  | u :: us, ds => by
    have h := fold_len us (addD ds u)
    have : (addD ds u).length ≤ ds.length + 1 := by
      unfold addD
      split
      · exact Nat.le_succ _
      · rw [List.length_append]
        exact Nat.le_refl _
    show (us.foldl addD (addD ds u)).length ≤ _
    rw [List.length_cons]
    omega
theorem KeyL.len {us : List Dv} {xs : List NV} {B : Hp} (h : KeyL us xs B) : xs.length = us.length := by simpa using congrArg List.length h.keys
theorem dps_dv {K : PySem.W.Frag} {H : Hp} : ∀ {us : List Dv} {vs : List V}, AllP (us.map DvP) vs H → DpAll K H vs (us.map Dv.D)
  | [], [], _ => .nil
  | _ :: _, _ :: _, h => .cons (dv_d h.1) (dps_dv h.2)
end Nd
namespace Nd
set_option autoImplicit false
open PySem PySem.W L2 My Evl
/-! ### a list under way: made at H0, filled by append and extend -/
structure AccAt (B H0 : Hp) (d : Addr) (ps : List Pr) (Bi H : Hp) : Prop where
  g : Gr B H0 Bi (wo d H)
  at_ : ∃ xs, H d = some (.lst xs) ∧ AllP ps xs Bi
section
variable {B H0 Bi B2 H H2 : Hp} {d : Addr} {ps qs : List Pr} {p : Pr} {K : PySem.W.Frag} {σ : L2.St} {D : Ends} {te : TE} {i : Nat}
theorem AccAt.ex (A : AccAt B H0 d ps Bi H) : Ex Bi H := A.g.c.trans wo_ex
theorem AccAt.on (A : AccAt B H0 d ps Bi H) : H d ≠ none := by
  obtain ⟨xs, h, _⟩ := A.at_
  rw [h]
  exact fun z => nomatch z
theorem AccAt.step (A : AccAt B H0 d ps Bi H) (k : Gr Bi H B2 H2) : AccAt B H0 d ps B2 H2 := by
  obtain ⟨xs, h, al⟩ := A.at_
  exact ⟨A.g.side A.on k, xs, k.a _ _ h, al.m k.b⟩
theorem AccAt.fin (A : AccAt B H0 d ps Bi H) (h0 : H0 d = none) : ∃ B', Gr B H0 B' H ∧ (LsP ps).P (.ref d) B' := by
  obtain ⟨xs, hd, al⟩ := A.at_
  have hB : Bi d = none := wo_none A.g.c
  refine ⟨upd Bi d (.lst xs), ⟨A.g.a.trans wo_ex, A.g.b.trans (Ex.new hB), fun b o e => ?_, fun x hb hh => ?_, fun z b qs q => ?_⟩, d, xs, rfl, upd_same, al.m (Ex.new hB)⟩
  · by_cases n : b = d
    · subst n
      rw [upd_same] at e
      rw [hd]
      exact e
    · rw [upd_ne n] at e
      exact A.g.c.trans wo_ex _ _ e
  · have n : x ≠ d := fun z => hh (by rw [z]; exact h0)
    rw [upd_ne n]
    exact A.g.d x hb hh
  · by_cases n : b = d
    · subst n
      rw [upd_same] at q
      cases q
    · rw [upd_ne n] at q
      exact A.g.e z b qs q
end
section
variable {B H0 Bi H : Hp} {d : Addr} {ps qs : List Pr} {K : PySem.W.Frag} {σ : L2.St} {D : Ends} {te : TE} {i : Nat}
end
/-- tuple(list) -/
theorem p_tupOf {te : TE} {σ : L2.St} {B : Hp} {ps : List Pr} {K : PySem.W.Frag} (h : EvP te σ B (LqP K ps)) :
    EvP (tCB (fun xs H Q => ∃ p ys, xs = [.ref p] ∧ ((SqL K H p ys ∧ ∀ l, H l = none → Q (.ref l) (upd H l (.tup ys))) ∨ (SqT K H p ys ∧ Q (.ref p) H))) (tCons te tNil)) σ B (TuP K ps) := fun H1 a Q k => h H1 a _ fun v B2 H2 g x => by
  obtain ⟨l, xs, rfl, hl, al⟩ := x
  exact ⟨l, xs, rfl, .inl ⟨ex_l g.c hl, fun m hm => k _ _ _ (g.trans (Gr.new (.tup xs) g.c hm)) ⟨m, xs, rfl, st_of upd_same, al.m (Ex.new (fresh_back g.c hm))⟩⟩⟩
/-- max and min of a list of numbers -/
def maxI : Int → List Int → Int
  | m, [] => m
  | m, x :: xs => maxI (if m ≤ x then x else m) xs
theorem maxI_ge : ∀ (xs : List Int) (m : Int), m ≤ maxI m xs ∧ ∀ x ∈ xs, x ≤ maxI m xs
  | [], m => ⟨Int.le_refl _, fun x h => by simp at h⟩
  | y :: xs, m => by
    obtain ⟨h1, h2⟩ := maxI_ge xs (if m ≤ y then y else m)
    show m ≤ maxI (if m ≤ y then y else m) xs ∧ ∀ x ∈ y :: xs, x ≤ maxI (if m ≤ y then y else m) xs
    refine ⟨by split at h1 <;> (rename_i c; first | omega | (rw [if_pos c] at *; omega) | (rw [if_neg c] at *; omega)), fun x hx => ?_⟩
    rcases List.mem_cons.mp hx with rfl | hx
    · by_cases c : m ≤ x
      · rw [if_pos c] at h1 ⊢
        exact h1
      · rw [if_neg c] at h1 ⊢
        omega
    · exact h2 x hx
theorem maxI_mem : ∀ (xs : List Int) (m : Int), maxI m xs ∈ m :: xs
  | [], m => List.mem_cons_self
  | y :: xs, m => by
    have h := maxI_mem xs (if m ≤ y then y else m)
    show maxI (if m ≤ y then y else m) xs ∈ m :: y :: xs
    rcases List.mem_cons.mp h with h | h
    · rw [h]
      split
      · exact List.mem_cons_of_mem _ List.mem_cons_self
      · exact List.mem_cons_self
    · exact List.mem_cons_of_mem _ (List.mem_cons_of_mem _ h)
section
variable {te : TE} {σ : L2.St} {B : Hp} {K : PySem.W.Frag} {x : Int} {xs : List Int}
theorem ev_max (h : EvP te σ B (IsD K (.list ((x :: xs).map .int)))) : Ev (tCB (rMax K) (tCons te tNil)) σ B (.int (maxI x xs)) := fun H1 a Q k => h H1 a _ fun v B2 H2 g y => by
  cases y with
  | lst y z =>
    have := dps_ints z
    subst this
    refine ⟨_, x :: xs, rfl, ex_l g.c y, by simp, fun m hm hall => ?_⟩
    have h1 := hall _ (maxI_mem xs x)
    obtain ⟨g1, g2⟩ := maxI_ge xs x
    have h2 : m ≤ maxI x xs := by
      rcases List.mem_cons.mp hm with rfl | hm
      · exact g1
      · exact g2 m hm
    obtain rfl : m = maxI x xs := by omega
    exact k H2 g.a
end
end Nd
namespace Nd
set_option autoImplicit false
open PySem PySem.W L2 My Evl
/-! ### comprehensions of two fors -/
end Nd
namespace Nd
set_option autoImplicit false
open PySem PySem.W L2 My Evl LamX NdefX
/-- a def that makes a lambda: its code object is known -/
structure FunC (K : PySem.W.Frag) (x qual : Str) (st : Stmt) (c f : Addr) (fd : FuncData) : Prop where
  ex : ∃ (oc : Value) (od : Option Addr) (kV doc pm : Value) (an : Option Addr) (ct : Value) (osl : Array (Option Value)),
    fd = PySem.W.fnOf x qual (defArgs st) (defBody st) (defScope st) .none kV doc pm an (.ref c) ct ∧ K.lookup f = some ⟨oc, od, .func fd, osl⟩ ∧ PySem.W.codeIn K (.ref c) qual = true
theorem FunC.ok {P : Program} {w : World} {K : PySem.W.Frag} {mg : Str → Option Value} {base : Heap} {x qual : Str} {st : Stmt} {c f : Addr} {fd : FuncData} {N ps : List Str} {k : Nat} {sp : Sp} (F : FunC K x qual st c f fd) (S : FnScope N ps (defScope st)) (len : ∀ vs H Q E, sp vs H Q E → vs.length = ps.length)
    (hbody : ∀ (A : Around) (outer : List Env) (s : Shared) (H : Hp) (vs : List V) (Q : VK) (E : XK), Room k (A.deeper (PyProof.Rows.envOfC qual (defScope st) s.heap.objs.size f (.ref c))) → sp vs H Q E →
      ∃ t, PSs (cxOf CX0 P w K mg base N qual (defScope st) f (.ref c) A outer s H E).nox (defBody st) t ∧ t { nx := fun _ H' => Q .non H', rt := Q } (L2.start N vs) H) : FnOk P w K mg base CX0 (k + 1) f fd ps sp := by
  obtain ⟨oc, od, kV, doc, pm, an, ct, osl, e, lk, hcd⟩ := F.ex
  subst e
  exact fn_of lk hcd S len fun A outer s H vs Q E hr hsp => by
    obtain ⟨t, h1, h2⟩ := hbody A outer s H vs Q E hr hsp
    exact ⟨t, h1.nox, h2⟩
/-- what is known in B of a heap H with tables T -/
structure Kn (T : List (Addr × Str)) (B H : Hp) : Prop where
  e : Ex B H
  n : NoTab B
  t : Tabs T H
theorem Kn.next {T : List (Addr × Str)} {B H H2 : Hp} (k : Kn T B H) (e : ExtN H H2) (t : Tabs T H2) : Kn T B H2 := ⟨exN_ex k.e k.n e, k.n, t⟩
theorem Kn.gr {T : List (Addr × Str)} {B H B2 H2 : Hp} (k : Kn T B H) (g : Gr B H B2 H2) : Kn T B2 H2 := ⟨g.c, g.e k.n, k.t.ext g.a⟩
theorem Kn.ex {T : List (Addr × Str)} {B H H2 : Hp} (k : Kn T B H) (e : Ex H H2) : Kn T B H2 := ⟨k.e.trans e, k.n, k.t.ext e⟩
/-- all stays but the tables; what is known of B' leans on nothing else that stood in H -/
structure GT (T : List (Addr × Str)) (B H B' H' : Hp) : Prop where
  a : ExtN H H'
  b : Ex B B'
  c : Ex B' H'
  f : ∀ x o, B x = none → H x = some o → (∀ ps, o ≠ .tbl ps) → B' x = none
  e : NoTab B → NoTab B'
  t : Tabs T H → Tabs T H'
section
variable {T : List (Addr × Str)} {B H B1 H1 B2 H2 : Hp}
theorem GT.trans (g : GT T B H B1 H1) (k : GT T B1 H1 B2 H2) : GT T B H B2 H2 :=
  ⟨g.a.trans k.a, g.b.trans k.b, k.c, fun x o hb hh n => k.f x o (g.f x o hb hh n) (g.a x o hh n) n, fun z => k.e (g.e z), fun z => k.t (g.t z)⟩
theorem GT.gr (g : Gr B H B1 H1) : GT T B H B1 H1 := ⟨exN_of g.a, g.b, g.c, fun x o hb hh _ => g.d x hb (by rw [hh]; exact fun z => nomatch z), g.e, fun z => z.ext g.a⟩
theorem Kn.gt (k : Kn T B H) (g : GT T B H B1 H1) : Kn T B1 H1 := ⟨g.c, g.e k.n, g.t k.t⟩
end
/-- a display of a tuple, its object known as it stands -/
def tTupF (t : TA) : TE := fun σ H Q => t σ H fun xs H1 => xs.length ≤ sizeLine ∧ ∀ p o, H1 p = none → o.dict = none → Q (.ref p) (upd H1 p (.frz o (.tup xs)))
theorem pe_tupF {X : Cx} {es : List Expr} {t : TA} {pos : Pos} {kk : Nat} (h : PA X es t) : PE X (.Tuple es kk pos) (tTupF t) := by
  refine ⟨fun pins s σ H Q I hq => ?_⟩
  refine PySem.wpAny_Tuple_spliced (thn (h.run pos pins s σ H _ I hq) fun us s1 ⟨xs, H1, I1, r, z, q⟩ => ⟨by rw [← r.length]; exact z, ?_⟩)
  have hf : H1 s1.heap.objs.size = none := I1.hok.fresh (Nat.le_refl _)
  refine ⟨.ref s1.heap.objs.size, upd H1 s1.heap.objs.size (.frz { cls := .type "tuple", data := .seq us.toArray } (.tup xs)), I1.laid (t' := s1.toks) (fun b u e => Heap.get?_push_of_some _ e) (Nat.le_refl _) ?_, rfl, q _ _ hf rfl⟩
  exact ⟨Heap.get?_push_size _ rfl, z, us, r, PyProof.Rows.IsTup.new _ _⟩
end Nd
namespace Nd
set_option autoImplicit false
open PySem PySem.Spec PySem.W PySem.Calls PyProof.Rows L2 My Evl
section
variable {X : Cx}
/-- d.items(), d a dict by nested keys -/
def rItemsN (P : Program) (w : World) : V → List V → Hp → VK → Prop := fun x xs H Q => ∃ (a : Addr) (ys : List NV), x = .ref a ∧ xs = [] ∧ H a = some (DN P w a ys) ∧ ∀ p, H p = none → Q (.ref p) (upd H p (DX.itemsO p a))
theorem mt_itemsN : MtR X "dict.items" (rItemsN X.prog X.w) := by
  intro pins s σ H x xs v us Q I rx rxs h
  obtain ⟨a, ys, rfl, rfl, ha, q⟩ := h
  cases rx
  cases rxs
  obtain ⟨lo, _, us, o, es, ep, _, e1, e2, e3, _⟩ := (I.hok a _ ha).1
  refine DT.callItems (es := es) (ep := ep) lo ⟨o, e1, e2, e3⟩ ?_
  have hf : H s.heap.objs.size = none := I.hok.fresh (Nat.le_refl _)
  exact ⟨.ref s.heap.objs.size, upd H s.heap.objs.size (DX.itemsO s.heap.objs.size a), I.laid (t' := s.toks) (fun b u e => Heap.get?_push_of_some _ e) (Nat.le_refl _) (DX.itemsO_ok (Heap.get?_push_size _ rfl)), rfl, q _ hf⟩
theorem pe_itemsN {o : Expr} {to : TE} {apos cpos : Pos} (ho : PE X o to) (hbase : attributeBase o "items" X.env (eval o X.env) = eval o X.env := by rfl) (hline : (apos.endLine == cpos.line) = true := by rfl) :
    PE X (.Call (.Attribute o "items" apos) [] [] cpos) (fun σ H Q => to σ H fun x H1 => rItemsN X.prog X.w x [] H1 Q) := by
  refine ⟨fun pins s σ H Q I h => ?_⟩
  refine wpAny_Call_method0_late hbase hline (thn (ho.run pins s σ H _ I h) fun v s1 ⟨x, H1, I1, r1, q1⟩ => ?_)
  obtain ⟨a, ys, rfl, z, ha, q⟩ := q1
  obtain rfl : v = Value.ref a := r1
  obtain ⟨lo, _, us, o', es, ep, _, e1, e2, e3, _⟩ := (I1.hok a _ ha).1
  exact ⟨"dict", "dict.items", PySem.F.plainAttrs_dict, PySem.F.slot_dict_items, PySem.F.type_dict_items, ⟨o', e1, e2.1⟩, fun b e => by cases e; exact ⟨o', e1, e2.2.1⟩, Calls.callWith_builtin rfl (PySem.evalArgs_none (mt_itemsN pins s1 σ H1 (.ref a) [] _ [] Q I1 rfl .nil ⟨a, ys, rfl, rfl, ha, q⟩))⟩
/-- sorted(d.items()): the pairs, made anew, in order -/
def rSortItN (P : Program) (w : World) (K : PySem.W.Frag) : List V → Hp → VK → Prop := fun vs H Q => ∃ (p d : Addr) (xs : List NV) (ks : List PyData), vs = [.ref p] ∧ H p = some (DX.itemsO p d) ∧ H d = some (DN P w d xs) ∧ ks.length = xs.length ∧ AllAlike ks ∧ Sortable ks ∧ (∀ e, e ∈ ks → e.depth ≤ 50) ∧
  (∀ (i : Nat) (x : NV), xs[i]? = some x → ∃ kd vd, ks[i]? = some (.tuple [kd, vd]) ∧ Dp K H (.ref x.2.1) kd ∧ Dp K H x.2.2 vd) ∧
  ∀ (H2 : Hp) (as : List Addr) (a : Addr), (∀ b o, H b = some o → H2 b = some o) → as.length = xs.length → (∀ (i : Nat) (b : Addr) (x : NV), as[i]? = some b → xs[i]? = some x → H b = none ∧ H2 b = some (.tup [.ref x.2.1, x.2.2])) → H2 a = none → H a = none → Q (.ref a) (upd H2 a (.lst (byKey (as.map V.ref) ks)))
theorem lay_at : ∀ {xs : List NV} {us : List Value} {i : Nat} {y : NestedKey × Addr × Value}, (lay xs us)[i]? = some y → ∃ x u, xs[i]? = some x ∧ us[i]? = some u ∧ y = (x.1, x.2.1, u)
  | [], us, i, y, h => by simp [lay] at h
  | x :: xs, [], i, y, h => by simp [lay] at h
  | x :: xs, u :: us, 0, y, h => ⟨x, u, rfl, rfl, (Option.some.inj h).symm⟩
  | x :: xs, u :: us, i + 1, y, h => by
    obtain ⟨a, b, c, d, e⟩ := lay_at (xs := xs) (us := us) (i := i) (y := y) h
    exact ⟨a, b, c, d, e⟩
theorem cr_sortItN {k : Nat} (hr : Room k X.A) : CallR X (.builtin "sorted") (rSortItN X.prog X.w X.K) := by
  intro pins s σ H vs us0 Q I r h
  obtain ⟨p, d, xs, ks, rfl, hp, hd, hl, hal, hsk, hdep, hval, q⟩ := h
  obtain ⟨u0, rfl, r0⟩ := L2.vals1 r
  obtain rfl : u0 = Value.ref p := r0
  have view : s.heap.IsItemsView p d := (show ObjOk X.prog X.w H s.heap p (DX.itemsO p d) from I.hok p _ hp).1
  obtain ⟨z1, z2, us, o, es, ep, rr, e1, e2, e3, e4, e5⟩ := (I.hok d _ hd).1
  have un := hr.un
  have hh : X.A.handled = none := hr.hd
  have lz : es.size = xs.length := by
    have := congrArg List.length e4
    rw [List.length_map, lay_len (vlen rr)] at this
    simpa using this
  refine DT.sortedI (es := es) (ep := ep) hh view ⟨o, e1, e2, e3⟩ (by omega) fun h' tk as hk hlt hl2 hG => ?_
  have lak : as.length = xs.length := by omega
  have nd : as.Nodup := List.Pairwise.imp (fun h => Nat.ne_of_lt h) hG.rise
  have pr : ∀ (j : Nat) (b : Addr), as[j]? = some b → ∃ (x : NV) (u : Value), xs[j]? = some x ∧ RelV x.2.2 u ∧ h'.get? b = some { cls := .type "tuple", data := .seq #[Value.ref x.2.1, u] } := by
    intro j b hj
    obtain ⟨en, he, hg⟩ := hG.pairs j b hj
    have he2 : es.toList[j]? = some en := by simpa using he
    rw [e4, List.getElem?_map] at he2
    cases hy : (lay xs us)[j]? with
    | none =>
      rw [hy] at he2
      cases he2
    | some y =>
      rw [hy] at he2
      obtain ⟨x, u, hx, hu, rfl⟩ := lay_at hy
      obtain rfl : entryOfKey (nestedKind X.prog X.w) (x.1, x.2.1, u) = en := Option.some.inj he2
      obtain ⟨u2, hu2, ru⟩ := rr.get (i := j) (x := x.2.2) (by rw [List.getElem?_map, hx]; rfl)
      rw [hu] at hu2
      obtain rfl := Option.some.inj hu2
      exact ⟨x, u, hx, ru, hg⟩
  -- the pairs are tracked ahead of the sort
  have I0 : Inv X pins σ H { s with heap := h', toks := tk } := I.kept (t' := tk) hk
  obtain ⟨H2, I1, g, qt⟩ := DX.takeT (P := fun b vs => ∃ (j : Nat) (x : NV), as[j]? = some b ∧ xs[j]? = some x ∧ vs = [.ref x.2.1, x.2.2]) I as H I0 nd fun b hb => by
    obtain ⟨j, hj⟩ := List.mem_iff_getElem?.mp hb
    obtain ⟨x, u, hx, ru, hg⟩ := pr j b hj
    have hbl : s.heap.objs.size ≤ b := Nat.le_of_lt (hG.above b hb)
    exact ⟨hbl, I.hok.fresh hbl, [.ref x.2.1, x.2.2], ⟨j, x, hj, hx, rfl⟩, fun H3 => ⟨(show 2 ≤ sizeLine by decide), [Value.ref x.2.1, u], .cons rfl (.cons ru .nil), ⟨_, hg, rfl, 0, rfl⟩⟩⟩
  have pt : ∀ (i : Nat) (b : Addr) (x : NV), as[i]? = some b → xs[i]? = some x → H b = none ∧ H2 b = some (.tup [.ref x.2.1, x.2.2]) := fun i b x hi hx => by
    obtain ⟨vs, ⟨j, y, j1, j2, ev⟩, hH⟩ := qt b (List.mem_of_getElem? hi)
    have eij : i = j := (List.getElem?_inj (List.getElem?_eq_some_iff.mp hi).1 nd).mp (hi.trans j1.symm)
    subst eij
    rw [hx] at j2
    obtain rfl := Option.some.inj j2
    exact ⟨I.hok.fresh (Nat.le_of_lt (hG.above b (List.mem_of_getElem? hi))), by rw [hH, ev]⟩
  have dp : DpAll X.K H2 (as.map V.ref) ks := by
    have : ∀ (as : List Addr) (xs : List NV) (ks : List PyData), as.length = xs.length → ks.length = xs.length → (∀ (i : Nat) (b : Addr) (x : NV), as[i]? = some b → xs[i]? = some x → H2 b = some (.tup [.ref x.2.1, x.2.2])) → (∀ (i : Nat) (x : NV), xs[i]? = some x → ∃ kd vd, ks[i]? = some (.tuple [kd, vd]) ∧ Dp X.K H (.ref x.2.1) kd ∧ Dp X.K H x.2.2 vd) → DpAll X.K H2 (as.map V.ref) ks := by
      intro as
      induction as with
      | nil =>
        intro xs ks h1 h2 _ _
        match xs, ks, h1, h2 with
        | [], [], _, _ => exact .nil
      | cons a as ih =>
        intro xs ks h1 h2 h3 h4
        match xs, ks, h1, h2 with
        | x :: xs, k :: ks, h1, h2 =>
          obtain ⟨kd, vd, e, a1, a2⟩ := h4 0 x rfl
          obtain rfl : k = .tuple [kd, vd] := Option.some.inj e
          exact .cons (.tup (st_of (h3 0 a x rfl rfl)) (.cons (dp_m g a1) (.cons (dp_m g a2) .nil))) (ih xs ks (by simpa using h1) (by simpa using h2) (fun i b x e1 e2 => h3 (i + 1) b x e1 e2) fun i x e1 => h4 (i + 1) x e1)
    exact this as xs ks lak hl (fun i b x h1 h2 => (pt i b x h1 h2).2) hval
  have hlk : ks.length = as.length := by omega
  have I2 := I1.kept (t' := tk) (h' := h'.push (seqObj "list" (as.map Value.ref).toArray 0)) (fun c o e => Heap.get?_push_of_some _ e)
  have at1 : (h'.push (seqObj "list" (as.map Value.ref).toArray 0)).get? h'.objs.size = some (seqObj "list" (as.map Value.ref).toArray 0) := Heap.get?_push_size _ rfl
  have hl' : ks.length = (as.map V.ref).length := by rw [List.length_map]; exact hlk
  have vl : (byKey (as.map V.ref) ks).length ≤ sizeLine := by
    show (((as.map V.ref).zip ks).mergeSort (dataLe false (·.2)) |>.map (·.1)).length ≤ _
    rw [List.length_map, List.length_mergeSort, List.length_zip, List.length_map]
    omega
  have ev : EachIs (fun u d => ∃ bs, Reads (sortingHeap (h'.push (seqObj "list" (as.map Value.ref).toArray 0)) h'.objs.size (as.map Value.ref)) u d bs) (as.map Value.ref) ks :=
    (dps_each I1 (My.vals_refs as) dp).mono fun u d ⟨bs, r⟩ => ⟨bs, Reads.keeps (fun b o e => sortingHeap_old (Nat.ne_of_lt (Heap.lt_size e)) (Heap.get?_push_of_some _ e)) r⟩
  have ez := zip_snd hl'
  have er := each_zip ev hl'
  have out := sortVals_data (enc := fun p : V × PyData => p.2) false (vals_each (h := s.heap) (My.vals_refs as) hl') er (by rw [ez]; exact hal)
  obtain ⟨c, at3⟩ := sortedHeap_at (vs := as.map Value.ref) (out := (sortVals (dataKind (sortingHeap (h'.push (seqObj "list" (as.map Value.ref).toArray 0)) h'.objs.size (as.map Value.ref)) (((as.map V.ref).zip ks).map fun p => p.2)) false (as.map Value.ref) (as.map Value.ref)).toArray) at1
  have hf1 : H h'.objs.size = none := I.hok.fresh (Nat.le_of_lt hlt)
  refine wpAny_call_entry_kw slot_list_sort ⟨_, at1, rfl⟩ entry_list_sort ?_ (args_list_sort _)
  refine list_sort_vals (s := { s with heap := h'.push (seqObj "list" (as.map Value.ref).toArray 0), toks := tk }) (κ := dataKind (sortingHeap (h'.push (seqObj "list" (as.map Value.ref).toArray 0)) h'.objs.size (as.map Value.ref)) (((as.map V.ref).zip ks).map fun p => p.2)) at1 ?_ (by rw [List.length_map]; omega) ?_
  · rw [ez]
    exact SortsAt.data (s := { s with heap := sortingHeap (h'.push (seqObj "list" (as.map Value.ref).toArray 0)) h'.objs.size (as.map Value.ref), toks := tk }) ev hal hsk (fun d hd => by
      have := hdep d hd
      have e : X.A.in1.in1.units = X.A.units + 1 + 1 := rfl
      omega)
  · exact ⟨_, rfl, .ref h'.objs.size, _, free2 (b := h'.objs.size + 1) (t' := tk) I2 (Fre.of I1 (Nat.le_refl _)) (Fre.of I1 (Nat.le_succ h'.objs.size)) (I1.hok.fresh (Nat.le_refl _)) (I1.hok.fresh (Nat.le_succ _)) (fun x o n1 n2 e => (sortedHeap_old n1 (Heap.lt_size e)).trans e) ⟨vl, _, c, each_vals out, at3⟩, rfl, q H2 as _ g lak pt (I1.hok.fresh (Nat.le_refl _)) hf1⟩
end
end Nd
namespace Nd
set_option autoImplicit false
open PySem PySem.W L2 My Evl PyProof.Rows
/-! ### sorting by data -/
theorem AllP.zipG {α : Type} {H : Hp} (f : α → Pr) : ∀ {xs : List V} {us : List α}, AllP (us.map f) xs H → ∀ p ∈ xs.zip us, (f p.2).P p.1 H
  | [], [], _, p, hp => by simp at hp
  | x :: xs, u :: us, h, p, hp => by
    rw [List.zip_cons_cons] at hp
    rcases List.mem_cons.mp hp with rfl | hp
    · exact h.1
    · exact AllP.zipG f h.2 p hp
theorem AllP.ofG {α : Type} {H : Hp} (f : α → Pr) : ∀ {ps : List (V × α)}, (∀ p ∈ ps, (f p.2).P p.1 H) → AllP ((ps.map (·.2)).map f) (ps.map (·.1)) H
  | [], _ => trivial
  | p :: ps, h => ⟨h p List.mem_cons_self, AllP.ofG f fun q hq => h q (List.mem_cons_of_mem _ hq)⟩
def leT (s t : Mo × Fr) : Bool := !dataLt (tmD t) (tmD s)
def srtT (zs : Po) : Po := zs.mergeSort leT
theorem byKey_tm {K : PySem.W.Frag} {H : Hp} {xs : List V} {us : Po} (h : AllP (us.map (tmP K)) xs H) : AllP ((srtT us).map (tmP K)) (byKey xs (us.map tmD)) H := by
  have hl : xs.length = us.length := by
    have := h.len
    rw [List.length_map] at this
    exact this
  have e1 : xs.zip (us.map tmD) = (xs.zip us).map fun p => (p.1, tmD p.2) := zip_pairs _ hl
  have e2 : ((xs.zip us).mergeSort fun p q => leT p.2 q.2).map (fun p => (p.1, tmD p.2)) = (xs.zip (us.map tmD)).mergeSort (dataLe false (·.2)) := by
    rw [e1]
    refine List.map_mergeSort fun p _ q _ => ?_
    rw [dataLe_eq]
    rfl
  have e3 : ((xs.zip us).mergeSort fun p q => leT p.2 q.2).map (·.2) = srtT us := by
    have := List.map_mergeSort (r := fun p q : V × (Mo × Fr) => leT p.2 q.2) (s := leT) (f := fun p : V × (Mo × Fr) => p.2) (l := xs.zip us) (fun _ _ _ _ => rfl)
    rw [this, List.map_snd_zip (by omega)]
    rfl
  have e4 : byKey xs (us.map tmD) = ((xs.zip us).mergeSort fun p q => leT p.2 q.2).map (·.1) := by
    unfold byKey
    rw [← e2, List.map_map]
    rfl
  rw [e4, ← e3]
  exact AllP.ofG (tmP K) fun p hp => AllP.zipG (tmP K) h p ((List.mergeSort_perm _ _).mem_iff.mp hp)
theorem dlt_tr {x y z : PyData} (h : dataLt x z = true) : dataLt x y = true ∨ dataLt y z = true := lex_negTrans _ _ _ h
theorem dlt_as {x y : PyData} (h : dataLt x y = true) : dataLt y x = false := by
  cases e : dataLt y x with
  | false => rfl
  | true =>
    have := lex_trans _ _ _ h e
    rw [lex_irrefl] at this
    cases this
/-! ### monomials as data -/
theorem eqv_dv0 (u v : Dv) : PyData.eqv u.D v.D = decide (u = v) := by
  obtain ⟨n, i, j⟩ := u
  obtain ⟨n', i', j'⟩ := v
  unfold Dv.D
  rw [PyData.eqv, Bool.eq_iff_iff]
  simp [PyData.eqvAll, PyData.eqv]
theorem eqv_pw (x y : Dv × Int) : PyData.eqv (pwD x) (pwD y) = decide (x = y) := by
  obtain ⟨u, i⟩ := x
  obtain ⟨v, j⟩ := y
  unfold pwD
  rw [PyData.eqv, PyData.eqvAll, PyData.eqvAll, PyData.eqvAll, eqv_dv0, PyData.eqv, Bool.eq_iff_iff]
  simp
theorem eqv_pws : ∀ m n : Mo, PyData.eqvAll (m.map pwD) (n.map pwD) = decide (m = n)
  | [], [] => by simp [PyData.eqvAll]
  | [], y :: n => by simp [PyData.eqvAll]
  | x :: m, [] => by simp [PyData.eqvAll]
  | x :: m, y :: n => by
    rw [List.map_cons, List.map_cons, PyData.eqvAll, eqv_pw, eqv_pws m n, Bool.eq_iff_iff]
    simp
theorem eqv_mo (m n : Mo) : PyData.eqv (moD m) (moD n) = decide (m = n) := by
  unfold moD
  rw [PyData.eqv]
  exact eqv_pws m n
theorem dlt_ne {x y : PyData} (h : alike x y = true) (e : PyData.eqv x y = false) : dataLt x y = true ∨ dataLt y x = true := by
  cases a : dataLt x y with
  | true => exact .inl rfl
  | false =>
    cases b : dataLt y x with
    | true => exact .inr rfl
    | false =>
      exfalso
      have t : keyToks x = keyToks y := lex_total _ _ a b
      have := (toks_eqv x y h).2 e [.inl 0] [.inl 1]
      rw [t, lex_pre, lex_irrefl] at this
      revert this
      decide
theorem dlt_tm {s t : Mo × Fr} (h : s.1 ≠ t.1) : dataLt (tmD s) (tmD t) = dataLt (moD s.1) (moD t.1) := by
  unfold tmD
  rw [dataLt_tuple]
  exact dataLt_all_no (alike_mo _ _) (by rw [eqv_mo, decide_eq_false h])
theorem alike_fr (f g : Fr) : alike (frD f) (frD g) = true := by simp [frD, alike, alikeAll]
theorem alike_tm (s t : Mo × Fr) : alike (tmD s) (tmD t) = true := by
  unfold tmD
  rw [alike, alikeAll, alikeAll, alikeAll, alike_mo, alike_fr]
  rfl
theorem deep_tm (t : Mo × Fr) : (tmD t).depth ≤ 5 := by
  have := deep_mo t.1
  simp [tmD, frD, PyData.depth, PyData.depthAll]
  omega
theorem tm_alike (zs : Po) : AllAlike (zs.map tmD) := AllAlike.of fun s t => alike_tm s t
theorem tm_sortable (zs : Po) : Sortable (zs.map tmD) := Sortable.tuples fun t => ⟨_, _, rfl⟩
theorem tm_depth (zs : Po) : ∀ d, d ∈ zs.map tmD → d.depth ≤ 50 := fun d hd => by
  obtain ⟨t, _, rfl⟩ := List.mem_map.mp hd
  have := deep_tm t
  omega
/-! ### monomials as keys -/
theorem nk_pw (x : Dv × Int) : nk (pwD x) = .tup [nk x.1.D, .num x.2] := by simp [pwD, nk, nkAll]
theorem nkAll_inj : ∀ {m n : Mo}, nkAll (m.map pwD) = nkAll (n.map pwD) → m = n
  | [], [], _ => rfl
  | [], _ :: _, h => by simp [nkAll] at h
  | _ :: _, [], h => by simp [nkAll] at h
  | x :: m, y :: n, h => by
    rw [List.map_cons, List.map_cons, nkAll, nkAll] at h
    injection h with h1 h2
    rw [nk_pw, nk_pw] at h1
    injection h1 with h1
    injection h1 with h3 h4
    injection h4 with h4 _
    injection h4 with h4
    obtain ⟨u, i⟩ := x
    obtain ⟨v, j⟩ := y
    have := nk_inj h3
    simp_all
    exact nkAll_inj h2
theorem nkm_inj {m n : Mo} (h : nk (moD m) = nk (moD n)) : m = n := by
  unfold moD at h
  rw [nk, nk] at h
  injection h with h
  exact nkAll_inj h
theorem keyish_mo (m : Mo) : keyish (moD m) = true := by
  unfold moD
  rw [keyish]
  induction m with
  | nil => rfl
  | cons x m ih =>
    rw [List.map_cons, keyishAll, ih]
    simp [pwD, keyish, keyishAll, Dv.D]
theorem deep_nkm (m : Mo) : (nk (moD m)).depth ≤ 8 := by
  have : ∀ m : Mo, NestedKey.depthAll (nkAll (m.map pwD)) ≤ 5 := by
    intro m
    induction m with
    | nil => simp [nkAll, NestedKey.depthAll]
    | cons x m ih =>
      rw [List.map_cons, nkAll, NestedKey.depthAll, nk_pw, nk_dv]
      simp [NestedKey.depth, NestedKey.depthAll]
      omega
  unfold moD
  rw [nk, NestedKey.depth]
  have := this m
  omega
/-- what a dict from monomials to fractions holds, as the dict has it -/
def KM (K : PySem.W.Frag) : Po → List NV → Hp → Prop
  | [], [], _ => True
  | z :: zs, x :: xs, B => (x.1 = nk (moD z.1) ∧ (moP K z.1).P (.ref x.2.1) B ∧ (frP K z.2).P x.2.2 B) ∧ KM K zs xs B
  | [], _ :: _, _ => False
  | _ :: _, [], _ => False
def putZ (zs : Po) (m : Mo) (f : Fr) : Po := if m ∈ zs.map (·.1) then zs.map fun z => if z.1 = m then (z.1, f) else z else zs ++ [(m, f)]
section
variable {K : PySem.W.Frag} {B B' H : Hp}
theorem KM.m (e : Ex B B') : ∀ {zs : Po} {xs : List NV}, KM K zs xs B → KM K zs xs B'
  | [], [], _ => trivial
  | _ :: _, _ :: _, h => ⟨⟨h.1.1, (moP K _).m e h.1.2.1, (frP K _).m e h.1.2.2⟩, KM.m e h.2⟩
theorem KM.len : ∀ {zs : Po} {xs : List NV}, KM K zs xs B → xs.length = zs.length
  | [], [], _ => rfl
  | _ :: _, _ :: _, h => congrArg Nat.succ (KM.len h.2)
theorem KM.at : ∀ {zs : Po} {xs : List NV} {i : Nat} {x : NV}, KM K zs xs B → xs[i]? = some x → ∃ z, zs[i]? = some z ∧ x.1 = nk (moD z.1) ∧ (moP K z.1).P (.ref x.2.1) B ∧ (frP K z.2).P x.2.2 B
  | [], [], i, x, _, h => by simp at h
  | z :: _, y :: _, 0, x, h, e => by
    obtain rfl := Option.some.inj e
    exact ⟨z, rfl, h.1⟩
  | _ :: _, _ :: _, i + 1, x, h, e => KM.at (i := i) h.2 e
theorem KM.has (m : Mo) : ∀ {zs : Po} {xs : List NV}, KM K zs xs B → hasN xs (nk (moD m)) = decide (m ∈ zs.map (·.1))
  | [], [], _ => by simp [hasN]
  | z :: zs, x :: xs, h => by
    have ih := KM.has m h.2
    unfold hasN at *
    rw [List.any_cons, ih, h.1.1, List.map_cons, Bool.eq_iff_iff]
    simp only [Bool.or_eq_true, decide_eq_true_eq, List.mem_cons]
    constructor
    · rintro (a | a)
      · exact .inl (nkm_inj a).symm
      · exact .inr a
    · rintro (a | a)
      · exact .inl (by rw [a])
      · exact .inr a
theorem KM.app : ∀ {zs ys : Po} {xs us : List NV}, KM K zs xs B → KM K ys us B → KM K (zs ++ ys) (xs ++ us) B
  | [], _, [], _, _, h => h
  | _ :: _, _, _ :: _, _, a, h => ⟨a.1, KM.app a.2 h⟩
theorem KM.set {m : Mo} {f : Fr} {v : V} (hf : (frP K f).P v B) : ∀ {zs : Po} {xs : List NV}, KM K zs xs B → KM K (zs.map fun z => if z.1 = m then (z.1, f) else z) (xs.map fun x => if x.1 = nk (moD m) then (x.1, x.2.1, v) else x) B
  | [], [], _ => trivial
  | z :: zs, x :: xs, h => by
    refine ⟨?_, KM.set hf h.2⟩
    dsimp only
    by_cases e : z.1 = m
    · rw [if_pos e, if_pos (by rw [h.1.1, e])]
      exact ⟨h.1.1, h.1.2.1, hf⟩
    · rw [if_neg e, if_neg (fun k => e (nkm_inj (h.1.1.symm.trans k)))]
      exact h.1
theorem KM.put {m : Mo} {f : Fr} {a : Addr} {v : V} {zs : Po} {xs : List NV} (h : KM K zs xs B) (ha : (moP K m).P (.ref a) B) (hf : (frP K f).P v B) : KM K (putZ zs m f) (putN xs (nk (moD m)) a v) B := by
  unfold putZ putN
  rw [h.has m]
  by_cases e : m ∈ zs.map (·.1)
  · rw [if_pos e, decide_eq_true e, if_pos rfl]
    exact h.set hf
  · rw [if_neg e, decide_eq_false e, if_neg Bool.false_ne_true]
    exact h.app ⟨⟨rfl, ha, hf⟩, trivial⟩
theorem key_mo {m : Mo} {a : Addr} (h : (moP K m).P (.ref a) H) : KeyAt K H a (nk (moD m)) := ⟨moD m, to_mo m _ _ h, keyish_mo m, rfl, deep_nkm m⟩
theorem KM.ok {zs : Po} {xs : List NV} (h : KM K zs xs B) (e : Ex B H) : KeysOk K H xs := fun x hx => by
  obtain ⟨i, hi⟩ := List.mem_iff_getElem?.mp hx
  obtain ⟨z, _, h1, h2, _⟩ := (h.m e).at hi
  rw [h1]
  exact key_mo h2
end
end Nd
namespace Nd
set_option autoImplicit false
open PySem PySem.W L2 My Evl
/-! ### two lists under way -/
structure A2 (B H0 : Hp) (a b : Addr) (ps qs : List Pr) (C H : Hp) : Prop where
  g : Gr B H0 C (wo a (wo b H))
  fa : ∃ xs, H a = some (.lst xs) ∧ AllP ps xs C
  fb : ∃ ys, H b = some (.lst ys) ∧ AllP qs ys C
  ne : a ≠ b
section
variable {B H0 C H C2 H2 : Hp} {a b r : Addr} {ps qs ps' qs' : List Pr} {p : Pr} {xs ys zs : List V} {y : V}
theorem A2.ex (A : A2 B H0 a b ps qs C H) : Ex C H := (A.g.c.trans wo_ex).trans wo_ex
theorem A2.new (e : Ex B H) (ha : H a = none) (hb : upd H a (.lst []) b = none) : A2 B H a b [] [] B (upd (upd H a (.lst [])) b (.lst [])) := by
  have ne : a ≠ b := ne_of_none upd_same hb
  refine ⟨?_, ⟨[], by rw [upd_ne ne]; exact upd_same, trivial⟩, ⟨[], upd_same, trivial⟩, ne⟩
  rw [wo_new hb, wo_new ha]
  exact Gr.refl e
theorem A2.na (A : A2 B H0 a b ps qs C H) : C a = none ∧ C b = none := ⟨wo_none A.g.c, wo_none (A.g.c.trans wo_ex)⟩
theorem A2.step (A : A2 B H0 a b ps qs C H) (k : Gr C H C2 H2) : A2 B H0 a b ps qs C2 H2 := by
  obtain ⟨xs, hx, ax⟩ := A.fa
  obtain ⟨ys, hy, ay⟩ := A.fb
  have k1 : Gr C (wo b H) C2 (wo b H2) := (Gr.refl (A.g.c.trans wo_ex)).side (by rw [hy]; exact fun z => nomatch z) k
  have k2 : Gr B H0 C2 (wo a (wo b H2)) := A.g.side (by rw [wo_ne A.ne, hx]; exact fun z => nomatch z) k1
  exact ⟨k2, ⟨xs, k.a _ _ hx, ax.m k.b⟩, ⟨ys, k.a _ _ hy, ay.m k.b⟩, A.ne⟩
theorem A2.wide (A : A2 B H0 a b ps qs C H) (e : Ex H H2) : A2 B H0 a b ps qs C H2 := A.step (Gr.wide A.ex e)
theorem A2.fin (A : A2 B H0 a b ps qs C H) (ha : H0 a = none) (hb : H0 b = none) : ∃ C', Gr B H0 C' H ∧ (LsP ps).P (.ref a) C' ∧ (LsP qs).P (.ref b) C' := by
  obtain ⟨xs, hx, ax⟩ := A.fa
  obtain ⟨ys, hy, ay⟩ := A.fb
  obtain ⟨na, nb⟩ := A.na
  have e1 : Ex C (upd C a (.lst xs)) := Ex.new na
  have nb2 : (upd C a (.lst xs)) b = none := by rw [upd_ne A.ne.symm]; exact nb
  have e2 : Ex (upd C a (.lst xs)) (upd (upd C a (.lst xs)) b (.lst ys)) := Ex.new nb2
  refine ⟨upd (upd C a (.lst xs)) b (.lst ys), ⟨(A.g.a.trans wo_ex).trans wo_ex, A.g.b.trans (e1.trans e2), fun x o e => ?_, fun x h1 h2 => ?_, fun z x qs' q => ?_⟩, ⟨a, xs, rfl, e2 _ _ upd_same, ax.m (e1.trans e2)⟩, ⟨b, ys, rfl, upd_same, ay.m (e1.trans e2)⟩⟩
  · by_cases n : x = b
    · subst n
      rw [upd_same] at e
      rw [hy]
      exact e
    · rw [upd_ne n] at e
      by_cases m : x = a
      · subst m
        rw [upd_same] at e
        rw [hx]
        exact e
      · rw [upd_ne m] at e
        exact A.ex x o e
  · rw [upd_ne (fun z => h2 (by rw [z]; exact hb)), upd_ne (fun z => h2 (by rw [z]; exact ha))]
    exact A.g.d x h1 h2
  · by_cases n : x = b
    · subst n
      rw [upd_same] at q
      cases q
    · rw [upd_ne n] at q
      by_cases m : x = a
      · subst m
        rw [upd_same] at q
        cases q
      · rw [upd_ne m] at q
        exact A.g.e z x qs' q
end
/-! ### x is True -/
section
variable {X : Cx}
end
end Nd
namespace Nd
set_option autoImplicit false
open scoped Rat
/-! ### fractions are the rationals -/
def fr (r : Rat) : Int × Int := (r.num, (r.den : Int))
theorem fr_eq {n d : Int} (hd : 0 < d) (hg : Int.gcd n d = 1) : fr (n /. d) = (n, d) := by
  unfold fr
  rw [Rat.num_divInt, Rat.den_divInt, Int.gcd_comm, hg, if_neg (by omega), Int.sign_eq_one_of_pos hd]
  simp
  omega
theorem fr_pos (r : Rat) : 0 < (fr r).2 := by
  have := r.den_pos
  show (0 : Int) < (r.den : Int)
  omega
theorem fr_low (r : Rat) : Int.gcd (fr r).1 (fr r).2 = 1 := by
  have := r.reduced
  show Nat.gcd r.num.natAbs (r.den : Int).natAbs = 1
  rw [Int.natAbs_natCast]
  exact this
theorem fr_val (r : Rat) : (fr r).1 /. (fr r).2 = r := Rat.num_divInt_den r
theorem fr_num0 (r : Rat) : (fr r).1 = 0 ↔ r = 0 := Rat.num_eq_zero
/-- lowest terms of any fraction -/
theorem fr_lowest {n d : Int} (hd : 0 < d) : fr (n /. d) = (n / (Int.gcd n d : Int), d / (Int.gcd n d : Int)) := by
  have g0 : Int.gcd n d ≠ 0 := fun h => by
    have := (Int.gcd_eq_zero_iff.mp h).2
    omega
  have hn := Int.gcd_dvd_left (a := n) (b := d)
  have hd2 := Int.gcd_dvd_right (a := n) (b := d)
  have e : n /. d = (n / (Int.gcd n d : Int)) /. (d / (Int.gcd n d : Int)) := by
    have h1 : (n / (Int.gcd n d : Int)) * (Int.gcd n d : Int) = n := Int.ediv_mul_cancel hn
    have h2 : (d / (Int.gcd n d : Int)) * (Int.gcd n d : Int) = d := Int.ediv_mul_cancel hd2
    have := Rat.divInt_mul_right (n := n / (Int.gcd n d : Int)) (d := d / (Int.gcd n d : Int)) (a := (Int.gcd n d : Int)) (by omega)
    rw [h1, h2] at this
    exact this
  have hp : 0 < d / (Int.gcd n d : Int) := Int.ediv_pos_of_pos_of_dvd hd (by omega) hd2
  rw [e]
  refine fr_eq hp ?_
  exact Int.gcd_ediv_gcd_ediv_gcd (by omega)
theorem cop_mul {a b c : Int} (h : Int.gcd a b = 1) (k : Int.gcd a c = 1) : Int.gcd a (b * c) = 1 := by
  have h1 : Nat.Coprime a.natAbs b.natAbs := h
  have h2 : Nat.Coprime a.natAbs c.natAbs := k
  show Nat.gcd a.natAbs (b * c).natAbs = 1
  rw [Int.natAbs_mul]
  exact Nat.Coprime.mul_right h1 h2
theorem cop_mul' {a b c : Int} (h : Int.gcd b a = 1) (k : Int.gcd c a = 1) : Int.gcd (b * c) a = 1 := by
  rw [Int.gcd_comm] at h k ⊢
  exact cop_mul h k
theorem cop_dvd {a b c : Int} (h : Int.gcd a b = 1) (k : c ∣ b) : Int.gcd a c = 1 := by
  have h1 : Nat.Coprime a.natAbs b.natAbs := h
  exact Nat.Coprime.coprime_dvd_right (Int.natAbs_dvd_natAbs.mpr k) h1
theorem cop_dvd' {a b c : Int} (h : Int.gcd a b = 1) (k : c ∣ a) : Int.gcd c b = 1 := by
  rw [Int.gcd_comm] at h ⊢
  exact cop_dvd h k
/-- the product as the program has it -/
theorem fr_mul (r s : Rat) : fr (r * s) = ((fr r).1 / (Int.gcd (fr r).1 (fr s).2 : Int) * ((fr s).1 / (Int.gcd (fr s).1 (fr r).2 : Int)), (fr r).2 / (Int.gcd (fr s).1 (fr r).2 : Int) * ((fr s).2 / (Int.gcd (fr r).1 (fr s).2 : Int))) := by
  have hr := fr_low r
  have hs := fr_low s
  have pr := fr_pos r
  have ps := fr_pos s
  have er := fr_val r
  have es := fr_val s
  generalize (fr r).1 = a at *
  generalize (fr r).2 = b at *
  generalize (fr s).1 = c at *
  generalize (fr s).2 = d at *
  have l0 : (Int.gcd a d : Int) ≠ 0 := fun h => by
    have := (Int.gcd_eq_zero_iff.mp (Int.ofNat_eq_zero.mp h)).2
    omega
  have r0 : (Int.gcd c b : Int) ≠ 0 := fun h => by
    have := (Int.gcd_eq_zero_iff.mp (Int.ofNat_eq_zero.mp h)).2
    omega
  have la := Int.gcd_dvd_left (a := a) (b := d)
  have ld := Int.gcd_dvd_right (a := a) (b := d)
  have rc := Int.gcd_dvd_left (a := c) (b := b)
  have rb := Int.gcd_dvd_right (a := c) (b := b)
  have h1 := Int.ediv_mul_cancel la
  have h2 := Int.ediv_mul_cancel ld
  have h3 := Int.ediv_mul_cancel rc
  have h4 := Int.ediv_mul_cancel rb
  have c1 : Int.gcd (a / (Int.gcd a d : Int)) (d / (Int.gcd a d : Int)) = 1 := Int.gcd_ediv_gcd_ediv_gcd (by omega)
  have c2 : Int.gcd (c / (Int.gcd c b : Int)) (b / (Int.gcd c b : Int)) = 1 := Int.gcd_ediv_gcd_ediv_gcd (by omega)
  have p1 : 0 < d / (Int.gcd a d : Int) := Int.ediv_pos_of_pos_of_dvd ps (by omega) ld
  have p2 : 0 < b / (Int.gcd c b : Int) := Int.ediv_pos_of_pos_of_dvd pr (by omega) rb
  generalize a / (Int.gcd a d : Int) = a' at *
  generalize d / (Int.gcd a d : Int) = d' at *
  generalize c / (Int.gcd c b : Int) = c' at *
  generalize b / (Int.gcd c b : Int) = b' at *
  generalize (Int.gcd a d : Int) = l at *
  generalize (Int.gcd c b : Int) = m at *
  have e : r * s = (a' * c') /. (b' * d') := by
    rw [← er, ← es, Rat.divInt_mul_divInt, ← h1, ← h3, ← h4, ← h2]
    have : a' * l * (c' * m) = (a' * c') * (l * m) := by grind
    rw [this]
    have : b' * m * (d' * l) = (b' * d') * (l * m) := by grind
    rw [this]
    exact Rat.divInt_mul_right (Int.mul_ne_zero l0 r0)
  rw [e]
  refine fr_eq (Int.mul_pos p2 p1) ?_
  have ab : Int.gcd a' b' = 1 := cop_dvd (cop_dvd' hr ⟨l, h1.symm⟩) ⟨m, h4.symm⟩
  have cd : Int.gcd c' d' = 1 := cop_dvd (cop_dvd' hs ⟨m, h3.symm⟩) ⟨l, h2.symm⟩
  exact cop_mul (cop_mul' ab c2) (cop_mul' c1 cd)
/-- the sum as the program has it -/
theorem fr_add1 {r s : Rat} (h : (fr r).2 = 1) (k : (fr s).2 = 1) : fr (r + s) = ((fr r).1 + (fr s).1, 1) := by
  have er := fr_val r
  have es := fr_val s
  rw [h] at er
  rw [k] at es
  generalize (fr r).1 = a at *
  generalize (fr s).1 = c at *
  rw [← er, ← es, Rat.divInt_add_divInt _ _ (by omega) (by omega)]
  have : a * 1 + c * 1 = a + c := by omega
  rw [this]
  exact fr_eq (by omega) (Int.gcd_one_right (a + c))
theorem fr_add (r s : Rat) : fr (r + s) =
    (((fr r).1 * ((fr s).2 / (Int.gcd (fr r).2 (fr s).2 : Int)) + (fr s).1 * ((fr r).2 / (Int.gcd (fr r).2 (fr s).2 : Int))) / (Int.gcd ((fr r).1 * ((fr s).2 / (Int.gcd (fr r).2 (fr s).2 : Int)) + (fr s).1 * ((fr r).2 / (Int.gcd (fr r).2 (fr s).2 : Int))) (Int.gcd (fr r).2 (fr s).2 : Int) : Int),
     ((fr r).2 / (Int.gcd (fr r).2 (fr s).2 : Int)) * ((fr s).2 / (Int.gcd ((fr r).1 * ((fr s).2 / (Int.gcd (fr r).2 (fr s).2 : Int)) + (fr s).1 * ((fr r).2 / (Int.gcd (fr r).2 (fr s).2 : Int))) (Int.gcd (fr r).2 (fr s).2 : Int) : Int))) := by
  have hr := fr_low r
  have hs := fr_low s
  have pr := fr_pos r
  have ps := fr_pos s
  have er := fr_val r
  have es := fr_val s
  generalize (fr r).1 = a at *
  generalize (fr r).2 = b at *
  generalize (fr s).1 = c at *
  generalize (fr s).2 = d at *
  have g0 : (Int.gcd b d : Int) ≠ 0 := fun h => by
    have := (Int.gcd_eq_zero_iff.mp (Int.ofNat_eq_zero.mp h)).2
    omega
  have gb := Int.gcd_dvd_left (a := b) (b := d)
  have gd := Int.gcd_dvd_right (a := b) (b := d)
  have h1 := Int.ediv_mul_cancel gb
  have h2 := Int.ediv_mul_cancel gd
  have c1 : Int.gcd (b / (Int.gcd b d : Int)) (d / (Int.gcd b d : Int)) = 1 := Int.gcd_ediv_gcd_ediv_gcd (by omega)
  have p1 : 0 < b / (Int.gcd b d : Int) := Int.ediv_pos_of_pos_of_dvd pr (by omega) gb
  have p2 : 0 < d / (Int.gcd b d : Int) := Int.ediv_pos_of_pos_of_dvd ps (by omega) gd
  have gp : (0 : Int) < (Int.gcd b d : Int) := by omega
  generalize b / (Int.gcd b d : Int) = b' at *
  generalize d / (Int.gcd b d : Int) = d' at *
  generalize (Int.gcd b d : Int) = g at *
  -- the top, and what it has in common with g
  have tb : Int.gcd (a * d' + c * b') b' = 1 := by
    have : Int.gcd (a * d' + c * b') b' = Int.gcd (a * d') b' := by
      rw [Int.gcd_comm, Int.gcd_comm (a * d')]
      exact Int.gcd_add_mul_right_right ..
    rw [this]
    exact cop_mul' (cop_dvd hr ⟨g, h1.symm⟩) (by rw [Int.gcd_comm]; exact c1)
  have td : Int.gcd (a * d' + c * b') d' = 1 := by
    have : Int.gcd (a * d' + c * b') d' = Int.gcd (c * b') d' := by
      rw [Int.add_comm, Int.gcd_comm, Int.gcd_comm (c * b')]
      exact Int.gcd_add_mul_right_right ..
    rw [this]
    exact cop_mul' (cop_dvd hs ⟨g, h2.symm⟩) c1
  have ev : r + s = (a * d' + c * b') /. (b' * (d' * g)) := by
    rw [← er, ← es, Rat.divInt_add_divInt _ _ (by omega) (by omega), ← h1, ← h2]
    have : a * (d' * g) + c * (b' * g) = (a * d' + c * b') * g := by grind
    rw [this]
    have : b' * g * (d' * g) = (b' * (d' * g)) * g := by grind
    rw [this]
    exact Rat.divInt_mul_right g0
  generalize a * d' + c * b' = t at *
  have q0 : (Int.gcd t g : Int) ≠ 0 := fun h => by
    have := (Int.gcd_eq_zero_iff.mp (Int.ofNat_eq_zero.mp h)).2
    omega
  have qt := Int.gcd_dvd_left (a := t) (b := g)
  have qg := Int.gcd_dvd_right (a := t) (b := g)
  have h3 := Int.ediv_mul_cancel qt
  have h4 := Int.ediv_mul_cancel qg
  have c3 : Int.gcd (t / (Int.gcd t g : Int)) (g / (Int.gcd t g : Int)) = 1 := Int.gcd_ediv_gcd_ediv_gcd (by omega)
  have p3 : 0 < g / (Int.gcd t g : Int) := Int.ediv_pos_of_pos_of_dvd gp (by omega) qg
  have ed : d / (Int.gcd t g : Int) = d' * (g / (Int.gcd t g : Int)) := by
    rw [← h2, Int.mul_ediv_assoc _ qg]
  rw [ed]
  generalize t / (Int.gcd t g : Int) = t' at *
  generalize g / (Int.gcd t g : Int) = g' at *
  generalize (Int.gcd t g : Int) = q at *
  have e2 : r + s = t' /. (b' * (d' * g')) := by
    rw [ev, ← h3, ← h4]
    have : b' * (d' * (g' * q)) = b' * (d' * g') * q := by grind
    rw [this]
    exact Rat.divInt_mul_right q0
  rw [e2]
  refine fr_eq (Int.mul_pos p1 (Int.mul_pos p2 p3)) ?_
  exact cop_mul (cop_dvd' tb ⟨q, h3.symm⟩) (cop_mul (cop_dvd' td ⟨q, h3.symm⟩) c3)
end Nd
namespace Nd
set_option autoImplicit false
set_option linter.unusedSectionVars false
/-! ### sums by keys, in order -/
class Od (κ : Type) [DecidableEq κ] where
  lt : κ → κ → Bool
  irr : ∀ a, lt a a = false
  tr : ∀ {a b c}, lt a b = true → lt b c = true → lt a c = true
  tri : ∀ {a b}, a ≠ b → lt a b = true ∨ lt b a = true
open Lean.Grind
section
variable {κ : Type} [DecidableEq κ] {β : Type} [CommRing β]
theorem z_add (a : β) : 0 + a = a := by grind
theorem a_zero (a : β) : a + 0 = a := by grind
/-- what all pairs of a key come to -/
def co : List (κ × β) → κ → β
  | [], _ => 0
  | z :: l, k => (if z.1 = k then z.2 else 0) + co l k
@[simp] theorem co_nil (k : κ) : co ([] : List (κ × β)) k = 0 := rfl
theorem co_cons (z : κ × β) (l : List (κ × β)) (k : κ) : co (z :: l) k = (if z.1 = k then z.2 else 0) + co l k := rfl
theorem co_app : ∀ (l m : List (κ × β)) (k : κ), co (l ++ m) k = co l k + co m k
  | [], m, k => (z_add _).symm
  | z :: l, m, k => by
    rw [List.cons_append, co_cons, co_cons, co_app l m k]
    grind
theorem co_none {k : κ} : ∀ {l : List (κ × β)}, (∀ z ∈ l, z.1 ≠ k) → co l k = 0
  | [], _ => rfl
  | z :: l, h => by
    rw [co_cons, if_neg (h z List.mem_cons_self), co_none fun y hy => h y (List.mem_cons_of_mem _ hy), z_add]
theorem co_perm {l m : List (κ × β)} (h : l.Perm m) (k : κ) : co l k = co m k := by
  induction h with
  | nil => rfl
  | cons z _ ih => rw [co_cons, co_cons, ih]
  | swap x y l =>
    rw [co_cons, co_cons, co_cons, co_cons]
    grind
  | trans _ _ a b => exact a.trans b
theorem co_one {l : List (κ × β)} (nd : (l.map (·.1)).Nodup) {z : κ × β} (h : z ∈ l) : co l z.1 = z.2 := by
  induction l with
  | nil => cases h
  | cons y l ih =>
    rw [List.map_cons, List.nodup_cons] at nd
    rw [co_cons]
    rcases List.mem_cons.mp h with rfl | h
    · rw [if_pos rfl, co_none (fun x hx e => nd.1 (List.mem_map.mpr ⟨x, hx, e⟩)), a_zero]
    · rw [ih nd.2 h, if_neg (fun e => nd.1 (List.mem_map.mpr ⟨z, h, e.symm⟩)), z_add]
/-- a sum over all pairs of what is additive -/
def lin {γ : Type} [CommRing γ] (f : κ → β → γ) : List (κ × β) → γ
  | [] => 0
  | z :: l => f z.1 z.2 + lin f l
variable [Od κ]
/-- rising, and nothing is nought -/
structure Cn (l : List (κ × β)) : Prop where
  up : l.Pairwise fun a b => Od.lt a.1 b.1 = true
  nz : ∀ z ∈ l, z.2 ≠ 0
theorem Cn.tl {z : κ × β} {l : List (κ × β)} (h : Cn (z :: l)) : Cn l := ⟨(List.pairwise_cons.mp h.up).2, fun y hy => h.nz y (List.mem_cons_of_mem _ hy)⟩
theorem lt_ne {a b : κ} (h : Od.lt a b = true) : a ≠ b := fun e => by
  subst e
  rw [Od.irr] at h
  cases h
theorem Cn.nd {l : List (κ × β)} (h : Cn l) : (l.map (·.1)).Nodup := List.pairwise_map.mpr (h.up.imp fun k => lt_ne k)
theorem Cn.hd {z : κ × β} {l : List (κ × β)} (h : Cn (z :: l)) : co (z :: l) z.1 = z.2 := co_one h.nd List.mem_cons_self
theorem Cn.tl0 {z : κ × β} {l : List (κ × β)} (h : Cn (z :: l)) : co l z.1 = 0 := co_none fun y hy => (lt_ne ((List.pairwise_cons.mp h.up).1 y hy)).symm
theorem Cn.low {y : κ × β} {l : List (κ × β)} {k : κ} (h : Cn (y :: l)) (e : Od.lt k y.1 = true) : co (y :: l) k = 0 := co_none fun x hx => by
  rcases List.mem_cons.mp hx with rfl | hx
  · exact (lt_ne e).symm
  · exact (lt_ne (Od.tr e ((List.pairwise_cons.mp h.up).1 x hx))).symm
theorem cn_ext : ∀ {l m : List (κ × β)}, Cn l → Cn m → (∀ k, co l k = co m k) → l = m
  | [], [], _, _, _ => rfl
  | [], y :: m, _, b, h => absurd ((h y.1).trans b.hd).symm (b.nz y List.mem_cons_self)
  | z :: l, [], a, _, h => absurd (a.hd.symm.trans (h z.1)) (a.nz z List.mem_cons_self)
  | z :: l, y :: m, a, b, h => by
    by_cases e : z.1 = y.1
    · have h2 : z.2 = y.2 := by rw [← a.hd, ← b.hd, h z.1, e]
      have ez : z = y := Prod.ext e h2
      subst ez
      rw [cn_ext a.tl b.tl fun k => ?_]
      by_cases ek : z.1 = k
      · subst ek
        rw [a.tl0, b.tl0]
      · have := h k
        rw [co_cons, co_cons, if_neg ek, z_add, z_add] at this
        exact this
    · rcases Od.tri e with k | k
      · exact absurd (a.hd.symm.trans ((h z.1).trans (b.low k))) (a.nz z List.mem_cons_self)
      · exact absurd (b.hd.symm.trans ((h y.1).symm.trans (a.low k))) (b.nz y List.mem_cons_self)
def ins [DecidableEq β] (k : κ) (v : β) : List (κ × β) → List (κ × β)
  | [] => if v = 0 then [] else [(k, v)]
  | z :: l => if z.1 = k then (if z.2 + v = 0 then l else (k, z.2 + v) :: l) else if Od.lt k z.1 = true then (if v = 0 then z :: l else (k, v) :: z :: l) else z :: ins k v l
variable [DecidableEq β]
/-- the sums by keys: rising, none of them nought -/
def cf (l : List (κ × β)) : List (κ × β) := l.foldr (fun z a => ins z.1 z.2 a) []
theorem ins_mem {k : κ} {v : β} {x : κ × β} : ∀ {l : List (κ × β)}, x ∈ ins k v l → x.1 = k ∨ x ∈ l
  | [], h => by
    unfold ins at h
    split at h
    · cases h
    · exact .inl (by rw [List.mem_singleton.mp h])
  | z :: l, h => by
    unfold ins at h
    split at h
    · split at h
      · exact .inr (List.mem_cons_of_mem _ h)
      · rcases List.mem_cons.mp h with rfl | h
        · exact .inl rfl
        · exact .inr (List.mem_cons_of_mem _ h)
    · split at h
      · split at h
        · exact .inr h
        · rcases List.mem_cons.mp h with rfl | h
          · exact .inl rfl
          · exact .inr h
      · rcases List.mem_cons.mp h with rfl | h
        · exact .inr List.mem_cons_self
        · exact (ins_mem h).imp_right (List.mem_cons_of_mem _)
theorem cn_ins {k : κ} {v : β} : ∀ {l : List (κ × β)}, Cn l → Cn (ins k v l)
  | [], _ => by
    unfold ins
    split
    · exact ⟨.nil, fun _ h => by cases h⟩
    · rename_i e
      exact ⟨List.pairwise_singleton _ _, fun z h => by rw [List.mem_singleton.mp h]; exact e⟩
  | z :: l, h => by
    have hp := List.pairwise_cons.mp h.up
    unfold ins
    split
    · rename_i e
      split
      · exact h.tl
      · rename_i n
        exact ⟨List.pairwise_cons.mpr ⟨fun y hy => e ▸ hp.1 y hy, hp.2⟩, fun y hy => by
          rcases List.mem_cons.mp hy with rfl | hy
          · exact n
          · exact h.nz y (List.mem_cons_of_mem _ hy)⟩
    · rename_i e
      split
      · rename_i lt
        split
        · exact h
        · rename_i n
          exact ⟨List.pairwise_cons.mpr ⟨fun y hy => by
            rcases List.mem_cons.mp hy with rfl | hy
            · exact lt
            · exact Od.tr lt (hp.1 y hy), h.up⟩, fun y hy => by
            rcases List.mem_cons.mp hy with rfl | hy
            · exact n
            · exact h.nz y hy⟩
      · rename_i nl
        have ih := cn_ins (k := k) (v := v) h.tl
        refine ⟨List.pairwise_cons.mpr ⟨fun y hy => ?_, ih.up⟩, fun y hy => ?_⟩
        · rcases ins_mem hy with a | a
          · rw [a]
            rcases Od.tri e with b | b
            · exact b
            · exact absurd b nl
          · exact hp.1 y a
        · rcases List.mem_cons.mp hy with rfl | hy
          · exact h.nz _ List.mem_cons_self
          · exact ih.nz y hy
theorem lin_ins {γ : Type} [CommRing γ] {f : κ → β → γ} (f0 : ∀ k, f k 0 = 0) (fa : ∀ k a b, f k (a + b) = f k a + f k b) {k : κ} {v : β} : ∀ l : List (κ × β), lin f (ins k v l) = lin f l + f k v
  | [] => by
    unfold ins
    split
    · rename_i e
      rw [e, f0]
      exact (a_zero _).symm
    · show f k v + 0 = 0 + f k v
      grind
  | z :: l => by
    unfold ins
    split
    · rename_i e
      split
      · rename_i n
        show lin f l = f z.1 z.2 + lin f l + f k v
        have : f k (z.2 + v) = 0 := by rw [n, f0]
        rw [fa] at this
        rw [e]
        have h2 : f k z.2 + lin f l + f k v = (f k z.2 + f k v) + lin f l := by grind
        rw [h2, this, z_add]
      · show f k (z.2 + v) + lin f l = f z.1 z.2 + lin f l + f k v
        rw [fa, e]
        grind
    · split
      · split
        · rename_i n
          rw [n, f0, a_zero]
        · show f k v + (f z.1 z.2 + lin f l) = f z.1 z.2 + lin f l + f k v
          grind
      · show f z.1 z.2 + lin f (ins k v l) = f z.1 z.2 + lin f l + f k v
        rw [lin_ins f0 fa l]
        grind
theorem cn_cf : ∀ l : List (κ × β), Cn (cf l)
  | [] => ⟨.nil, fun _ h => by cases h⟩
  | z :: l => cn_ins (cn_cf l)
theorem lin_cf {γ : Type} [CommRing γ] {f : κ → β → γ} (f0 : ∀ k, f k 0 = 0) (fa : ∀ k a b, f k (a + b) = f k a + f k b) : ∀ l : List (κ × β), lin f (cf l) = lin f l
  | [] => rfl
  | z :: l => by
    show lin f (ins z.1 z.2 (cf l)) = f z.1 z.2 + lin f l
    rw [lin_ins f0 fa, lin_cf f0 fa l]
    grind
theorem co_lin (k : κ) : ∀ l : List (κ × β), co l k = lin (fun k' (v : β) => if k' = k then v else 0) l
  | [] => rfl
  | z :: l => by
    rw [co_cons, co_lin k l]
    rfl
theorem co_cf (l : List (κ × β)) (k : κ) : co (cf l) k = co l k := by
  rw [co_lin, co_lin, lin_cf]
  · intro k'
    split <;> rfl
  · intro k' a b
    split
    · rfl
    · exact (z_add _).symm
theorem cf_ext {l m : List (κ × β)} (h : ∀ k, co l k = co m k) : cf l = cf m := cn_ext (cn_cf l) (cn_cf m) fun k => by rw [co_cf, co_cf, h k]
theorem cf_cn {l : List (κ × β)} (h : Cn l) : cf l = l := cn_ext (cn_cf l) h fun k => co_cf l k
theorem cf_eq {l m : List (κ × β)} (h : Cn l) (e : ∀ k, co l k = co m k) : l = cf m := cn_ext h (cn_cf m) fun k => by rw [co_cf, e k]
theorem lin_co {γ : Type} [CommRing γ] {f : κ → β → γ} (f0 : ∀ k, f k 0 = 0) (fa : ∀ k a b, f k (a + b) = f k a + f k b) {l m : List (κ × β)} (h : ∀ k, co l k = co m k) : lin f l = lin f m := by
  rw [← lin_cf f0 fa l, ← lin_cf f0 fa m, cf_ext h]
theorem ins_len {k : κ} {v : β} : ∀ l : List (κ × β), (ins k v l).length ≤ l.length + 1
  | [] => by
    unfold ins
    split
    · exact Nat.zero_le _
    · exact Nat.le_refl _
  | z :: l => by
    have := ins_len (k := k) (v := v) l
    unfold ins
    split
    · split
      · rw [List.length_cons]; omega
      · rw [List.length_cons, List.length_cons]; omega
    · split
      · split
        · omega
        · exact Nat.le_refl _
      · rw [List.length_cons, List.length_cons]; omega
theorem cf_len : ∀ l : List (κ × β), (cf l).length ≤ l.length
  | [] => Nat.le_refl _
  | z :: l => Nat.le_trans (ins_len _) (by rw [List.length_cons]; exact Nat.succ_le_succ (cf_len l))
theorem cf_mem {l : List (κ × β)} {z : κ × β} (h : z ∈ cf l) : z.2 = co l z.1 := by rw [← co_cf, co_one (cn_cf l).nd h]
theorem cf_key {z : κ × β} : ∀ {l : List (κ × β)}, z ∈ cf l → z.1 ∈ l.map (·.1)
  | [], h => by cases h
  | y :: l, h => by
    rcases ins_mem (l := cf l) h with a | a
    · rw [a]
      exact List.mem_cons_self
    · exact List.mem_cons_of_mem _ (cf_key a)
theorem cf_app (l m : List (κ × β)) : cf (cf l ++ m) = cf (l ++ m) := cf_ext fun k => by rw [co_app, co_app, co_cf]
end
end Nd
namespace Nd
set_option autoImplicit false
set_option linter.unusedSectionVars false
open scoped Rat
/-! ### how great the numbers are -/
/-- r times D is whole -/
def Wh (D : Nat) (r : Rat) : Prop := ∃ z : Int, r * ((D : Int) : Rat) = (z : Rat)
def ab (D : Nat) (r : Rat) : Nat := (r * ((D : Int) : Rat)).num.natAbs
theorem ab_of {D : Nat} {r : Rat} {z : Int} (h : r * ((D : Int) : Rat) = (z : Rat)) : ab D r = z.natAbs := by
  unfold ab
  rw [h, Rat.num_intCast]
theorem wh_nul {D : Nat} : Wh D 0 := ⟨0, by rw [Rat.zero_mul]; rfl⟩
theorem ab_nul {D : Nat} : ab D 0 = 0 := by rw [ab_of (z := 0) (by rw [Rat.zero_mul]; rfl)]; rfl
theorem wh_add {D : Nat} {r s : Rat} (h : Wh D r) (k : Wh D s) : Wh D (r + s) ∧ ab D (r + s) ≤ ab D r + ab D s := by
  obtain ⟨a, ha⟩ := h
  obtain ⟨b, hb⟩ := k
  have e : (r + s) * ((D : Int) : Rat) = ((a + b : Int) : Rat) := by rw [Rat.add_mul, ha, hb, Rat.intCast_add]
  refine ⟨⟨_, e⟩, ?_⟩
  rw [ab_of e, ab_of ha, ab_of hb]
  exact Int.natAbs_add_le a b
theorem wh_mul {D E : Nat} {r s : Rat} (h : Wh D r) (k : Wh E s) : Wh (D * E) (r * s) ∧ ab (D * E) (r * s) = ab D r * ab E s := by
  obtain ⟨a, ha⟩ := h
  obtain ⟨b, hb⟩ := k
  have e : (r * s) * (((D * E : Nat) : Int) : Rat) = ((a * b : Int) : Rat) := by
    rw [Rat.intCast_mul, ← ha, ← hb, Int.natCast_mul, Rat.intCast_mul]
    grind
  refine ⟨⟨_, e⟩, ?_⟩
  rw [ab_of e, ab_of ha, ab_of hb, Int.natAbs_mul]
theorem wh_int {z : Int} : Wh 1 (z : Rat) ∧ ab 1 (z : Rat) = z.natAbs := by
  have e : (z : Rat) * (((1 : Nat) : Int) : Rat) = (z : Rat) := Rat.mul_one _
  exact ⟨⟨z, e⟩, ab_of e⟩
theorem wh_c {c : Nat} : Wh c 1 ∧ ab c 1 = c := by
  have e : (1 : Rat) * ((c : Int) : Rat) = ((c : Int) : Rat) := Rat.one_mul _
  exact ⟨⟨_, e⟩, by rw [ab_of e]; rfl⟩
theorem wh_up {D : Nat} (c : Nat) {r : Rat} (h : Wh D r) : Wh (D * c) r ∧ ab (D * c) r = ab D r * c := by
  have := wh_mul h (wh_c (c := c)).1
  rw [Rat.mul_one, wh_c.2] at this
  exact this
theorem wh_neg {D : Nat} {r : Rat} (h : Wh D r) : Wh D (-r) ∧ ab D (-r) = ab D r := by
  obtain ⟨a, ha⟩ := h
  have e : (-r) * ((D : Int) : Rat) = ((-a : Int) : Rat) := by rw [Rat.neg_mul, ha, Rat.intCast_neg]
  refine ⟨⟨_, e⟩, ?_⟩
  rw [ab_of e, ab_of ha, Int.natAbs_neg]
theorem ab_small {D : Nat} (hD : 0 < D) {r : Rat} (h : Wh D r) : r.num.natAbs ≤ ab D r ∧ r.den ≤ D := by
  obtain ⟨z, hz⟩ := h
  rw [ab_of hz]
  have dp := r.den_pos
  have e0 : r = z /. (D : Int) := by
    have h1 : ((D : Int) : Rat) ≠ 0 := by
      intro h
      have := Rat.intCast_inj.mp (h.trans rfl : ((D : Int) : Rat) = ((0 : Int) : Rat))
      omega
    rw [Rat.divInt_eq_div, ← hz, Rat.mul_div_cancel h1]
  have e1 : r.num * (D : Int) = z * (r.den : Int) := by
    have h1 : r.num /. (r.den : Int) = z /. (D : Int) := (Rat.num_divInt_den r).trans e0
    exact (Rat.divInt_eq_divInt_iff (by omega) (by omega)).mp h1
  have e2 : r.num.natAbs * D = z.natAbs * r.den := by
    have := congrArg Int.natAbs e1
    rw [Int.natAbs_mul, Int.natAbs_mul, Int.natAbs_natCast, Int.natAbs_natCast] at this
    exact this
  have dv : r.den ∣ D := by
    have : r.den ∣ r.num.natAbs * D := ⟨z.natAbs, by rw [e2, Nat.mul_comm]⟩
    exact (Nat.Coprime.symm r.reduced).dvd_of_dvd_mul_left this
  refine ⟨?_, Nat.le_of_dvd hD dv⟩
  obtain ⟨c, hc⟩ := dv
  have hc0 : 0 < c := by
    rcases Nat.eq_zero_or_pos c with h | h
    · rw [h] at hc
      omega
    · exact h
  have : z.natAbs = r.num.natAbs * c := by
    have h3 : r.den * z.natAbs = r.den * (r.num.natAbs * c) := by
      rw [Nat.mul_comm r.den z.natAbs, ← e2, hc, Nat.mul_left_comm]
    exact Nat.eq_of_mul_eq_mul_left dp h3
  rw [this]
  exact Nat.le_mul_of_pos_right _ hc0
section
variable {κ : Type} [DecidableEq κ]
def wt (D : Nat) (p : List (κ × Rat)) : Nat := (p.map fun t => ab D t.2).sum
structure Lim (D N : Nat) (p : List (κ × Rat)) : Prop where
  w : ∀ t ∈ p, Wh D t.2
  s : wt D p ≤ N
variable {D E N M : Nat} {p q : List (κ × Rat)}
theorem wt_cons (t : κ × Rat) : wt D (t :: p) = ab D t.2 + wt D p := by unfold wt; rw [List.map_cons, List.sum_cons]
theorem wt_app : wt D (p ++ q) = wt D p + wt D q := by unfold wt; rw [List.map_append, List.sum_append]
theorem Lim.le (h : Lim D N p) (k : N ≤ M) : Lim D M p := ⟨h.w, Nat.le_trans h.s k⟩
theorem Lim.nil : Lim D N ([] : List (κ × Rat)) := ⟨fun _ h => (by cases h), Nat.zero_le _⟩
theorem Lim.app (h : Lim D N p) (k : Lim D M q) : Lim D (N + M) (p ++ q) := ⟨fun t ht => by
  rcases List.mem_append.mp ht with a | a
  · exact h.w t a
  · exact k.w t a, by rw [wt_app]; exact Nat.add_le_add h.s k.s⟩
theorem Lim.l (h : Lim D N (p ++ q)) : Lim D N p := ⟨fun t ht => h.w t (List.mem_append_left _ ht), by have := h.s; rw [wt_app] at this; omega⟩
theorem Lim.r (h : Lim D N (p ++ q)) : Lim D N q := ⟨fun t ht => h.w t (List.mem_append_right _ ht), by have := h.s; rw [wt_app] at this; omega⟩
theorem Lim.perm (h : Lim D N p) (k : p.Perm q) : Lim D N q := ⟨fun t ht => h.w t (k.mem_iff.mpr ht), by
  have := (k.map fun t => ab D t.2).sum_nat
  unfold wt
  rw [← this]
  exact h.s⟩
theorem Lim.at (h : Lim D N p) {t : κ × Rat} (ht : t ∈ p) : Wh D t.2 ∧ ab D t.2 ≤ N := by
  refine ⟨h.w t ht, Nat.le_trans ?_ h.s⟩
  obtain ⟨a, b, rfl⟩ := List.append_of_mem ht
  rw [wt_app, wt_cons]
  omega
theorem Lim.co (h : Lim D N p) (k : κ) : Wh D (co p k) ∧ ab D (co p k) ≤ N := by
  suffices ∀ p : List (κ × Rat), (∀ t ∈ p, Wh D t.2) → Wh D (Nd.co p k) ∧ ab D (Nd.co p k) ≤ wt D p by
    obtain ⟨a, b⟩ := this p h.w
    exact ⟨a, Nat.le_trans b h.s⟩
  intro p hp
  induction p with
  | nil => exact ⟨wh_nul, by rw [co_nil, ab_nul]; exact Nat.zero_le _⟩
  | cons t p ih =>
    obtain ⟨i1, i2⟩ := ih fun x hx => hp x (List.mem_cons_of_mem _ hx)
    have h1 := hp t List.mem_cons_self
    rw [co_cons, wt_cons]
    by_cases e : t.1 = k
    · rw [if_pos e]
      obtain ⟨j1, j2⟩ := wh_add h1 i1
      exact ⟨j1, by omega⟩
    · rw [if_neg e]
      obtain ⟨j1, j2⟩ := wh_add (wh_nul (D := D)) i1
      rw [ab_nul] at j2
      exact ⟨j1, by omega⟩
theorem Lim.up (h : Lim D N p) (c : Nat) : Lim (D * c) (N * c) p := by
  refine ⟨fun t ht => (wh_up c (h.w t ht)).1, Nat.le_trans (Nat.le_of_eq ?_) (Nat.mul_le_mul_right c h.s)⟩
  have hw := h.w
  clear h
  induction p with
  | nil => unfold wt; simp
  | cons t p ih =>
    rw [wt_cons, wt_cons, (wh_up c (hw t List.mem_cons_self)).2, ih fun x hx => hw x (List.mem_cons_of_mem _ hx), Nat.add_mul]
theorem Lim.map {ι : Type} [DecidableEq ι] {f : κ × Rat → ι × Rat} {c : Nat} (h : Lim D N p) (hf : ∀ t ∈ p, Wh D t.2 → Wh E (f t).2 ∧ ab E (f t).2 ≤ ab D t.2 * c) : Lim E (N * c) (p.map f) := by
  refine ⟨fun x hx => ?_, Nat.le_trans ?_ (Nat.mul_le_mul_right c h.s)⟩
  · obtain ⟨t, ht, rfl⟩ := List.mem_map.mp hx
    exact (hf t ht (h.w t ht)).1
  · have hw := h.w
    clear h
    induction p with
    | nil => unfold wt; simp
    | cons t p ih =>
      rw [List.map_cons, wt_cons, wt_cons, Nat.add_mul]
      exact Nat.add_le_add (hf t List.mem_cons_self (hw t List.mem_cons_self)).2 (ih (fun x hx => hf x (List.mem_cons_of_mem _ hx)) fun x hx => hw x (List.mem_cons_of_mem _ hx))
theorem Lim.flat {ι : Type} [DecidableEq ι] {f : κ × Rat → List (ι × Rat)} {c : Nat} (h : Lim D N p) (hf : ∀ t ∈ p, Wh D t.2 → Lim E (ab D t.2 * c) (f t)) : Lim E (N * c) (p.flatMap f) := by
  refine ⟨fun x hx => ?_, Nat.le_trans ?_ (Nat.mul_le_mul_right c h.s)⟩
  · obtain ⟨t, ht, hx⟩ := List.mem_flatMap.mp hx
    exact (hf t ht (h.w t ht)).w x hx
  · have hw := h.w
    clear h
    induction p with
    | nil => unfold wt; simp
    | cons t p ih =>
      rw [List.flatMap_cons, wt_app, wt_cons, Nat.add_mul]
      exact Nat.add_le_add (hf t List.mem_cons_self (hw t List.mem_cons_self)).s (ih (fun x hx => hf x (List.mem_cons_of_mem _ hx)) fun x hx => hw x (List.mem_cons_of_mem _ hx))
theorem Lim.filter (h : Lim D N p) (f : κ × Rat → Bool) : Lim D N (p.filter f) := by
  refine ⟨fun t ht => h.w t (List.mem_filter.mp ht).1, Nat.le_trans ?_ h.s⟩
  clear h
  induction p with
  | nil => exact Nat.le_refl _
  | cons t p ih =>
    rw [List.filter_cons, wt_cons]
    split
    · rw [wt_cons]
      omega
    · omega
variable [Od κ]
theorem lim_ins {k : κ} {v : Rat} (hv : Wh D v) (hw : ∀ t ∈ p, Wh D t.2) : (∀ t ∈ ins k v p, Wh D t.2) ∧ wt D (ins k v p) ≤ ab D v + wt D p := by
  induction p with
  | nil =>
    unfold ins
    split
    · exact ⟨fun _ h => (by cases h), Nat.zero_le _⟩
    · exact ⟨fun t h => by rw [List.mem_singleton.mp h]; exact hv, by rw [wt_cons]; exact Nat.le_refl _⟩
  | cons t p ih =>
    obtain ⟨i1, i2⟩ := ih fun x hx => hw x (List.mem_cons_of_mem _ hx)
    have h0 := hw t List.mem_cons_self
    have h1 : ∀ x ∈ p, Wh D x.2 := fun x hx => hw x (List.mem_cons_of_mem _ hx)
    obtain ⟨j1, j2⟩ := wh_add h0 hv
    unfold ins
    rw [wt_cons]
    split
    · split
      · exact ⟨h1, by omega⟩
      · refine ⟨fun x hx => ?_, by rw [wt_cons]; dsimp only; omega⟩
        rcases List.mem_cons.mp hx with rfl | hx
        · exact j1
        · exact h1 x hx
    · split
      · split
        · exact ⟨hw, by rw [wt_cons]; omega⟩
        · refine ⟨fun x hx => ?_, by rw [wt_cons, wt_cons]; exact Nat.le_refl _⟩
          rcases List.mem_cons.mp hx with rfl | hx
          · exact hv
          · exact hw x hx
      · refine ⟨fun x hx => ?_, by rw [wt_cons]; omega⟩
        rcases List.mem_cons.mp hx with rfl | hx
        · exact h0
        · exact i1 x hx
theorem Lim.cf (h : Lim D N p) : Lim D N (cf p) := by
  suffices ∀ p : List (κ × Rat), (∀ t ∈ p, Wh D t.2) → (∀ t ∈ Nd.cf p, Wh D t.2) ∧ wt D (Nd.cf p) ≤ wt D p by
    obtain ⟨a, b⟩ := this p h.w
    exact ⟨a, Nat.le_trans b h.s⟩
  intro p hp
  induction p with
  | nil => exact ⟨hp, Nat.le_refl _⟩
  | cons t p ih =>
    obtain ⟨i1, i2⟩ := ih fun x hx => hp x (List.mem_cons_of_mem _ hx)
    obtain ⟨j1, j2⟩ := lim_ins (k := t.1) (hp t List.mem_cons_self) i1
    refine ⟨j1, Nat.le_trans j2 ?_⟩
    rw [wt_cons]
    omega
end
/-- small enough to be divided by -/
def Sm (r : Rat) : Prop := r.num.natAbs < 2 ^ 4000 ∧ r.den < 2 ^ 4000
theorem sm_of {D N : Nat} {r : Rat} (h : Wh D r) (k : ab D r ≤ N) (hD : 0 < D) (hD2 : D < 2 ^ 4000) (hN : N < 2 ^ 4000) : Sm r := by
  obtain ⟨a, b⟩ := ab_small hD h
  exact ⟨Nat.lt_of_le_of_lt (Nat.le_trans a k) hN, Nat.lt_of_le_of_lt b hD2⟩
/-- limits under which all is done -/
structure LimB (D N : Nat) : Prop where
  p : 0 < D
  d : D < 2 ^ 4000
  n : N < 2 ^ 4000
theorem Lim.sm {κ : Type} [DecidableEq κ] {D N : Nat} {p : List (κ × Rat)} (h : Lim D N p) (b : LimB D N) {t : κ × Rat} (ht : t ∈ p) : Sm t.2 := sm_of (h.at ht).1 (h.at ht).2 b.p b.d b.n
theorem Lim.smc {κ : Type} [DecidableEq κ] {D N : Nat} {p : List (κ × Rat)} (h : Lim D N p) (b : LimB D N) (k : κ) : Sm (Nd.co p k) := sm_of (h.co k).1 (h.co k).2 b.p b.d b.n
end Nd
namespace Nd
set_option autoImplicit false
open PySem PySem.W L2 My Evl PyProof.Rows Lean.Grind
/-! ### derivatives and monomials in order -/
instance : Od Dv where
  lt u v := dataLt u.D v.D
  irr u := lex_irrefl _
  tr h k := lex_trans _ _ _ h k
  tri {u v} h := dlt_ne (alike_dv u v) (by rw [eqv_dv0, decide_eq_false h])
instance : Od Mo where
  lt m n := dataLt (moD m) (moD n)
  irr m := lex_irrefl _
  tr h k := lex_trans _ _ _ h k
  tri {m n} h := dlt_ne (alike_mo m n) (by rw [eqv_mo, decide_eq_false h])
abbrev Pq := List (Mo × Rat)
/-- a monomial as it should be -/
structure MoC (m : Mo) : Prop where
  c : Cn m
  p : ∀ x ∈ m, 0 < x.2
structure PoC (p : Pq) : Prop where
  c : Cn p
  m : ∀ t ∈ p, MoC t.1
def tq (t : Mo × Rat) : Mo × Fr := (t.1, fr t.2)
def toPo (p : Pq) : Po := p.map tq
/-- monomials together -/
def mm (m n : Mo) : Mo := cf (m ++ n)
theorem co_nn {m : Mo} (h : ∀ x ∈ m, 0 ≤ x.2) (u : Dv) : 0 ≤ co m u := by
  induction m with
  | nil => exact Int.le_refl 0
  | cons x m ih =>
    rw [co_cons]
    have h1 := ih fun y hy => h y (List.mem_cons_of_mem _ hy)
    have h2 := h x List.mem_cons_self
    split
    · exact Int.add_nonneg h2 h1
    · exact Int.add_nonneg (Int.le_refl 0) h1
theorem moc_cf {m : Mo} (h : ∀ u, 0 ≤ co m u) : MoC (cf m) := ⟨cn_cf m, fun x hx => by
  have h1 := cf_mem hx
  have h2 := h x.1
  have h3 : x.2 ≠ 0 := (cn_cf m).nz x hx
  omega⟩
theorem moc_mm {m n : Mo} (h : MoC m) (k : MoC n) : MoC (mm m n) := moc_cf fun u => by
  rw [co_app]
  exact Int.add_nonneg (co_nn (fun x hx => Int.le_of_lt (h.p x hx)) u) (co_nn (fun x hx => Int.le_of_lt (k.p x hx)) u)
theorem mm_nil {m : Mo} (h : MoC m) : mm [] m = m := cf_cn h.c
theorem mm_nil' {m : Mo} (h : MoC m) : mm m [] = m := by
  unfold mm
  rw [List.append_nil]
  exact cf_cn h.c
theorem poc_cf {p : Pq} (h : ∀ t ∈ p, MoC t.1) : PoC (cf p) := ⟨cn_cf p, fun t ht => by
  obtain ⟨y, hy, e⟩ := List.mem_map.mp (cf_key ht)
  exact e ▸ h y hy⟩
theorem poc_nil : PoC [] := ⟨⟨.nil, fun _ h => by cases h⟩, fun _ h => by cases h⟩
theorem moc_nil : MoC [] := ⟨⟨.nil, fun _ h => by cases h⟩, fun _ h => by cases h⟩
/-- each number times r -/
def scP (p : Pq) (r : Rat) : Pq := p.map fun t => (t.1, t.2 * r)
theorem co_sc (p : Pq) (r : Rat) (m : Mo) : co (scP p r) m = co p m * r := by
  induction p with
  | nil => exact (Rat.zero_mul r).symm
  | cons t p ih =>
    show co ((t.1, t.2 * r) :: scP p r) m = _
    rw [co_cons, co_cons, ih]
    dsimp only
    split <;> grind
/-- all terms of a product, one by one -/
def rowP (t : Mo × Rat) (q : Pq) : Pq := q.map fun s => (mm t.1 s.1, t.2 * s.2)
def mulR (p q : Pq) : Pq := p.flatMap fun t => rowP t q
def addP (p q : Pq) : Pq := cf (p ++ q)
def mulP (p q : Pq) : Pq := cf (mulR p q)
theorem mem_row {t : Mo × Rat} {q : Pq} {z : Mo × Rat} (h : z ∈ rowP t q) : ∃ s ∈ q, z.1 = mm t.1 s.1 := by
  obtain ⟨s, hs, rfl⟩ := List.mem_map.mp h
  exact ⟨s, hs, rfl⟩
theorem moc_mulR {p q : Pq} (h : ∀ t ∈ p, MoC t.1) (k : ∀ t ∈ q, MoC t.1) : ∀ t ∈ mulR p q, MoC t.1 := fun z hz => by
  obtain ⟨t, ht, hz⟩ := List.mem_flatMap.mp hz
  obtain ⟨s, hs, e⟩ := mem_row hz
  rw [e]
  exact moc_mm (h t ht) (k s hs)
theorem poc_add {p q : Pq} (h : PoC p) (k : PoC q) : PoC (addP p q) := poc_cf fun t ht => by
  rcases List.mem_append.mp ht with a | a
  · exact h.m t a
  · exact k.m t a
theorem poc_mul {p q : Pq} (h : PoC p) (k : PoC q) : PoC (mulP p q) := poc_cf (moc_mulR h.m k.m)
theorem poc_sc {p : Pq} {r : Rat} (h : PoC p) (hr : r ≠ 0) : PoC (scP p r) := by
  refine ⟨⟨List.pairwise_map.mpr h.c.up, fun z hz => ?_⟩, fun z hz => ?_⟩
  · obtain ⟨t, ht, rfl⟩ := List.mem_map.mp hz
    intro e
    rcases Rat.mul_eq_zero.mp e with a | a
    · exact h.c.nz t ht a
    · exact hr a
  · obtain ⟨t, ht, rfl⟩ := List.mem_map.mp hz
    exact h.m t ht
/-- co of a product, as a sum over the first -/
theorem co_flat (f : Mo × Rat → Pq) (m : Mo) : ∀ p : Pq, co (p.flatMap f) m = lin (fun k (v : Rat) => co (f (k, v)) m) p
  | [] => rfl
  | t :: p => by
    rw [List.flatMap_cons, co_app, co_flat f m p]
    rfl
theorem co_row (t : Mo × Rat) (q : Pq) (m : Mo) : co (rowP t q) m = t.2 * co (rowP (t.1, 1) q) m := by
  induction q with
  | nil => exact (Rat.mul_zero t.2).symm
  | cons s q ih =>
    show co ((mm t.1 s.1, t.2 * s.2) :: rowP t q) m = t.2 * co ((mm t.1 s.1, 1 * s.2) :: rowP (t.1, 1) q) m
    rw [co_cons, co_cons, ih]
    dsimp only
    split <;> grind
theorem co_mulR (p q : Pq) (m : Mo) : co (mulR p q) m = lin (fun k (v : Rat) => v * co (rowP (k, 1) q) m) p := by
  unfold mulR
  rw [co_flat]
  congr
  funext k v
  exact co_row (k, v) q m
theorem mul_l {p p' : Pq} (q : Pq) (h : ∀ m, co p m = co p' m) (m : Mo) : co (mulR p q) m = co (mulR p' q) m := by
  rw [co_mulR, co_mulR]
  exact lin_co (f := fun k (v : Rat) => v * co (rowP (k, 1) q) m) (fun k => Rat.zero_mul _) (fun k a b => Rat.add_mul a b _) h
theorem mulR_app (p p' q : Pq) : mulR (p ++ p') q = mulR p q ++ mulR p' q := List.flatMap_append
theorem one_mul {p : Pq} (h : PoC p) : mulP [([], 1)] p = p := by
  unfold mulP
  have : mulR [([], 1)] p = p := by
    show rowP ([], 1) p ++ [] = p
    rw [List.append_nil]
    unfold rowP
    conv => rhs; rw [← List.map_id p]
    refine List.map_congr_left fun s hs => ?_
    show (mm [] s.1, (1 : Rat) * s.2) = s
    rw [mm_nil (h.m s hs), Rat.one_mul]
  rw [this]
  exact cf_cn h.c
theorem mul_nul (p : Pq) : mulP p [] = [] := by
  unfold mulP
  have : mulR p [] = [] := by
    unfold mulR
    rw [List.flatMap_eq_nil_iff]
    intro t _
    rfl
  rw [this]
  rfl
/-- p less p -/
theorem add_neg (p : Pq) : addP p (scP p (-1)) = [] := by
  refine cn_ext (cn_cf _) poc_nil.c fun m => ?_
  unfold addP
  rw [co_cf, co_app, co_sc]
  show _ = (0 : Rat)
  grind
theorem mulR_len (p q : Pq) : (mulR p q).length = p.length * q.length := by
  induction p with
  | nil => exact (Nat.zero_mul _).symm
  | cons t p ih =>
    show (rowP t q ++ mulR p q).length = _
    rw [List.length_append, ih]
    show (q.map _).length + _ = (p.length + 1) * q.length
    rw [List.length_map, Nat.add_mul, Nat.one_mul, Nat.add_comm]
theorem mulP_len (p q : Pq) : (mulP p q).length ≤ p.length * q.length := Nat.le_trans (cf_len _) (Nat.le_of_eq (mulR_len p q))
theorem addP_len (p q : Pq) : (addP p q).length ≤ p.length + q.length := Nat.le_trans (cf_len _) (Nat.le_of_eq (List.length_append ..))
/-! ### deriving -/
def upD (u : Dv) (x : Bool) : Dv := if x then ⟨u.n, u.i + 1, u.j⟩ else ⟨u.n, u.i, u.j + 1⟩
/-- one factor less, and its derivative once more -/
def dMo (m : Mo) (u : Dv) (x : Bool) : Mo := cf (m ++ [(u, -1), (upD u x, 1)])
def derT (t : Mo × Rat) (x : Bool) : Pq := t.1.map fun y => (dMo t.1 y.1 x, t.2 * (y.2 : Rat))
def derR (p : Pq) (x : Bool) : Pq := p.flatMap fun t => derT t x
def derP (p : Pq) (x : Bool) : Pq := cf (derR p x)
theorem co_pair (u : Dv) (x : Bool) (v : Dv) : co [(u, (-1 : Int)), (upD u x, 1)] v = (if u = v then -1 else 0) + ((if upD u x = v then 1 else 0) + 0) := rfl
theorem moc_d {m : Mo} (h : MoC m) {y : Dv × Int} (hy : y ∈ m) (x : Bool) : MoC (dMo m y.1 x) := moc_cf fun v => by
  rw [co_app, co_pair]
  have h1 := co_nn (fun x hx => Int.le_of_lt (h.p x hx)) v
  by_cases e : y.1 = v
  · have := h.p y hy
    rw [← e, co_one h.c.nd hy, if_pos rfl]
    split <;> omega
  · rw [if_neg e]
    split <;> omega
theorem poc_der {p : Pq} (h : PoC p) (x : Bool) : PoC (derP p x) := poc_cf fun z hz => by
  obtain ⟨t, ht, hz⟩ := List.mem_flatMap.mp hz
  obtain ⟨y, hy, rfl⟩ := List.mem_map.mp hz
  exact moc_d (h.m t ht) hy x
end Nd
namespace Nd
set_option autoImplicit false
open PySem PySem.Spec PySem.W PySem.Calls PyProof.Rows L2 My Evl
/-! ### dicts by nested keys: read -/
theorem at_look {k : NestedKey} {xs : List NV} {us : List Value} (r : Vals (xs.map (·.2.2)) us) {d : V} {u : Value} (rd : RelV d u) :
    RelV ((look xs k).getD d) (((atKey (lay xs us) k).map (·.2)).getD u) := by
  obtain ⟨_, h2, h3⟩ := at_lay (k := k) r
  cases e : look xs k with
  | none =>
    rw [h3 e]
    exact rd
  | some v =>
    obtain ⟨b, u', hu, rv⟩ := h2 v e
    rw [hu]
    exact rv
section
variable {X : Cx} {o i f : Expr} {pos apos cpos : Pos} {td ty tx : TE}
/-- d[k] -/
def tDGetN (P : Program) (w : World) (K : PySem.W.Frag) (td ty : TE) : TE := fun σ H Q => td σ H fun x H1 => ty σ H1 fun y H2 => ∃ (d a : Addr) (xs : List NV) (k : NestedKey) (v : V), x = .ref d ∧ y = .ref a ∧ H2 d = some (DN P w d xs) ∧ KeysOk K H2 xs ∧ KeyAt K H2 a k ∧ look xs k = some v ∧ Q v H2
theorem isD_n {pins : List (Addr × Obj)} {σ : L2.St} {H : Hp} {s : Shared} {d : Addr} {xs : List NV} (I : Inv X pins σ H s) (h : H d = some (DN X.prog X.w d xs)) : s.TypeIs (.ref d) "dict" ∧ ∃ ob, s.heap.get? d = some ob ∧ ob.ExactDict := by
  obtain ⟨_, _, _, ob, _, _, _, h1, h2, _⟩ := (I.hok d _ h).1
  exact ⟨⟨ob, h1, h2.1⟩, ob, h1, h2⟩
theorem pe_dgetN (hu : X.A.units + 9 < cLine) (ho : PE X o td) (hi : PE X i ty) (hs : NoSl i) : PE X (.Subscript o i pos) (tDGetN X.prog X.w X.K td ty) := by
  constructor
  intro pins s σ H Q I h
  refine subD_of PySem.F.slot_dict_getitem.lookup hs (thn (ho.run pins s σ H _ I h) fun u s1 z => ?_)
  obtain ⟨x, H1, I1, rx, q1⟩ := z
  refine thn (hi.run pins s1 σ H1 _ I1 q1) fun iv s2 z => ?_
  obtain ⟨y, H2, I2, ry, d, a, xs, k, v, ex, ey, hd, hk, hkey, hl, q⟩ := z
  subst ex ey
  obtain rfl : u = Value.ref d := rx
  obtain rfl : iv = Value.ref a := ry
  obtain ⟨z1, z2, us, r, m⟩ := dn_of I2 hd hk
  obtain ⟨_, h2, _⟩ := at_lay (k := k) r
  obtain ⟨b, u', hu', rv⟩ := h2 v hl
  refine ⟨(isD_n I2 hd).1, wpAny_getItem_heap (knd := nestedKind X.prog X.w) (by show X.A.units + 1 + 8 < cLine; omega) (key_is I2 hkey) m hu' ?_⟩
  exact ⟨v, H2, I2.tok _, rv, q⟩
/-- d.get(k, x) -/
def tDGet2N (P : Program) (w : World) (K : PySem.W.Frag) (td ty tx : TE) : TE := fun σ H Q => td σ H fun x H1 => ∃ d, x = .ref d ∧ (∃ xs, H1 d = some (DN P w d xs)) ∧ ty σ H1 fun y H2 => tx σ H2 fun z H3 =>
  ∃ (a : Addr) (xs : List NV) (k : NestedKey), y = .ref a ∧ H3 d = some (DN P w d xs) ∧ KeysOk K H3 xs ∧ KeyAt K H3 a k ∧ Q ((look xs k).getD z) H3
theorem pe_dget2N (hu : X.A.units + 9 < cLine) (ho : PE X o td) (he : PE X i ty) (hf : PE X f tx) (m : M2 X o "get" apos i f cpos) : PE X (.Call (.Attribute o "get" apos) [i, f] [] cpos) (tDGet2N X.prog X.w X.K td ty tx) := by
  constructor
  intro pins s σ H Q I h
  refine wpAny_Call_method m.base m.few m.line PySem.F.plainAttrs_dict PySem.F.slot_dict_get PySem.F.type_dict_get (thn (ho.run pins s σ H _ I h) fun u s1 z => ?_)
  obtain ⟨x, H1, I1, rx, d, ex, ⟨xs0, hd0⟩, q1⟩ := z
  subst ex
  obtain rfl : u = Value.ref d := rx
  obtain ⟨t1, ob, t2, t3⟩ := isD_n I1 hd0
  refine ⟨t1, fun b e => by cases e; exact ⟨ob, t2, t3.2.1⟩, ?_⟩
  rw [m.trees]
  refine callWith_builtin rfl (evalArgs_plain (spliced_cons (thn (he.run pins s1 σ H1 _ I1 q1) fun iv s2 z => ?_)))
  obtain ⟨y, H2, I2, ry, q2⟩ := z
  refine spliced_cons (thn (hf.run pins s2 σ H2 _ I2 q2) fun fv s3 z => spliced_nil ?_)
  obtain ⟨zv, H3, I3, rz, a, xs, k, ey, hd, hk, hkey, q⟩ := z
  subst ey
  obtain rfl : iv = Value.ref a := ry
  obtain ⟨z1, z2, us, r, mm⟩ := dn_of I3 hd hk
  refine call_meetsIn PySem.F.slot_dict_get mm.typeIs PySem.F.entry_dict_get (PySem.F.args_dict_get_3 _ _ _) (meetsH_dict_get_default (nestedKind X.prog X.w) d a z1 fv) ⟨by show X.A.units + 1 + 8 < cLine; omega, k, _, key_is I3 hkey, mm, ?_⟩
  exact ⟨_, H3, I3.tok _, at_look r rz, q⟩
end
end Nd
namespace Nd
set_option autoImplicit false
open PySem PySem.Spec PySem.W PySem.Calls PyProof.Rows L2 My Evl
/-! ### dicts by nested keys: comprehensions -/
section
variable {X : Cx}
theorem setN {pins : List (Addr × Obj)} {σ : L2.St} {H : Hp} {s : Shared} {Er : Value → Shared → Prop} {Q : Unit → Shared → Prop} {d a : Addr} {xs : List NV} {k : NestedKey} {v : V} {u r : Value} (hu : X.A.units + 9 < cLine) (I : Inv X pins σ H s)
    (hd : H d = some (DN X.prog X.w d xs)) (hk : KeysOk X.K H xs) (hkey : KeyAt X.K H a k) (hz : xs.length < 100000) (ru : RelV (V.ref a) u) (rv : RelV v r)
    (q : ∀ t, Inv X pins σ (upd H d (DN X.prog X.w d (putN xs k a v))) t → Q () t) : wpAny (model X.prog X.w) X.A (dictSet d u r) Q Er s := by
  obtain rfl : u = Value.ref a := ru
  obtain ⟨z1, z2, us, rr, m⟩ := dn_of I hd hk
  have big : (100000 : Nat) ≤ sizeLine := by decide
  refine wpAny_dictSet_heap (knd := nestedKind X.prog X.w) (xs := lay xs us) (by show X.A.units + 8 < cLine; omega) (key_is I hkey) m (fun h' m' sb => q _ ?_) (by rw [lay_len (vlen rr)]; omega)
  obtain ⟨ws, w1, w2⟩ := lay_store (k := k) (a := a) rr rv
  rw [w2] at m'
  have there : ∃ o, h'.get? d = some o := by
    obtain ⟨o, _, _, ho, _⟩ := m'
    exact ⟨o, ho⟩
  have := put_len (xs := xs) (k := k) (a := a) (v := v)
  exact I.write (e := d) (by rw [hd]; trivial) (.inl rfl) (fun b o hb e => (sb.2 b hb).trans e) there (dn_ok (dn_to z1 (by omega) w1 m'))
/-- {k: v for target in iter if ..}: d the new dict -/
def tDcN (P : Program) (w : World) (K : PySem.W.Frag) (wi : TI) (g : TG) (tt : TT) (tk tv : TE) (vs : List Nat) : TE := fun σ H Q => wi σ H fun J H1 => ∀ d, H1 d = none →
  ∃ W : Nat → Nat → Hp → Prop, (∃ m, W 0 m (upd H1 d (DN P w d []))) ∧ ∀ i m H, W i m H → (J.stop i H ∧ Q (.ref d) H) ∨ (J.go i H ∧
    ∃ Nx : Hp → Prop, (∀ H', Nx H' → ∃ m', m' < m ∧ W (i + 1) m' H') ∧ ∀ x H', J.yld i H x H' → g x (wipe σ vs) H' fun σ2 H2 => wipe σ2 vs = wipe σ vs ∧ tt σ2 H2 fun b H3 =>
      if b = true then tk σ2 H3 fun y H4 => tv σ2 H4 fun z H5 => ∃ (a : Addr) (xs : List NV) (k : NestedKey), y = .ref a ∧ H5 d = some (DN P w d xs) ∧ KeysOk K H5 xs ∧ KeyAt K H5 a k ∧ xs.length < 100000 ∧ Nx (upd H5 d (DN P w d (putN xs k a z)))
      else Nx H3)
/-- a promise in every block of this comprehension -/
abbrev InBlk (X : Cx) (sc : Scope) (f : Cx → Prop) : Prop := ∀ (s : Shared) (H : Hp) (c : Addr) (cl : List (Str × Addr)) (fp : List Addr), f (X.blk s H sc (compEnvC sc cl c X.env) fp)
theorem dcN_core {pins : List (Addr × Obj)} {s : Shared} {σ : L2.St} {H : Hp} {Q : VK} {ke ve tg it0 : Expr} {fs : List Expr} {sc : Scope} {own : List (Str × Nat)} {pos pos' : Pos} {wi : TI} {g : TG} {tt : TT} {tk tv : TE} {use : Option (Value → Sem Unit)} {Qf : Value → Shared → Prop} (hu : X.A.units + 9 < cLine) (calm : X.calm = true) (nd : X.N.Nodup) (I : Inv X pins σ H s) (hi : PI X tg it0 wi) (bk : BlkOk X.N X.env.scope sc own)
    (hg : InBlk X sc fun Y => PG Y tg g) (ht : InBlk X sc fun Y => PTs Y fs tt) (hk : InBlk X sc fun Y => PE Y ke tk) (hv : InBlk X sc fun Y => PE Y ve tv) (nofold : ∀ x, foldedSetIterable it0 X.env x = pure x) (h : tDcN X.prog X.w X.K wi g tt tk tv (own.map (·.2)) σ H Q)
    (fine : ∀ D C s' m H', Inv X pins σ H' s' → Q (.ref D) H' → s'.heap.Ns C m → FpOk X pins H' C → compPost (model X.prog X.w) X.A X.xe use Qf (.ref D) C (.ok .next) s') :
    wpAny (model X.prog X.w) X.A (comprehension (.DictComp ke ve [⟨tg, it0, fs, 0⟩] sc pos) sc X.env pos' newDict false (eval it0 X.env) use) Qf X.xe s := by
  have cells : ∀ y ∈ sc.names, y.2 = .free → ∃ c, X.env.cells.lookup y.1 = some c := fun y hy e => I.ok.has _ (bk.free y hy e)
  refine wpAny_comprehension_free (use := use) rfl nofold (closure_ok cells) bk.kind (fun y hy e => e ▸ bk.uniq y hy) (thn (hi.run pins s σ H _ I h) fun xv s1 hx => thn hx fun itv s2 h2 => ?_)
  obtain ⟨a, fp, tn, J, H2, rfl, I2, T, st2, f2, q⟩ := h2
  refine wpAny_newObj_type (newEnv_comp ?_)
  generalize hD : s2.heap.objs.size = d
  have dn : H2 d = none := I2.hok.fresh (Nat.le_of_eq hD)
  obtain ⟨W, ⟨m0, w0⟩, turn⟩ := q d dn
  -- the new dict
  generalize hs3 : ({ s2 with heap := s2.heap.push { cls := .type "dict", data := .dict #[] } } : Shared) = s3
  have heap3 : s3.heap = s2.heap.push { cls := .type "dict", data := .dict #[] } := by subst hs3; rfl
  have keep3 : ∀ b o, s2.heap.get? b = some o → s3.heap.get? b = some o := fun b o e => by
    rw [heap3]
    exact Heap.get?_push_of_some _ e
  have I3 : Inv X pins σ (upd H2 d (DN X.prog X.w d [])) s3 := by
    subst hs3 hD
    exact I2.laid (a := s2.heap.objs.size) (o := DN X.prog X.w s2.heap.objs.size []) (t' := s2.toks) (fun _ _ e => Heap.get?_push_of_some _ e) (Nat.le_refl _)
      (dn_ok (dn_to (us := []) (beq_eq_false_iff_ne.mpr (Nat.ne_of_gt I2.big)) (by decide) .nil (Heap.DictOfH.new s2.heap)))
  have f3 : ∀ b ∈ fp, FpOk X pins (upd H2 d (DN X.prog X.w d [])) b ∧ b < s3.heap.objs.size := fun b hb => by
    obtain ⟨o, e, _⟩ := T.obj _ _ st2 b hb
    have lt : b < s2.heap.objs.size := Heap.lt_size e
    refine ⟨⟨?_, (f2 b hb).2⟩, Heap.lt_size (keep3 _ _ e)⟩
    rw [upd_ne (hD ▸ Nat.ne_of_lt lt)]
    exact (f2 b hb).1
  have st3 : tn 0 s3.heap := T.keep _ _ _ st2 fun b _ o e => keep3 b o e
  have I4 := block_start I3 bk nd f3
  have nfp : ∀ b ∈ fp, (upd H2 d (DN X.prog X.w d [])) b = none := fun b hb => (f3 b hb).1.1
  generalize hH3 : upd H2 d (DN X.prog X.w d []) = H3 at I3 I4 w0 nfp f3
  have pg := hg s3 H3 s3.heap.objs.size (cellsFrom (s3.heap.objs.size + 1) sc.names (cloFrom X.env.cells sc.names [])) fp
  have pt := ht s3 H3 s3.heap.objs.size (cellsFrom (s3.heap.objs.size + 1) sc.names (cloFrom X.env.cells sc.names [])) fp
  have pk := hk s3 H3 s3.heap.objs.size (cellsFrom (s3.heap.objs.size + 1) sc.names (cloFrom X.env.cells sc.names [])) fp
  have pv := hv s3 H3 s3.heap.objs.size (cellsFrom (s3.heap.objs.size + 1) sc.names (cloFrom X.env.cells sc.names [])) fp
  show codeAny _ _ (.compStart (.DictComp ke ve [⟨tg, it0, fs, 0⟩] sc pos) 0 (.ref a) (.ref d) (compEnvC sc (cellsFrom (s3.heap.objs.size + 1) sc.names (cloFrom X.env.cells sc.names [])) s3.heap.objs.size X.env)) (compPost (model X.prog X.w) X.A X.xe use Qf (.ref d) s3.heap.objs.size) { s3 with heap := pushCells (s3.heap.push { cls := .type "dict", data := .dict #[] }) sc.names }
  generalize hce : compEnvC sc (cellsFrom (s3.heap.objs.size + 1) sc.names (cloFrom X.env.cells sc.names [])) s3.heap.objs.size X.env = ce at I4 pg pt pk pv ⊢
  have loc : ce.locals = s3.heap.objs.size := by subst hce; rfl
  generalize hs4 : ({ s3 with heap := pushCells (s3.heap.push { cls := .type "dict", data := .dict #[] }) sc.names } : Shared) = s4 at I4 ⊢
  have st4 : tn 0 s4.heap := T.keep _ _ _ st3 fun b _ o e => by
    subst hs4
    exact pushCells_keeps _ _ _ _ (Heap.get?_push_of_some _ e)
  -- what is known of the things walked over, in the block
  have stat : ∀ {σ' : L2.St} {H' : Hp} {t : Shared}, Inv (X.blk s3 H3 sc ce fp) [] σ' H' t → (∀ b ∈ fp, H' b = none) → ∀ b ∈ fp, FpOk (X.blk s3 H3 sc ce fp) [] H' b := by
    intro σ' H' t I' no b hb
    have x := I'.ok.exf b hb
    exact ⟨no b hb, x.1, I'.ok.exfs b hb, .inl hb, fun y c e => x.2 y c e, fun p hp => by cases hp⟩
  have loop : codeAny (model X.prog X.w) X.A (.compLoop (.DictComp ke ve [⟨tg, it0, fs, 0⟩] sc pos) 0 (.ref a) (.ref d) ce) (compPost (model X.prog X.w) X.A X.xe use Qf (.ref d) s3.heap.objs.size) s4 := by
    refine compLoop_anyD (fun n t => ∃ i H', Inv (X.blk s3 H3 sc ce fp) [] (wipe σ (own.map (·.2))) H' t ∧ tn i t.heap ∧ (∀ b ∈ fp, H' b = none) ∧ W i n H') (fun n t J5 => ?_) m0 ⟨0, H3, I4, st4, nfp, w0⟩
    obtain ⟨i, H5, I5, st5, n5, w5⟩ := J5
    rcases turn i n H5 w5 with ⟨stop, fin⟩ | ⟨go, Nx, hNx, step⟩
    · refine thnF (T.done (X.blk s3 H3 sc ce fp) rfl rfl rfl calm i [] t _ H5 (fun _ _ => False) I5 (stat I5 n5) st5 stop) fun r t6 z => ?_
      obtain ⟨rfl, I6⟩ := z
      -- the def's context again
      have I7 : Inv X pins σ H5 t6 := I3.call' (ch := fp) I6.os I6.base I6.hok I6.bare fun b hb => by
        have x := (f3 b hb).1
        exact ⟨x.2.2.2.1, x.2.1, x.2.2.2.2.1, x.2.2.2.2.2⟩
      have nC : H5 ce.locals = none := I6.free
      obtain ⟨m, hn, _⟩ := I6.loc
      have hn2 : t6.heap.Ns ce.locals m := hn
      rw [loc] at nC hn2
      exact fine d s3.heap.objs.size t6 m H5 I7 fin hn2 (I3.fpOk (Nat.le_refl _) nC)
    · refine thnF (T.item (X.blk s3 H3 sc ce fp) rfl rfl rfl calm i [] t _ H5 (fun _ _ => False) I5 (stat I5 n5) st5 go) fun r t6 z => ?_
      obtain ⟨u, rfl, h6⟩ := z
      refine thnF h6 fun _ t7 z => ?_
      obtain ⟨x, H7, I7, r7, y7, st7, n7⟩ := z
      refine thnF (pg.run _ t7 _ H7 x u _ (I7.pinned (stat I7 n7) (T.obj _ _ st7)) r7 (step x H7 y7)) fun _ t8 z => ?_
      obtain ⟨σ8, H8, I8, w8, q8⟩ := z
      refine thnF (pt.run _ t8 σ8 H8 _ I8 q8) fun b t9 z => ?_
      obtain ⟨H9, I9, q9⟩ := z
      have wl : (wipe σ (own.map (·.2))).length = σ8.length := by rw [← w8, wipe_length]
      -- the next turn
      have next : ∀ {H' : Hp} {t' : Shared}, Inv (X.blk s3 H3 sc ce fp) ([] ++ pinsAt fp t7.heap) σ8 H' t' → Nx H' → ∃ m, m < n ∧ ∃ i H', Inv (X.blk s3 H3 sc ce fp) [] (wipe σ (own.map (·.2))) H' t' ∧ tn i t'.heap ∧ (∀ b ∈ fp, H' b = none) ∧ W i m H' := by
        intro H' t' I' nx
        obtain ⟨m', lt, w'⟩ := hNx H' nx
        have pin : ∀ b ∈ fp, ∀ o, t7.heap.get? b = some o → t'.heap.get? b = some o ∧ H' b = none := fun b hb o e => by
          have z := I'.pin (b, o) (List.mem_append_right _ (List.mem_append_right _ (mem_pinsAt hb e)))
          exact ⟨z.1, z.2.1⟩
        refine ⟨m', lt, i + 1, H', (I'.unpinned (pins := [])).weak wl (fun j v e => ?_), T.keep _ _ _ st7 fun b hb o e => (pin b hb o e).1, fun b hb => ?_, w'⟩
        · rw [← w8] at e
          exact (wipe_some e).1
        · obtain ⟨o, e, _⟩ := T.obj _ _ st7 b hb
          exact (pin b hb o e).2
      cases b with
      | false => exact next I9 q9
      | true =>
        refine thnF (pk.run _ t9 σ8 H9 _ I9 q9) fun z t10 y => ?_
        obtain ⟨yk, H10, I10, r10, q10⟩ := y
        refine thnF (pv.run _ t10 σ8 H10 _ I10 q10) fun z2 t11 y => ?_
        obtain ⟨yv, H11, I11, r11, ka, xs, k, rfl, hd11, hk11, hkey11, hz11, nx⟩ := y
        exact setN (X := X.blk s3 H3 sc ce fp) hu I11 hd11 hk11 hkey11 hz11 r10 r11 fun t12 I12 => next I12 nx
  exact codeAny_compStart_dict loop (T.self X.A 0 _ _ _ st4 loop)
theorem sw_dict {ke ve : Expr} {gs : List Comprehension} {sc : Scope} {pos py : Pos} {y : Str} {l : Nat} {env : Env} (hk : env.scope.kind = .function) (hy : env.scope.names.lookup y = some .local) (hl : (py.line == pos.line) = true)
    (no : (sc.names.any fun (n, k) => n == y && (k == .local || k == .cell)) = false) : swapsWith (.DictComp ke ve gs sc pos) (some (.Name y py)) l env = pure true := by
  have k1 : env.kindOf y = some .local := hy
  have k2 : env.blockKind = .function := by unfold Env.blockKind; rw [hk]; rfl
  unfold swapsWith
  simp only [k2, k1, no, Expr.pos, hl]
  rfl
/-- name = {..} on one line, the name a local -/
theorem ps_setDcN {i : Nat} {y : Str} {py : Pos} {ke ve tg it0 : Expr} {fs : List Expr} {sc : Scope} {own : List (Str × Nat)} {pos spos : Pos} {wi : TI} {g : TG} {tt : TT} {tk tv : TE} (hu : X.A.units + 9 < cLine) (calm : X.calm = true) (nd : X.N.Nodup) (ny : X.N[i]? = some y) (ly : X.env.scope.names.lookup y = some .local)
    (sw : swapsWith (.DictComp ke ve [⟨tg, it0, fs, 0⟩] sc pos) (some (.Name y py)) spos.line X.env = pure true) (hi : PI X tg it0 wi) (bk : BlkOk X.N X.env.scope sc own)
    (hg : InBlk X sc fun Y => PG Y tg g) (ht : InBlk X sc fun Y => PTs Y fs tt) (hk : InBlk X sc fun Y => PE Y ke tk) (hv : InBlk X sc fun Y => PE Y ve tv) (nofold : ∀ x, foldedSetIterable it0 X.env x = pure x := by intro _; rfl) :
    PS X (.Assign [.Name y py] (.DictComp ke ve [⟨tg, it0, fs, 0⟩] sc pos) spos) (tAsg (tDcN X.prog X.w X.K wi g tt tk tv (own.map (·.2))) (gName i)) := by
  constructor
  intro pins s σ H D I h
  rw [exec_Assign_Name_used _ _ _ _ sw]
  refine wpAny_bind (wpAny_standAt (wpAny_bind ?_))
  have h : tDcN X.prog X.w X.K wi g tt tk tv (own.map (·.2)) σ H (fun x H1 => gName i x σ H1 D.nx) := h
  refine wpAny_bind (thn (dcN_core (use := some (assign (.Name y py) X.env)) (Qf := fun _ t => SP X pins D .next t) hu calm nd I hi bk hg ht hk hv nofold h fun L C t m H' J q hn f => ?_) fun _ t z => wpAny_pure (wpAny_pure z))
  show wpAny _ _ (assign (.Name y py) X.env (.ref L)) _ _ _
  refine wpAny_assign_Name (store_ok2 (v := V.ref L) J nd ny (.inl ly) rfl (fun t2 J2 ⟨a, sb, ha⟩ => ?_) (.inr ly))
  obtain ⟨e0, e1, e2, e3, e4, e5⟩ := f
  have n : C ≠ a := by
    rcases ha with z | z
    · exact z ▸ e1
    · exact fun e => e4 y a z e.symm
  exact ⟨m, hn.sameBut sb n, fun t3 sb3 => ⟨_, H', J2.turned (t' := t2.toks) (fun b o hb e => (sb3.2 b hb).trans e) e0 e1 e3 e4 e5, q⟩⟩
end
end Nd
namespace Nd
set_option autoImplicit false
open PySem PySem.W L2 My Evl Lean.Grind
/-! ### what a dict by nested keys holds -/
structure Ky (K : PySem.W.Frag) (κ : Type) where
  kp : κ → Pr
  kd : κ → PyData
  to : ∀ k, To K (kp k) (kd k)
  rf : ∀ {k : κ} {v : V} {H : Hp}, (kp k).P v H → ∃ a, v = .ref a
  ks : ∀ k, keyish (kd k) = true
  inj : ∀ {a b : κ}, nk (kd a) = nk (kd b) → a = b
  dp : ∀ k, (nk (kd k)).depth ≤ 8
def kyM (K : PySem.W.Frag) : Ky K Mo := ⟨moP K, moD, to_mo, fun ⟨a, _, h, _⟩ => ⟨a, h⟩, keyish_mo, nkm_inj, deep_nkm⟩
def kyD (K : PySem.W.Frag) : Ky K Dv := ⟨DvP, Dv.D, to_dv, fun ⟨a, h, _⟩ => ⟨a, h⟩, fun u => by simp [Dv.D, keyish, keyishAll], nk_inj, deep_nk⟩
section
variable {κ β : Type} [DecidableEq κ]
def KG {K : PySem.W.Frag} (ky : Ky K κ) (vp : β → Pr) : List (κ × β) → List NV → Hp → Prop
  | [], [], _ => True
  | z :: zs, x :: xs, B => (x.1 = nk (ky.kd z.1) ∧ (ky.kp z.1).P (.ref x.2.1) B ∧ (vp z.2).P x.2.2 B) ∧ KG ky vp zs xs B
  | [], _ :: _, _ => False
  | _ :: _, [], _ => False
def hasG (zs : List (κ × β)) (k : κ) : Bool := zs.any fun z => decide (z.1 = k)
def putG (zs : List (κ × β)) (k : κ) (v : β) : List (κ × β) := if hasG zs k = true then zs.map fun z => if z.1 = k then (z.1, v) else z else zs ++ [(k, v)]
def valG (zs : List (κ × β)) (k : κ) : Option β := (zs.find? fun z => decide (z.1 = k)).map (·.2)
variable {K : PySem.W.Frag} {ky : Ky K κ} {vp : β → Pr} {B B' H : Hp}
theorem KG.m (e : Ex B B') : ∀ {zs : List (κ × β)} {xs : List NV}, KG ky vp zs xs B → KG ky vp zs xs B'
  | [], [], _ => trivial
  | _ :: _, _ :: _, h => ⟨⟨h.1.1, (ky.kp _).m e h.1.2.1, (vp _).m e h.1.2.2⟩, KG.m e h.2⟩
theorem KG.len : ∀ {zs : List (κ × β)} {xs : List NV}, KG ky vp zs xs B → xs.length = zs.length
  | [], [], _ => rfl
  | _ :: _, _ :: _, h => congrArg Nat.succ (KG.len h.2)
theorem KG.at : ∀ {zs : List (κ × β)} {xs : List NV} {i : Nat} {x : NV}, KG ky vp zs xs B → xs[i]? = some x → ∃ z, zs[i]? = some z ∧ x.1 = nk (ky.kd z.1) ∧ (ky.kp z.1).P (.ref x.2.1) B ∧ (vp z.2).P x.2.2 B
  | [], [], i, x, _, h => by simp at h
  | z :: _, y :: _, 0, x, h, e => by
    obtain rfl := Option.some.inj e
    exact ⟨z, rfl, h.1⟩
  | _ :: _, _ :: _, i + 1, x, h, e => KG.at (i := i) h.2 e
theorem KG.has (k : κ) : ∀ {zs : List (κ × β)} {xs : List NV}, KG ky vp zs xs B → hasN xs (nk (ky.kd k)) = hasG zs k
  | [], [], _ => rfl
  | z :: zs, x :: xs, h => by
    have ih := KG.has k h.2
    unfold hasN hasG at *
    rw [List.any_cons, List.any_cons, ih, h.1.1]
    congr 1
    rw [Bool.eq_iff_iff, decide_eq_true_eq, decide_eq_true_eq]
    exact ⟨ky.inj, fun e => by rw [e]⟩
theorem KG.app : ∀ {zs ys : List (κ × β)} {xs us : List NV}, KG ky vp zs xs B → KG ky vp ys us B → KG ky vp (zs ++ ys) (xs ++ us) B
  | [], _, [], _, _, h => h
  | _ :: _, _, _ :: _, _, a, h => ⟨a.1, KG.app a.2 h⟩
theorem KG.set {k : κ} {f : β} {v : V} (hf : (vp f).P v B) : ∀ {zs : List (κ × β)} {xs : List NV}, KG ky vp zs xs B → KG ky vp (zs.map fun z => if z.1 = k then (z.1, f) else z) (xs.map fun x => if x.1 = nk (ky.kd k) then (x.1, x.2.1, v) else x) B
  | [], [], _ => trivial
  | z :: zs, x :: xs, h => by
    refine ⟨?_, KG.set hf h.2⟩
    dsimp only
    by_cases e : z.1 = k
    · rw [if_pos e, if_pos (by rw [h.1.1, e])]
      exact ⟨h.1.1, h.1.2.1, hf⟩
    · rw [if_neg e, if_neg (fun q => e (ky.inj (h.1.1.symm.trans q)))]
      exact h.1
theorem KG.put {k : κ} {f : β} {a : Addr} {v : V} {zs : List (κ × β)} {xs : List NV} (h : KG ky vp zs xs B) (ha : (ky.kp k).P (.ref a) B) (hf : (vp f).P v B) : KG ky vp (putG zs k f) (putN xs (nk (ky.kd k)) a v) B := by
  unfold putG putN
  rw [h.has k]
  cases hasG zs k with
  | true => exact h.set hf
  | false => exact h.app ⟨⟨rfl, ha, hf⟩, trivial⟩
theorem Ky.at_ {k : κ} {a : Addr} (ky : Ky K κ) (h : (ky.kp k).P (.ref a) H) : KeyAt K H a (nk (ky.kd k)) := ⟨ky.kd k, ky.to k _ _ h, ky.ks k, rfl, ky.dp k⟩
theorem KG.ok {zs : List (κ × β)} {xs : List NV} (h : KG ky vp zs xs B) (e : Ex B H) : KeysOk K H xs := fun x hx => by
  obtain ⟨i, hi⟩ := List.mem_iff_getElem?.mp hx
  obtain ⟨z, _, h1, h2, _⟩ := (h.m e).at hi
  rw [h1]
  exact ky.at_ h2
theorem KG.look (k : κ) : ∀ {zs : List (κ × β)} {xs : List NV}, KG ky vp zs xs B → (valG zs k = none ∧ look xs (nk (ky.kd k)) = none) ∨ ∃ f v, valG zs k = some f ∧ look xs (nk (ky.kd k)) = some v ∧ (vp f).P v B
  | [], [], _ => .inl ⟨rfl, rfl⟩
  | z :: zs, x :: xs, h => by
    have ih := KG.look k h.2
    unfold valG Nd.look at *
    rw [List.find?_cons, List.find?_cons]
    by_cases e : z.1 = k
    · rw [_root_.decide_eq_true e, _root_.decide_eq_true (by rw [h.1.1, e])]
      exact .inr ⟨_, _, rfl, rfl, h.1.2.2⟩
    · rw [decide_eq_false e, decide_eq_false (fun q => e (ky.inj (h.1.1.symm.trans q)))]
      exact ih
theorem hasG_mem {zs : List (κ × β)} {k : κ} : hasG zs k = true ↔ k ∈ zs.map (·.1) := by
  unfold hasG
  rw [List.any_eq_true, List.mem_map]
  exact ⟨fun ⟨z, h, e⟩ => ⟨z, h, of_decide_eq_true e⟩, fun ⟨z, h, e⟩ => ⟨z, h, _root_.decide_eq_true e⟩⟩
theorem putG_keys (zs : List (κ × β)) (k : κ) (f : β) : (putG zs k f).map (·.1) = if hasG zs k = true then zs.map (·.1) else zs.map (·.1) ++ [k] := by
  unfold putG
  split
  · rw [List.map_map]
    refine List.map_congr_left fun z _ => ?_
    show (if z.1 = k then (z.1, f) else z).1 = z.1
    split <;> rfl
  · rw [List.map_append]
    rfl
theorem putG_nd {zs : List (κ × β)} {k : κ} {f : β} (h : (zs.map (·.1)).Nodup) : ((putG zs k f).map (·.1)).Nodup := by
  rw [putG_keys]
  split
  · exact h
  · rename_i e
    rw [List.nodup_append]
    exact ⟨h, by simp, fun a ha b hb => by
      rw [List.mem_singleton.mp hb]
      rintro rfl
      exact e (hasG_mem.mpr ha)⟩
theorem putG_mem {zs : List (κ × β)} {k : κ} {f : β} {z : κ × β} (h : z ∈ putG zs k f) : z ∈ zs ∨ z = (k, f) := by
  unfold putG at h
  split at h
  · obtain ⟨y, hy, e⟩ := List.mem_map.mp h
    split at e
    · rename_i q
      rw [q] at e
      exact .inr e.symm
    · exact .inl (e ▸ hy)
  · rcases List.mem_append.mp h with h | h
    · exact .inl h
    · exact .inr (List.mem_singleton.mp h)
theorem putG_len {zs : List (κ × β)} {k : κ} {f : β} : (putG zs k f).length ≤ zs.length + 1 := by
  unfold putG
  split
  · rw [List.length_map]
    omega
  · rw [List.length_append]
    exact Nat.le_refl _
variable [CommRing β]
theorem val_co {zs : List (κ × β)} (nd : (zs.map (·.1)).Nodup) (k : κ) : (valG zs k).getD 0 = co zs k := by
  induction zs with
  | nil => rfl
  | cons z zs ih =>
    rw [List.map_cons, List.nodup_cons] at nd
    unfold valG at *
    rw [List.find?_cons, co_cons]
    by_cases e : z.1 = k
    · rw [_root_.decide_eq_true e, if_pos e, co_none (fun y hy q => nd.1 (List.mem_map.mpr ⟨y, hy, q.trans e.symm⟩)), a_zero]
      rfl
    · rw [decide_eq_false e, if_neg e, z_add]
      exact ih nd.2
theorem val_no {zs : List (κ × β)} {k : κ} : valG zs k = none ↔ hasG zs k = false := by
  unfold valG hasG
  rw [Option.map_eq_none_iff, List.find?_eq_none, List.any_eq_false]
theorem put_co {zs : List (κ × β)} (nd : (zs.map (·.1)).Nodup) (k : κ) (f : β) (j : κ) : co (putG zs k f) j = if k = j then f else co zs j := by
  unfold putG
  cases e : hasG zs k with
  | false =>
    rw [if_neg Bool.false_ne_true, co_app, co_cons, co_nil, a_zero]
    have h0 : co zs k = 0 := co_none fun z hz q => by
      have : hasG zs k = true := hasG_mem.mpr (List.mem_map.mpr ⟨z, hz, q⟩)
      rw [e] at this
      cases this
    dsimp only
    by_cases q : k = j
    · rw [if_pos q, if_pos q, ← q, h0, z_add]
    · rw [if_neg q, if_neg q, a_zero]
  | true =>
    rw [if_pos rfl]
    have hm : ∃ z ∈ zs, z.1 = k := List.mem_map.mp (hasG_mem.mp e)
    clear e
    by_cases q : k = j
    · subst q
      rw [if_pos rfl]
      obtain ⟨z, hz, rfl⟩ := hm
      have hz2 : (z.1, f) ∈ zs.map fun y => if y.1 = z.1 then (y.1, f) else y := List.mem_map.mpr ⟨z, hz, by rw [if_pos rfl]⟩
      refine co_one ?_ hz2
      have := putG_nd (k := z.1) (f := f) nd
      unfold putG at this
      rw [if_pos (hasG_mem.mpr (List.mem_map.mpr ⟨z, hz, rfl⟩))] at this
      exact this
    · rw [if_neg q]
      clear nd hm
      induction zs with
      | nil => rfl
      | cons z zs ih =>
        rw [List.map_cons, co_cons, co_cons, ih]
        by_cases e : z.1 = k
        · rw [if_pos e, if_neg (by rw [e]; exact q), if_neg (by rw [e]; exact q)]
        · rw [if_neg e]
/-- r more at k -/
def addG (zs : List (κ × β)) (k : κ) (r : β) : List (κ × β) := putG zs k (co zs k + r)
theorem addG_co {zs : List (κ × β)} (nd : (zs.map (·.1)).Nodup) (k : κ) (r : β) (j : κ) : co (addG zs k r) j = co (zs ++ [(k, r)]) j := by
  unfold addG
  rw [put_co nd, co_app, co_cons, co_nil, a_zero]
  dsimp only
  by_cases q : k = j
  · rw [if_pos q, if_pos q, q]
  · rw [if_neg q, if_neg q, a_zero]
/-- all of l, one by one -/
def addAll (zs l : List (κ × β)) : List (κ × β) := l.foldl (fun zs z => addG zs z.1 z.2) zs
theorem addAll_nd : ∀ {l zs : List (κ × β)}, (zs.map (·.1)).Nodup → ((addAll zs l).map (·.1)).Nodup
  | [], _, h => h
  | _ :: l, _, h => addAll_nd (l := l) (putG_nd h)
theorem addAll_co : ∀ {l zs : List (κ × β)}, (zs.map (·.1)).Nodup → ∀ j, co (addAll zs l) j = co (zs ++ l) j
  | [], zs, _, j => by rw [List.append_nil]; rfl
  | z :: l, zs, h, j => by
    show co (addAll (addG zs z.1 z.2) l) j = _
    rw [addAll_co (zs := addG zs z.1 z.2) (putG_nd h), co_app, addG_co h, co_app, co_app, co_cons, co_cons, co_nil]
    grind
theorem addAll_len : ∀ {l zs : List (κ × β)}, (addAll zs l).length ≤ zs.length + l.length
  | [], zs => Nat.le_refl _
  | z :: l, zs => by
    have h1 := addAll_len (l := l) (zs := addG zs z.1 z.2)
    have h2 : (addG zs z.1 z.2).length ≤ zs.length + 1 := putG_len
    show (addAll (addG zs z.1 z.2) l).length ≤ _
    rw [List.length_cons]
    omega
theorem addAll_mem {P : κ → Prop} : ∀ {l zs : List (κ × β)}, (∀ z ∈ zs, P z.1) → (∀ z ∈ l, P z.1) → ∀ z ∈ addAll zs l, P z.1
  | [], _, h, _ => h
  | y :: l, _, h, k => addAll_mem (l := l) (fun z hz => by
    rcases putG_mem hz with a | a
    · exact h z a
    · rw [a]
      exact k y List.mem_cons_self) fun z hz => k z (List.mem_cons_of_mem _ hz)
theorem addAll_app (zs l m : List (κ × β)) : addAll zs (l ++ m) = addAll (addAll zs l) m := List.foldl_append
end
end Nd
namespace Nd
set_option autoImplicit false
open PySem PySem.Spec PySem.W PySem.Calls PyProof.Rows L2 My Evl
/-! ### d.items() walked, d a dict by nested keys that is locked -/
theorem frzN {X : Cx} {pins : List (Addr × Obj)} {σ : L2.St} {H : Hp} {s : Shared} {d : Addr} {o : Obj} {xs : List NV} (I : Inv X pins σ H s) (h : H d = some (.frz o (DN X.prog X.w d xs))) :
    (d == sysModules) = false ∧ ∃ (es : Array DictEntry) (ep : Nat) (us : List Value), o.data = .dict es ep ∧ DT.Raw s.heap d es ep ∧ xs.length ≤ sizeLine ∧ es.size = xs.length ∧ Vals (xs.map (·.2.2)) us ∧
      ∀ (i : Nat) (x : NV) (hi : i < es.size), xs[i]? = some x → ∃ u, RelV x.2.2 u ∧ es[i].key = .ref x.2.1 ∧ es[i].val = u := by
  obtain ⟨ho, hd, _⟩ := I.hok d _ h
  obtain ⟨z1, z2, us, o', es, ep, r, e1, e2, e3, e4, _⟩ := hd
  rw [ho] at e1
  obtain rfl := Option.some.inj e1
  have sz : es.size = xs.length := by
    have := congrArg List.length e4
    rw [List.length_map, lay_len (vlen r)] at this
    simpa using this
  refine ⟨z1, es, ep, us, e3, ⟨o, ho, e2, e3⟩, z2, sz, r, fun i x hi hx => ?_⟩
  have he : es.toList[i]? = some es[i] := by simp
  rw [e4, List.getElem?_map] at he
  cases hy : (lay xs us)[i]? with
  | none =>
    rw [hy] at he
    cases he
  | some y =>
    rw [hy] at he
    obtain ⟨x', u, hx', hu, rfl⟩ := lay_at hy
    rw [hx] at hx'
    obtain rfl := Option.some.inj hx'
    obtain ⟨u2, hu2, ru⟩ := r.get (i := i) (x := x.2.2) (by rw [List.getElem?_map, hx]; rfl)
    rw [hu] at hu2
    obtain rfl := Option.some.inj hu2
    have e5 : entryOfKey (nestedKind X.prog X.w) (x.1, x.2.1, u) = es[i] := Option.some.inj he
    exact ⟨u, ru, by rw [← e5]; rfl, by rw [← e5]; rfl⟩
def ItN (P : Program) (w : World) (d : Addr) (o : Obj) (xs : List NV) : It :=
  ⟨fun i H => H d = some (.frz o (DN P w d xs)) ∧ i < xs.length, fun i H v H' => ∃ T x, xs[i]? = some x ∧ v = .ref T ∧ H T = none ∧ H' = upd H T (.tup [.ref x.2.1, x.2.2]), fun i H => H d = some (.frz o (DN P w d xs)) ∧ xs.length ≤ i⟩
theorem turn_itemsN {P : Program} {w : World} {K : PySem.W.Frag} {d it : Addr} {o : Obj} {xs : List NV} {elts : List Expr} {kk : Nat} {tpos : Pos} {es : Array DictEntry} {ep : Nat} (hod : o.data = .dict es ep) :
    Turn P w K (.Tuple elts kk tpos) (ItN P w d o xs) [it] it (fun i h => ∃ ok ov, IsItemIter h it d i es.size ep ok ov) where
  mem := List.mem_singleton.mpr rfl
  obj := fun i h st b hb => by
    obtain rfl := List.mem_singleton.mp hb
    obtain ⟨ok, ov, e⟩ := st
    exact ⟨_, e, fun v z => nomatch z⟩
  keep := fun i h h' st k => by
    obtain ⟨ok, ov, e⟩ := st
    exact ⟨ok, ov, k it (List.mem_singleton.mpr rfl) _ e⟩
  item := by
    intro X hP hw hK hc i pins s σ H E I hf st hg
    subst hP hw hK
    obtain ⟨hd, hi⟩ := hg
    obtain ⟨hs, es', ep', us, hdt, raw, _, sz, r, ent⟩ := frzN I hd
    obtain ⟨rfl, rfl⟩ := dict_ep hod hdt
    obtain ⟨x, hx⟩ : ∃ x, xs[i]? = some x := ⟨xs[i], List.getElem?_eq_getElem hi⟩
    obtain ⟨u, ru, e1, e2⟩ := ent i x (by omega) hx
    obtain ⟨ok, ov, he⟩ := st
    have lt : it < s.heap.objs.size := Heap.lt_size he
    refine DT.nextI he raw (by omega) fun h' out hT _ hk => ?_
    refine ⟨_, rfl, wpAny_letOwnedTupleGo_items (s := { s with heap := h' }) out fun h'' he' sb => ?_⟩
    rw [e1, e2] at hT
    have hT2 : h''.get? s.heap.objs.size = some { cls := .type "tuple", data := .seq #[.ref x.2.1, u] } := (sb.2 _ (Nat.ne_of_gt lt)).trans hT
    have fresh : H s.heap.objs.size = none := I.hok.fresh (Nat.le_refl _)
    have new : ObjOk X.prog X.w (upd H s.heap.objs.size (.tup [.ref x.2.1, x.2.2])) h'' s.heap.objs.size (.tup [.ref x.2.1, x.2.2]) :=
      ⟨by show 2 ≤ sizeLine; decide, [.ref x.2.1, u], .cons rfl (.cons ru .nil), _, hT2, rfl, _, rfl⟩
    have I1 : Inv X pins σ (upd H s.heap.objs.size (.tup [.ref x.2.1, x.2.2])) { s with heap := h'' } :=
      I.turnedNew (t' := s.toks) (ch := [it]) (fun b ob hb e => by
        have n : b ≠ it := fun z => hb (List.mem_singleton.mpr z)
        exact (sb.2 b n).trans (hk b ob n e)) hf (Nat.le_refl _) new
    refine ⟨.ref s.heap.objs.size, _, I1, rfl, ⟨_, x, hx, rfl, fresh, rfl⟩, ⟨_, _, he'⟩, fun b hb => ?_⟩
    obtain rfl := List.mem_singleton.mp hb
    rw [upd_ne (Nat.ne_of_lt lt)]
    exact (hf b (List.mem_singleton.mpr rfl)).1
  done := by
    intro X hP hw hK hc i pins s σ H E I hf st hg
    subst hP hw hK
    obtain ⟨hd, hi⟩ := hg
    obtain ⟨g0, g1, _, g3, g4, g5⟩ := hf it (List.mem_singleton.mpr rfl)
    obtain ⟨hs, es', ep', us, hdt, raw, _, sz, r, _⟩ := frzN I hd
    obtain ⟨rfl, rfl⟩ := dict_ep hod hdt
    obtain ⟨ok, ov, he⟩ := st
    exact DT.endI (I.ok.hd hc) he raw (by omega) fun h' eb => ⟨rfl, I.turned (t' := s.toks) (fun b ob hb e => eb b ob hb e) g0 g1 g3 g4 g5⟩
  self := fun A i s Q E st h => by
    obtain ⟨_, _, e⟩ := st
    exact PySem.W.kcp_self e h
/-- the dict is locked -/
def iItemsN (P : Program) (w : World) (td : TE) : TI := fun σ H R => td σ H fun x H1 => ∃ d o xs, x = .ref d ∧ H1 d = some (.frz o (DN P w d xs)) ∧ R (ItN P w d o xs) H1
theorem pi_itemsN {X : Cx} {e : Expr} {td : TE} {apos cpos tpos : Pos} {elts : List Expr} {kk : Nat} (he : PE X e td) (hbase : attributeBase e "items" X.env (eval e X.env) = eval e X.env := by rfl) (hline : (apos.endLine == cpos.line) = true := by rfl) :
    PI X (.Tuple elts kk tpos) (.Call (.Attribute e "items" apos) [] [] cpos) (iItemsN X.prog X.w td) := by
  constructor
  intro pins s σ H R I h
  refine wpAny_Call_method (T := "dict") (id := "dict.items") hbase rfl hline PySem.F.plainAttrs_dict PySem.F.slot_dict_items PySem.F.type_dict_items (thn (he.run pins s σ H _ I h) fun u s1 z => ?_)
  obtain ⟨x, H1, I1, rx, d, o, xs, ex, hd, q⟩ := z
  subst ex
  obtain rfl : u = Value.ref d := rx
  obtain ⟨hs, es, ep, us, hdt, raw, _, sz, r, _⟩ := frzN I1 hd
  refine ⟨raw.typeIs, fun b e => ?_, ?_⟩
  · cases e
    obtain ⟨ob, h1, h2, _⟩ := raw
    exact ⟨ob, h1, h2.2.1⟩
  have I2 : Inv X pins σ H1 { s1 with heap := s1.heap.push { cls := .type "dict_items", data := .fields #[.ref d] } } := I1.kept (t' := s1.toks) fun b ob q => Heap.get?_push_of_some _ q
  have fin : wpAny (model X.prog X.w) X.A (pyIter (.ref s1.heap.objs.size)) (PIE X pins σ (.Tuple elts kk tpos) R) X.xe { s1 with heap := s1.heap.push { cls := .type "dict_items", data := .fields #[.ref d] } } :=
    DT.iterI (d := d) ⟨_, Heap.get?_push_size _ rfl, rfl, rfl⟩ (raw.push _) (pi_one (tk := s1.toks) I2 _ (turn_itemsN hdt) ⟨.none, .none, Heap.get?_push_size _ rfl⟩ q)
  show wpAny _ _ (callWith cpos (.builtin "dict.items") [.ref d] [] []) _ X.xe s1
  exact method_meetsIn PySem.F.slot_dict_items PySem.F.entry_dict_items rfl (PySem.evalArgs_none ⟨rfl, raw.typeIs, PySem.F.args_dict_items_1 _, _, DT.meetsItems hs, raw, fin⟩)
end Nd
namespace Nd
set_option autoImplicit false
open PySem PySem.W L2 My Evl
/-! ### a dict under way: made at H0, at d -/
section
variable {κ β : Type} [DecidableEq κ] {P : Program} {w : World} {K : PySem.W.Frag} {ky : Ky K κ} {vp : β → Pr}
structure DcAt (P : Program) (w : World) {K : PySem.W.Frag} (ky : Ky K κ) (vp : β → Pr) (B H0 : Hp) (d : Addr) (zs : List (κ × β)) (Bi H : Hp) : Prop where
  g : Gr B H0 Bi (wo d H)
  at_ : ∃ xs, H d = some (DN P w d xs) ∧ KG ky vp zs xs Bi
/-- a dict that holds this, as it is known -/
def DcP (P : Program) (w : World) {K : PySem.W.Frag} (ky : Ky K κ) (vp : β → Pr) (zs : List (κ × β)) : Pr :=
  ⟨fun v B => ∃ (d : Addr) (xs : List NV) (B0 : Hp), v = .ref d ∧ B d = some (DN P w d xs) ∧ B0 d = none ∧ Ex B0 B ∧ KG ky vp zs xs B0, fun e h => by
    obtain ⟨d, xs, B0, h1, h2, h3, h4, h5⟩ := h
    exact ⟨d, xs, B0, h1, e _ _ h2, h3, h4.trans e, h5⟩⟩
variable {B H0 Bi B2 H H2 : Hp} {d : Addr} {zs : List (κ × β)} {k : κ} {f f0 : β} {σ : L2.St} {D : Ends} {te ta tb ty tx tv : TE} {t tr : TA} {i : Nat} {p q : Pr} {ps qs : List Pr} {v : V}
theorem DcAt.ex (A : DcAt P w ky vp B H0 d zs Bi H) : Ex Bi H := A.g.c.trans wo_ex
theorem DcAt.no (A : DcAt P w ky vp B H0 d zs Bi H) : Bi d = none := wo_none A.g.c
theorem DcAt.on (A : DcAt P w ky vp B H0 d zs Bi H) : H d ≠ none := by
  obtain ⟨xs, h, _⟩ := A.at_
  rw [h]
  exact fun z => nomatch z
theorem DcAt.step (A : DcAt P w ky vp B H0 d zs Bi H) (k : Gr Bi H B2 H2) : DcAt P w ky vp B H0 d zs B2 H2 := by
  obtain ⟨xs, h, al⟩ := A.at_
  exact ⟨A.g.side A.on k, xs, k.a _ _ h, al.m k.b⟩
theorem DcAt.new (e : Ex B H) (hd : H d = none) : DcAt P w ky vp B H d [] B (upd H d (DN P w d [])) := ⟨by rw [wo_new hd]; exact Gr.refl e, [], upd_same, trivial⟩
theorem DcAt.put {xs : List NV} {a : Addr} (A : DcAt P w ky vp B H0 d zs Bi H) (h : H d = some (DN P w d xs)) (hx : KG ky vp zs xs Bi) (hk : (ky.kp k).P (.ref a) Bi) (hf : (vp f).P v Bi) :
    DcAt P w ky vp B H0 d (putG zs k f) Bi (upd H d (DN P w d (putN xs (nk (ky.kd k)) a v))) := ⟨by rw [wo_upd]; exact A.g, _, upd_same, hx.put hk hf⟩
theorem DcAt.fin (A : DcAt P w ky vp B H0 d zs Bi H) (h0 : H0 d = none) : ∃ B', Gr B H0 B' H ∧ (DcP P w ky vp zs).P (.ref d) B' := by
  obtain ⟨xs, hd, al⟩ := A.at_
  have hB := A.no
  refine ⟨upd Bi d (DN P w d xs), ⟨A.g.a.trans wo_ex, A.g.b.trans (Ex.new hB), fun b o e => ?_, fun x hb hh => ?_, fun z b qs q => ?_⟩, d, xs, Bi, rfl, upd_same, hB, Ex.new hB, al⟩
  · by_cases n : b = d
    · subst n
      rw [upd_same] at e
      rw [hd]
      exact e
    · rw [upd_ne n] at e
      exact A.ex _ _ e
  · have n : x ≠ d := fun z => hh (by rw [z]; exact h0)
    rw [upd_ne n]
    exact A.g.d x hb hh
  · by_cases n : b = d
    · subst n
      rw [upd_same] at q
      cases q
    · rw [upd_ne n] at q
      exact A.g.e z b qs q
/-- an expression while such a dict is under way, it stays -/
def EvA (P : Program) (w : World) {K : PySem.W.Frag} (ky : Ky K κ) (vp : β → Pr) (B H0 : Hp) (d : Addr) (zs : List (κ × β)) (Bi : Hp) (te : TE) (σ : L2.St) (p : Pr) : Prop :=
  ∀ B1 H1, Ex Bi B1 → DcAt P w ky vp B H0 d zs B1 H1 → ∀ Q : VK, (∀ v B2 H2, Ex B1 B2 → DcAt P w ky vp B H0 d zs B2 H2 → p.P v B2 → Q v H2) → te σ H1 Q
def EvAs (P : Program) (w : World) {K : PySem.W.Frag} (ky : Ky K κ) (vp : β → Pr) (B H0 : Hp) (d : Addr) (zs : List (κ × β)) (Bi : Hp) (t : TA) (σ : L2.St) (ps : List Pr) : Prop :=
  ∀ B1 H1, Ex Bi B1 → DcAt P w ky vp B H0 d zs B1 H1 → ∀ Q : List V → Hp → Prop, (∀ vs B2 H2, Ex B1 B2 → DcAt P w ky vp B H0 d zs B2 H2 → AllP ps vs B2 → Q vs H2) → t σ H1 Q
theorem a_ev (h : EvP te σ Bi p) : EvA P w ky vp B H0 d zs Bi te σ p := fun B1 H1 e A Q q => (h.mono e) H1 A.ex Q fun v B2 H2 g pv => q v B2 H2 g.b (A.step g) pv
theorem a_cons (ha : EvA P w ky vp B H0 d zs Bi ta σ p) (hr : EvAs P w ky vp B H0 d zs Bi tr σ ps) : EvAs P w ky vp B H0 d zs Bi (tCons ta tr) σ (p :: ps) := fun B1 H1 e A Q q =>
  ha B1 H1 e A _ fun v B2 H2 e2 A2 pv => hr B2 H2 (e.trans e2) A2 _ fun vs B3 H3 e3 A3 al => q (v :: vs) B3 H3 (e2.trans e3) A3 ⟨p.m e3 pv, al⟩
theorem a_nil : EvAs P w ky vp B H0 d zs Bi tNil σ [] := fun B1 H1 _ A Q q => q [] B1 H1 (Ex.refl B1) A trivial
theorem a_call {sp : Sp} (h : EvAs P w ky vp B H0 d zs Bi t σ ps) (hs : SpOk sp ps p) : EvA P w ky vp B H0 d zs Bi (tCall sp [] E0 t) σ p := fun B1 H1 e A Q q =>
  h B1 H1 e A _ fun vs B2 H2 e2 A2 al => by
    rw [List.append_nil]
    exact hs vs B2 H2 Q _ A2.ex al fun u B3 H3 g pu => q u B3 H3 (e2.trans g.b) (A2.step g) pu
theorem a_op {r : R2} {x y z : V} (ha : EvA P w ky vp B H0 d zs Bi ta σ (IsV x)) (hb : EvA P w ky vp B H0 d zs Bi tb σ (IsV y)) (hr : ∀ (H : Hp) (Q : VK), Q z H → r x y H Q) : EvA P w ky vp B H0 d zs Bi (tOp r ta tb) σ (IsV z) := fun B1 H1 e A Q q =>
  ha B1 H1 e A _ fun v B2 H2 e2 A2 pv => hb B2 H2 (e.trans e2) A2 _ fun u B3 H3 e3 A3 pu => by
    obtain rfl : v = x := pv
    obtain rfl : u = y := pu
    exact hr H3 Q (q z B3 H3 (e2.trans e3) A3 rfl)
/-- d[k] -/
theorem a_get (hs : σ[i]? = some (some (.ref d))) (hk : EvP ty σ Bi (ky.kp k)) (hv : valG zs k = some f) : EvA P w ky vp B H0 d zs Bi (tDGetN P w K (tVar i) ty) σ (vp f) := fun B1 H1 e A Q q => by
  refine ⟨.ref d, hs, (hk.mono e) H1 A.ex _ fun y B2 H2 g py => ?_⟩
  have A2 := A.step g
  obtain ⟨xs, hx, al⟩ := A2.at_
  obtain ⟨a, rfl⟩ := ky.rf py
  rcases al.look k with ⟨h1, _⟩ | ⟨f', v, h1, h2, h3⟩
  · rw [hv] at h1
    cases h1
  · rw [hv] at h1
    obtain rfl := Option.some.inj h1
    exact ⟨d, a, xs, _, v, rfl, rfl, hx, al.ok A2.ex, ky.at_ ((ky.kp k).m A2.ex py), h2, q v B2 H2 g.b A2 h3⟩
/-- d.get(k, x) -/
theorem a_get2 (hs : σ[i]? = some (some (.ref d))) (hk : EvP ty σ Bi (ky.kp k)) (hf : EvP tx σ Bi (vp f0)) : EvA P w ky vp B H0 d zs Bi (tDGet2N P w K (tVar i) ty tx) σ (vp ((valG zs k).getD f0)) := fun B1 H1 e A Q q => by
  refine ⟨.ref d, hs, d, rfl, ?_, (hk.mono e) H1 A.ex _ fun y B2 H2 g py => ?_⟩
  · obtain ⟨xs, hx, _⟩ := A.at_
    exact ⟨xs, hx⟩
  have A2 := A.step g
  obtain ⟨a, rfl⟩ := ky.rf py
  refine (hf.mono (e.trans g.b)) H2 A2.ex _ fun u B3 H3 g3 pu => ?_
  have A3 := A2.step g3
  obtain ⟨xs, hx, al⟩ := A3.at_
  refine ⟨a, xs, _, rfl, hx, al.ok A3.ex, ky.at_ ((ky.kp k).m (g3.b.trans A3.ex) py), ?_⟩
  rcases al.look k with ⟨h1, h2⟩ | ⟨f', v, h1, h2, h3⟩
  · rw [h2]
    refine q u B3 H3 (g.b.trans g3.b) A3 ?_
    rw [h1]
    exact pu
  · rw [h2]
    refine q v B3 H3 (g.b.trans g3.b) A3 ?_
    rw [h1]
    exact h3
/-- d[k] = e -/
theorem ps_put (hs : σ[i]? = some (some (.ref d))) (A : DcAt P w ky vp B H0 d zs Bi H) (hv : EvA P w ky vp B H0 d zs Bi tv σ (vp f)) (hk : EvP ty σ Bi (ky.kp k)) (hl : zs.length < 100000)
    (q : ∀ B2 H2, Ex Bi B2 → DcAt P w ky vp B H0 d (putG zs k f) B2 H2 → D.nx σ H2) : sNPut P w K (tVar i) ty tv D σ H :=
  hv Bi H (Ex.refl Bi) A _ fun v B2 H2 e2 A2 pv => by
    refine ⟨.ref d, hs, (hk.mono e2) H2 A2.ex _ fun y B3 H3 g py => ?_⟩
    have A3 := A2.step g
    obtain ⟨xs, hx, al⟩ := A3.at_
    obtain ⟨a, rfl⟩ := ky.rf py
    exact ⟨d, a, xs, _, rfl, rfl, hx, al.ok A3.ex, ky.at_ ((ky.kp k).m A3.ex py), by rw [al.len]; exact hl, q B3 _ (e2.trans g.b) (A3.put hx al py ((vp f).m g.b pv))⟩
/-- k in d -/
theorem a_in (hs : σ[i]? = some (some (.ref d))) (hk : EvP ty σ Bi (ky.kp k)) : EvA P w ky vp B H0 d zs Bi (tOp (rInN P w K) ty (tVar i)) σ (IsV (.bl (hasG zs k))) := fun B1 H1 e A Q q =>
  (hk.mono e) H1 A.ex _ fun y B2 H2 g py => by
    have A2 := A.step g
    obtain ⟨xs, hx, al⟩ := A2.at_
    obtain ⟨a, rfl⟩ := ky.rf py
    refine ⟨.ref d, hs, a, d, xs, _, rfl, rfl, hx, al.ok A2.ex, ky.at_ ((ky.kp k).m A2.ex py), ?_⟩
    rw [al.has k]
    exact q _ B2 H2 g.b A2 rfl
/-- {} -/
theorem dc_nul (e : Ex B H) (q : ∀ d H2, H d = none → DcAt P w ky vp B H d [] B H2 → D.nx (σ.set i (some (.ref d))) H2) : tAsg (tDNewN P w) (gName i) D σ H := fun d hd => q d _ hd (DcAt.new e hd)
end
end Nd
namespace Nd
set_option autoImplicit false
open PySem PySem.W L2 My Evl
section
variable {κ β : Type} [DecidableEq κ] {P : Program} {w : World} {K : PySem.W.Frag} {ky : Ky K κ} {vp : β → Pr}
/-- put one by one -/
def dcL (kk : Nat → κ) (vv : Nat → β) (n : Nat) : List (κ × β) := (List.range n).foldl (fun zs i => putG zs (kk i) (vv i)) []
theorem dcL_succ {kk : Nat → κ} {vv : Nat → β} {n : Nat} : dcL kk vv (n + 1) = putG (dcL kk vv n) (kk n) (vv n) := by
  unfold dcL
  rw [List.range_succ, List.foldl_append]
  rfl
theorem dcL_len {kk : Nat → κ} {vv : Nat → β} : ∀ n, (dcL kk vv n).length ≤ n
  | 0 => Nat.le_refl _
  | n + 1 => by
    rw [dcL_succ]
    have := dcL_len (kk := kk) (vv := vv) n
    have := putG_len (zs := dcL kk vv n) (k := kk n) (f := vv n)
    omega
/-- keys that are unlike stand as they came -/
theorem dcL_eq {l : List (κ × β)} {kk : Nat → κ} {vv : Nat → β} (h : ∀ i (hi : i < l.length), kk i = l[i].1 ∧ vv i = l[i].2) (nd : (l.map (·.1)).Nodup) : ∀ n, n ≤ l.length → dcL kk vv n = l.take n
  | 0, _ => by rw [List.take_zero]; rfl
  | n + 1, hn => by
    rw [dcL_succ, dcL_eq h nd n (by omega)]
    obtain ⟨h1, h2⟩ := h n (by omega)
    have no : hasG (l.take n) l[n].1 = false := by
      cases e : hasG (l.take n) l[n].1 with
      | false => rfl
      | true =>
        exfalso
        have hm := hasG_mem.mp e
        have e2 : l.map (·.1) = (l.take n).map (·.1) ++ (l.drop n).map (·.1) := by rw [← List.map_append, List.take_append_drop]
        rw [e2, List.nodup_append] at nd
        refine nd.2.2 _ hm _ ?_ rfl
        rw [List.drop_eq_getElem_cons (by omega)]
        exact List.mem_cons_self
    unfold putG
    rw [h1, no, if_neg Bool.false_ne_true, List.take_add_one, List.getElem?_eq_getElem (by omega), h2]
    rfl
variable {B H : Hp} {σ : L2.St} {te tk tv : TE} {g : TG} {tt : TT} {vs : List Nat} {ps : List Pr} {Q : VK}
/-- {k: v for target in a tuple} -/
theorem dc_run (a : Ex B H) (h : EvP te σ B (TuP K ps)) (hl : ps.length ≤ 90000) (kk : Nat → κ) (vv : Nat → β)
    (step : ∀ i p v B1, ps[i]? = some p → Ex B B1 → p.P v B1 → ∃ σ2, wipe σ2 vs = wipe σ vs ∧ (∀ H2 Q, Ex B1 H2 → Q σ2 H2 → g v (wipe σ vs) H2 Q) ∧ EvT tt σ2 B1 true ∧ EvP tk σ2 B1 (ky.kp (kk i)) ∧ EvP tv σ2 B1 (vp (vv i)))
    (q : ∀ d B2 H2, H d = none → Ex B B2 → DcAt P w ky vp B H d (dcL kk vv ps.length) B2 H2 → Q (.ref d) H2) : tDcN P w K (iTup K te) g tt tk tv vs σ H Q :=
  h H a _ fun v B2 H2 gr b => by
    obtain ⟨l, xs, rfl, hx, hal⟩ := b
    have hlen := hal.len
    refine ⟨l, rfl, ⟨xs, ex_t gr.c hx⟩, fun d hd => ?_⟩
    have hd0 : H d = none := fresh_back gr.a hd
    refine ⟨fun i m Hc => m = xs.length - i ∧ i ≤ xs.length ∧ ∃ B3, Ex B2 B3 ∧ DcAt P w ky vp B H d (dcL kk vv i) B3 Hc, ⟨xs.length, rfl, Nat.zero_le _, B2, Ex.refl B2, ?_⟩, ?_⟩
    · exact ⟨by rw [wo_new hd]; exact gr, [], upd_same, trivial⟩
    · rintro i m Hc ⟨rfl, hi, B3, e3, A⟩
      have sq : SqT K Hc l xs := ex_t (e3.trans A.ex) hx
      by_cases lt : i < xs.length
      · refine .inr ⟨⟨xs, xs[i], sq, List.getElem?_eq_getElem lt⟩, fun H' => ∃ B4, Ex B2 B4 ∧ DcAt P w ky vp B H d (dcL kk vv (i + 1)) B4 H', fun H' z => ⟨xs.length - (i + 1), by omega, rfl, lt, z⟩, fun x H' y => ?_⟩
        obtain ⟨rfl, y2⟩ := y
        obtain ⟨p, hp, px⟩ := hal.get (y2 xs sq)
        obtain ⟨σ2, hw, hg, ht, hk, hv⟩ := step i p x B3 hp (gr.b.trans e3) (p.m e3 px)
        refine hg _ _ A.ex ⟨hw, ht _ A.ex _ fun H4 e4 => ?_⟩
        rw [if_pos rfl]
        have A4 := A.step (Gr.wide A.ex e4)
        refine hk H4 A4.ex _ fun y B5 H5 g5 py => ?_
        have A5 := A4.step g5
        refine (hv.mono g5.b) H5 A5.ex _ fun z B6 H6 g6 pz => ?_
        have A6 := A5.step g6
        obtain ⟨zs, hz, al⟩ := A6.at_
        obtain ⟨ka, rfl⟩ := ky.rf py
        have le := dcL_len (kk := kk) (vv := vv) i
        refine ⟨ka, zs, _, rfl, hz, al.ok A6.ex, ky.at_ ((ky.kp _).m (g6.b.trans A6.ex) py), by rw [al.len]; omega, B6, e3.trans (g5.b.trans g6.b), ?_⟩
        rw [dcL_succ]
        exact A6.put hz al ((ky.kp _).m g6.b py) pz
      · obtain rfl : i = xs.length := by omega
        refine .inl ⟨⟨xs, sq, Nat.le_refl _⟩, ?_⟩
        rw [hlen] at A
        exact q d B3 Hc hd0 (gr.b.trans e3) A
/-- a comprehension over d.items() -/
theorem p_lcItems {zs : List (κ × β)} {i : Nat} {v : V} (hi : σ[i]? = some (some v)) (hv : (DcP P w ky vp zs).P v B) (hl : zs.length ≤ 100000) (keep : Nat → Bool) (res : Nat → Pr)
    (step : ∀ j z x B1, zs[j]? = some z → (TuP K [ky.kp z.1, vp z.2]).P x B1 → ∃ σ2, wipe σ2 vs = wipe σ vs ∧ (∀ H2 Q, Ex B1 H2 → Q σ2 H2 → g x (wipe σ vs) H2 Q) ∧ EvT tt σ2 B1 (keep j) ∧ (keep j = true → EvP te σ2 B1 (res j))) :
    EvP (tLockE (tLc (iItemsN P w (tVar i)) g tt te vs)) σ B (LsP (((List.range zs.length).filter keep).map res)) := fun H1 a Q k => by
  obtain ⟨d, xs, B0, rfl, hd, n0, e0, al⟩ := hv
  have hl2 := al.len
  have hd1 := a _ _ hd
  refine ⟨d, _, hd1, trivial, fun od => ?_⟩
  -- the heap with d locked
  have eL : Ex B0 (upd H1 d (.frz od (DN P w d xs))) := fun b o e => by
    have n : b ≠ d := fun z => by
      rw [z, n0] at e
      cases e
    rw [upd_ne n]
    exact a _ _ (e0 _ _ e)
  generalize hL : upd H1 d (.frz od (DN P w d xs)) = HL at eL ⊢
  have dL : HL d = some (.frz od (DN P w d xs)) := by rw [← hL]; exact upd_same
  refine ⟨.ref d, hi, d, od, xs, rfl, dL, fun r hr => ?_⟩
  have rd : r ≠ d := fun z => by
    rw [z, dL] at hr
    cases hr
  refine ⟨fun j m Hc => m = xs.length - j ∧ j ≤ xs.length ∧ ∃ B3 acc, Gr B0 HL B3 (wo r Hc) ∧ Hc r = some (.lst acc) ∧ AllP (((List.range j).filter keep).map res) acc B3, ⟨xs.length, rfl, Nat.zero_le _, B0, [], by rw [wo_new hr]; exact Gr.refl eL, upd_same, trivial⟩, ?_⟩
  rintro j m Hc ⟨rfl, hj, B3, acc, g3, hr3, hacc⟩
  have exB : Ex B3 Hc := g3.c.trans wo_ex
  have dC : Hc d = some (.frz od (DN P w d xs)) := by
    have := g3.a _ _ dL
    rw [wo_ne rd.symm] at this
    exact this
  have some3 : Hc r ≠ none := by
    rw [hr3]
    exact fun z => nomatch z
  by_cases lt : j < xs.length
  · refine .inr ⟨⟨dC, lt⟩, fun H' => ∃ B4 acc', Gr B0 HL B4 (wo r H') ∧ H' r = some (.lst acc') ∧ AllP (((List.range (j + 1)).filter keep).map res) acc' B4, fun H' z => ⟨xs.length - (j + 1), by omega, rfl, lt, z⟩, fun x H' y => ?_⟩
    obtain ⟨T, nv, hnv, rfl, hT, rfl⟩ := y
    obtain ⟨z, hz, _, h2, h3⟩ := al.at hnv
    have gT : Gr B3 Hc (upd B3 T (.tup [.ref nv.2.1, nv.2.2])) (upd Hc T (.tup [.ref nv.2.1, nv.2.2])) := Gr.new _ exB hT
    have g4 : Gr B0 HL (upd B3 T (.tup [.ref nv.2.1, nv.2.2])) (wo r (upd Hc T (.tup [.ref nv.2.1, nv.2.2]))) := g3.side some3 gT
    have px : (TuP K [ky.kp z.1, vp z.2]).P (.ref T) (upd B3 T (.tup [.ref nv.2.1, nv.2.2])) := ⟨T, _, rfl, st_of upd_same, (ky.kp _).m (g3.b.trans gT.b) h2, (vp _).m (g3.b.trans gT.b) h3, trivial⟩
    obtain ⟨σ2, hw, hg, ht, he⟩ := step j z (.ref T) _ hz px
    refine hg _ _ gT.c ⟨hw, ht _ gT.c _ fun H5 e5 => ?_⟩
    have some4 := has gT.a some3
    have g5 : Gr B0 HL (upd B3 T (.tup [.ref nv.2.1, nv.2.2])) (wo r H5) := g4.side some4 (Gr.wide gT.c e5)
    have some5 := has e5 some4
    have r5 := e5 _ _ (gT.a _ _ hr3)
    cases hk : keep j with
    | true =>
      rw [if_pos rfl]
      refine he hk H5 (gT.c.trans e5) _ fun y B6 H6 g6 hy => ?_
      have la : acc.length ≤ j := by
        rw [hacc.len, List.length_map]
        exact Nat.le_trans (List.length_filter_le _ _) (by rw [List.length_range]; exact Nat.le_refl _)
      refine ⟨acc, g6.a _ _ r5, sz_lt (by omega), B6, acc ++ [y], by rw [wo_upd]; exact g5.side some5 g6, upd_same, ?_⟩
      have : List.filter keep [j] = [j] := by simp [hk]
      rw [List.range_succ, List.filter_append, List.map_append, this]
      exact (hacc.m (gT.b.trans g6.b)).app ⟨hy, trivial⟩
    | false =>
      rw [if_neg Bool.false_ne_true]
      refine ⟨_, acc, g5, r5, ?_⟩
      have : List.filter keep [j] = [] := by simp [hk]
      rw [List.range_succ, List.filter_append, List.map_append, this, List.map_nil, List.append_nil]
      exact hacc.m gT.b
  · obtain rfl : j = xs.length := by omega
    refine .inl ⟨⟨dC, Nat.le_refl _⟩, dC, ?_⟩
    -- unlocked again
    have nr : B3 r = none := wo_none g3.c
    have nd : B3 d = none := g3.d d n0 (by rw [dL]; exact fun z => nomatch z)
    have r1 : H1 r = none := by
      rw [← hL, upd_ne rd] at hr
      exact hr
    have nrB : B r = none := fresh_back a r1
    have eH : Ex H1 (upd Hc d (DN P w d xs)) := fun b o e => by
      by_cases n : b = d
      · subst n
        rw [upd_same, ← hd1, e]
      · rw [upd_ne n]
        have h1 : HL b = some o := by rw [← hL, upd_ne n]; exact e
        exact (wo_some (g3.a _ _ h1)).2
    have eC : Ex (upd B3 r (.lst acc)) (upd Hc d (DN P w d xs)) := fun b o e => by
      by_cases n : b = r
      · subst n
        rw [upd_same] at e
        rw [upd_ne rd, hr3]
        exact e
      · rw [upd_ne n] at e
        have m : b ≠ d := fun z => by
          rw [z, nd] at e
          cases e
        rw [upd_ne m]
        exact exB _ _ e
    refine k (.ref r) (both B (upd B3 r (.lst acc))) _ ⟨eH, both_l, both_in (a.trans eH) eC, fun x hb hh => both_none hb ?_, fun z => both_nt z fun b qs e => ?_⟩ ⟨r, acc, rfl, both_r (a.trans eH) eC _ _ upd_same, ?_⟩
    · have n : x ≠ r := fun z => hh (by rw [z]; exact r1)
      rw [upd_ne n]
      have x0 : B0 x = none := fresh_back e0 hb
      refine g3.d x x0 fun z => hh ?_
      rw [← hL] at z
      by_cases m : x = d
      · rw [m, upd_same] at z
        cases z
      · rw [upd_ne m] at z
        exact z
    · by_cases n : b = r
      · subst n
        rw [upd_same] at e
        cases e
      · rw [upd_ne n] at e
        exact g3.e (fun b qs q => z b qs (e0 _ _ q)) b qs e
    · rw [hl2] at hacc
      exact hacc.m ((Ex.new nr).trans (both_r (a.trans eH) eC))
end
end Nd
namespace Nd
set_option autoImplicit false
open PySem PySem.Spec PySem.W PySem.Calls PyProof.Rows L2 My Evl
/-! ### sorted of a list, by data -/
section
variable {X : Cx}
def rSortL (K : PySem.W.Frag) : List V → Hp → VK → Prop := fun vs H Q => ∃ (p : Addr) (xs : List V) (ks : List PyData), vs = [.ref p] ∧ SqL K H p xs ∧ DpAll K H xs ks ∧ AllAlike ks ∧ Sortable ks ∧ (∀ e, e ∈ ks → e.depth ≤ 50) ∧
  ∀ l, H l = none → Q (.ref l) (upd H l (.lst (byKey xs ks)))
theorem cr_sortL {k : Nat} (hr : Room k X.A) : CallR X (.builtin "sorted") (rSortL X.K) := by
  intro pins s σ H us us0 Q I r h
  obtain ⟨p, xs, ks, rfl, hp, hd, hal, hsk, hdep, q⟩ := h
  obtain ⟨u0, rfl, r0⟩ := L2.vals1 r
  obtain rfl : u0 = Value.ref p := r0
  obtain ⟨vs, rv, pl, hz⟩ := I.list hp
  have hl : ks.length = xs.length := (dpAll_len hd).symm
  have un := hr.un
  have ez := zip_snd hl
  have ev : EachIs (fun u d => ∃ bs, Reads s.heap u d bs) vs ks := dps_each I rv hd
  have lz : (xs.zip ks).length = xs.length := by
    rw [List.length_zip]
    omega
  refine sorted_data (R := fun (u : Value) (p : V × PyData) => RelV p.1 u) (bs := xs.zip ks) (enc := fun p : V × PyData => p.2) pl.isList (vals_each (h := s.heap) rv hl) (each_zip ev hl) (by rw [ez]; exact hal) (by rw [ez]; exact hsk) (by omega) (fun b hb => ?_) fun out ho he => ?_
  · have hm : b.2 ∈ ks := (List.of_mem_zip (a := b.1) (b := b.2) hb).2
    have := hdep b.2 hm
    show _ < _
    omega
  · obtain ⟨c, hat⟩ := sortedAll_at s.heap vs out.toArray
    have hf : H (s.heap.objs.size + 1) = none := I.hok.fresh (Nat.le_succ _)
    have vl : (byKey xs ks).length ≤ sizeLine := by
      show (((xs.zip ks).mergeSort (dataLe false (·.2))).map (·.1)).length ≤ _
      rw [List.length_map, List.length_mergeSort, lz]
      exact hz
    exact ⟨.ref (s.heap.objs.size + 1), upd H (s.heap.objs.size + 1) (.lst (byKey xs ks)), I.laid (t' := s.toks) (fun b u e => sortedAll_old e) (Nat.le_succ _) ⟨vl, _, c, each_vals he, hat⟩, rfl, q _ hf⟩
end
theorem dps_tm {K : PySem.W.Frag} {H : Hp} {us : Po} {xs : List V} (h : AllP (us.map (tmP K)) xs H) : DpAll K H xs (us.map tmD) := toAll_all (toAll_map us fun t => to_tm t) h
theorem p_sortL {te : TE} {σ : L2.St} {B : Hp} {K : PySem.W.Frag} {us : Po} (h : EvP te σ B (LsP (us.map (tmP K)))) : EvP (tCB (rSortL K) (tCons te tNil)) σ B (LsP ((srtT us).map (tmP K))) := fun H1 a Q k =>
  h H1 a _ fun v B2 H2 g pv => by
    obtain ⟨p, xs, rfl, hx, al⟩ := pv
    refine ⟨p, xs, us.map tmD, rfl, sq_of (g.c _ _ hx), dps_m g.c (dps_tm al), tm_alike us, tm_sortable us, tm_depth us, fun l hl => ?_⟩
    exact k _ _ _ (g.trans (Gr.new (.lst (byKey xs (us.map tmD))) g.c hl)) ⟨l, _, rfl, upd_same, (byKey_tm al).m (Ex.new (fresh_back g.c hl))⟩
end Nd
namespace Nd
set_option autoImplicit false
open PySem PySem.W L2 My Evl PyProof.Rows
section
variable {te : TE} {σ : L2.St} {B H : Hp} {K : PySem.W.Frag} {ps : List Pr}
theorem et_truT (h : EvP te σ B (TuP K ps)) : EvT (fun σ H Q => te σ H fun x H' => ∃ k, TruV K x H' k ∧ Q k H') σ B (!ps.isEmpty) := fun H1 a Q q =>
  h H1 a _ fun v B2 H2 g pv => by
    obtain ⟨p, xs, rfl, hx, al⟩ := pv
    refine ⟨!xs.isEmpty, .inr (.inl ⟨xs, ex_t g.c hx, rfl⟩), ?_⟩
    have e : xs.isEmpty = ps.isEmpty := by
      have := al.len
      cases xs <;> cases ps <;> simp_all
    rw [e]
    exact q H2 g.a
end
/-! ### sorting by data, any things -/
section
variable {α : Type}
def leZ (pd : α → PyData) (s t : α) : Bool := !dataLt (pd t) (pd s)
def srtZ (pd : α → PyData) (zs : List α) : List α := zs.mergeSort (leZ pd)
theorem byKey_Z {H : Hp} (pp : α → Pr) (pd : α → PyData) {xs : List V} {us : List α} (h : AllP (us.map pp) xs H) : AllP ((srtZ pd us).map pp) (byKey xs (us.map pd)) H := by
  have hl : xs.length = us.length := by
    have := h.len
    rw [List.length_map] at this
    exact this
  have e1 : xs.zip (us.map pd) = (xs.zip us).map fun p => (p.1, pd p.2) := zip_pairs _ hl
  have e2 : ((xs.zip us).mergeSort fun p q => leZ pd p.2 q.2).map (fun p => (p.1, pd p.2)) = (xs.zip (us.map pd)).mergeSort (dataLe false (·.2)) := by
    rw [e1]
    refine List.map_mergeSort fun p _ q _ => ?_
    rw [dataLe_eq]
    rfl
  have e3 : ((xs.zip us).mergeSort fun p q => leZ pd p.2 q.2).map (·.2) = srtZ pd us := by
    have := List.map_mergeSort (r := fun p q : V × α => leZ pd p.2 q.2) (s := leZ pd) (f := fun p : V × α => p.2) (l := xs.zip us) (fun _ _ _ _ => rfl)
    rw [this, List.map_snd_zip (by omega)]
    rfl
  have e4 : byKey xs (us.map pd) = ((xs.zip us).mergeSort fun p q => leZ pd p.2 q.2).map (·.1) := by
    unfold byKey
    rw [← e2, List.map_map]
    rfl
  rw [e4, ← e3]
  exact AllP.ofG pp fun p hp => AllP.zipG pp h p ((List.mergeSort_perm _ _).mem_iff.mp hp)
theorem leZ_tot (pd : α → PyData) (s t : α) : (leZ pd s t || leZ pd t s) = true := by
  unfold leZ
  cases h : dataLt (pd t) (pd s) with
  | false => rfl
  | true =>
    rw [dlt_as h]
    rfl
theorem leZ_tr (pd : α → PyData) (s t u : α) (h : leZ pd s t = true) (k : leZ pd t u = true) : leZ pd s u = true := by
  unfold leZ at *
  cases e : dataLt (pd u) (pd s) with
  | false => rfl
  | true =>
    rcases dlt_tr (y := pd t) e with a | a
    · rw [a] at k; cases k
    · rw [a] at h; cases h
theorem srtZ_perm (pd : α → PyData) (zs : List α) : (srtZ pd zs).Perm zs := List.mergeSort_perm zs _
theorem srtZ_map {β : Type} (f : β → α) (pd : α → PyData) (zs : List β) : srtZ pd (zs.map f) = (srtZ (fun b => pd (f b)) zs).map f :=
  (List.map_mergeSort (r := leZ fun b => pd (f b)) (s := leZ pd) (f := f) fun _ _ _ _ => rfl).symm
end
section
variable {κ β : Type} [DecidableEq κ] [Od κ] [Lean.Grind.CommRing β] [DecidableEq β]
/-- pairs of unlike keys, none of them nought: sorted they are in order -/
theorem srtZ_cf (pd : κ × β → PyData) (hlt : ∀ a b : κ × β, a.1 ≠ b.1 → dataLt (pd a) (pd b) = Od.lt a.1 b.1) {zs : List (κ × β)} (nd : (zs.map (·.1)).Nodup) (nz : ∀ z ∈ zs, z.2 ≠ 0) : srtZ pd zs = cf zs := by
  have pm := srtZ_perm pd zs
  have pw := List.pairwise_mergeSort (leZ_tr pd) (leZ_tot pd) zs
  have nd2 : ((srtZ pd zs).map (·.1)).Nodup := (pm.map (·.1)).nodup_iff.mpr nd
  refine cf_eq ⟨?_, fun z hz => nz z (pm.mem_iff.mp hz)⟩ fun k => co_perm pm k
  have p2 : (srtZ pd zs).Pairwise fun a b => a.1 ≠ b.1 := List.pairwise_map.mp nd2
  refine List.Pairwise.imp₂ (S := fun a b => a.1 ≠ b.1) (fun a b h n => ?_) pw p2
  have h : (!dataLt (pd b) (pd a)) = true := h
  rw [hlt b a (Ne.symm n)] at h
  rcases Od.tri n with c | c
  · exact c
  · rw [c] at h
    cases h
end
theorem dlt_pw {a b : Dv × Int} (h : a.1 ≠ b.1) : dataLt (pwD a) (pwD b) = Od.lt a.1 b.1 := by
  unfold pwD
  rw [dataLt_tuple]
  exact dataLt_all_no (alike_dv _ _) (by rw [eqv_dv0, decide_eq_false h])
theorem dlt_tq {a b : Mo × Rat} (h : a.1 ≠ b.1) : dataLt (tmD (tq a)) (tmD (tq b)) = Od.lt a.1 b.1 := dlt_tm (s := tq a) (t := tq b) h
theorem srt_pw {zs : Mo} (nd : (zs.map (·.1)).Nodup) (nz : ∀ z ∈ zs, z.2 ≠ 0) : srtZ pwD zs = cf zs := srtZ_cf pwD (fun _ _ => dlt_pw) nd nz
theorem srt_tq {zs : Pq} (nd : (zs.map (·.1)).Nodup) (nz : ∀ z ∈ zs, z.2 ≠ 0) : srtZ (fun z => tmD (tq z)) zs = cf zs := srtZ_cf _ (fun _ _ => dlt_tq) nd nz
theorem srtT_tq {zs : Pq} (nd : (zs.map (·.1)).Nodup) (nz : ∀ z ∈ zs, z.2 ≠ 0) : srtT (toPo zs) = toPo (cf zs) := by
  have : srtT (toPo zs) = srtZ tmD (zs.map tq) := rfl
  rw [this, srtZ_map, srt_tq nd nz]
  rfl
open Classical in
/-- C, and what H3 has new at such places -/
noncomputable def takN (C H H3 : Hp) (S : Addr → Prop) : Hp := fun x => if H x = none ∧ S x then H3 x else C x
section
variable {C H : Hp}
theorem takN_in {H3 : Hp} {S : Addr → Prop} {x : Addr} (h : H x = none) (k : S x) : takN C H H3 S x = H3 x := if_pos ⟨h, k⟩
theorem takN_gr {H3 : Hp} {S : Addr → Prop} (e : Ex C H) (k : Ex H H3) (hs : ∀ x, S x → ∀ ps, H3 x ≠ some (.tbl ps)) : Gr C H (takN C H H3 S) H3 := by
  have out : ∀ {x : Addr}, ¬ (H x = none ∧ S x) → takN C H H3 S x = C x := fun h => if_neg h
  refine ⟨k, fun b o q => ?_, fun b o q => ?_, fun x hx hh => ?_, fun z b ps q => ?_⟩
  · rw [out (fun h => by rw [e b o q] at h; exact nomatch h.1)]
    exact q
  · by_cases h : H b = none ∧ S b
    · rw [takN_in h.1 h.2] at q
      exact q
    · rw [out h] at q
      exact k b o (e b o q)
  · rw [out (fun h => hh h.1)]
    exact hx
  · by_cases h : H b = none ∧ S b
    · rw [takN_in h.1 h.2] at q
      exact hs b h.2 ps q
    · rw [out h] at q
      exact z b ps q
end
/-- sorted(d.items()) -/
theorem p_sortItems {κ β : Type} [DecidableEq κ] {P : Program} {w : World} {K : PySem.W.Frag} {ky : Ky K κ} {vp : β → Pr} {vd : β → PyData} {zs : List (κ × β)} {i : Nat} {v : V} {σ : L2.St} {B : Hp}
    (tov : ∀ f, To K (vp f) (vd f)) (hal : AllAlike (zs.map fun z => PyData.tuple [ky.kd z.1, vd z.2])) (hdep : ∀ z ∈ zs, (PyData.tuple [ky.kd z.1, vd z.2]).depth ≤ 50)
    (hi : σ[i]? = some (some v)) (hv : (DcP P w ky vp zs).P v B) :
    EvP (tCB (rSortItN P w K) (tCons (fun σ H Q => (tVar i) σ H fun x H1 => rItemsN P w x [] H1 Q) tNil)) σ B (LsP ((srtZ (fun z => PyData.tuple [ky.kd z.1, vd z.2]) zs).map fun z => TuP K [ky.kp z.1, vp z.2])) := fun H a Q k => by
  obtain ⟨t, xs, B0, rfl, hd, n0, e0, al⟩ := hv
  have km := al.m e0
  have lx := km.len
  have hD := a _ _ hd
  refine ⟨.ref t, hi, t, xs, rfl, rfl, hD, fun p hp => ?_⟩
  have ntp : t ≠ p := fun z => by rw [z, hp] at hD; cases hD
  have e1 : Ex H (upd H p (DX.itemsO p t)) := Ex.new hp
  refine ⟨p, t, xs, zs.map fun z => PyData.tuple [ky.kd z.1, vd z.2], rfl, upd_same, by rw [upd_ne ntp]; exact hD, by rw [List.length_map]; omega, hal, Sortable.tuples fun z => ⟨_, _, rfl⟩, fun d hd => ?_, fun j x hj => ?_, fun H2 as b eH la pt h2b hpb => ?_⟩
  · obtain ⟨z, hz, rfl⟩ := List.mem_map.mp hd
    exact hdep z hz
  · obtain ⟨z, hz, h1, h2, h3⟩ := km.at hj
    exact ⟨ky.kd z.1, vd z.2, by rw [List.getElem?_map, hz]; rfl, ky.to _ _ _ ((ky.kp _).m (a.trans e1) h2), tov _ _ _ ((vp _).m (a.trans e1) h3)⟩
  have e2 : Ex H H2 := e1.trans eH
  have e3 : Ex H (upd H2 b (.lst (byKey (as.map V.ref) (zs.map fun z => PyData.tuple [ky.kd z.1, vd z.2])))) := e2.trans (Ex.new h2b)
  have hHb : H b = none := by
    rw [upd_ne (fun z => by rw [z, upd_same] at hpb; cases hpb)] at hpb
    exact hpb
  have tup_ : ∀ c ∈ as, ∃ ys, H2 c = some (.tup ys) ∧ H c = none := fun c hc => by
    obtain ⟨j, hj⟩ := List.mem_iff_getElem?.mp hc
    have hjl : j < xs.length := by
      have := (List.getElem?_eq_some_iff.mp hj).1
      omega
    obtain ⟨h1, h2⟩ := pt j c xs[j] hj (List.getElem?_eq_getElem hjl)
    refine ⟨_, h2, ?_⟩
    rw [upd_ne (fun z => by rw [z, upd_same] at h1; cases h1)] at h1
    exact h1
  have g1 := takN_gr (C := B) (S := fun x => x = b ∨ x ∈ as) a e3 fun x hx ps z => by
    rcases hx with rfl | hx
    · rw [upd_same] at z
      cases z
    · obtain ⟨ys, h1, _⟩ := tup_ x hx
      rw [upd_ne (fun k => by rw [k] at h1; rw [h2b] at h1; cases h1), h1] at z
      cases z
  refine k (.ref b) _ _ g1 ⟨b, _, rfl, by rw [takN_in hHb (.inl rfl), upd_same], byKey_Z _ _ ?_⟩
  refine AllP.ix (by rw [List.length_map, List.length_map]; omega) fun j p v hp hv => ?_
  rw [List.getElem?_map] at hp hv
  obtain ⟨z, hz, rfl⟩ := Option.map_eq_some_iff.mp hp
  obtain ⟨c, hc, rfl⟩ := Option.map_eq_some_iff.mp hv
  have hjl : j < xs.length := by
    have := (List.getElem?_eq_some_iff.mp hz).1
    omega
  obtain ⟨z', hz', h1, h2, h3⟩ := km.at (List.getElem?_eq_getElem hjl)
  rw [hz] at hz'
  obtain rfl := Option.some.inj hz'
  have hcm := List.mem_of_getElem? hc
  have h4 := (pt j c xs[j] hc (List.getElem?_eq_getElem hjl)).2
  obtain ⟨ys, h5, h6⟩ := tup_ c hcm
  refine ⟨c, [.ref xs[j].2.1, xs[j].2.2], rfl, st_of ?_, (ky.kp _).m g1.b h2, (vp _).m g1.b h3, trivial⟩
  rw [takN_in h6 (.inr hcm), upd_ne (fun k => by rw [k] at h5; rw [h2b] at h5; cases h5)]
  exact h4
end Nd
namespace My
set_option autoImplicit false
open PySem PySem.Spec PySem.W PySem.Calls PyProof.Rows L2 Evl NdefX LamX
section
variable {X : Cx} {pins : List (Addr × Obj)} {σ : L2.St} {A : Around} {f S I l : Addr} {fo : Obj} {R : Result → Shared → Prop} {xs : List V} {ks : List PyData} {H0 : Hp}
end
end My
namespace My
set_option autoImplicit false
open PySem PySem.Spec PySem.W PySem.Calls PyProof.Rows L2 Evl NdefX LamX
end My
namespace Nd
set_option autoImplicit false
open PySem PySem.Spec PySem.W PySem.Calls PyProof.Rows L2 My Evl
/-- put one by one -/
def putsN (nv : List NV) : List NV := nv.foldl (fun xs z => putN xs z.1 z.2.1 z.2.2) []
theorem puts_len (nv : List NV) : (putsN nv).length ≤ nv.length := by
  suffices ∀ (l xs : List NV), (l.foldl (fun xs z => putN xs z.1 z.2.1 z.2.2) xs).length ≤ xs.length + l.length by
    have := this nv []
    rw [List.length_nil, Nat.zero_add] at this
    exact this
  intro l
  induction l with
  | nil => exact fun xs => Nat.le_refl _
  | cons z l ih =>
    intro xs
    have h1 := ih (putN xs z.1 z.2.1 z.2.2)
    have h2 := put_len (xs := xs) (k := z.1) (a := z.2.1) (v := z.2.2)
    rw [List.foldl_cons, List.length_cons]
    omega
theorem lay_all : ∀ {l xs : List NV} {us ws : List Value}, Vals (xs.map (·.2.2)) us → Vals (l.map (·.2.2)) ws → ∃ qs, Vals ((l.foldl (fun xs z => putN xs z.1 z.2.1 z.2.2) xs).map (·.2.2)) qs ∧ storedAllH (lay xs us) (lay l ws) = lay (l.foldl (fun xs z => putN xs z.1 z.2.1 z.2.2) xs) qs
  | [], xs, us, _, r, .nil => ⟨us, r, rfl⟩
  | z :: l, xs, us, w :: ws, r, .cons rz rl => by
    obtain ⟨qs, h1, h2⟩ := lay_store (k := z.1) (a := z.2.1) r rz
    obtain ⟨ps, h3, h4⟩ := lay_all (l := l) h1 rl
    refine ⟨ps, h3, ?_⟩
    rw [List.foldl_cons, ← h4]
    show storedAllH (storedH (lay xs us) z.1 z.2.1 w) (lay l ws) = _
    rw [h2]
section
variable {X : Cx}
/-- the pairs that a tuple holds -/
def PairsN (K : PySem.W.Frag) (H : Hp) (xs : List V) (nv : List NV) : Prop := xs.length = nv.length ∧ ∀ (i : Nat) (x : V) (z : NV), xs[i]? = some x → nv[i]? = some z → ∃ T, x = .ref T ∧ SqT K H T [.ref z.2.1, z.2.2] ∧ KeyAt K H z.2.1 z.1
def rDictN (P : Program) (w : World) (K : PySem.W.Frag) : List V → Hp → VK → Prop := fun vs H Q => ∃ (a : Addr) (o : Obj) (xs : List V) (nv : List NV), vs = [.ref a] ∧ H a = some (.frz o (.tup xs)) ∧ o.dict = none ∧ PairsN K H xs nv ∧ ∀ d, H d = none → Q (.ref d) (upd H d (DN P w d (putsN nv)))
theorem pairs_vals {pins : List (Addr × Obj)} {σ : L2.St} {H : Hp} {s : Shared} (I : Inv X pins σ H s) : ∀ {xs : List V} {nv : List NV} {its : List Value}, PairsN X.K H xs nv → Vals xs its → ∃ (Ts : Nat → Addr) (us : List Value), Vals (nv.map (·.2.2)) us ∧
    ∀ (j : Nat) (z : NV) (u : Value), nv[j]? = some z → us[j]? = some u → its[j]? = some (.ref (Ts j)) ∧ s.heap.IsTuple (Ts j) #[.ref z.2.1, u]
  | [], [], [], _, .nil => ⟨fun _ => 0, [], .nil, fun j z u h => by simp at h⟩
  | [], _ :: _, _, h, _ => by have := h.1; simp at this
  | _ :: _, [], _, h, _ => by have := h.1; simp at this
  | x :: xs, z :: nv, _ :: its, h, .cons r rr => by
    obtain ⟨T, rfl, hT, _⟩ := h.2 0 x z rfl rfl
    obtain ⟨Ts, us, h1, h2⟩ := pairs_vals I (xs := xs) (nv := nv) ⟨by have := h.1; simpa using this, fun i y w e1 e2 => h.2 (i + 1) y w e1 e2⟩ rr
    obtain ⟨its2, rv, tp, _⟩ := I.tuple hT
    obtain ⟨k0, u0, rfl, rk, ru⟩ := vals2 rv
    obtain rfl : k0 = Value.ref z.2.1 := rk
    obtain rfl := (show _ = Value.ref T from r)
    refine ⟨fun j => match j with | 0 => T | j + 1 => Ts j, u0 :: us, .cons ru h1, fun j w u e1 e2 => ?_⟩
    cases j with
    | zero =>
      obtain rfl := Option.some.inj e1
      obtain rfl := Option.some.inj e2
      exact ⟨rfl, tp⟩
    | succ j => exact h2 j w u e1 e2
theorem call_dictN (hc : X.calm = true) (hu : X.A.units + 10 < cLine) : CallR X (.type "dict") (rDictN X.prog X.w X.K) := by
  intro pins s σ H xs us Q I r q
  obtain ⟨a, o, xs, nv, rfl, ha, hod, hp, q⟩ := q
  obtain ⟨u, rfl, rx⟩ := vals1 r
  obtain rfl : u = Value.ref a := rx
  obtain ⟨ho, hz, its, rv, o2, ho2, hcl, n, hdat⟩ := I.hok a _ ha
  rw [ho] at ho2
  obtain rfl := Option.some.inj ho2
  obtain ⟨Ts, ws, rw_, ht⟩ := pairs_vals I hp rv
  have lw := vlen rw_
  have lx := hp.1
  have li := rv.length
  -- the pairs as values
  let ps : List (Value × Value) := (lay nv ws).map fun y => (.ref y.2.1, y.2.2)
  have lp : ps.length = nv.length := by rw [List.length_map, lay_len lw]
  have pat : ∀ (j : Nat) (y : NestedKey × Addr × Value), (lay nv ws)[j]? = some y → ∃ (z : NV), nv[j]? = some z ∧ ws[j]? = some y.2.2 ∧ z.1 = y.1 ∧ z.2.1 = y.2.1 := fun j y hy => by
    obtain ⟨z, w, hz, hw, rfl⟩ := lay_at hy
    exact ⟨z, hz, hw, rfl, rfl⟩
  have PA := PairArg.tuple (prog := X.prog) (w := X.w) a its.toArray Ts ps
  refine call_dict_pairsH (knd := nestedKind X.prog X.w) (ps := lay nv ws) PA (I.ok.hd hc) (by show X.A.units + 1 + 1 + 8 < cLine; omega) ⟨⟨o, n, ho, hcl, hod, hdat⟩, by rw [List.size_toArray, lp, ← lx, li], fun j k v hj => ?_⟩ ⟨by rw [lp, lay_len lw], fun i k v hj => ?_⟩ (fun h' hk y hy => ?_) (by rw [lp, ← lx]; exact hz) fun h' tk m' hk => ?_
  · rw [List.getElem?_map] at hj
    obtain ⟨y, hy, e⟩ := Option.map_eq_some_iff.mp hj
    obtain ⟨rfl, rfl⟩ : Value.ref y.2.1 = k ∧ y.2.2 = v := ⟨congrArg Prod.fst e, congrArg Prod.snd e⟩
    obtain ⟨z, hz, hw, e1, e2⟩ := pat j y hy
    obtain ⟨h1, h2⟩ := ht j z _ hz hw
    rw [List.getElem?_toArray, ← e2]
    exact ⟨h1, .inl h2⟩
  · have hj : ps[i]? = some (k, v) := hj
    rw [List.getElem?_map] at hj
    obtain ⟨y, hy, e⟩ := Option.map_eq_some_iff.mp hj
    obtain ⟨rfl, rfl⟩ : Value.ref y.2.1 = k ∧ y.2.2 = v := ⟨congrArg Prod.fst e, congrArg Prod.snd e⟩
    exact ⟨y.1, y.2.1, hy, rfl⟩
  · obtain ⟨j, hj⟩ := List.mem_iff_getElem?.mp hy
    obtain ⟨z, hz, _, e1, e2⟩ := pat j y hj
    have hjx : j < xs.length := by
      have := (List.getElem?_eq_some_iff.mp hz).1
      omega
    obtain ⟨T, _, _, hkey⟩ := hp.2 j _ z (List.getElem?_eq_getElem hjx) hz
    have I2 : Inv X pins σ H { s with heap := h' } := I.kept (t' := s.toks) fun b ob e => hk b ob (Nat.ne_of_lt (Heap.lt_size e)) (fun h => nomatch h) e
    have := key_is I2 hkey
    rw [e1, e2] at this
    exact this
  · obtain ⟨qs, h1, h2⟩ := lay_all (l := nv) (xs := []) (us := []) .nil rw_
    have h2 : storedAllH [] (lay nv ws) = lay (putsN nv) qs := h2
    rw [h2] at m'
    have hm : (s.heap.objs.size == sysModules) = false := beq_eq_false_iff_ne.mpr (Nat.ne_of_gt I.big)
    have hl := puts_len nv
    exact ⟨.ref s.heap.objs.size, upd H s.heap.objs.size (DN X.prog X.w s.heap.objs.size (putsN nv)), I.laid (t' := tk) (fun b ob e => hk b ob (fun h => nomatch h) e) (Nat.le_refl _) (dn_ok (dn_to hm (by omega) h1 m')), rfl, q _ (I.hok.fresh (Nat.le_refl _))⟩
end
/-! ### a tuple, its object known as it stands -/
def FuP (ps : List Pr) : Pr := ⟨fun v H => ∃ a o xs, v = .ref a ∧ H a = some (.frz o (.tup xs)) ∧ o.dict = none ∧ AllP ps xs H, fun e ⟨a, o, xs, h1, h2, h3, h4⟩ => ⟨a, o, xs, h1, e _ _ h2, h3, h4.m e⟩⟩
theorem fu_tu {K : PySem.W.Frag} {ps : List Pr} {v : V} {H : Hp} (h : (FuP ps).P v H) : (TuP K ps).P v H := by
  obtain ⟨a, o, xs, rfl, h2, _, h4⟩ := h
  exact ⟨a, xs, rfl, .inl (.inr ⟨o, h2⟩), h4⟩
theorem p_tupFu {t : TA} {σ : L2.St} {B : Hp} {ps : List Pr} (h : EvPs t σ B ps) (hl : ps.length ≤ 100000) : EvP (tTupF t) σ B (FuP ps) := fun H1 a Q k =>
  h H1 a _ fun vs B2 H2 g b => ⟨sz_of (by rw [b.len]; exact hl), fun r o hr ho => k _ _ _ (g.trans (Gr.new (.frz o (.tup vs)) g.c hr)) ⟨r, o, vs, rfl, upd_same, ho, b.m (Ex.new (fresh_back g.c hr))⟩⟩
/-- tuple(list), the new tuple known as it stands -/
theorem p_tupOfF {te : TE} {σ : L2.St} {B : Hp} {ps : List Pr} {K : PySem.W.Frag} (h : EvP te σ B (LqP K ps)) :
    EvP (tCB (fun xs H Q => ∃ p ys, xs = [.ref p] ∧ SqL K H p ys ∧ ∀ l o, H l = none → o.dict = none → Q (.ref l) (upd H l (.frz o (.tup ys)))) (tCons te tNil)) σ B (FuP ps) := fun H1 a Q k => h H1 a _ fun v B2 H2 g x => by
  obtain ⟨l, xs, rfl, hl, al⟩ := x
  exact ⟨l, xs, rfl, ex_l g.c hl, fun m o hm ho => k _ _ _ (g.trans (Gr.new (.frz o (.tup xs)) g.c hm)) ⟨m, o, xs, rfl, upd_same, ho, al.m (Ex.new (fresh_back g.c hm))⟩⟩
section
variable {κ β : Type} [DecidableEq κ] {P : Program} {w : World} {K : PySem.W.Frag} {ky : Ky K κ} {vp : β → Pr}
def putsG (zs : List (κ × β)) : List (κ × β) := zs.foldl (fun a z => putG a z.1 z.2) []
theorem putsG_eq {zs : List (κ × β)} (nd : (zs.map (·.1)).Nodup) : putsG zs = zs := by
  suffices ∀ l a : List (κ × β), ((a ++ l).map (·.1)).Nodup → l.foldl (fun a z => putG a z.1 z.2) a = a ++ l by exact this zs [] nd
  intro l
  induction l with
  | nil => exact fun a _ => (List.append_nil a).symm
  | cons z l ih =>
    intro a h
    rw [List.foldl_cons]
    have no : hasG a z.1 = false := by
      cases e : hasG a z.1 with
      | false => rfl
      | true =>
        exfalso
        have := hasG_mem.mp e
        rw [List.map_append, List.nodup_append] at h
        exact h.2.2 _ this _ (List.mem_map.mpr ⟨z, List.mem_cons_self, rfl⟩) rfl
    have e : putG a z.1 z.2 = a ++ [z] := by
      unfold putG
      rw [no, if_neg Bool.false_ne_true]
    rw [e, ih (a ++ [z]) (by rw [List.append_assoc]; exact h), List.append_assoc]
    rfl
/-- what the tuple's pairs are -/
theorem pairs_of_fu {B H : Hp} (e : Ex B H) : ∀ {zs : List (κ × β)} {xs : List V}, AllP (zs.map fun z => TuP K [ky.kp z.1, vp z.2]) xs B → ∃ nv : List NV, PairsN K H xs nv ∧ ∀ (a : List (κ × β)) (c : List NV), KG ky vp a c B → KG ky vp (zs.foldl (fun a z => putG a z.1 z.2) a) (nv.foldl (fun xs z => putN xs z.1 z.2.1 z.2.2) c) B
  | [], [], _ => ⟨[], ⟨rfl, fun i x z h => by simp at h⟩, fun a c h => h⟩
  | z :: zs, x :: xs, h => by
    obtain ⟨nv, h1, h2⟩ := pairs_of_fu e (zs := zs) (xs := xs) h.2
    obtain ⟨T, ys, rfl, hT, al⟩ := h.1
    match ys, al with
    | [y1, y2], al =>
      obtain ⟨m1, m2, _⟩ := al
      obtain ⟨b, rfl⟩ := ky.rf m1
      refine ⟨(nk (ky.kd z.1), b, y2) :: nv, ⟨by rw [List.length_cons, List.length_cons, h1.1], fun i x w e1 e2 => ?_⟩, fun a c hk => ?_⟩
      · cases i with
        | zero =>
          obtain rfl := Option.some.inj e1
          obtain rfl := Option.some.inj e2
          exact ⟨T, rfl, ex_t e hT, ky.at_ ((ky.kp z.1).m e m1)⟩
        | succ i => exact h1.2 i x w e1 e2
      · rw [List.foldl_cons, List.foldl_cons]
        exact h2 _ _ (hk.put m1 m2)
/-- name = dict(pairs) -/
theorem ps_dictN {B H : Hp} {σ : L2.St} {te : TE} {D : Ends} {i : Nat} {zs : List (κ × β)} (a : Ex B H) (h : EvP te σ B (FuP (zs.map fun z => TuP K [ky.kp z.1, vp z.2]))) (nd : (zs.map (·.1)).Nodup)
    (q : ∀ d B2 H2, H d = none → Ex B B2 → DcAt P w ky vp B H d zs B2 H2 → D.nx (σ.set i (some (.ref d))) H2) : tAsg (tCB (rDictN P w K) (tCons te tNil)) (gName i) D σ H :=
  h H a _ fun v B2 H2 g b => by
    obtain ⟨l, o, xs, rfl, hl, ho, al⟩ := b
    obtain ⟨nv, h1, h2⟩ := pairs_of_fu (ky := ky) (vp := vp) g.c al
    refine ⟨l, o, xs, nv, rfl, g.c _ _ hl, ho, h1, fun d hd => ?_⟩
    refine q d B2 _ (fresh_back g.a hd) g.b ⟨by rw [wo_new hd]; exact g, _, upd_same, ?_⟩
    have := h2 [] [] trivial
    have e : zs.foldl (fun a z => putG a z.1 z.2) [] = zs := putsG_eq nd
    rw [e] at this
    exact this
end
end Nd
namespace PySem.W
set_option autoImplicit false
open PySem PySem.Calls PyProof.Rows PySem.SeqAt
theorem keyLt'_general (x y : Value) : keyLt' general' x y = oneLt' false x y := rfl
section
variable {prog : Program} {w : World} {A : Around} {E : Value → Shared → Prop} {s : Shared}
/-- the call of tuple's own __lt__, as sorting makes it -/
theorem call_tuple_lt {Q : Value → Shared → Prop} {l b : Addr} {items items2 : Array Value} {e r : Nat → Bool} (hl : s.heap.IsTuple l items) (hb : s.heap.IsTuple b items2)
    (he : ∀ j (h1 : j < items.size) (h2 : j < items2.size), EqAt A.in1 s items[j] items2[j] (e j)) (hr : ∀ j (h1 : j < items.size) (h2 : j < items2.size), e j = false → RcLt A.in1 s items[j] items2[j] (r j))
    (h : Q (.bool (firstLt e r (decide (items.size < items2.size)) (List.range (min items.size items2.size)))) s) : wpAny (model prog w) A (call (.builtin "tuple.__lt__") [.ref l, .ref b]) Q E s := by
  obtain ⟨⟨cls, dd, data, sl⟩, ho, hc, n, hd⟩ := id hl
  obtain ⟨⟨cls2, dd2, data2, sl2⟩, ho2, hc2, n2, hd2⟩ := id hb
  simp only at hc hd hc2 hd2
  subst hc hd hc2 hd2
  exact call_meets F.slot_tuple_lt ⟨_, ho, rfl⟩ F.entry_tuple_lt (F.args_tuple_lt_2 _ _) (tuple_ltAt l b items items2 n n2 dd dd2 sl sl2 e r) ⟨ho, ho2, he, hr, h⟩
theorem oneLt_tup {xs ys : List PyData} {a b : Value} {as bs : List Addr} {Q : Bool → Shared → Prop} (ra : Reads s.heap a (.tuple xs) as) (rb : Reads s.heap b (.tuple ys) bs) (h : alike (.tuple xs) (.tuple ys) = true)
    (hu : A.units + min (PyData.tuple xs).depth (PyData.tuple ys).depth < cLine) (hq : Q (dataLt (.tuple xs) (.tuple ys)) s) : wpAny (model prog w) A (oneLt' true a b) Q E s := by
  have hal : alikeAll xs ys = true := by simpa [alike] using h
  cases ra with
  | @tuple l o vs n _ as₁ h1 h2 h3 h4 =>
    cases rb with
    | @tuple l' o' vs' n' _ bs₁ k1 k2 k3 k4 =>
      have n1 : vs.size = xs.length := by simpa using SeqAt.ReadsAll.length _ _ _ h4
      have n2 : vs'.size = ys.length := by simpa using SeqAt.ReadsAll.length _ _ _ k4
      rw [dataLt_tuple, ← firstLt_toks xs ys hal, ← n1, ← n2] at hq
      rw [oneLt'_eq]
      simp only [if_true]
      refine wpAny_bind (wpAny_cRoomFor (room_here hu) ?_)
      refine wpAny_bind (wpAny_callSpecialIfBound?_slot (T := "tuple") ⟨_, h1, h2⟩ F.slot_tuple_lt (call_tuple_lt (e := pairEq xs ys) (r := fun j => dataLt (xs.getD j .none) (ys.getD j .none)) ⟨_, h1, h2, _, h3⟩ ⟨_, k1, k2, _, k3⟩ (fun j j1 j2 => ?_) (fun j j1 j2 hj => ?_) ?_))
      · have := eqAt_alikeAll xs ys A.in1 s vs.toList vs'.toList _ _ h4 k4 hal (room_in hu) j (by simpa using j1) (by simpa using j2)
        simpa using this
      · have := rcLt_alikeAll xs ys A.in1 s vs.toList vs'.toList _ _ h4 k4 hal (room_in hu) j (by simpa using j1) (by simpa using j2) hj
        simpa using this
      · exact wpAny_truthy_bool hq
theorem each_right {α β : Type} {R : α → β → Prop} : ∀ {as : List α} {bs : List β}, EachIs R as bs → ∀ b ∈ bs, ∃ a ∈ as, R a b
  | _, _, .nil, b, h => absurd h (by simp)
  | _, _, .cons (a := x) h t, b, hb => by
    rcases List.mem_cons.mp hb with rfl | hb
    · exact ⟨x, List.mem_cons_self .., h⟩
    · obtain ⟨a, ha, r⟩ := each_right t b hb
      exact ⟨a, List.mem_cons_of_mem _ ha, r⟩
theorem tup_first {h : Heap} {xs : List PyData} {v : Value} {as : List Addr} (r : Reads h v (.tuple xs) as) : ∃ a o vs n, v = .ref a ∧ h.get? a = some o ∧ o.cls = .type "tuple" ∧ o.data = .seq vs n ∧ (vs[0]?.isSome = true ↔ xs ≠ []) := by
  cases r with
  | @tuple l o vs n _ as₁ h1 h2 h3 h4 =>
    have n1 : vs.size = xs.length := by simpa using SeqAt.ReadsAll.length _ _ _ h4
    refine ⟨l, o, vs, n, rfl, h1, h2, h3, ?_⟩
    cases xs with
    | nil =>
      have : vs[0]? = none := Array.getElem?_eq_none (by rw [n1]; exact Nat.le_refl _)
      rw [this]
      simp
    | cons x r =>
      have : vs[0]? = some (vs[0]'(by rw [n1]; exact Nat.succ_pos _)) := Array.getElem?_eq_getElem _
      rw [this]
      simp
theorem each_firsts {M : Model} : ∀ {vs : List Value} {ds : List PyData}, EachIs (fun v d => ∃ as, Reads s.heap v d as) vs ds → (∀ d ∈ ds, ∃ xs, d = .tuple xs) →
    ∃ fs : List (Option Value), (∀ (Q : List (Option Value) → Shared → Prop), Q fs s → wpAny M A (vs.mapM firstOfTuple') Q E s) ∧ EachIs (fun f d => f.isSome = true ↔ d ≠ .tuple []) fs ds
  | _, _, .nil, _ => ⟨[], fun Q q => by rw [List.mapM_nil]; exact wpAny_pure q, .nil⟩
  | _, _, .cons (b := d) ⟨as, r⟩ t, ht => by
    obtain ⟨fs, h1, h2⟩ := each_firsts (M := M) t fun d hd => ht d (List.mem_cons_of_mem _ hd)
    obtain ⟨xs, rfl⟩ := ht d (List.mem_cons_self ..)
    obtain ⟨a, o, vs, n, rfl, ho, hc, hd, hf⟩ := tup_first r
    refine ⟨vs[0]? :: fs, fun Q q => ?_, .cons ?_ h2⟩
    · rw [List.mapM_cons]
      refine wpAny_bind ?_
      rw [kas_first_eq]
      refine wpAny_bind (Looks.here (show Looks M s.heap (typeOf (.ref a)) o.cls from (Looks.ld ho).andThen .now) ?_)
      rw [hc, if_neg (by first | decide | simp)]
      refine wpAny_bind (listItems_at ho hd (wpAny_pure ?_))
      exact wpAny_bind (h1 (fun bs s' => wpAny M A (pure (vs[0]? :: bs)) Q E s') (wpAny_pure q))
    · rw [hf]
      constructor
      · intro h e
        injection e with e
        exact h e
      · intro h e
        exact h (by rw [e])
/-- tuples, some of them empty, can be sorted -/
theorem SortsAt.tups {vs : List Value} {ds : List PyData} (e : EachIs (fun v d => ∃ as, Reads s.heap v d as) vs ds) (hal : AllAlike ds) (hk : ∀ d ∈ ds, ∃ xs, d = PyData.tuple xs) (hu : ∀ d, d ∈ ds → A.units + d.depth < cLine) : SortsAt prog w A s (dataKind s.heap ds) vs := by
  by_cases hne : ∀ d ∈ ds, d ≠ PyData.tuple []
  · refine SortsAt.data e hal (.inl fun d hd => ?_) hu
    obtain ⟨xs, rfl⟩ := hk d hd
    cases xs with
    | nil => exact absurd rfl (hne _ hd)
    | cons x r => exact ⟨x, r, rfl⟩
  · have room : ∀ {d d' : PyData}, d ∈ ds → A.units + min d.depth d'.depth < cLine := fun {d d'} hd => Nat.lt_of_le_of_lt (Nat.add_le_add_left (Nat.min_le_left _ _) _) (hu d hd)
    have hsome : ∃ d ∈ ds, d = PyData.tuple [] := Classical.byContradiction fun hn => hne fun d hd he => hn ⟨d, hd, he⟩
    have kind : ∃ f : Bool, ∀ (E : Value → Shared → Prop) {Q : SortKind → Shared → Prop}, Q (cond f general' oneType') s → wpAny (model prog w) A (keyKind' vs.toArray) Q E s := by
      obtain ⟨fs, -, h2⟩ := each_firsts (A := A) (E := fun _ _ => True) (M := model prog w) e hk
      have hnall : (fs.toArray.all fun x => x.isSome) = false := by
        rw [List.all_toArray, List.all_eq_false]
        obtain ⟨d, hd, he⟩ := hsome
        obtain ⟨f, hf, hfd⟩ := each_right h2 d hd
        exact ⟨f, hf, fun q => hfd.mp q he⟩
      refine ⟨(fs.toArray[0]?.bind id).isSome, fun E Q hq => ?_⟩
      obtain ⟨fs', h1, h2'⟩ := each_firsts (A := A) (E := E) (M := model prog w) e hk
      rw [keyKind'_eq, List.mapM_toArray, map_eq_pure_bind]
      refine wpAny_bind (wpAny_bind (h1 _ (wpAny_pure ?_)))
      have hnall' : (fs'.toArray.all fun x => x.isSome) = false := by
        rw [List.all_toArray, List.all_eq_false]
        obtain ⟨d, hd, he⟩ := hsome
        obtain ⟨f, hf, hfd⟩ := each_right h2' d hd
        exact ⟨f, hf, fun q => hfd.mp q he⟩
      rw [hnall']
      rw [if_neg Bool.false_ne_true]
      have hsame : (fs'.toArray[0]?.bind id).isSome = (fs.toArray[0]?.bind id).isSome := by
        cases h2 with
        | nil =>
          cases h2'
          rfl
        | cons a b =>
          cases h2' with
          | cons a' b' =>
            simp only [List.getElem?_toArray, List.getElem?_cons_zero, Option.bind_some, id]
            rw [Bool.eq_iff_iff]
            exact a'.trans a.symm
      rw [hsame]
      cases hb : (fs.toArray[0]?.bind id).isSome with
      | true =>
        rw [hb] at hq
        rw [if_pos rfl]
        exact wpAny_pure hq
      | false =>
        rw [hb] at hq
        rw [if_neg Bool.false_ne_true]
        have looks : ∀ v ∈ vs, Looks (model prog w) s.heap (typeOf v) (Value.type "tuple") := fun v hv => by
          obtain ⟨d, hd, as, r⟩ := e.left v hv
          obtain ⟨xs, rfl⟩ := hk d hd
          exact looks_reads r
        have hpos : 0 < vs.length := by
          obtain ⟨d, hd, he⟩ := hsome
          obtain ⟨v, hv, -⟩ := each_right e d hd
          exact List.length_pos_of_mem hv
        rw [oneTypeOnly'_eq, List.mapM_toArray, map_eq_pure_bind]
        refine wpAny_bind (wpAny_bind (wpAny_bind (kas_mapM (r := Value.type "tuple") _ (fun v hv Q' hq => (looks v hv).here hq) (wpAny_pure ?_))))
        have hall : ((List.map (fun _ => Value.type "tuple") vs).toArray.all fun x => x == Value.type "tuple") = true := by
          simp only [List.all_toArray, List.all_map, List.all_eq_true]
          intro _ _
          rfl
        have h0 : (List.map (fun _ => Value.type "tuple") vs).toArray[0]? = some (Value.type "tuple") := by
          cases vs with
          | nil => exact absurd hpos (Nat.lt_irrefl _)
          | cons v vs => simp
        rw [h0]
        simp only [hall, if_true]
        exact wpAny_pure (wpAny_pure hq)
    obtain ⟨f, hkind⟩ := kind
    refine ⟨fun v hv => ?_, cond f general' oneType', ?_, fun _ E Q hq => hkind E hq⟩
    · obtain ⟨d, hd, as, r⟩ := e.left v hv
      exact ⟨_, dataKind_some hal hd r⟩
    · intro E x y a b Q ha hb hq
      obtain ⟨d, as, hd, ra, rfl⟩ := dataKind_inv ha
      obtain ⟨d', as', hd', rb, rfl⟩ := dataKind_inv hb
      obtain ⟨xs, rfl⟩ := hk d hd
      obtain ⟨ys, rfl⟩ := hk d' hd'
      cases f with
      | true =>
        show wpAny (model prog w) A (keyLt' general' x y) Q E s
        rw [keyLt'_general]
        exact oneLt_alike (fun h => absurd h Bool.false_ne_true) ra rb (hal _ hd _ hd') (fun h => nomatch h) (room hd) hq
      | false =>
        show wpAny (model prog w) A (keyLt' oneType' x y) Q E s
        rw [keyLt'_oneType]
        exact oneLt_tup ra rb (hal _ hd _ hd') (room hd) hq
end
end PySem.W
-- PART2
namespace Nd
set_option autoImplicit false
open PySem PySem.Spec PySem.W PySem.Calls PyProof.Rows L2 My Evl
section
variable {X : Cx} {pins : List (Addr × Obj)} {σ : L2.St} {H : Hp} {s : Shared} {A : Around} {E : Value → Shared → Prop}
/-- sorted(d) of a dict by tuples -/
theorem sorted_dictM {d : Addr} {ks : List PyData} {as : List Addr} {Q : VK} (I : Inv X pins σ H s) (hh : A.in1.handled = none) {o : Obj} {es : Array DictEntry} {ep : Nat} (lo : (d == sysModules) = false)
    (ho : s.heap.get? d = some o) (ex : o.ExactDict) (hd : o.data = .dict es ep) (hes : es.toList.map (·.key) = as.map Value.ref) (hz : as.length ≤ sizeLine)
    (hl : ks.length = as.length) (hal : AllAlike ks) (hsk : ∀ d ∈ ks, ∃ xs, d = PyData.tuple xs) (hu : ∀ d, d ∈ ks → A.units + 2 + d.depth < cLine) (dp : DpAll X.K H (as.map V.ref) ks)
    (q : ∀ a, H a = none → Q (.ref a) (upd H a (.lst (byKey (as.map V.ref) ks)))) :
    wpAny (model X.prog X.w) A (call (.builtin "sorted") [.ref d]) (EP X pins σ Q) E s := by
  have hsz : es.size = as.length := by simpa using congrArg List.length hes
  refine call_function_entry_kw kind_sorted plain_sorted entry_sorted (args_sorted1 _) ?_
  unfold Builtin.«sorted»
  refine wpAny_bind (m := checkCount "sorted" 1 1 _) (wpAny_pure ?_)
  refine wpAny_bind (kdu_collect (A := A.in1) (KdlSrc.rawDict (es := es) (ep := ep) lo) hh ⟨o, ho, ex, hd⟩ (by omega) fun h1 tk acc hk hacc => ?_)
  have hA : acc.toList = as.map Value.ref := by
    apply List.ext_getElem?
    intro i
    by_cases hi : i < as.length
    · have hi2 : i < acc.size := by rw [hacc.1]; omega
      obtain ⟨hi3, e⟩ := hacc.2 i acc[i] (by rw [Array.getElem?_eq_getElem hi2])
      have e2 : (es.toList.map (·.key))[i]? = some es[i].key := by
        rw [List.getElem?_map, List.getElem?_eq_getElem (by simpa using hi3)]
        simp
      rw [← hes, e2, ← e]
      simp [hi2]
    · rw [List.getElem?_eq_none (by rw [Array.length_toList, hacc.1]; omega), List.getElem?_eq_none (by rw [List.length_map]; omega)]
  rw [hA]
  refine wpAny_bind (wpAny_newList ?_ (by rw [List.length_map]; exact hz))
  have I1 := I.kept (t' := tk) (h' := h1) hk
  have I2 := I1.kept (t' := tk) (h' := h1.push (seqObj "list" (as.map Value.ref).toArray 0)) (fun c o e => Heap.get?_push_of_some _ e)
  have at1 : (h1.push (seqObj "list" (as.map Value.ref).toArray 0)).get? h1.objs.size = some (seqObj "list" (as.map Value.ref).toArray 0) := Heap.get?_push_size _ rfl
  have hl' : ks.length = (as.map V.ref).length := by rw [List.length_map]; exact hl
  have vl : (byKey (as.map V.ref) ks).length ≤ sizeLine := by
    show (((as.map V.ref).zip ks).mergeSort (dataLe false (·.2)) |>.map (·.1)).length ≤ _
    rw [List.length_map, List.length_mergeSort, List.length_zip, List.length_map]
    omega
  have ev : EachIs (fun u d => ∃ bs, Reads (sortingHeap (h1.push (seqObj "list" (as.map Value.ref).toArray 0)) h1.objs.size (as.map Value.ref)) u d bs) (as.map Value.ref) ks :=
    (dps_each I1 (My.vals_refs as) dp).mono fun u d ⟨bs, r⟩ => ⟨bs, Reads.keeps (fun b o e => sortingHeap_old (Nat.ne_of_lt (Heap.lt_size e)) (Heap.get?_push_of_some _ e)) r⟩
  have ez := zip_snd hl'
  have er := each_zip ev hl'
  have out := sortVals_data (enc := fun p : V × PyData => p.2) false (vals_each (h := s.heap) (My.vals_refs as) hl') er (by rw [ez]; exact hal)
  obtain ⟨c, at3⟩ := sortedHeap_at (vs := as.map Value.ref) (out := (sortVals (dataKind (sortingHeap (h1.push (seqObj "list" (as.map Value.ref).toArray 0)) h1.objs.size (as.map Value.ref)) (((as.map V.ref).zip ks).map fun p => p.2)) false (as.map Value.ref) (as.map Value.ref)).toArray) at1
  refine wpAny_bind (wpAny_holding (wpAny_call_entry_kw slot_list_sort ⟨_, at1, rfl⟩ entry_list_sort ?_ (args_list_sort _)))
  refine list_sort_vals (s := { s with heap := h1.push (seqObj "list" (as.map Value.ref).toArray 0), toks := tk }) (κ := dataKind (sortingHeap (h1.push (seqObj "list" (as.map Value.ref).toArray 0)) h1.objs.size (as.map Value.ref)) (((as.map V.ref).zip ks).map fun p => p.2)) at1 ?_ (by rw [List.length_map]; exact hz) ?_
  · rw [ez]
    exact SortsAt.tups (s := { s with heap := sortingHeap (h1.push (seqObj "list" (as.map Value.ref).toArray 0)) h1.objs.size (as.map Value.ref), toks := tk }) ev hal hsk hu
  · refine ⟨_, rfl, wpAny_pure ⟨_, rfl, .ref h1.objs.size, _, free2 (b := h1.objs.size + 1) (t' := tk) I2 (Fre.of I1 (Nat.le_refl _)) (Fre.of I1 (Nat.le_succ h1.objs.size)) (I1.hok.fresh (Nat.le_refl _)) (I1.hok.fresh (Nat.le_succ _)) (fun x o n1 n2 e => (sortedHeap_old n1 (Heap.lt_size e)).trans e) ⟨vl, _, c, each_vals out, at3⟩, rfl, q _ (I1.hok.fresh (Nat.le_refl _))⟩⟩
end
section
variable {X : Cx} {pins : List (Addr × Obj)} {σ : L2.St} {H : Hp} {s : Shared}
/-- sorted(e), e a dict by nested keys -/
def tSortM (P : Program) (w : World) (K : PySem.W.Frag) (te : TE) : TE := fun σ H Q => te σ H fun v H1 => ∃ (d : Addr) (xs : List NV) (ks : List PyData), v = .ref d ∧ H1 d = some (DN P w d xs) ∧ ks.length = xs.length ∧ PySem.W.AllAlike ks ∧ (∀ d ∈ ks, ∃ xs, d = PyData.tuple xs) ∧ (∀ e, e ∈ ks → e.depth ≤ 50) ∧
  DpAll K H1 (xs.map fun x => V.ref x.2.1) ks ∧ ∀ a, H1 a = none → Q (.ref a) (upd H1 a (.lst (byKey (xs.map fun x => V.ref x.2.1) ks)))
theorem pe_sortM {te : TE} {e : Expr} {p pos : Pos} {k : Nat} (hr : Room k X.A) (hg : Gl X "sorted") (hm : X.mg "sorted" = none) (he : PE X e te)
    (na : starEach [e] X.env = (false, eval e X.env) :: starEach [] X.env := by rfl) : PE X (.Call (.Name "sorted" p) [e] [] pos) (tSortM X.prog X.w X.K te) := by
  refine ⟨fun pins s σ H Q I h => ?_⟩
  refine PyProof.Rows.Call_ (ld_blt I hg hm (u := .builtin "sorted") (by decide +kernel) ?_)
  refine PyProof.Rows.callWith_builtin1 (PyProof.Rows.args_cons (thn (he.run pins s σ H _ I h) fun u s1 ⟨v, H1, I1, r1, q1⟩ => PyProof.Rows.args_nil ?_) na) na rfl
  obtain ⟨d, xs, ks, rfl, hd, a1, a2, a3, a4, a5, a6⟩ := q1
  obtain rfl : u = Value.ref d := r1
  have un := hr.un
  obtain ⟨z1, z2, us, o, es, ep, rr, e1, e2, e3, e4, e5⟩ := (I1.hok d _ hd).1
  have em : (xs.map fun x => V.ref x.2.1) = (xs.map (·.2.1)).map V.ref := by rw [List.map_map]; rfl
  rw [em] at a5
  simp only [em] at a6
  exact sorted_dictM (E := X.xe) I1 (show X.A.in1.handled = none from hr.hd) z1 e1 e2 e3 (as := xs.map (·.2.1)) (by rw [e4, lay_ref (vlen rr)]) (by rw [List.length_map]; exact z2) (by rw [a1, List.length_map]) a2 a3 (fun d hd => by
    have := a4 d hd
    omega) a5 a6
end
end Nd
local macro_rules | `(tactic| walk_at "cond") => `(tactic| (refine My.isP ?_; first
  | decide
  | omega
  | (dsimp only; first | omega | decide)
  | exact ⟨by decide, by decide, by decide⟩
  | exact ⟨by decide, by decide⟩
  | exact ⟨by omega, by omega⟩
  | exact Or.inl ⟨by omega, by omega⟩
  | exact Or.inr ⟨by omega, by omega⟩))
local macro_rules | `(tactic| walk_at "go") => `(tactic| repeat (first
  | refine ⟨_, _, rfl, rfl, (by (walk_at "cond"); done), ?_⟩
  | refine ⟨_, _, rfl, rfl, ?_⟩
  | refine ⟨_, rfl, ?_⟩
  | refine ⟨rfl, ?_⟩
  | refine ⟨⟨_, rfl⟩, ?_⟩))
namespace K12
set_option autoImplicit false
open PySem L2 Evl My
def topS (i : Nat) : Stmt := PySem.Challenge.pw_rankedchains_k03_polynomials_reckoned.main.body.getD i (.Pass ⟨0, 0, 0, 0⟩)
theorem all1 {p : Pr} {vs : List V} {H : Hp} (h : AllP [p] vs H) : ∃ v, vs = [v] ∧ p.P v H := by
  match vs, h with
  | [v], h => exact ⟨v, rfl, h.1⟩
theorem all2 {p q : Pr} {vs : List V} {H : Hp} (h : AllP [p, q] vs H) : ∃ v u, vs = [v, u] ∧ p.P v H ∧ q.P u H := by
  match vs, h with
  | [v, u], h => exact ⟨v, u, rfl, h.1, h.2.1⟩
theorem all3 {p q r : Pr} {vs : List V} {H : Hp} (h : AllP [p, q, r] vs H) : ∃ v u t, vs = [v, u, t] ∧ p.P v H ∧ q.P u H ∧ r.P t H := by
  match vs, h with
  | [v, u, t], h => exact ⟨v, u, t, rfl, h.1, h.2.1, h.2.2.1⟩
section
variable {P : Program} {w : World} {K : PySem.W.Frag} {mg : Str → Option Value} {base : Heap}





end
end K12
namespace K12
set_option autoImplicit false
open PySem L2 Evl My
section
variable {P : Program} {w : World} {K : PySem.W.Frag} {mg : Str → Option Value} {base : Heap}
end
end K12
namespace K12
set_option autoImplicit false
open PySem PySem.W L2 Evl My Nd
section
variable {P : Program} {w : World} {K : PySem.W.Frag} {mg : Str → Option Value} {base : Heap}







end
end K12
namespace K12
set_option autoImplicit false
open PySem PySem.W L2 Evl My Nd
section
variable {P : Program} {w : World} {K : PySem.W.Frag} {mg : Str → Option Value} {base : Heap}




/-- derivatives_in -/
abbrev s_derivatives_in : Stmt := topS 26
abbrev N_derivatives_in : List Str := ["one", "found", "monomial", "_", "derivative"]
theorem sc_derivatives_in : FnScope N_derivatives_in ["one"] (defScope s_derivatives_in) := ⟨rfl, rfl, rfl, by decide +kernel, rfl, by decide +kernel, by decide +kernel⟩
theorem ok_derivatives_in {f : Addr} {fd : FuncData} (F : Fun K "derivatives_in" "derivatives_in" s_derivatives_in f fd)   (n_tuple : mg "tuple" = none) (n_sorted : mg "sorted" = none)  :
    FnOk P w K mg base CX0 1 f fd ["one"] (spP (Rdin K)) := by
  refine F.ok sc_derivatives_in (spP_len (by rintro _ _ ⟨c, _, rfl, rfl⟩; rfl)) (fun cdv A outer s H vs Q E hr h => ?_)
  obtain ⟨B, ps, p, eB, hv, ⟨c, hc, rfl, rfl⟩, q⟩ := h
  obtain ⟨v, rfl, h1⟩ := all1 hv
  have hu := hu_of hr
  refine ⟨_, (pss_cons (ps_set (i := 1) sc_derivatives_in.nd rfl (by first | exact .inl rfl | exact .inr rfl) pe_dnewN)
    (pss_cons (ps_for PassesOwn.never rfl (pi_tup (pv 0)) (pg_tup (by rfl) (pgs_cons (pg_name (i := 2) sc_derivatives_in.nd rfl (by first | exact .inl rfl | exact .inr rfl)) (pgs_cons (pg_name (i := 3) sc_derivatives_in.nd rfl (by first | exact .inl rfl | exact .inr rfl)) pgs_nil)))
      (pss_one (ps_for PassesOwn.never rfl (pi_tup (pv 2)) (pg_tup (by rfl) (pgs_cons (pg_name (i := 4) sc_derivatives_in.nd rfl (by first | exact .inl rfl | exact .inr rfl)) (pgs_cons (pg_name (i := 3) sc_derivatives_in.nd rfl (by first | exact .inl rfl | exact .inr rfl)) pgs_nil)))
      (pss_one (ps_dputN (by have h := hr.un; show (A.deeper _).units + 9 < cLine; omega) (pv 1) (pv 4) pe_bl rfl)))))
    (pss_one (ps_ret (pe_callTy call_tuple_of (by rfl) n_tuple (by decide +kernel) (pa_cons (pe_sortN hr (by rfl) n_sorted (pv 1)) pa_nil)))))), ?_⟩
  intro d hd
  have hBd : B d = none := fresh_back eB hd
  dsimp only
  refine ps_forV (Ex.mut eB hBd) rfl h1 ?_
  refine ⟨fun i σ H4 => Ex H H4 ∧ Ex B H4 ∧ ∃ xs, H4 d = some (DN P w d xs) ∧ KeyL ((dvs (c.take i)).foldl addD []) xs B ∧ ∃ x y z, σ = [some v, some (.ref d), x, y, z], ⟨Ex.new hd, Ex.mut eB hBd, [], upd_same, ⟨rfl, trivial⟩, none, none, none, rfl⟩, fun i σ H4 _ h => h.2.1, fun i v2 σ H4 hi pv px => ?_, fun σ H4 pv => ?_⟩
  · obtain ⟨x2, x1, xs, h4, kl, x, y, z, rfl⟩ := pv
    rw [List.length_map] at hi
    rw [getD_map hi] at px
    obtain ⟨p3, ys, rfl, hp3, al⟩ := px
    obtain ⟨y1, y2, rfl, m1, m2⟩ := all2 al
    refine ⟨p3, _, rfl, ex_t x1 hp3, rfl, _, _, rfl, _, _, rfl, rfl, ?_⟩
    refine ps_forV x1 rfl m1 ?_
    refine ⟨fun j σ H5 => Ex H H5 ∧ Ex B H5 ∧ ∃ xs, H5 d = some (DN P w d xs) ∧ KeyL ((dvs (c.take i) ++ (c[i].1.take j).map (·.1)).foldl addD []) xs B ∧ ∃ x y z, σ = [some v, some (.ref d), x, y, z], ⟨x2, x1, xs, h4, by simpa using kl, _, _, _, rfl⟩, fun j σ H5 _ h => h.2.1, fun j v3 σ H5 hj pv px => ?_, fun σ H5 pv => ?_⟩
    · obtain ⟨w2, w1, xs, h5, kl, x, y, z, rfl⟩ := pv
      rw [List.length_map] at hj
      rw [getD_map hj] at px
      obtain ⟨p4, zs, rfl, hp4, al4⟩ := px
      obtain ⟨z1, z2, rfl, n1, n2⟩ := all2 al4
      obtain ⟨a, rfl, ha⟩ := n1
      have n1 : (DvP (c[i].1[j]).1).P (.ref a) B := ⟨a, rfl, ha⟩
      refine ⟨p4, _, rfl, ex_t w1 hp4, rfl, _, _, rfl, _, _, rfl, rfl, ?_⟩
      have hb := fold_len (dvs (c.take i) ++ (c[i].1.take j).map (·.1)) []
      have hb2 := dvs_le hi j
      have hb3 := kl.len
      rw [List.length_nil, Nat.zero_add] at hb
      refine ⟨_, rfl, _, rfl, d, a, xs, nk (c[i].1[j]).1.D, rfl, rfl, h5, kl.ok w1, (key_dv n1).ex w1, by omega, ?_⟩
      refine ⟨Ex.mut w2 hd, Ex.mut w1 hBd, _, upd_same, ?_, _, _, _, rfl⟩
      have e : c[i].1.take (j + 1) = c[i].1.take j ++ [c[i].1[j]] := by
        rw [List.take_add_one, List.getElem?_eq_getElem hj]
        rfl
      rw [e, List.map_append, ← List.append_assoc, List.foldl_append]
      exact kl.put n1
    · obtain ⟨w2, w1, xs, h5, kl, x, y, z, rfl⟩ := pv
      rw [List.length_map, List.take_length] at kl
      refine ⟨w2, w1, xs, h5, ?_, _, _, _, rfl⟩
      rw [dvs_take hi]
      exact kl
  · obtain ⟨x2, x1, xs, h4, kl, x, y, z, rfl⟩ := pv
    rw [List.length_map, List.take_length] at kl
    have hn := kl.len
    have ka := kl.refs.m x1
    refine ⟨.ref d, rfl, d, xs, (dedD (dvs c)).map Dv.D, rfl, h4, by rw [List.length_map]; exact hn.symm, AllAlike.of fun u v => alike_dv u v, Sortable.tuples fun u => ⟨_, _, rfl⟩, fun e he => ?_, dps_dv ka, fun a ha => ⟨a, _, rfl, .inl ⟨sq_of upd_same, fun l hl => ?_⟩⟩⟩
    · obtain ⟨u, _, rfl⟩ := List.mem_map.mp he
      rw [deep_dv]
      decide
    · have e5 : Ex H (upd H4 a (.lst (byKey (xs.map fun x => V.ref x.2.1) ((dedD (dvs c)).map Dv.D)))) := x2.trans (Ex.new ha)
      exact q (.ref l) _ _ ((Gr.wide eB e5).trans (Gr.new (.tup (byKey (xs.map fun x => V.ref x.2.1) ((dedD (dvs c)).map Dv.D))) (eB.trans e5) hl)) ⟨l, _, rfl, st_of upd_same, (byKey_dv kl.refs).m (Ex.new (fresh_back (eB.trans e5) hl))⟩

end
end K12
namespace K12
set_option autoImplicit false
open PySem PySem.W L2 Evl My Nd
theorem in_len {c : Po} (h : (dvs c).length ≤ 1000) : (dvsIn c).length ≤ 1000 := by
  have := fold_len (dvs c) []
  unfold dvsIn srtD
  rw [List.length_mergeSort]
  unfold dedD
  rw [List.length_nil] at this
  omega
section
variable {te ta tb : TE} {σ : L2.St} {B H : Hp} {ps : List Pr} {K : PySem.W.Frag} {t : TA}
end
section
variable {P : Program} {w : World} {K : PySem.W.Frag} {mg : Str → Option Value} {base : Heap}






end
end K12
namespace Nd
set_option autoImplicit false
open PySem PySem.W L2 My Evl
open scoped Rat
def rtP (K : PySem.W.Frag) (r : Rat) : Pr := frP K (fr r)
def Rprod (K : PySem.W.Frag) : List Pr → Pr → Prop := fun ps p => ∃ r s : Rat, Sm r ∧ Sm s ∧ ps = [rtP K r, rtP K s] ∧ p = rtP K (r * s)
def Rsum (K : PySem.W.Frag) : List Pr → Pr → Prop := fun ps p => ∃ r s : Rat, Sm r ∧ Sm s ∧ ps = [rtP K r, rtP K s] ∧ p = rtP K (r + s)
theorem lg {n k : Nat} (h : n < 2 ^ k) : n.log2 ≤ k := by
  by_cases e : n = 0
  · subst e
    rw [Nat.log2_zero]
    exact Nat.zero_le _
  · exact Nat.le_of_lt ((Nat.log2_lt e).mpr h)
theorem lg_le {n m k : Nat} (h : n < 2 ^ k) (l : m ≤ n) : m.log2 ≤ k := lg (Nat.lt_of_le_of_lt l h)
section
variable {te ta tb : TE} {σ : L2.St} {B : Hp} {K : PySem.W.Frag} {r s : Rat}
theorem ev_top (h : EvP te σ B (rtP K r)) : Ev (tOp (rIxT K) te (tC (.int 0))) σ B (.int (fr r).1) := ev_p (p_ixT h p_c rfl)
theorem ev_bot (h : EvP te σ B (rtP K r)) : Ev (tOp (rIxT K) te (tC (.int 1))) σ B (.int (fr r).2) := ev_p (p_ixT h p_c rfl)
theorem ev_mulW {i j : Int} {k : Nat} (ha : Ev ta σ B (.int i)) (hb : Ev tb σ B (.int j)) (hi : i.natAbs.log2 ≤ k) (hj : j.natAbs.log2 ≤ k) (hk : k ≤ 100000 := by decide) : Ev (tOp (rI CMulW fun i j => .int (i * j)) ta tb) σ B (.int (i * j)) := ev_op ha hb (rv_I (by show _ + _ < _; omega))
theorem ev_divW {i j : Int} (ha : Ev ta σ B (.int i)) (hb : Ev tb σ B (.int j)) (h : 0 < j ∧ j.natAbs.log2 < 9000) : Ev (tOp (rI CDivW fun i j => .int (i / j)) ta tb) σ B (.int (i / j)) := ev_op ha hb (rv_I h)
theorem ev_addI {i j : Int} (ha : Ev ta σ B (.int i)) (hb : Ev tb σ B (.int j)) : Ev (tOp (rI0 fun i j => .int (i + j)) ta tb) σ B (.int (i + j)) := ev_op ha hb rv_I0
end
theorem gcd_dv {a b : Int} (hb : 0 < b) (hl : b.natAbs < 2 ^ 4000) : 0 < ((Nat.gcd a.natAbs b.natAbs : Nat) : Int) ∧ ((Nat.gcd a.natAbs b.natAbs : Nat) : Int).natAbs.log2 < 9000 := by
  have h0 : 0 < b.natAbs := by omega
  have h1 := Nat.gcd_pos_of_pos_right a.natAbs h0
  refine ⟨by omega, ?_⟩
  rw [Int.natAbs_natCast]
  exact Nat.lt_of_le_of_lt (lg_le hl (Nat.gcd_le_right _ h0)) (by decide)
theorem div_na (a b : Int) : (a / b).natAbs ≤ a.natAbs := Int.natAbs_ediv_le_natAbs a b
theorem fr_mul1 {r s : Rat} (h : (fr r).2 = 1) (k : (fr s).2 = 1) : fr (r * s) = ((fr r).1 * (fr s).1, 1) := by
  rw [fr_mul, h, k]
  simp
theorem sm_top {r : Rat} (h : Sm r) : (fr r).1.natAbs < 2 ^ 4000 := h.1
theorem sm_bot {r : Rat} (h : Sm r) : (fr r).2.natAbs < 2 ^ 4000 := h.2
theorem fr_addc {r s : Rat} (h : Int.gcd (fr r).2 (fr s).2 = 1) : fr (r + s) = ((fr r).1 * (fr s).2 + (fr s).1 * (fr r).2, (fr r).2 * (fr s).2) := by
  rw [fr_add, h]
  simp
end Nd
namespace K12
set_option autoImplicit false
open PySem PySem.W L2 Evl My Nd
section
variable {P : Program} {w : World} {K : PySem.W.Frag} {mg : Str → Option Value} {base : Heap}

/-- product -/
abbrev s_product : Stmt := topS 5
abbrev N_product : List Str := ["one", "other", "left", "right"]
theorem sc_product : FnScope N_product ["one", "other"] (defScope s_product) := ⟨rfl, rfl, rfl, by decide +kernel, rfl, by decide +kernel, by decide +kernel⟩
theorem ok_product {f : Addr} {fd : FuncData} (F : Fun K "product" "product" s_product f fd)    (g_gcd : mg "gcd" = some (.builtin "math.gcd")) :
    FnOk P w K mg base CX0 1 f fd ["one", "other"] (spP (Rprod K)) := by
  refine F.ok sc_product (spP_len (by rintro _ _ ⟨r, s, _, _, rfl, rfl⟩; rfl)) (fun cdv A outer s H vs Q E hr h => ?_)
  obtain ⟨B, ps, p, eB, hv, ⟨r, s, hr1, hs1, rfl, rfl⟩, q⟩ := h
  obtain ⟨v0, v1, rfl, h0, h1⟩ := all2 hv
  have hu := hu_of hr
  refine ⟨_, (pss_cons (ps_if (PW.pt (pw_and (pt_cmpR op_eq (pe_ix ix_tup (pv 0) pe_int (fun _ _ => rfl)) pe_int (nomark _)) (pw_and1 (pt_cmpR op_eq (pe_ix ix_tup (pv 1) pe_int (fun _ _ => rfl)) pe_int (nomark _))))) (pss_one (ps_ret (pe_tup (pa_cons (pe_op op_mulW (pe_ix ix_tup (pv 0) pe_int (fun _ _ => rfl)) (pe_ix ix_tup (pv 1) pe_int (fun _ _ => rfl))) (pa_cons pe_int pa_nil))))) pss_nil)
    (pss_cons (ps_set (i := 2) sc_product.nd rfl (by first | exact .inl rfl | exact .inr rfl) (pe_callBfun cr_gcd (by rfl) g_gcd (pa_cons (pe_ix ix_tup (pv 0) pe_int (fun _ _ => rfl)) (pa_cons (pe_ix ix_tup (pv 1) pe_int (fun _ _ => rfl)) pa_nil))))
    (pss_cons (ps_set (i := 3) sc_product.nd rfl (by first | exact .inl rfl | exact .inr rfl) (pe_callBfun cr_gcd (by rfl) g_gcd (pa_cons (pe_ix ix_tup (pv 1) pe_int (fun _ _ => rfl)) (pa_cons (pe_ix ix_tup (pv 0) pe_int (fun _ _ => rfl)) pa_nil))))
    (pss_one (ps_ret (pe_tup (pa_cons (pe_op op_mulW (pe_op op_fdivW (pe_ix ix_tup (pv 0) pe_int (fun _ _ => rfl)) (pv 2)) (pe_op op_fdivW (pe_ix ix_tup (pv 1) pe_int (fun _ _ => rfl)) (pv 3))) (pa_cons (pe_op op_mulW (pe_op op_fdivW (pe_ix ix_tup (pv 0) pe_int (fun _ _ => rfl)) (pv 3)) (pe_op op_fdivW (pe_ix ix_tup (pv 1) pe_int (fun _ _ => rfl)) (pv 2))) pa_nil)))))))), ?_⟩
  have pr := fr_pos r
  have pq := fr_pos s
  have tr := sm_top hr1
  have tq := sm_top hs1
  have br := sm_bot hr1
  have bq := sm_bot hs1
  have tst := et_and (σ := [some v0, some v1, none, none]) (et_test (ev_op (ev_bot (K := K) (p_var (i := 0) rfl h0)) (ev_c (v := .int 1)) (rv_eq rfl))) (fun _ => et_test (ev_op (ev_bot (K := K) (p_var (i := 1) rfl h1)) (ev_c (v := .int 1)) (rv_eq rfl)))
  by_cases hc : (fr r).2 = 1 ∧ (fr s).2 = 1
  · refine My.ps_ifT eB (et_is tst (by simp [hc.1, hc.2])) fun H1 e1 => ?_
    refine My.ps_ret (eB.trans e1) (p_tup (K := K) (ps := [IsV (.int ((fr r).1 * (fr s).1)), IsV (.int 1)]) (q_cons (p_ev (ev_mulW (ev_top (p_var rfl h0)) (ev_top (p_var rfl h1)) (lg tr) (lg tq))) (q_cons p_c q_nil)) (by show 2 ≤ 100000; decide)) fun v B1 H2 g hp => q v B1 H2 ((Gr.wide eB e1).trans g) ?_
    show (frP K (fr (r * s))).P v B1
    rw [fr_mul1 hc.1 hc.2]
    exact hp
  · refine ps_ifN eB (et_is tst (by rw [Bool.eq_false_iff]; simpa using hc)) fun H1 e1 => ?_
    dsimp only
    refine ps_asgN (fun x => [some v0, some v1, some x, none]) (eB.trans e1) (p_ev (ev_gcd (ev_top (p_var rfl h0)) (ev_bot (p_var rfl h1)))) (fun x B2 H2 g2 hx => ?_) (fun _ => rfl)
    obtain rfl := (show x = _ from hx)
    have h0' := (rtP K r).m g2.b h0
    have h1' := (rtP K s).m g2.b h1
    dsimp only
    refine ps_asgN (fun x => [some v0, some v1, some (.int ((Nat.gcd (fr r).1.natAbs (fr s).2.natAbs : Nat) : Int)), some x]) g2.c (p_ev (ev_gcd (ev_top (p_var rfl h1')) (ev_bot (p_var rfl h0')))) (fun x B3 H3 g3 hx => ?_) (fun _ => rfl)
    obtain rfl := (show x = _ from hx)
    have h0 := (rtP K r).m g3.b h0'
    have h1 := (rtP K s).m g3.b h1'
    dsimp only
    have gl := gcd_dv (a := (fr r).1) pq bq
    have gr := gcd_dv (a := (fr s).1) pr br
    refine My.ps_ret g3.c (p_tup (K := K) (ps := [IsV (.int ((fr r).1 / ((Nat.gcd (fr r).1.natAbs (fr s).2.natAbs : Nat) : Int) * ((fr s).1 / ((Nat.gcd (fr s).1.natAbs (fr r).2.natAbs : Nat) : Int)))), IsV (.int ((fr r).2 / ((Nat.gcd (fr s).1.natAbs (fr r).2.natAbs : Nat) : Int) * ((fr s).2 / ((Nat.gcd (fr r).1.natAbs (fr s).2.natAbs : Nat) : Int))))])
      (q_cons (p_ev (ev_mulW (ev_divW (ev_top (p_var rfl h0)) (ev_var rfl) gl) (ev_divW (ev_top (p_var rfl h1)) (ev_var rfl) gr) (lg_le tr (div_na _ _)) (lg_le tq (div_na _ _))))
       (q_cons (p_ev (ev_mulW (ev_divW (ev_bot (p_var rfl h0)) (ev_var rfl) gr) (ev_divW (ev_bot (p_var rfl h1)) (ev_var rfl) gl) (lg_le br (div_na _ _)) (lg_le bq (div_na _ _)))) q_nil)) (by show 2 ≤ 100000; decide)) fun v B1 H4 g hp => q v B1 H4 (((Gr.wide eB e1).trans (g2.trans g3)).trans g) ?_
    show (frP K (fr (r * s))).P v B1
    rw [fr_mul]
    exact hp

/-- sum_of -/
abbrev s_sum_of : Stmt := topS 4
abbrev N_sum_of : List Str := ["one", "other", "common", "own", "top", "rest"]
theorem sc_sum_of : FnScope N_sum_of ["one", "other"] (defScope s_sum_of) := ⟨rfl, rfl, rfl, by decide +kernel, rfl, by decide +kernel, by decide +kernel⟩
theorem ok_sum_of {f : Addr} {fd : FuncData} (F : Fun K "sum_of" "sum_of" s_sum_of f fd)    (g_gcd : mg "gcd" = some (.builtin "math.gcd")) :
    FnOk P w K mg base CX0 1 f fd ["one", "other"] (spP (Rsum K)) := by
  refine F.ok sc_sum_of (spP_len (by rintro _ _ ⟨r, s, _, _, rfl, rfl⟩; rfl)) (fun cdv A outer s H vs Q E hr h => ?_)
  obtain ⟨B, ps, p, eB, hv, ⟨r, s, hr1, hs1, rfl, rfl⟩, q⟩ := h
  obtain ⟨v0, v1, rfl, h0, h1⟩ := all2 hv
  have hu := hu_of hr
  refine ⟨_, (pss_cons (ps_if (PW.pt (pw_and (pt_cmpR op_eq (pe_ix ix_tup (pv 0) pe_int (fun _ _ => rfl)) pe_int (nomark _)) (pw_and1 (pt_cmpR op_eq (pe_ix ix_tup (pv 1) pe_int (fun _ _ => rfl)) pe_int (nomark _))))) (pss_one (ps_ret (pe_tup (pa_cons (pe_op op_add (pe_ix ix_tup (pv 0) pe_int (fun _ _ => rfl)) (pe_ix ix_tup (pv 1) pe_int (fun _ _ => rfl))) (pa_cons pe_int pa_nil))))) pss_nil)
    (pss_cons (ps_set (i := 2) sc_sum_of.nd rfl (by first | exact .inl rfl | exact .inr rfl) (pe_callBfun cr_gcd (by rfl) g_gcd (pa_cons (pe_ix ix_tup (pv 0) pe_int (fun _ _ => rfl)) (pa_cons (pe_ix ix_tup (pv 1) pe_int (fun _ _ => rfl)) pa_nil))))
    (pss_cons (ps_if (pt_cmpR op_eq (pv 2) pe_int (nomark _)) (pss_one (ps_ret (pe_tup (pa_cons (pe_op op_add (pe_op op_mulW (pe_ix ix_tup (pv 0) pe_int (fun _ _ => rfl)) (pe_ix ix_tup (pv 1) pe_int (fun _ _ => rfl))) (pe_op op_mulW (pe_ix ix_tup (pv 1) pe_int (fun _ _ => rfl)) (pe_ix ix_tup (pv 0) pe_int (fun _ _ => rfl)))) (pa_cons (pe_op op_mulW (pe_ix ix_tup (pv 0) pe_int (fun _ _ => rfl)) (pe_ix ix_tup (pv 1) pe_int (fun _ _ => rfl))) pa_nil))))) pss_nil)
    (pss_cons (ps_set (i := 3) sc_sum_of.nd rfl (by first | exact .inl rfl | exact .inr rfl) (pe_op op_fdivW (pe_ix ix_tup (pv 0) pe_int (fun _ _ => rfl)) (pv 2)))
    (pss_cons (ps_set (i := 4) sc_sum_of.nd rfl (by first | exact .inl rfl | exact .inr rfl) (pe_op op_add (pe_op op_mulW (pe_ix ix_tup (pv 0) pe_int (fun _ _ => rfl)) (pe_op op_fdivW (pe_ix ix_tup (pv 1) pe_int (fun _ _ => rfl)) (pv 2))) (pe_op op_mulW (pe_ix ix_tup (pv 1) pe_int (fun _ _ => rfl)) (pv 3))))
    (pss_cons (ps_set (i := 5) sc_sum_of.nd rfl (by first | exact .inl rfl | exact .inr rfl) (pe_callBfun cr_gcd (by rfl) g_gcd (pa_cons (pv 4) (pa_cons (pv 2) pa_nil))))
    (pss_one (ps_ret (pe_tup (pa_cons (pe_op op_fdivW (pv 4) (pv 5)) (pa_cons (pe_op op_mulW (pv 3) (pe_op op_fdivW (pe_ix ix_tup (pv 1) pe_int (fun _ _ => rfl)) (pv 5))) pa_nil))))))))))), ?_⟩
  have pr := fr_pos r
  have pq := fr_pos s
  have tr := sm_top hr1
  have tq := sm_top hs1
  have br := sm_bot hr1
  have bq := sm_bot hs1
  have tst := et_and (σ := [some v0, some v1, none, none, none, none]) (et_test (ev_op (ev_bot (K := K) (p_var (i := 0) rfl h0)) (ev_c (v := .int 1)) (rv_eq rfl))) (fun _ => et_test (ev_op (ev_bot (K := K) (p_var (i := 1) rfl h1)) (ev_c (v := .int 1)) (rv_eq rfl)))
  by_cases hc : (fr r).2 = 1 ∧ (fr s).2 = 1
  · refine My.ps_ifT eB (et_is tst (by simp [hc.1, hc.2])) fun H1 e1 => ?_
    refine My.ps_ret (eB.trans e1) (p_tup (K := K) (ps := [IsV (.int ((fr r).1 + (fr s).1)), IsV (.int 1)]) (q_cons (p_ev (ev_addI (ev_top (p_var rfl h0)) (ev_top (p_var rfl h1)))) (q_cons p_c q_nil)) (by show 2 ≤ 100000; decide)) fun v B1 H2 g hp => q v B1 H2 ((Gr.wide eB e1).trans g) ?_
    show (frP K (fr (r + s))).P v B1
    rw [fr_add1 hc.1 hc.2]
    exact hp
  · refine ps_ifN eB (et_is tst (by rw [Bool.eq_false_iff]; simpa using hc)) fun H1 e1 => ?_
    dsimp only
    refine ps_asgN (fun x => [some v0, some v1, some x, none, none, none]) (eB.trans e1) (p_ev (ev_gcd (ev_bot (p_var rfl h0)) (ev_bot (p_var rfl h1)))) (fun x B2 H2 g2 hx => ?_) (fun _ => rfl)
    obtain rfl := (show x = _ from hx)
    have h0' := (rtP K r).m g2.b h0
    have h1' := (rtP K s).m g2.b h1
    dsimp only
    have gg := gcd_dv (a := (fr r).2) pq bq
    have tst2 := et_test (σ := [some v0, some v1, some (.int ((Nat.gcd (fr r).2.natAbs (fr s).2.natAbs : Nat) : Int)), none, none, none]) (H := B2) (ev_op (ev_var (i := 2) rfl) (ev_c (v := .int 1)) (rv_eq rfl))
    by_cases hd : Int.gcd (fr r).2 (fr s).2 = 1
    · refine My.ps_ifT g2.c (et_is tst2 (by rw [show Nat.gcd (fr r).2.natAbs (fr s).2.natAbs = 1 from hd]; rfl)) fun H3 e3 => ?_
      refine My.ps_ret (g2.c.trans e3) (p_tup (K := K) (ps := [IsV (.int ((fr r).1 * (fr s).2 + (fr s).1 * (fr r).2)), IsV (.int ((fr r).2 * (fr s).2))]) (q_cons (p_ev (ev_addI (ev_mulW (ev_top (p_var rfl h0')) (ev_bot (p_var rfl h1')) (lg tr) (lg bq)) (ev_mulW (ev_top (p_var rfl h1')) (ev_bot (p_var rfl h0')) (lg tq) (lg br)))) (q_cons (p_ev (ev_mulW (ev_bot (p_var rfl h0')) (ev_bot (p_var rfl h1')) (lg br) (lg bq))) q_nil)) (by show 2 ≤ 100000; decide)) fun v B1 H4 g hp => q v B1 H4 (((Gr.wide eB e1).trans (g2.trans (Gr.wide g2.c e3))).trans g) ?_
      show (frP K (fr (r + s))).P v B1
      rw [fr_addc hd]
      exact hp
    · refine ps_ifN g2.c (et_is tst2 (by
        rw [decide_eq_false]
        intro z
        injection z with z
        exact hd (by unfold Int.gcd; omega))) fun H3 e3 => ?_
      dsimp only
      -- own
      refine ps_asgN (fun x => [some v0, some v1, some (.int ((Nat.gcd (fr r).2.natAbs (fr s).2.natAbs : Nat) : Int)), some x, none, none]) (g2.c.trans e3) (p_ev (ev_divW (ev_bot (p_var rfl h0')) (ev_var rfl) gg)) (fun x B4 H4 g4 hx => ?_) (fun _ => rfl)
      obtain rfl := (show x = _ from hx)
      have h0 := (rtP K r).m g4.b h0'
      have h1 := (rtP K s).m g4.b h1'
      dsimp only
      -- top
      refine ps_asgN (fun x => [some v0, some v1, some (.int ((Nat.gcd (fr r).2.natAbs (fr s).2.natAbs : Nat) : Int)), some (.int ((fr r).2 / ((Nat.gcd (fr r).2.natAbs (fr s).2.natAbs : Nat) : Int))), some x, none]) g4.c
        (p_ev (ev_addI (ev_mulW (ev_top (p_var rfl h0)) (ev_divW (ev_bot (p_var rfl h1)) (ev_var rfl) gg) (lg tr) (lg_le bq (div_na _ _))) (ev_mulW (ev_top (p_var rfl h1)) (ev_var rfl) (lg tq) (lg_le br (div_na _ _))))) (fun x B5 H5 g5 hx => ?_) (fun _ => rfl)
      obtain rfl := (show x = _ from hx)
      have h0 := (rtP K r).m g5.b h0
      have h1 := (rtP K s).m g5.b h1
      dsimp only
      -- rest
      have g1l : ((Nat.gcd (fr r).2.natAbs (fr s).2.natAbs : Nat) : Int).natAbs < 2 ^ 4000 := by
        rw [Int.natAbs_natCast]
        exact Nat.lt_of_le_of_lt (Nat.gcd_le_right _ (by omega)) bq
      refine ps_asgN (fun x => [some v0, some v1, some (.int ((Nat.gcd (fr r).2.natAbs (fr s).2.natAbs : Nat) : Int)), some (.int ((fr r).2 / ((Nat.gcd (fr r).2.natAbs (fr s).2.natAbs : Nat) : Int))), some (.int ((fr r).1 * ((fr s).2 / ((Nat.gcd (fr r).2.natAbs (fr s).2.natAbs : Nat) : Int)) + (fr s).1 * ((fr r).2 / ((Nat.gcd (fr r).2.natAbs (fr s).2.natAbs : Nat) : Int)))), some x]) g5.c
        (p_ev (ev_gcd (ev_var rfl) (ev_var rfl))) (fun x B6 H6 g6 hx => ?_) (fun _ => rfl)
      obtain rfl := (show x = _ from hx)
      have h1 := (rtP K s).m g6.b h1
      dsimp only
      have gq := gcd_dv (a := (fr r).1 * ((fr s).2 / ((Nat.gcd (fr r).2.natAbs (fr s).2.natAbs : Nat) : Int)) + (fr s).1 * ((fr r).2 / ((Nat.gcd (fr r).2.natAbs (fr s).2.natAbs : Nat) : Int))) gg.1 g1l
      refine My.ps_ret g6.c (p_tup (K := K) (ps := [IsV _, IsV _]) (q_cons (p_ev (ev_divW (ev_var rfl) (ev_var rfl) gq)) (q_cons (p_ev (ev_mulW (ev_var rfl) (ev_divW (ev_bot (p_var rfl h1)) (ev_var rfl) gq) (lg_le br (div_na _ _)) (lg_le bq (div_na _ _)))) q_nil)) (by show 2 ≤ 100000; decide)) fun v B1 H7 g hp => q v B1 H7 (((Gr.wide eB e1).trans ((g2.trans (Gr.wide g2.c e3)).trans ((g4.trans g5).trans g6))).trans g) ?_
      show (frP K (fr (r + s))).P v B1
      rw [fr_add]
      exact hp

end
end K12
namespace Nd
set_option autoImplicit false
open PySem PySem.W L2 My Evl
/-- one term more in a dict under way -/
def spAddT (P : Program) (w : World) (K : PySem.W.Frag) : Sp := fun vs H Q _ => ∃ (B0 H0 : Hp) (d : Addr) (zs : Pq) (B : Hp) (m : Mo) (r : Rat) (vk vn : V), vs = [.ref d, vk, vn] ∧ DcAt P w (kyM K) (rtP K) B0 H0 d zs B H ∧ (moP K m).P vk B ∧ (rtP K r).P vn B ∧
  (zs.map (·.1)).Nodup ∧ Sm r ∧ Sm (co zs m) ∧ zs.length < 100000 ∧ ∀ B' H', Ex B B' → DcAt P w (kyM K) (rtP K) B0 H0 d (addG zs m r) B' H' → Q .non H'
/-- all terms of a polynomial more -/
def spAddTo (P : Program) (w : World) (K : PySem.W.Frag) : Sp := fun vs H Q _ => ∃ (B0 H0 : Hp) (d : Addr) (zs : Pq) (B : Hp) (q : Pq) (vp : V), vs = [.ref d, vp] ∧ DcAt P w (kyM K) (rtP K) B0 H0 d zs B H ∧ (poP K (toPo q)).P vp B ∧
  (zs.map (·.1)).Nodup ∧ (∀ t ∈ q, Sm t.2) ∧ (∀ i m, Sm (co (zs ++ q.take i) m)) ∧ zs.length + q.length ≤ 99999 ∧ ∀ B' H', Ex B B' → DcAt P w (kyM K) (rtP K) B0 H0 d (addAll zs q) B' H' → Q .non H'
def Rpof (P : Program) (w : World) (K : PySem.W.Frag) : List Pr → Pr → Prop := fun ps p => ∃ zs : Pq, (zs.map (·.1)).Nodup ∧ zs.length ≤ 100000 ∧ ps = [DcP P w (kyM K) (rtP K) zs] ∧ p = poP K (toPo (cf zs))
def Rmm (K : PySem.W.Frag) : List Pr → Pr → Prop := fun ps p => ∃ m n : Mo, MoC m ∧ MoC n ∧ m.length + n.length ≤ 90000 ∧ ps = [moP K m, moP K n] ∧ p = moP K (mm m n)
section
variable {P : Program} {w : World} {K : PySem.W.Frag} {B H0 Bi B2 H H2 : Hp} {d : Addr} {zs : Pq} {σ : L2.St} {D : Ends} {te ta tb : TE} {i : Nat} {m : Mo} {r : Rat}
theorem a_addT (hs : σ[i]? = some (some (.ref d))) (A : DcAt P w (kyM K) (rtP K) B H0 d zs Bi H) (hk : EvP ta σ Bi (moP K m)) (hr : EvP tb σ Bi (rtP K r)) (nd : (zs.map (·.1)).Nodup) (s1 : Sm r) (s2 : Sm (co zs m)) (hl : zs.length < 100000)
    (q : ∀ B2 H2, Ex Bi B2 → DcAt P w (kyM K) (rtP K) B H0 d (addG zs m r) B2 H2 → D.nx σ H2) : tDrop (tCall (spAddT P w K) [] E0 (tCons (tVar i) (tCons ta (tCons tb tNil)))) D σ H := by
  refine ⟨.ref d, hs, hk H A.ex _ fun v B3 H3 g3 p3 => ?_⟩
  have A3 := A.step g3
  refine (hr.mono g3.b) H3 A3.ex _ fun u B4 H4 g4 p4 => ?_
  exact ⟨B, H0, d, zs, B4, m, r, v, u, rfl, A3.step g4, (moP K m).m g4.b p3, p4, nd, s1, s2, hl, fun B5 H5 e5 A5 => q B5 H5 (g3.b.trans (g4.b.trans e5)) A5⟩
end
section
variable {κ β : Type} [DecidableEq κ] {P : Program} {w : World} {K : PySem.W.Frag} {ky : Ky K κ} {vp : β → Pr} {B H0 Bi H : Hp} {d : Addr} {zs : List (κ × β)} {σ : L2.St} {D : Ends} {te : TE} {tu tw : TS} {b : Bool}
theorem ps_ifA (A : DcAt P w ky vp B H0 d zs Bi H) (h : EvA P w ky vp B H0 d zs Bi te σ (IsV (.bl b))) (q : ∀ B2 H2, Ex Bi B2 → DcAt P w ky vp B H0 d zs B2 H2 → if b = true then tu D σ H2 else tw D σ H2) : tIfS (tTest te) tu tw D σ H :=
  h Bi H (Ex.refl Bi) A _ fun v B2 H2 e2 A2 pv => by
    obtain rfl : v = _ := pv
    exact ⟨b, rfl, q B2 H2 e2 A2⟩
end
section
variable {κ β : Type} [DecidableEq κ] {P : Program} {w : World} {K : PySem.W.Frag} {ky : Ky K κ} {vp : β → Pr} {B H0 Bi H : Hp} {d : Addr} {i : Nat} {v : V} {σ : L2.St} {ps : List Pr} {D : Ends} {g : TG} {tbd : TS}
/-- a loop over a tuple while a dict is under way -/
theorem ps_forD (Z : Nat → List (κ × β)) (S : Nat → L2.St → Prop)
    (A : DcAt P w ky vp B H0 d (Z 0) Bi H) (s0 : S 0 σ) (hi : σ[i]? = some (some v)) (h : (TuP K ps).P v Bi)
    (st : ∀ j p v' σ' B' H', ps[j]? = some p → Ex Bi B' → S j σ' → DcAt P w ky vp B H0 d (Z j) B' H' → p.P v' B' → ∀ N : L2.St → Hp → Prop, (∀ σ3 B3 H3, S (j + 1) σ3 → Ex B' B3 → DcAt P w ky vp B H0 d (Z (j + 1)) B3 H3 → N σ3 H3) →
      g v' σ' H' fun σ2 H2 => tbd { D with nx := N, ct := N, bk := D.nx } σ2 H2)
    (q : ∀ σ' B' H', Ex Bi B' → S ps.length σ' → DcAt P w ky vp B H0 d (Z ps.length) B' H' → D.nx σ' H') : tFor (iTup K (tVar i)) g tbd D σ H := by
  obtain ⟨l, xs, rfl, hx, al⟩ := h
  refine ⟨_, hi, l, rfl, ⟨xs, ex_t A.ex hx⟩, ?_⟩
  have w' := walk_tup (K := K) (a := l) (xs := xs)
  rw [al.len] at w'
  refine for_it w' (fun j σ' H' => S j σ' ∧ ∃ B', Ex Bi B' ∧ DcAt P w ky vp B H0 d (Z j) B' H') ⟨s0, Bi, Ex.refl Bi, A⟩ (fun j σ' H' _ pv => ?_) (fun j x σ' H' H2 _ pv y => ?_) fun σ' H' pv => ?_
  · obtain ⟨_, B', e', A'⟩ := pv
    exact ex_t (e'.trans A'.ex) hx
  · obtain ⟨hs, B', e', A'⟩ := pv
    obtain ⟨rfl, y2⟩ := y
    obtain ⟨p, hp, k2⟩ := al.get y2
    exact st j p x σ' B' _ hp e' hs A' (p.m e' k2) _ fun σ3 B3 H3 h1 h2 h3 => ⟨h1, B3, e'.trans h2, h3⟩
  · obtain ⟨hs, B', e', A'⟩ := pv
    exact q σ' B' H' e' hs A'
/-- .. with its numbers -/
theorem ps_forDE (Z : Nat → List (κ × β)) (S : Nat → L2.St → Prop)
    (A : DcAt P w ky vp B H0 d (Z 0) Bi H) (s0 : S 0 σ) (hi : σ[i]? = some (some v)) (h : (TuP K ps).P v Bi)
    (st : ∀ j p v' T σ' B' H', ps[j]? = some p → Ex Bi B' → S j σ' → DcAt P w ky vp B H0 d (Z j) B' H' → H' T = some (.tup [.int (j : Nat), v']) → p.P v' B' → ∀ N : L2.St → Hp → Prop, (∀ σ3 B3 H3, S (j + 1) σ3 → Ex B' B3 → DcAt P w ky vp B H0 d (Z (j + 1)) B3 H3 → N σ3 H3) →
      g (.ref T) σ' H' fun σ2 H2 => tbd { D with nx := N, ct := N, bk := D.nx } σ2 H2)
    (q : ∀ σ' B' H', Ex Bi B' → S ps.length σ' → DcAt P w ky vp B H0 d (Z ps.length) B' H' → D.nx σ' H') : tFor (iEnumT K (tCons (tVar i) tNil)) g tbd D σ H := by
  obtain ⟨l, xs, rfl, hx, al⟩ := h
  refine ⟨_, hi, l, xs, rfl, ex_t A.ex hx, ?_⟩
  have w' := walk_enT (K := K) (a := l) (xs := xs)
  rw [al.len] at w'
  refine for_it w' (fun j σ' H' => S j σ' ∧ ∃ B', Ex Bi B' ∧ DcAt P w ky vp B H0 d (Z j) B' H') ⟨s0, Bi, Ex.refl Bi, A⟩ (fun j σ' H' _ pv => ?_) (fun j x σ' H' H2 _ pv y => ?_) fun σ' H' pv => ?_
  · obtain ⟨_, B', e', A'⟩ := pv
    exact ex_t (e'.trans A'.ex) hx
  · obtain ⟨hs, B', e', A'⟩ := pv
    obtain ⟨T, y1, u, rfl, hT, rfl, h4, h5⟩ := y
    obtain rfl : V.int (j : Nat) = y1 := Option.some.inj h4
    obtain ⟨p, hp, k2⟩ := al.get h5
    exact st j p u T σ' B' _ hp e' hs (A'.step (Gr.wide A'.ex (Ex.new hT))) upd_same (p.m e' k2) _ fun σ3 B3 H3 h1 h2 h3 => ⟨h1, B3, e'.trans h2, h3⟩
  · obtain ⟨hs, B', e', A'⟩ := pv
    exact q σ' B' H' e' hs A'
end
/-- (monomial, number) unpacked -/
theorem tup2 {K : PySem.W.Frag} {p q : Pr} {v : V} {B H : Hp} (h : (TuP K [p, q]).P v B) (e : Ex B H) : ∃ a x y, v = .ref a ∧ SqT K H a [x, y] ∧ p.P x B ∧ q.P y B := by
  obtain ⟨a, xs, rfl, hx, al⟩ := h
  obtain ⟨x, y, rfl, h1, h2⟩ := K12.all2 al
  exact ⟨a, x, y, rfl, ex_t e hx, h1, h2⟩
theorem po_at {K : PySem.W.Frag} {q : Pq} {j : Nat} {p : Pr} (h : ((toPo q).map (tmP K))[j]? = some p) : ∃ t, q[j]? = some t ∧ p = TuP K [moP K t.1, rtP K t.2] := by
  unfold toPo at h
  rw [List.map_map, List.getElem?_map] at h
  obtain ⟨t, ht, rfl⟩ := Option.map_eq_some_iff.mp h
  exact ⟨t, ht, rfl⟩
theorem po_len {K : PySem.W.Frag} {q : Pq} : ((toPo q).map (tmP K)).length = q.length := by
  unfold toPo
  rw [List.length_map, List.length_map]
end Nd
namespace K12
set_option autoImplicit false
open PySem PySem.W L2 Evl My Nd
section
variable {P : Program} {w : World} {K : PySem.W.Frag} {mg : Str → Option Value} {base : Heap}

/-- add_term -/
abbrev s_add_term : Stmt := topS 29
abbrev N_add_term : List Str := ["total", "monomial", "number"]
theorem sc_add_term : FnScope N_add_term ["total", "monomial", "number"] (defScope s_add_term) := ⟨rfl, rfl, rfl, by decide +kernel, rfl, by decide +kernel, by decide +kernel⟩
theorem ok_add_term {f : Addr} {fd : FuncData} (F : Fun K "add_term" "add_term" s_add_term f fd)  {f_sum_of : Addr} {d_sum_of : FuncData} (c_sum_of : Cal P w K mg base "sum_of" 1 ["one", "other"] (spP (Rsum K)) f_sum_of d_sum_of)   :
    FnOk P w K mg base CX0 2 f fd ["total", "monomial", "number"] (spAddT P w K) := by
  refine F.ok sc_add_term (by rintro vs H Q E ⟨_, _, _, _, _, _, _, _, _, rfl, _⟩; rfl) (fun cdv A outer s H vs Q E hr h => ?_)
  obtain ⟨B0, H0, d, zs, B, m, r, vk, vn, rfl, A0, hm, hn, nd, s1, s2, hl, q⟩ := h
  have hu := hu_of hr
  refine ⟨_, (pss_one (ps_if (pt_cmpR (op_inN (by have h := hr.un; show (A.deeper _).units + 9 < cLine; omega)) (pv 1) (pv 0) (by rfl)) (pss_one (ps_dputN (by have h := hr.un; show (A.deeper _).units + 9 < cLine; omega) (pv 0) (pv 1) (pe_call c_sum_of.G (hr.mono (by decide)) (by rfl) c_sum_of.m c_sum_of.k c_sum_of.b .nil pass0 (pa_cons (pe_dgetN (by have h := hr.un; show (A.deeper _).units + 9 < cLine; omega) (pv 0) (pv 1) (fun _ _ => rfl)) (pa_cons (pv 2) pa_nil))) rfl)) (pss_one (ps_dputN (by have h := hr.un; show (A.deeper _).units + 9 < cLine; omega) (pv 0) (pv 1) (pv 2) rfl)))), ?_⟩
  refine ps_ifA A0 (a_in (ky := kyM K) (k := m) rfl (p_var rfl hm)) fun B2 H2 e2 A2 => ?_
  cases hg : hasG zs m with
  | true =>
    rw [if_pos rfl]
    obtain ⟨f, hf⟩ : ∃ f, valG zs m = some f := by
      cases hv : valG zs m with
      | none => rw [val_no.mp hv] at hg; cases hg
      | some f => exact ⟨f, rfl⟩
    have hc : f = co zs m := by
      have := val_co nd m
      rw [hf] at this
      exact this
    refine ps_put (f := co zs m + r) rfl A2 (a_call (sp := spP (Rsum K)) (a_cons (a_get rfl (p_var rfl ((moP K m).m e2 hm)) hf) (a_cons (a_ev (p_var rfl ((rtP K r).m e2 hn))) a_nil)) ?_) (p_var rfl ((moP K m).m e2 hm)) hl fun B3 H3 e3 A3 => q B3 H3 (e2.trans e3) A3
    rw [hc]
    exact fun vs B H Q E e al k => ⟨B, _, _, e, al, ⟨_, _, s2, s1, rfl, rfl⟩, k⟩
  | false =>
    rw [if_neg Bool.false_ne_true]
    have hc : r = co zs m + r := by
      have := val_co nd m
      rw [val_no.mpr hg] at this
      rw [← this]
      exact (Rat.zero_add r).symm
    refine ps_put (f := co zs m + r) rfl A2 (a_ev (p_var rfl ?_)) (p_var rfl ((moP K m).m e2 hm)) hl fun B3 H3 e3 A3 => q B3 H3 (e2.trans e3) A3
    rw [← hc]
    exact (rtP K r).m e2 hn

/-- add_to -/
abbrev s_add_to : Stmt := topS 28
abbrev N_add_to : List Str := ["total", "one", "monomial", "number"]
theorem sc_add_to : FnScope N_add_to ["total", "one"] (defScope s_add_to) := ⟨rfl, rfl, rfl, by decide +kernel, rfl, by decide +kernel, by decide +kernel⟩
theorem ok_add_to {f : Addr} {fd : FuncData} (F : Fun K "add_to" "add_to" s_add_to f fd)  {f_add_term : Addr} {d_add_term : FuncData} (c_add_term : Cal P w K mg base "add_term" 2 ["total", "monomial", "number"] (spAddT P w K) f_add_term d_add_term)   :
    FnOk P w K mg base CX0 3 f fd ["total", "one"] (spAddTo P w K) := by
  refine F.ok sc_add_to (by rintro vs H Q E ⟨_, _, _, _, _, _, _, rfl, _⟩; rfl) (fun cdv A outer s H vs Q E hr h => ?_)
  obtain ⟨B0, H0, d, zs, B, q, vp, rfl, A0, hp, nd, s1, s2, hl, k⟩ := h
  have hu := hu_of hr
  refine ⟨_, (pss_one (ps_for PassesOwn.never rfl (pi_tup (pv 1)) (pg_tup (by rfl) (pgs_cons (pg_name (i := 2) sc_add_to.nd rfl (by first | exact .inl rfl | exact .inr rfl)) (pgs_cons (pg_name (i := 3) sc_add_to.nd rfl (by first | exact .inl rfl | exact .inr rfl)) pgs_nil)))
      (pss_one (ps_expr (pe_call c_add_term.G (hr.mono (by decide)) (by rfl) c_add_term.m c_add_term.k c_add_term.b .nil pass0 (pa_cons (pv 0) (pa_cons (pv 2) (pa_cons (pv 3) pa_nil)))))))), ?_⟩
  refine ps_forD (fun j => addAll zs (q.take j)) (fun j σ => ∃ x y, σ = [some (.ref d), some vp, x, y]) A0 ⟨_, _, rfl⟩ rfl hp (fun j p v' σ' B' H' hj e' hs A' pv N hN => ?_) fun σ' B' H' e' hs A' => ?_
  · obtain ⟨x, y, rfl⟩ := hs
    obtain ⟨t, ht, rfl⟩ := po_at hj
    obtain ⟨a, y1, y2, rfl, hq, m1, m2⟩ := tup2 pv A'.ex
    refine ⟨a, _, rfl, hq, rfl, _, _, rfl, _, _, rfl, rfl, ?_⟩
    have htm := List.mem_of_getElem? ht
    have hjl : j < q.length := (List.getElem?_eq_some_iff.mp ht).1
    have len := addAll_len (l := q.take j) (zs := zs)
    rw [List.length_take] at len
    refine a_addT rfl A' (p_var rfl m1) (p_var rfl m2) (addAll_nd nd) (s1 t htm) ?_ (by omega) fun B2 H2 e2 A2 => ?_
    · rw [addAll_co nd]
      exact s2 j t.1
    · refine hN _ B2 H2 ⟨_, _, rfl⟩ e2 ?_
      dsimp only
      rw [List.take_add_one, ht, addAll_app]
      exact A2
  · obtain ⟨x, y, rfl⟩ := hs
    rw [po_len] at A'
    dsimp only at A'
    rw [List.take_length] at A'
    exact k B' H' e' A'

end
end K12
namespace Nd
set_option autoImplicit false
open PySem PySem.W L2 My Evl
theorem range_pick {α β : Type} (k : α → Bool) (f : α → β) (d : β) : ∀ l : List α, ((List.range l.length).filter fun i => (l[i]?.map k).getD false).map (fun i => (l[i]?.map f).getD d) = (l.filter k).map f
  | [] => rfl
  | x :: l => by
    have ih := range_pick k f d l
    rw [List.length_cons, List.range_succ_eq_map, List.filter_cons, List.filter_map, List.filter_cons]
    have e1 : ((fun i => ((x :: l)[i]?.map k).getD false) ∘ Nat.succ) = fun i => (l[i]?.map k).getD false := by
      funext i
      simp
    rw [e1]
    have e2 : List.map (fun i => ((x :: l)[i]?.map f).getD d) (List.map Nat.succ (List.filter (fun i => (l[i]?.map k).getD false) (List.range l.length))) = (l.filter k).map f := by
      rw [← ih, List.map_map]
      refine List.map_congr_left fun i _ => ?_
      simp
    cases hk : k x with
    | true => simp [hk, e2]
    | false => simp [hk, e2]
theorem range_all {α β : Type} (f : α → β) (d : β) (l : List α) : (List.range l.length).map (fun i => (l[i]?.map f).getD d) = l.map f := by
  have h := range_pick (fun _ => true) f d l
  have e : (l.filter fun _ => true) = l := List.filter_eq_self.mpr fun _ _ => rfl
  rw [e] at h
  rw [← h]
  congr 1
  symm
  rw [List.filter_eq_self]
  intro i hi
  have hi := List.mem_range.mp hi
  rw [List.getElem?_eq_getElem hi]
  rfl
theorem co_nz (zs : Pq) (m : Mo) : co (zs.filter fun z => decide (z.2 ≠ 0)) m = co zs m := by
  induction zs with
  | nil => rfl
  | cons z zs ih =>
    rw [List.filter_cons, co_cons]
    by_cases h : z.2 = 0
    · rw [if_neg (by simp [h]), ih, h]
      split <;> grind
    · rw [if_pos (by simp [h]), co_cons, ih]
theorem cf_nz (zs : Pq) : cf (zs.filter fun z => decide (z.2 ≠ 0)) = cf zs := cf_ext fun m => co_nz zs m
theorem nd_filter {zs : Pq} {k : Mo × Rat → Bool} (h : (zs.map (·.1)).Nodup) : ((zs.filter k).map (·.1)).Nodup := List.Pairwise.sublist (List.Sublist.map _ List.filter_sublist) h
theorem co_pos {l : Mo} {k : Dv} (h : ∀ x ∈ l, 0 < x.2) (hk : k ∈ l.map (·.1)) : 0 < co l k := by
  induction l with
  | nil => simp at hk
  | cons x l ih =>
    rw [co_cons]
    have h1 := co_nn (m := l) (fun y hy => Int.le_of_lt (h y (List.mem_cons_of_mem _ hy))) k
    have h2 := h x List.mem_cons_self
    by_cases e : x.1 = k
    · rw [if_pos e]
      omega
    · rw [if_neg e]
      have : k ∈ l.map (·.1) := by
        rw [List.map_cons] at hk
        rcases List.mem_cons.mp hk with a | a
        · exact absurd a.symm e
        · exact a
      have := ih (fun y hy => h y (List.mem_cons_of_mem _ hy)) this
      omega
theorem mm_vals {m n : Mo} (hm : MoC m) (hn : MoC n) : ∀ z ∈ addAll m n, z.2 ≠ 0 := fun z hz => by
  have nd := addAll_nd (l := n) hm.c.nd
  have h1 := co_one nd hz
  rw [addAll_co hm.c.nd] at h1
  have : 0 < co (m ++ n) z.1 := by
    refine co_pos (fun x hx => ?_) ?_
    · rcases List.mem_append.mp hx with a | a
      · exact hm.p x a
      · exact hn.p x a
    · exact addAll_mem (P := fun u => u ∈ (m ++ n).map (·.1)) (fun x hx => List.mem_map.mpr ⟨x, List.mem_append_left _ hx, rfl⟩) (fun x hx => List.mem_map.mpr ⟨x, List.mem_append_right _ hx, rfl⟩) z hz
  omega
theorem mm_srt {m n : Mo} (hm : MoC m) (hn : MoC n) : srtZ pwD (addAll m n) = mm m n := by
  rw [srt_pw (addAll_nd hm.c.nd) (mm_vals hm hn)]
  exact cf_ext fun k => addAll_co hm.c.nd k
/-- name = {..} -/
theorem ps_dcN {κ β : Type} [DecidableEq κ] {P : Program} {w : World} {K : PySem.W.Frag} {ky : Ky K κ} {vp : β → Pr} {B H : Hp} {σ : L2.St} {te tk tv : TE} {g : TG} {tt : TT} {vs : List Nat} {ps : List Pr} {D : Ends} {i : Nat} (a : Ex B H) (h : EvP te σ B (TuP K ps)) (hl : ps.length ≤ 90000) (kk : Nat → κ) (vv : Nat → β)
    (step : ∀ i p v B1, ps[i]? = some p → Ex B B1 → p.P v B1 → ∃ σ2, wipe σ2 vs = wipe σ vs ∧ (∀ H2 Q, Ex B1 H2 → Q σ2 H2 → g v (wipe σ vs) H2 Q) ∧ EvT tt σ2 B1 true ∧ EvP tk σ2 B1 (ky.kp (kk i)) ∧ EvP tv σ2 B1 (vp (vv i)))
    (q : ∀ d B2 H2, H d = none → Ex B B2 → DcAt P w ky vp B H d (dcL kk vv ps.length) B2 H2 → D.nx (σ.set i (some (.ref d))) H2) : tAsg (tDcN P w K (iTup K te) g tt tk tv vs) (gName i) D σ H := dc_run a h hl kk vv step q
end Nd
namespace K12
set_option autoImplicit false
open PySem PySem.W L2 Evl My Nd
section
variable {P : Program} {w : World} {K : PySem.W.Frag} {mg : Str → Option Value} {base : Heap}

/-- polynomial_of -/
abbrev s_polynomial_of : Stmt := topS 30
abbrev N_polynomial_of : List Str := ["total", "monomial", "number"]
theorem sc_polynomial_of : FnScope N_polynomial_of ["total"] (defScope s_polynomial_of) := ⟨rfl, rfl, rfl, by decide +kernel, rfl, by decide +kernel, by decide +kernel⟩
theorem ok_polynomial_of {f : Addr} {fd : FuncData} (F : Fun K "polynomial_of" "polynomial_of" s_polynomial_of f fd)   (n_tuple : mg "tuple" = none) (n_sorted : mg "sorted" = none)  :
    FnOk P w K mg base CX0 1 f fd ["total"] (spP (Rpof P w K)) := by
  refine F.ok sc_polynomial_of (spP_len (by rintro _ _ ⟨_, _, _, rfl, rfl⟩; rfl)) (fun cdv A outer s H vs Q E hr h => ?_)
  obtain ⟨B, ps, p, eB, hv, ⟨zs, nd, hl, rfl, rfl⟩, q⟩ := h
  obtain ⟨v, rfl, h1⟩ := all1 hv
  have hu := hu_of hr
  refine ⟨_, (pss_one (ps_ret (pe_callTy call_tuple_of (by rfl) n_tuple (by decide +kernel) (pa_cons (pe_callB (cr_sortL hr) (by rfl) n_sorted (by decide +kernel) (pa_cons (pe_lock (pe_lc (own := [("monomial", 1), ("number", 2)]) (g := (gTup K 2 (gCons (gName 1) (gCons (gName 2) gNil)))) rfl sc_polynomial_of.nd (pi_itemsN (pv 0)) (blkOk_by (N := N_polynomial_of) (sc := defScope s_polynomial_of) (by decide +kernel)) (fun _ _ _ _ _ => (pg_tup (by rfl) (pgs_cons (pg_name (i := 1) sc_polynomial_of.nd rfl (Or.inl rfl)) (pgs_cons (pg_name (i := 2) sc_polynomial_of.nd rfl (Or.inl rfl)) pgs_nil)))) (fun _ _ _ _ _ => (pts_one (pt_cmpR op_ne (pe_ix (show IxR _ (rIxT K) from ix_tup) (pv 2) pe_int (fun _ _ => rfl)) pe_int (nomark _)))) (fun _ _ _ _ _ => (pe_tup (pa_cons (pv 1) (pa_cons (pv 2) pa_nil)))))) pa_nil)) pa_nil)))), ?_⟩
  have main : EvP (tLockE (tLc (iItemsN P w (tVar 0)) (gTup K 2 (gCons (gName 1) (gCons (gName 2) gNil))) (tTest (tOp rNe (tOp (rIxT K) (tVar 2) (tC (.int 0))) (tC (.int 0)))) (tTup (tCons (tVar 1) (tCons (tVar 2) tNil))) [1, 2])) [some v, none, none] B (LsP ((toPo (zs.filter fun z => decide (z.2 ≠ 0))).map (tmP K))) := by
    have := p_lcItems (K := K) (i := 0) (σ := [some v, none, none]) (te := tTup (tCons (tVar 1) (tCons (tVar 2) tNil))) (tt := tTest (tOp rNe (tOp (rIxT K) (tVar 2) (tC (.int 0))) (tC (.int 0)))) (g := gTup K 2 (gCons (gName 1) (gCons (gName 2) gNil))) (vs := [1, 2]) rfl h1 hl
      (fun i => (zs[i]?.map fun z => decide (z.2 ≠ 0)).getD false) (fun i => (zs[i]?.map fun z => tmP K (tq z)).getD (IsV .non)) fun j z x B1 hz px => ?_
    · rw [range_pick] at this
      unfold toPo
      rw [List.map_map]
      exact this
    · obtain ⟨a, y1, y2, rfl, hq, m1, m2⟩ := tup2 px (Ex.refl B1)
      refine ⟨[some v, some y1, some y2], rfl, fun H2 Q e q => ⟨a, _, rfl, ex_t e hq, rfl, _, _, rfl, _, _, rfl, rfl, q⟩, et_is (et_test (ev_op (ev_top (K := K) (p_var (i := 2) rfl m2)) (ev_c (v := .int 0)) (rv_ne rfl))) ?_, fun _ => ?_⟩
      · rw [hz]
        show (!decide (V.int (fr z.2).1 = V.int 0)) = decide (z.2 ≠ 0)
        by_cases h : z.2 = 0
        · rw [h]
          rfl
        · have : (fr z.2).1 ≠ 0 := fun e => h ((fr_num0 z.2).mp e)
          simp [h, this]
      · rw [hz]
        exact p_tup (K := K) (ps := [moP K z.1, rtP K z.2]) (q_cons (p_var rfl m1) (q_cons (p_var rfl m2) q_nil)) (by show 2 ≤ 100000; decide)
  refine My.ps_ret eB (p_tupOf (p_lq (p_sortL main))) fun v B1 H1 g hp => q v B1 H1 g ?_
  rw [srtT_tq (nd_filter nd) (fun z hz => by simpa using (List.mem_filter.mp hz).2), cf_nz] at hp
  exact hp

/-- monomials_together -/
abbrev s_monomials_together : Stmt := topS 31
abbrev N_monomials_together : List Str := ["one", "other", "powers", "derivative", "power"]
theorem sc_monomials_together : FnScope N_monomials_together ["one", "other"] (defScope s_monomials_together) := ⟨rfl, rfl, rfl, by decide +kernel, rfl, by decide +kernel, by decide +kernel⟩
theorem ok_monomials_together {f : Addr} {fd : FuncData} (F : Fun K "monomials_together" "monomials_together" s_monomials_together f fd)   (n_tuple : mg "tuple" = none) (n_sorted : mg "sorted" = none)  :
    FnOk P w K mg base CX0 1 f fd ["one", "other"] (spP (Rmm K)) := by
  refine F.ok sc_monomials_together (spP_len (by rintro _ _ ⟨_, _, _, _, _, rfl, rfl⟩; rfl)) (fun cdv A outer s H vs Q E hr h => ?_)
  obtain ⟨B, ps, p, eB, hv, ⟨m, n, hm, hn, hl, rfl, rfl⟩, q⟩ := h
  obtain ⟨v0, v1, rfl, h0, h1⟩ := all2 hv
  have hu := hu_of hr
  refine ⟨_, (pss_cons (ps_if (pt_not (pt_truth (pv 0) (by intro _; rfl))) (pss_one (ps_ret (pv 1))) pss_nil)
    (pss_cons (ps_if (pt_not (pt_truth (pv 1) (by intro _; rfl))) (pss_one (ps_ret (pv 0))) pss_nil)
    (pss_cons (ps_setDcN (i := 2) (own := [("derivative", 3), ("power", 4)]) (g := (gTup K 2 (gCons (gName 3) (gCons (gName 4) gNil)))) (by have h := hr.un; show (A.deeper _).units + 9 < cLine; omega) rfl sc_monomials_together.nd rfl rfl (sw_dict rfl rfl rfl (by decide +kernel)) (pi_tup (pv 0)) (blkOk_by (N := N_monomials_together) (sc := defScope s_monomials_together) (by decide +kernel)) (fun _ _ _ _ _ => (pg_tup (by rfl) (pgs_cons (pg_name (i := 3) sc_monomials_together.nd rfl (Or.inl rfl)) (pgs_cons (pg_name (i := 4) sc_monomials_together.nd rfl (Or.inl rfl)) pgs_nil)))) (fun _ _ _ _ _ => pts_nil) (fun _ _ _ _ _ => (pv 3)) (fun _ _ _ _ _ => (pv 4)))
    (pss_cons (ps_for PassesOwn.never rfl (pi_tup (pv 1)) (pg_tup (by rfl) (pgs_cons (pg_name (i := 3) sc_monomials_together.nd rfl (by first | exact .inl rfl | exact .inr rfl)) (pgs_cons (pg_name (i := 4) sc_monomials_together.nd rfl (by first | exact .inl rfl | exact .inr rfl)) pgs_nil)))
      (pss_one (ps_dputN (by have h := hr.un; show (A.deeper _).units + 9 < cLine; omega) (pv 2) (pv 3) (pe_op op_add (pe_dget2N (by have h := hr.un; show (A.deeper _).units + 9 < cLine; omega) (pv 2) (pv 3) pe_int (by exact ⟨rfl, rfl, rfl, rfl⟩)) (pv 4)) rfl)))
    (pss_one (ps_ret (pe_callTy call_tuple_of (by rfl) n_tuple (by decide +kernel) (pa_cons (pe_callB (cr_sortItN hr) (by rfl) n_sorted (by decide +kernel) (pa_cons (pe_itemsN (pv 2)) pa_nil)) pa_nil)))))))), ?_⟩
  have t0 := et_not (et_truT (σ := [some v0, some v1, none, none, none]) (p_var (i := 0) rfl h0))
  have t1 := et_not (et_truT (σ := [some v0, some v1, none, none, none]) (p_var (i := 1) rfl h1))
  by_cases c0 : m = []
  · refine My.ps_ifT eB (et_is t0 (by rw [c0]; rfl)) fun H1 e1 => ?_
    refine My.ps_ret (eB.trans e1) (p_var rfl h1) fun v B1 H2 g hp => q v B1 H2 ((Gr.wide eB e1).trans g) ?_
    rw [c0, mm_nil hn]
    exact hp
  refine ps_ifN eB (et_is t0 (by cases m with | nil => exact absurd rfl c0 | cons a b => rfl)) fun H1 e1 => ?_
  by_cases c1 : n = []
  · refine My.ps_ifT (eB.trans e1) (et_is t1 (by rw [c1]; rfl)) fun H2 e2 => ?_
    refine My.ps_ret (eB.trans (e1.trans e2)) (p_var rfl h0) fun v B1 H3 g hp => q v B1 H3 ((Gr.wide eB (e1.trans e2)).trans g) ?_
    rw [c1, mm_nil' hm]
    exact hp
  refine ps_ifN (eB.trans e1) (et_is t1 (by cases n with | nil => exact absurd rfl c1 | cons a b => rfl)) fun H2 e2 => ?_
  dsimp only
  have e2' := eB.trans (e1.trans e2)
  refine ps_dcN (ky := kyD K) (vp := fun i => IsV (.int i)) e2' (p_var (i := 0) (σ := [some v0, some v1, none, none, none]) rfl h0) (by rw [List.length_map]; omega) (fun i => (m.getD i (⟨⟨#[]⟩, 0, 0⟩, 0)).1) (fun i => (m.getD i (⟨⟨#[]⟩, 0, 0⟩, 0)).2) (fun i p v B1 hp e pv => ?_) fun d B3 H3 hd e3 A3 => ?_
  · rw [List.getElem?_map] at hp
    obtain ⟨x, hx, rfl⟩ := Option.map_eq_some_iff.mp hp
    obtain ⟨a, y1, y2, rfl, hq, m1, m2⟩ := tup2 pv (Ex.refl B1)
    refine ⟨[some v0, some v1, none, some y1, some y2], rfl, fun H2 Q e q => ⟨a, _, rfl, ex_t e hq, rfl, _, _, rfl, _, _, rfl, rfl, q⟩, et_yes, p_var rfl ?_, p_var rfl ?_⟩
    · rw [List.getD_eq_getElem?_getD, hx]
      exact m1
    · rw [List.getD_eq_getElem?_getD, hx]
      exact m2
  · rw [List.length_map, dcL_eq (l := m) (fun i hi => by rw [List.getD_eq_getElem?_getD, List.getElem?_eq_getElem hi]; exact ⟨rfl, rfl⟩) hm.c.nd m.length (Nat.le_refl _), List.take_length] at A3
    have nd := hm.c.nd
    refine ps_forD (fun j => addAll m (n.take j)) (fun j σ => ∃ x y, σ = [some v0, some v1, some (.ref d), x, y]) A3 ⟨_, _, rfl⟩ rfl ((moP K n).m e3 h1) (fun j p v' σ' B' H' hj e' hs A' pv N hN => ?_) fun σ' B' H' e' hs A' => ?_
    · obtain ⟨x, y, rfl⟩ := hs
      rw [List.getElem?_map] at hj
      obtain ⟨t, ht, rfl⟩ := Option.map_eq_some_iff.mp hj
      obtain ⟨a, y1, y2, rfl, hq, m1, m2⟩ := tup2 pv A'.ex
      refine ⟨a, _, rfl, hq, rfl, _, _, rfl, _, _, rfl, rfl, ?_⟩
      have len := addAll_len (l := n.take j) (zs := m)
      rw [List.length_take] at len
      obtain rfl : y2 = .int t.2 := m2
      refine ps_put (f := co (addAll m (n.take j)) t.1 + t.2) rfl A' (a_op (x := .int (co (addAll m (n.take j)) t.1)) (y := .int t.2) ?_ (a_ev (p_var rfl rfl)) (fun H Q q => ⟨_, _, rfl, rfl, q⟩)) (p_var rfl m1) (by omega) fun B4 H4 e4 A4 => ?_
      · have := a_get2 (ky := kyD K) (vp := fun i => IsV (.int i)) (f0 := 0) (k := t.1) (ty := tVar 3) (tx := tC (.int 0)) (σ := [some v0, some v1, some (.ref d), some y1, some (.int t.2)]) (P := P) (w := w) (B := B) (H0 := H2) (d := d) (zs := addAll m (n.take j)) (Bi := B') (i := 2) rfl (p_var rfl m1) p_c
        rw [val_co (addAll_nd nd)] at this
        exact this
      · refine hN _ B4 H4 ⟨_, _, rfl⟩ e4 ?_
        show DcAt P w (kyD K) (fun i => IsV (.int i)) B H2 d (addAll m (n.take (j + 1))) B4 H4
        rw [List.take_add_one, ht, addAll_app]
        exact A4
    · obtain ⟨x, y, rfl⟩ := hs
      have A' : DcAt P w (kyD K) (fun i => IsV (.int i)) B H2 d (addAll m (n.take ((n.map (pwP K)).length))) B' H' := A'
      rw [List.length_map, List.take_length] at A'
      obtain ⟨B5, g5, hP⟩ := A'.fin hd
      refine My.ps_ret g5.c (p_tupOf (p_lq (p_sortItems (vd := fun i => .int i) (fun f => to_int) ?_ ?_ rfl hP))) fun v B6 H6 g6 hp => q v B6 H6 ((Gr.wide eB (e1.trans e2)).trans (g5.trans g6)) ?_
      · exact AllAlike.of (enc := pwD) (bs := addAll m n) fun u v => alike_pw u v
      · intro z _
        have := deep_pw z
        show (pwD z).depth ≤ 50
        omega
      · have e : srtZ (fun z : Dv × Int => PyData.tuple [(kyD K).kd z.1, .int z.2]) (addAll m n) = mm m n := mm_srt hm hn
        rw [e] at hp
        exact hp

end
end K12
namespace Nd
set_option autoImplicit false
open PySem PySem.W L2 My Evl
/-! ### limits of products and derivatives -/
theorem lim_row {D E M : Nat} {t : Mo × Rat} {q : Pq} (ht : Wh D t.2) (h : Lim E M q) : Lim (D * E) (ab D t.2 * M) (rowP t q) := by
  have := Lim.map (E := D * E) (f := fun s : Mo × Rat => (mm t.1 s.1, t.2 * s.2)) (c := ab D t.2) h fun s _ hs => by
    obtain ⟨a, b⟩ := wh_mul ht hs
    exact ⟨a, by rw [b, Nat.mul_comm]; exact Nat.le_refl _⟩
  rw [Nat.mul_comm M] at this
  exact this
theorem lim_mul {D E N M : Nat} {p q : Pq} (h : Lim D N p) (k : Lim E M q) : Lim (D * E) (N * M) (mulR p q) := Lim.flat h fun t _ ht => lim_row ht k
theorem lim_sc {D E N : Nat} {p : Pq} {r : Rat} (h : Lim D N p) (k : Wh E r) : Lim (D * E) (N * ab E r) (scP p r) := Lim.map (f := fun t : Mo × Rat => (t.1, t.2 * r)) h fun t _ ht => by
  obtain ⟨a, b⟩ := wh_mul ht k
  exact ⟨a, Nat.le_of_eq b⟩
/-- the degree -/
def dg (m : Mo) : Nat := (m.map fun y => y.2.natAbs).sum
theorem lim_derT {D : Nat} {t : Mo × Rat} (ht : Wh D t.2) (x : Bool) : Lim D (ab D t.2 * dg t.1) (derT t x) := by
  have one : ∀ y : Dv × Int, Wh D (t.2 * (y.2 : Rat)) ∧ ab D (t.2 * (y.2 : Rat)) = ab D t.2 * y.2.natAbs := fun y => by
    have := wh_mul ht (wh_int (z := y.2)).1
    rw [Nat.mul_one, wh_int.2] at this
    exact this
  unfold derT dg
  generalize t.1 = m
  have key : ∀ l : Mo, Lim D (ab D t.2 * (l.map fun y => y.2.natAbs).sum) (l.map fun y => (dMo m y.1 x, t.2 * (y.2 : Rat))) := by
    intro l
    induction l with
    | nil => exact Lim.nil
    | cons y l ih =>
      rw [List.map_cons, List.map_cons, List.sum_cons, Nat.mul_add]
      exact Lim.app (p := [_]) ⟨fun z hz => by rw [List.mem_singleton.mp hz]; exact (one y).1, by rw [wt_cons]; show _ + 0 ≤ _; rw [(one y).2]; exact Nat.le_refl _⟩ ih
  exact key m
theorem lim_derR {D N g : Nat} {p : Pq} (h : Lim D N p) (x : Bool) (hg : ∀ t ∈ p, dg t.1 ≤ g) : Lim D (N * g) (derR p x) := Lim.flat h fun t ht hw => (lim_derT hw x).le (Nat.mul_le_mul_left _ (hg t ht))
theorem dg_at {m : Mo} {y : Dv × Int} (h : y ∈ m) : y.2.natAbs ≤ dg m := by
  obtain ⟨a, b, rfl⟩ := List.append_of_mem h
  unfold dg
  rw [List.map_append, List.sum_append, List.map_cons, List.sum_cons]
  omega
/-! ### one factor less -/
def lowM (y : Dv × Int) : Mo := if 1 < y.2 then [(y.1, y.2 - 1)] else []
def cutM (m : Mo) (j : Nat) (y : Dv × Int) : Mo := m.take j ++ lowM y ++ m.drop (j + 1)
theorem m_split {m : Mo} {j : Nat} {y : Dv × Int} (h : m[j]? = some y) : m = m.take j ++ ([y] ++ m.drop (j + 1)) := by
  obtain ⟨hj, e⟩ := List.getElem?_eq_some_iff.mp h
  subst e
  rw [List.singleton_append, ← List.drop_eq_getElem_cons hj, List.take_append_drop]
theorem cut_co {m : Mo} {j : Nat} {y : Dv × Int} (h : m[j]? = some y) (hy : 0 < y.2) (k : Dv) : co (cutM m j y) k = co m k + (if y.1 = k then -1 else 0) := by
  conv => rhs; rw [m_split h]
  unfold cutM lowM
  rw [co_app, co_app, co_app, co_app, co_cons, co_nil]
  split
  · rw [co_cons, co_nil]
    dsimp only
    split <;> omega
  · rw [co_nil]
    split <;> omega
theorem cut_moc {m : Mo} (hm : MoC m) {j : Nat} {y : Dv × Int} (h : m[j]? = some y) : MoC (cutM m j y) := by
  have ym := List.mem_of_getElem? h
  have pos : ∀ x ∈ cutM m j y, 0 < x.2 := fun x hx => by
    rcases List.mem_append.mp hx with hx | hx
    · rcases List.mem_append.mp hx with hx | hx
      · exact hm.p x (List.mem_of_mem_take hx)
      · unfold lowM at hx
        split at hx
        · rw [List.mem_singleton.mp hx]
          dsimp only
          omega
        · cases hx
    · exact hm.p x (List.mem_of_mem_drop hx)
  refine ⟨⟨?_, fun x hx => by have := pos x hx; omega⟩, pos⟩
  have h1 : (m.map (·.1)).Pairwise fun a b => Od.lt a b = true := List.pairwise_map.mpr hm.c.up
  have h2 : ((cutM m j y).map (·.1)).Sublist (m.map (·.1)) := by
    conv => rhs; rw [m_split h]
    unfold cutM
    rw [List.map_append, List.map_append, List.map_append, List.map_append, List.append_assoc]
    refine List.Sublist.append (List.Sublist.refl _) (List.Sublist.append ?_ (List.Sublist.refl _))
    unfold lowM
    split
    · exact List.Sublist.refl _
    · exact List.nil_sublist _
  exact List.pairwise_map.mp (List.Pairwise.sublist h2 h1)
theorem cut_mm {m : Mo} (hm : MoC m) {j : Nat} {y : Dv × Int} (h : m[j]? = some y) (x : Bool) : mm (cutM m j y) [(upD y.1 x, 1)] = dMo m y.1 x := by
  refine cf_ext fun k => ?_
  rw [co_app, cut_co h (hm.p y (List.mem_of_getElem? h)), co_app, co_cons, co_cons, co_cons, co_nil]
  dsimp only
  exact Int.add_assoc _ _ _
theorem cut_len (m : Mo) (j : Nat) (y : Dv × Int) : (cutM m j y).length ≤ m.length + 1 := by
  unfold cutM lowM
  rw [List.length_append, List.length_append, List.length_take, List.length_drop]
  split
  · rw [List.length_singleton]; omega
  · rw [List.length_nil]; omega
/-! ### tuples cut and joined -/
section
variable {te ta tb : TE} {σ : L2.St} {B : Hp} {K : PySem.W.Frag} {ps qs : List Pr} {p : Pr}
theorem AllP.drop {H : Hp} : ∀ {ps : List Pr} {vs : List V} (n : Nat), AllP ps vs H → AllP (ps.drop n) (vs.drop n) H
  | _, _, 0, h => h
  | [], [], _ + 1, _ => trivial
  | _ :: _, _ :: _, n + 1, h => AllP.drop n h.2
theorem p_catU (ha : EvP ta σ B (TuP K ps)) (hb : EvP tb σ B (TuP K qs)) (hl : ps.length + qs.length ≤ 100000) : EvP (tOp (rCatA K) ta tb) σ B (TuP K (ps ++ qs)) := fun H1 e Q k =>
  ha H1 e _ fun v B2 H2 g x => hb H2 (g.b.trans g.c) _ fun w B3 H3 g3 x3 => by
    obtain ⟨p, xs, rfl, hp, hx⟩ := x
    obtain ⟨q, ys, rfl, hq, hy⟩ := x3
    have l1 := hx.len
    have l2 := hy.len
    have gj := g.join g3
    have hx' := hx.m (both_l (B := B2) (C := B3))
    have hy' := hy.m (both_r (g.c.trans g3.a) g3.c)
    refine ⟨p, q, xs, ys, rfl, rfl, ex_t (g.c.trans g3.a) hp, ex_t g3.c hq, sz_of (by omega), fun e0 => ?_, fun _ e0 => ?_, fun _ _ r hr => ?_⟩
    · subst e0
      have : ps = [] := List.length_eq_zero_iff.mp l1.symm
      subst this
      exact k _ _ _ gj ⟨q, ys, rfl, ex_t (both_r (g.c.trans g3.a) g3.c) hq, hy'⟩
    · subst e0
      have : qs = [] := List.length_eq_zero_iff.mp l2.symm
      subst this
      refine k _ _ _ gj ?_
      rw [List.append_nil]
      exact ⟨p, xs, rfl, ex_t both_l hp, hx'⟩
    · have en : Ex (both B2 B3) (upd (both B2 B3) r (.tup (xs ++ ys))) := Ex.new (fresh_back gj.c hr)
      exact k _ _ _ (gj.trans (Gr.new _ gj.c hr)) ⟨r, xs ++ ys, rfl, st_of upd_same, (hx'.m en).app (hy'.m en)⟩
theorem p_slTo {k : Nat} (h : EvP te σ B (TuP K ps)) (hk : Ev tb σ B (.int (k : Int))) : EvP (tSl (rSlA K) te tNoPart (tPart tb)) σ B (TuP K (ps.take k)) := fun H1 a Q q =>
  h H1 a _ fun v B2 H2 g x => hk H2 (g.b.trans g.c) _ fun H3 e3 => ⟨k, rfl, by
    obtain ⟨l, xs, rfl, hl, al⟩ := x
    refine ⟨l, xs, rfl, ex_t (g.c.trans e3) hl, fun e => ?_, fun _ r hr => ?_⟩
    · rw [HT.sIx_none, HT.sIx_nat] at e
      have := al.len
      refine q _ B2 H3 (g.trans (Gr.wide g.c e3)) ⟨l, xs, rfl, hl, ?_⟩
      rw [List.take_of_length_le (by omega)]
      exact al
    · rw [cutTo]
      exact q _ _ _ ((g.trans (Gr.wide g.c e3)).trans (Gr.new (.tup (xs.take k)) (g.c.trans e3) hr)) ⟨r, _, rfl, st_of upd_same, (AllP.take k al).m (Ex.new (fresh_back (g.c.trans e3) hr))⟩⟩
theorem cutFrom (xs : List V) (k : Nat) : cutV xs (some (k : Int)) none = xs.drop k := by
  unfold cutV
  rw [HT.sIx_none, HT.sIx_nat]
  by_cases h : k ≤ xs.length
  · rw [Nat.min_eq_left h, List.take_of_length_le (by rw [List.length_drop]; exact Nat.le_refl _)]
  · rw [Nat.min_eq_right (by omega), Nat.sub_self, List.take_zero, List.drop_of_length_le (by omega)]
theorem p_slFrom {k : Nat} (h : EvP te σ B (TuP K ps)) (hk : Ev tb σ B (.int (k : Int))) : EvP (tSl (rSlA K) te (tPart tb) tNoPart) σ B (TuP K (ps.drop k)) := fun H1 a Q q =>
  h H1 a _ fun v B2 H2 g x => hk H2 (g.b.trans g.c) _ fun H3 e3 => ⟨k, rfl, by
    obtain ⟨l, xs, rfl, hl, al⟩ := x
    refine ⟨l, xs, rfl, ex_t (g.c.trans e3) hl, fun e => ?_, fun _ r hr => ?_⟩
    · rw [HT.sIx_none, HT.sIx_nat] at e
      have := al.len
      refine q _ B2 H3 (g.trans (Gr.wide g.c e3)) ⟨l, xs, rfl, hl, ?_⟩
      rcases Nat.eq_zero_or_pos k with h0 | h0
      · rw [h0]
        exact al
      · have : xs.length = 0 := by omega
        rw [List.drop_of_length_le (by omega)]
        have e1 : ps = [] := List.length_eq_zero_iff.mp (by omega)
        rw [e1] at al
        exact al
    · rw [cutFrom]
      exact q _ _ _ ((g.trans (Gr.wide g.c e3)).trans (Gr.new (.tup (xs.drop k)) (g.c.trans e3) hr)) ⟨r, _, rfl, st_of upd_same, (AllP.drop k al).m (Ex.new (fresh_back (g.c.trans e3) hr))⟩⟩
/-- a comprehension, all items kept -/
theorem p_lcSM {wi : TI} {n : Nat} {P : Nat → Pr} {g : TG} {vs : List Nat} (h : Src wi σ B n P) (hl : n ≤ 100000) (res : Nat → Pr)
    (step : ∀ i v B1, i < n → Ex B B1 → (P i).P v B1 → ∃ σ2, wipe σ2 vs = wipe σ vs ∧ (∀ H2 Q, Ex B1 H2 → Q σ2 H2 → g v (wipe σ vs) H2 Q) ∧ EvP te σ2 B1 (res i)) :
    EvP (tLc wi g tYes te vs) σ B (LsP ((List.range n).map res)) := by
  have := p_lcS (tt := tYes) (te := te) h hl (fun _ => true) res fun i v B1 hi e pv => by
    obtain ⟨σ2, a, b, c⟩ := step i v B1 hi e pv
    exact ⟨σ2, a, b, et_yes, fun _ => c⟩
  rw [List.filter_eq_self.mpr (fun _ _ => rfl)] at this
  exact this
theorem fr_of_d {f : Fr} {v : V} {H : Hp} (h : Dp K H v (frD f)) : (frP K f).P v H := by
  cases h with
  | tup a b =>
    cases b with
    | cons b1 b =>
      cases b with
      | cons b2 b =>
        cases b
        cases b1
        cases b2
        exact ⟨_, _, rfl, a, rfl, rfl, trivial⟩
theorem p_one {aO : Addr} (h : ∀ H, Dp K H (.ref aO) (.tuple [.int 1, .int 1])) : EvP (tC (.ref aO)) σ B (rtP K 1) := fun H1 a _ k => k _ B H1 (Gr.refl a) (fr_of_d (f := (1, 1)) (h B))
end
def axS (x : Bool) : Str := if x then "x" else "y"
def Rplus (K : PySem.W.Frag) : List Pr → Pr → Prop := fun ps z => ∃ (D N : Nat) (p q : Pq), LimB D N ∧ Lim D N (p ++ q) ∧ (p.map (·.1)).Nodup ∧ p.length + q.length ≤ 90000 ∧ ps = [poP K (toPo p), poP K (toPo q)] ∧ z = poP K (toPo (addP p q))
def Rtimes (K : PySem.W.Frag) : List Pr → Pr → Prop := fun ps z => ∃ (D E N M : Nat) (p q : Pq), LimB D N ∧ LimB E M ∧ LimB (D * E) (N * M) ∧ Lim D N p ∧ Lim E M q ∧ (∀ t ∈ p, MoC t.1 ∧ t.1.length ≤ 1000) ∧ (∀ t ∈ q, MoC t.1 ∧ t.1.length ≤ 1000) ∧ p.length * q.length ≤ 90000 ∧
  ps = [poP K (toPo p), poP K (toPo q)] ∧ z = poP K (toPo (mulP p q))
def Rscaled (K : PySem.W.Frag) : List Pr → Pr → Prop := fun ps z => ∃ (p : Pq) (r : Rat), (∀ t ∈ p, Sm t.2) ∧ Sm r ∧ p.length ≤ 90000 ∧ ps = [poP K (toPo p), rtP K r] ∧ z = poP K (toPo (if r = 0 then [] else scP p r))
def Rconst (K : PySem.W.Frag) : List Pr → Pr → Prop := fun ps z => ∃ r : Rat, ps = [rtP K r] ∧ z = poP K (toPo (if r = 0 then [] else [([], r)]))
def Rofd (K : PySem.W.Frag) : List Pr → Pr → Prop := fun ps z => ∃ (u : Dv) (i : Int), ps = [DvP u, IsV (.int i)] ∧ z = poP K (toPo [(if i = 0 then [] else [(u, i)], 1)])
def Rhigh : List Pr → Pr → Prop := fun ps z => ∃ (u : Dv) (x : Bool), ps = [DvP u, IsV (.str (axS x))] ∧ z = DvP (upD u x)
def Rder1 (K : PySem.W.Frag) : List Pr → Pr → Prop := fun ps z => ∃ (D N g : Nat) (p : Pq) (x : Bool), LimB D N ∧ LimB D (N * g) ∧ Lim D N p ∧ (∀ t ∈ p, MoC t.1 ∧ dg t.1 ≤ g ∧ t.1.length ≤ 1000) ∧ g ≤ 1000000 ∧ (derR p x).length ≤ 90000 ∧
  ps = [poP K (toPo p), IsV (.str (axS x))] ∧ z = poP K (toPo (derP p x))
theorem sm_int {z : Int} (h : z.natAbs < 2 ^ 4000) : Sm (z : Rat) := ⟨h, by show 1 < 2 ^ 4000; exact Nat.one_lt_two_pow (by decide)⟩
end Nd
namespace K12
set_option autoImplicit false
open PySem PySem.W L2 Evl My Nd
section
variable {P : Program} {w : World} {K : PySem.W.Frag} {mg : Str → Option Value} {base : Heap}

/-- constant -/
abbrev s_constant : Stmt := topS 7
abbrev N_constant : List Str := ["number"]
theorem sc_constant : FnScope N_constant ["number"] (defScope s_constant) := ⟨rfl, rfl, rfl, by decide +kernel, rfl, by decide +kernel, by decide +kernel⟩
theorem ok_constant {f : Addr} {fd : FuncData} (F : Fun K "constant" "constant" s_constant f fd)     :
    FnOk P w K mg base CX0 1 f fd ["number"] (spP (Rconst K)) := by
  refine F.ok sc_constant (spP_len (by rintro _ _ ⟨_, rfl, rfl⟩; rfl)) (fun cdv A outer s H vs Q E hr h => ?_)
  obtain ⟨B, ps, p, eB, hv, ⟨r, rfl, rfl⟩, q⟩ := h
  obtain ⟨v0, rfl, h0⟩ := all1 hv
  have hu := hu_of hr
  refine ⟨_, (pss_cons (ps_if (pt_cmpR op_eq (pe_ix ix_tup (pv 0) pe_int (fun _ _ => rfl)) pe_int (nomark _)) (pss_one (ps_ret (pe_tup pa_nil))) pss_nil)
    (pss_one (ps_ret (pe_tup (pa_cons (pe_tup (pa_cons (pe_tup pa_nil) (pa_cons (pv 0) pa_nil))) pa_nil))))), ?_⟩
  have tst := et_test (σ := [some v0]) (ev_op (ev_top (K := K) (p_var (i := 0) rfl h0)) (ev_c (v := .int 0)) (rv_eq rfl))
  by_cases c : r = 0
  · refine My.ps_ifT eB (et_is tst (by rw [c]; rfl)) fun H1 e1 => ?_
    refine My.ps_ret (eB.trans e1) (p_tup (K := K) q_nil (by show 0 ≤ 100000; decide)) fun v B1 H2 g hp => q v B1 H2 ((Gr.wide eB e1).trans g) ?_
    rw [if_pos c]
    exact hp
  · refine ps_ifN eB (et_is tst ?_) fun H1 e1 => ?_
    · have : (fr r).1 ≠ 0 := fun e => c ((fr_num0 r).mp e)
      simp [this]
    · dsimp only
      refine My.ps_ret (eB.trans e1) (p_tup (K := K) (q_cons (p_tup (K := K) (q_cons (p_tup (K := K) q_nil (by show 0 ≤ 100000; decide)) (q_cons (p_var rfl h0) q_nil)) (by show 2 ≤ 100000; decide)) q_nil) (by show 1 ≤ 100000; decide)) fun v B1 H2 g hp => q v B1 H2 ((Gr.wide eB e1).trans g) ?_
      rw [if_neg c]
      exact hp

/-- of_derivative -/
abbrev s_of_derivative : Stmt := topS 8
abbrev N_of_derivative : List Str := ["derivative", "power"]
theorem sc_of_derivative : FnScope N_of_derivative ["derivative", "power"] (defScope s_of_derivative) := ⟨rfl, rfl, rfl, by decide +kernel, rfl, by decide +kernel, by decide +kernel⟩
theorem ok_of_derivative {f : Addr} {fd : FuncData} (F : Fun K "of_derivative" "of_derivative" s_of_derivative f fd)  {f_constant : Addr} {d_constant : FuncData} (c_constant : Cal P w K mg base "constant" 1 ["number"] (spP (Rconst K)) f_constant d_constant)  {aO : Addr} (g_ONE : mg "ONE" = some (.ref aO)) (v_ONE : ∀ H, Dp K H (.ref aO) (.tuple [.int 1, .int 1])) :
    FnOk P w K mg base CX0 2 f fd ["derivative", "power"] (spP (Rofd K)) := by
  refine F.ok sc_of_derivative (spP_len (by rintro _ _ ⟨_, _, rfl, rfl⟩; rfl)) (fun cdv A outer s H vs Q E hr h => ?_)
  obtain ⟨B, ps, p, eB, hv, ⟨u, i, rfl, rfl⟩, q⟩ := h
  obtain ⟨v0, v1, rfl, h0, h1⟩ := all2 hv
  have hu := hu_of hr
  refine ⟨_, (pss_cons (ps_if (pt_cmpR op_eq (pv 1) pe_int (nomark _)) (pss_one (ps_ret (pe_call c_constant.G (hr.mono (by decide)) (by rfl) c_constant.m c_constant.k c_constant.b .nil pass0 (pa_cons (pe_glob (by rfl) (v := .ref aO) g_ONE rfl) pa_nil)))) pss_nil)
    (pss_one (ps_ret (pe_tup (pa_cons (pe_tup (pa_cons (pe_tup (pa_cons (pe_tup (pa_cons (pv 0) (pa_cons (pv 1) pa_nil))) pa_nil)) (pa_cons (pe_glob (by rfl) (v := .ref aO) g_ONE rfl) pa_nil))) pa_nil))))), ?_⟩
  obtain rfl : v1 = _ := h1
  have tst := et_test (σ := [some v0, some (.int i)]) (H := B) (ev_op (ev_var (i := 1) rfl) (ev_c (v := .int 0)) (rv_eq rfl))
  by_cases c : i = 0
  · refine My.ps_ifT eB (et_is tst (by rw [c]; rfl)) fun H1 e1 => ?_
    refine My.ps_ret (eB.trans e1) (p_callP (q_cons (p_one v_ONE) q_nil) ⟨1, rfl, rfl⟩) fun v B1 H2 g hp => q v B1 H2 ((Gr.wide eB e1).trans g) ?_
    rw [if_pos c]
    exact hp
  · refine ps_ifN eB (et_is tst (by simp [c])) fun H1 e1 => ?_
    dsimp only
    refine My.ps_ret (eB.trans e1) (p_tup (K := K) (q_cons (p_tup (K := K) (q_cons (p_tup (K := K) (q_cons (p_tup (K := K) (q_cons (p_var (p := DvP u) rfl h0) (q_cons (p_var (p := IsV (.int i)) rfl rfl) q_nil)) (by show 2 ≤ 100000; decide)) q_nil) (by show 1 ≤ 100000; decide)) (q_cons (p_one v_ONE) q_nil)) (by show 2 ≤ 100000; decide)) q_nil) (by show 1 ≤ 100000; decide)) fun v B1 H2 g hp => q v B1 H2 ((Gr.wide eB e1).trans g) ?_
    rw [if_neg c]
    exact hp

/-- _higher -/
abbrev s__higher : Stmt := topS 16
abbrev N__higher : List Str := ["derivative", "axis", "name", "by_x", "by_y"]
theorem sc__higher : FnScope N__higher ["derivative", "axis"] (defScope s__higher) := ⟨rfl, rfl, rfl, by decide +kernel, rfl, by decide +kernel, by decide +kernel⟩
theorem ok__higher {f : Addr} {fd : FuncData} (F : Fun K "_higher" "_higher" s__higher f fd)     :
    FnOk P w K mg base CX0 1 f fd ["derivative", "axis"] (spP Rhigh) := by
  refine F.ok sc__higher (spP_len (by rintro _ _ ⟨_, _, rfl, rfl⟩; rfl)) (fun cdv A outer s H vs Q E hr h => ?_)
  obtain ⟨B, ps, p, eB, hv, ⟨u, x, rfl, rfl⟩, q⟩ := h
  obtain ⟨v0, v1, rfl, h0, h1⟩ := all2 hv
  have hu := hu_of hr
  refine ⟨_, (pss_cons (ps_asg (pv 0) (pg_tup (by rfl) (pgs_cons (pg_name (i := 2) sc__higher.nd rfl (by first | exact .inl rfl | exact .inr rfl)) (pgs_cons (pg_name (i := 3) sc__higher.nd rfl (by first | exact .inl rfl | exact .inr rfl)) (pgs_cons (pg_name (i := 4) sc__higher.nd rfl (by first | exact .inl rfl | exact .inr rfl)) pgs_nil)))))
    (pss_cons (ps_if (pt_cmpR op_eq (pv 1) pe_str (nomark _)) (pss_one (ps_ret (pe_tup (pa_cons (pv 2) (pa_cons (pe_op op_add (pv 3) pe_int) (pa_cons (pv 4) pa_nil)))))) pss_nil)
    (pss_one (ps_ret (pe_tup (pa_cons (pv 2) (pa_cons (pv 3) (pa_cons (pe_op op_add (pv 4) pe_int) pa_nil)))))))), ?_⟩
  obtain rfl : v1 = _ := h1
  refine ps_unD (K := K) eB (p_var rfl h0) fun B1 H1 g1 => ?_
  dsimp only
  have tst := et_test (σ := [some v0, some (.str (axS x)), some (.str u.n), some (.int u.i), some (.int u.j)]) (H := B1) (ev_op (ev_var (i := 1) rfl) (ev_c (v := .str "x")) (rv_eq rfl))
  cases x with
  | true =>
    refine My.ps_ifT g1.c (et_is tst (by rfl)) fun H2 e2 => ?_
    exact My.ps_ret (g1.c.trans e2) (p_dv (u := upD u true) rfl rfl rfl (q_cons (p_varV rfl) (q_cons (p_ev (ev_addI (ev_var rfl) ev_c)) (q_cons (p_varV rfl) q_nil)))) fun v B3 H3 g hp => q v B3 H3 (g1.trans ((Gr.wide g1.c e2).trans g)) hp
  | false =>
    refine ps_ifN g1.c (et_is tst (by decide +kernel)) fun H2 e2 => ?_
    dsimp only
    exact My.ps_ret (g1.c.trans e2) (p_dv (u := upD u false) rfl rfl rfl (q_cons (p_varV rfl) (q_cons (p_varV rfl) (q_cons (p_ev (ev_addI (ev_var rfl) ev_c)) q_nil)))) fun v B3 H3 g hp => q v B3 H3 (g1.trans ((Gr.wide g1.c e2).trans g)) hp

end
end K12
namespace Nd
set_option autoImplicit false
open PySem PySem.W L2 My Evl
theorem Lim.pre {κ : Type} [DecidableEq κ] {D N : Nat} {p q : List (κ × Rat)} (h : Lim D N (p ++ q)) (i : Nat) : Lim D N (p ++ q.take i) := by
  have e : p ++ q = (p ++ q.take i) ++ q.drop i := by rw [List.append_assoc, List.take_append_drop]
  rw [e] at h
  exact h.l
theorem mul_take {p q : Pq} {i : Nat} {t : Mo × Rat} (h : p[i]? = some t) : mulR (p.take (i + 1)) q = mulR (p.take i) q ++ rowP t q := by
  unfold mulR
  rw [List.take_add_one, h, List.flatMap_append]
  simp
theorem der_take {p : Pq} {x : Bool} {i : Nat} {t : Mo × Rat} (h : p[i]? = some t) : derR (p.take (i + 1)) x = derR (p.take i) x ++ derT t x := by
  unfold derR
  rw [List.take_add_one, h, List.flatMap_append]
  simp
theorem mul_pre (p q : Pq) (i : Nat) : mulR p q = mulR (p.take i) q ++ mulR (p.drop i) q := by rw [← mulR_app, List.take_append_drop]
theorem der_pre (p : Pq) (x : Bool) (i : Nat) : derR p x = derR (p.take i) x ++ derR (p.drop i) x := by
  unfold derR
  rw [← List.flatMap_append, List.take_append_drop]
/-- the part of all that has been added -/
theorem mul_part {p q : Pq} {i : Nat} {t : Mo × Rat} (h : p[i]? = some t) (j : Nat) : ∃ r, mulR p q = (mulR (p.take i) q ++ (rowP t q).take j) ++ r := by
  obtain ⟨hi, e⟩ := List.getElem?_eq_some_iff.mp h
  refine ⟨(rowP t q).drop j ++ mulR (p.drop (i + 1)) q, ?_⟩
  rw [mul_pre p q (i + 1), mul_take h, List.append_assoc, List.append_assoc, ← List.append_assoc ((rowP t q).take j), List.take_append_drop]
theorem der_part {p : Pq} {x : Bool} {i : Nat} {t : Mo × Rat} (h : p[i]? = some t) (j : Nat) : ∃ r, derR p x = (derR (p.take i) x ++ (derT t x).take j) ++ r := by
  refine ⟨(derT t x).drop j ++ derR (p.drop (i + 1)) x, ?_⟩
  rw [der_pre p x (i + 1), der_take h, List.append_assoc, List.append_assoc, ← List.append_assoc ((derT t x).take j), List.take_append_drop]
theorem nd_nil : (([] : Pq).map (·.1)).Nodup := List.nodup_nil
theorem cf_all (l : Pq) : cf (addAll [] l) = cf l := cf_ext fun k => by rw [addAll_co nd_nil, List.nil_append]
end Nd
namespace K12
set_option autoImplicit false
open PySem PySem.W L2 Evl My Nd
section
variable {P : Program} {w : World} {K : PySem.W.Frag} {mg : Str → Option Value} {base : Heap}

/-- plus -/
abbrev s_plus : Stmt := topS 9
abbrev N_plus : List Str := ["one", "other", "total", "monomial", "number"]
theorem sc_plus : FnScope N_plus ["one", "other"] (defScope s_plus) := ⟨rfl, rfl, rfl, by decide +kernel, rfl, by decide +kernel, by decide +kernel⟩
theorem ok_plus {f : Addr} {fd : FuncData} (F : Fun K "plus" "plus" s_plus f fd)  {f_add_to : Addr} {d_add_to : FuncData} (c_add_to : Cal P w K mg base "add_to" 3 ["total", "one"] (spAddTo P w K) f_add_to d_add_to) {f_polynomial_of : Addr} {d_polynomial_of : FuncData} (c_polynomial_of : Cal P w K mg base "polynomial_of" 1 ["total"] (spP (Rpof P w K)) f_polynomial_of d_polynomial_of)   :
    FnOk P w K mg base CX0 4 f fd ["one", "other"] (spP (Rplus K)) := by
  refine F.ok sc_plus (spP_len (by rintro _ _ ⟨_, _, _, _, _, _, _, _, rfl, rfl⟩; rfl)) (fun cdv A outer s H vs Q E hr h => ?_)
  obtain ⟨B, ps, z, eB, hv, ⟨D, N, p, q, hb, hl, nd, hn, rfl, rfl⟩, k⟩ := h
  obtain ⟨v0, v1, rfl, h0, h1⟩ := all2 hv
  have hu := hu_of hr
  refine ⟨_, (pss_cons (ps_setDcN (i := 2) (own := [("monomial", 3), ("number", 4)]) (g := (gTup K 2 (gCons (gName 3) (gCons (gName 4) gNil)))) (by have h := hr.un; show (A.deeper _).units + 9 < cLine; omega) rfl sc_plus.nd rfl rfl (sw_dict rfl rfl rfl (by decide +kernel)) (pi_tup (pv 0)) (blkOk_by (N := N_plus) (sc := defScope s_plus) (by decide +kernel)) (fun _ _ _ _ _ => (pg_tup (by rfl) (pgs_cons (pg_name (i := 3) sc_plus.nd rfl (Or.inl rfl)) (pgs_cons (pg_name (i := 4) sc_plus.nd rfl (Or.inl rfl)) pgs_nil)))) (fun _ _ _ _ _ => pts_nil) (fun _ _ _ _ _ => (pv 3)) (fun _ _ _ _ _ => (pv 4)))
    (pss_cons (ps_expr (pe_call c_add_to.G (hr.mono (by decide)) (by rfl) c_add_to.m c_add_to.k c_add_to.b .nil pass0 (pa_cons (pv 2) (pa_cons (pv 1) pa_nil))))
    (pss_one (ps_ret (pe_call c_polynomial_of.G (hr.mono (by decide)) (by rfl) c_polynomial_of.m c_polynomial_of.k c_polynomial_of.b .nil pass0 (pa_cons (pv 2) pa_nil)))))), ?_⟩
  refine ps_dcN (ky := kyM K) (vp := rtP K) eB (p_var (i := 0) (σ := [some v0, some v1, none, none, none]) rfl h0) (by rw [po_len]; omega) (fun i => (p.getD i ([], 0)).1) (fun i => (p.getD i ([], 0)).2) (fun i z v B1 hp e pv => ?_) fun d B3 H3 hd e3 A3 => ?_
  · obtain ⟨t, ht, rfl⟩ := po_at hp
    obtain ⟨a, y1, y2, rfl, hq, m1, m2⟩ := tup2 pv (Ex.refl B1)
    refine ⟨[some v0, some v1, none, some y1, some y2], rfl, fun H2 Q e q => ⟨a, _, rfl, ex_t e hq, rfl, _, _, rfl, _, _, rfl, rfl, q⟩, et_yes, p_var rfl ?_, p_var rfl ?_⟩
    · rw [List.getD_eq_getElem?_getD, ht]
      exact m1
    · rw [List.getD_eq_getElem?_getD, ht]
      exact m2
  · rw [po_len, dcL_eq (l := p) (fun i hi => by rw [List.getD_eq_getElem?_getD, List.getElem?_eq_getElem hi]; exact ⟨rfl, rfl⟩) nd p.length (Nat.le_refl _), List.take_length] at A3
    refine ⟨.ref d, rfl, v1, rfl, B, H, d, p, B3, q, v1, rfl, A3, (poP K (toPo q)).m e3 h1, nd, fun t ht => hl.r.sm hb ht, fun i m => (hl.pre i).smc hb m, by omega, fun B4 H4 e4 A4 => ?_⟩
    dsimp only
    obtain ⟨B5, g5, hP⟩ := A4.fin hd
    refine My.ps_ret g5.c (p_callP (q_cons (p_var rfl hP) q_nil) ⟨_, addAll_nd nd, ?_, rfl, rfl⟩) fun v B6 H6 g6 hp => k v B6 H6 (g5.trans g6) ?_
    · have := addAll_len (l := q) (zs := p)
      omega
    · have e : cf (addAll p q) = addP p q := cf_ext fun k => addAll_co nd k
      rw [e] at hp
      exact hp

/-- times -/
abbrev s_times : Stmt := topS 11
abbrev N_times : List Str := ["one", "other", "total", "monomial", "number", "by_monomial", "by_number"]
theorem sc_times : FnScope N_times ["one", "other"] (defScope s_times) := ⟨rfl, rfl, rfl, by decide +kernel, rfl, by decide +kernel, by decide +kernel⟩
theorem ok_times {f : Addr} {fd : FuncData} (F : Fun K "times" "times" s_times f fd)  {f_monomials_together : Addr} {d_monomials_together : FuncData} (c_monomials_together : Cal P w K mg base "monomials_together" 1 ["one", "other"] (spP (Rmm K)) f_monomials_together d_monomials_together) {f_product : Addr} {d_product : FuncData} (c_product : Cal P w K mg base "product" 1 ["one", "other"] (spP (Rprod K)) f_product d_product) {f_add_term : Addr} {d_add_term : FuncData} (c_add_term : Cal P w K mg base "add_term" 2 ["total", "monomial", "number"] (spAddT P w K) f_add_term d_add_term) {f_polynomial_of : Addr} {d_polynomial_of : FuncData} (c_polynomial_of : Cal P w K mg base "polynomial_of" 1 ["total"] (spP (Rpof P w K)) f_polynomial_of d_polynomial_of)   :
    FnOk P w K mg base CX0 3 f fd ["one", "other"] (spP (Rtimes K)) := by
  refine F.ok sc_times (spP_len (by rintro _ _ ⟨_, _, _, _, _, _, _, _, _, _, _, _, _, _, rfl, rfl⟩; rfl)) (fun cdv A outer s H vs Q E hr h => ?_)
  obtain ⟨B, ps, z, eB, hv, ⟨D, E', N, M, p, q, b1, b2, b3, l1, l2, m1, m2, hn, rfl, rfl⟩, k⟩ := h
  obtain ⟨v0, v1, rfl, h0, h1⟩ := all2 hv
  have hu := hu_of hr
  refine ⟨_, (pss_cons (ps_set (i := 2) sc_times.nd rfl (by first | exact .inl rfl | exact .inr rfl) pe_dnewN)
    (pss_cons (ps_for PassesOwn.never rfl (pi_tup (pv 0)) (pg_tup (by rfl) (pgs_cons (pg_name (i := 3) sc_times.nd rfl (by first | exact .inl rfl | exact .inr rfl)) (pgs_cons (pg_name (i := 4) sc_times.nd rfl (by first | exact .inl rfl | exact .inr rfl)) pgs_nil)))
      (pss_one (ps_for PassesOwn.never rfl (pi_tup (pv 1)) (pg_tup (by rfl) (pgs_cons (pg_name (i := 5) sc_times.nd rfl (by first | exact .inl rfl | exact .inr rfl)) (pgs_cons (pg_name (i := 6) sc_times.nd rfl (by first | exact .inl rfl | exact .inr rfl)) pgs_nil)))
      (pss_one (ps_expr (pe_call c_add_term.G (hr.mono (by decide)) (by rfl) c_add_term.m c_add_term.k c_add_term.b .nil pass0 (pa_cons (pv 2) (pa_cons (pe_call c_monomials_together.G (hr.mono (by decide)) (by rfl) c_monomials_together.m c_monomials_together.k c_monomials_together.b .nil pass0 (pa_cons (pv 3) (pa_cons (pv 5) pa_nil))) (pa_cons (pe_call c_product.G (hr.mono (by decide)) (by rfl) c_product.m c_product.k c_product.b .nil pass0 (pa_cons (pv 4) (pa_cons (pv 6) pa_nil))) pa_nil)))))))))
    (pss_one (ps_ret (pe_call c_polynomial_of.G (hr.mono (by decide)) (by rfl) c_polynomial_of.m c_polynomial_of.k c_polynomial_of.b .nil pass0 (pa_cons (pv 2) pa_nil)))))), ?_⟩
  have lm := lim_mul l1 l2
  have ln := mulR_len p q
  refine dc_nul (ky := kyM K) (vp := rtP K) eB fun d H2 hd A2 => ?_
  dsimp only
  refine ps_forD (fun i => addAll [] (mulR (p.take i) q)) (fun i σ => ∃ a b c e, σ = [some v0, some v1, some (.ref d), a, b, c, e]) A2 ⟨_, _, _, _, rfl⟩ rfl h0 (fun i z v' σ' B' H' hi e' hs A' pv F hF => ?_) fun σ' B' H' e' hs A' => ?_
  · obtain ⟨a, b, c, e, rfl⟩ := hs
    obtain ⟨t, ht, rfl⟩ := po_at hi
    obtain ⟨w0, y1, y2, rfl, hq, n1, n2⟩ := tup2 pv A'.ex
    refine ⟨w0, _, rfl, hq, rfl, _, _, rfl, _, _, rfl, rfl, ?_⟩
    have htm := List.mem_of_getElem? ht
    refine ps_forD (fun j => addAll [] (mulR (p.take i) q ++ (rowP t q).take j)) (fun j σ => ∃ c e, σ = [some v0, some v1, some (.ref d), some y1, some y2, c, e]) (by rw [List.take_zero, List.append_nil]; exact A') ⟨_, _, rfl⟩ rfl ((poP K (toPo q)).m e' h1) (fun j z v' σ' B2 H2 hj e2 hs A2 pv F2 hF2 => ?_) fun σ' B2 H2 e2 hs A2 => ?_
    · obtain ⟨c, e, rfl⟩ := hs
      obtain ⟨s, hs, rfl⟩ := po_at hj
      obtain ⟨w1, x1, x2, rfl, hq2, r1, r2⟩ := tup2 pv A2.ex
      refine ⟨w1, _, rfl, hq2, rfl, _, _, rfl, _, _, rfl, rfl, ?_⟩
      have hsm := List.mem_of_getElem? hs
      obtain ⟨rest, hr⟩ := mul_part (q := q) ht (j + 1)
      have erow : (rowP t q).take (j + 1) = (rowP t q).take j ++ [(mm t.1 s.1, t.2 * s.2)] := by
        rw [List.take_add_one]
        unfold rowP
        rw [List.getElem?_map, hs]
        rfl
      rw [erow, ← List.append_assoc] at hr
      rw [hr] at lm ln
      have len := addAll_len (l := mulR (p.take i) q ++ (rowP t q).take j) (zs := ([] : Pq))
      simp only [List.length_append, List.length_nil, List.length_cons] at ln len
      obtain ⟨c1, c2⟩ := m1 t htm
      obtain ⟨c3, c4⟩ := m2 s hsm
      refine a_addT rfl A2 (p_callP (q_cons (p_var rfl ((moP K t.1).m e2 n1)) (q_cons (p_var rfl r1) q_nil)) ⟨t.1, s.1, c1, c3, by omega, rfl, rfl⟩) (p_callP (q_cons (p_var rfl ((rtP K t.2).m e2 n2)) (q_cons (p_var rfl r2) q_nil)) ⟨t.2, s.2, l1.sm b1 htm, l2.sm b2 hsm, rfl, rfl⟩)
        (addAll_nd nd_nil) (lm.l.r.sm b3 (t := (mm t.1 s.1, t.2 * s.2)) List.mem_cons_self) (by rw [addAll_co nd_nil, List.nil_append]; exact lm.l.l.smc b3 _) (by omega) fun B3 H3 e3 A3 => ?_
      refine hF2 _ B3 H3 ⟨_, _, rfl⟩ e3 ?_
      dsimp only
      rw [erow, ← List.append_assoc, addAll_app]
      exact A3
    · obtain ⟨c, e, rfl⟩ := hs
      refine hF _ B2 H2 ⟨_, _, _, _, rfl⟩ e2 ?_
      rw [po_len] at A2
      dsimp only at A2 ⊢
      rw [mul_take ht]
      have : (rowP t q).take q.length = rowP t q := List.take_of_length_le (by unfold rowP; rw [List.length_map]; exact Nat.le_refl _)
      rw [this] at A2
      exact A2
  · obtain ⟨a, b, c, e, rfl⟩ := hs
    rw [po_len] at A'
    dsimp only at A'
    rw [List.take_length] at A'
    dsimp only
    obtain ⟨B5, g5, hP⟩ := A'.fin hd
    have len := addAll_len (l := mulR p q) (zs := ([] : Pq))
    rw [List.length_nil] at len
    refine My.ps_ret g5.c (p_callP (q_cons (p_var rfl hP) q_nil) ⟨_, addAll_nd nd_nil, by omega, rfl, rfl⟩) fun v B6 H6 g6 hp => k v B6 H6 (g5.trans g6) ?_
    rw [cf_all] at hp
    exact hp

/-- scaled -/
abbrev s_scaled : Stmt := topS 12
abbrev N_scaled : List Str := ["one", "number", "monomial", "worth"]
theorem sc_scaled : FnScope N_scaled ["one", "number"] (defScope s_scaled) := ⟨rfl, rfl, rfl, by decide +kernel, rfl, by decide +kernel, by decide +kernel⟩
theorem ok_scaled {f : Addr} {fd : FuncData} (F : Fun K "scaled" "scaled" s_scaled f fd)  {f_product : Addr} {d_product : FuncData} (c_product : Cal P w K mg base "product" 1 ["one", "other"] (spP (Rprod K)) f_product d_product) (n_tuple : mg "tuple" = none)  :
    FnOk P w K mg base CX0 2 f fd ["one", "number"] (spP (Rscaled K)) := by
  refine F.ok sc_scaled (spP_len (by rintro _ _ ⟨_, _, _, _, _, rfl, rfl⟩; rfl)) (fun cdv A outer s H vs Q E hr h => ?_)
  obtain ⟨B, ps, z, eB, hv, ⟨p, r, s1, s2, hn, rfl, rfl⟩, k⟩ := h
  obtain ⟨v0, v1, rfl, h0, h1⟩ := all2 hv
  have hu := hu_of hr
  refine ⟨_, (pss_cons (ps_if (pt_cmpR op_eq (pe_ix ix_tup (pv 1) pe_int (fun _ _ => rfl)) pe_int (nomark _)) (pss_one (ps_ret (pe_tup pa_nil))) pss_nil)
    (pss_one (ps_ret (pe_callTy call_tuple_of (by rfl) n_tuple (by decide +kernel) (pa_cons (pe_lc (own := [("monomial", 2), ("worth", 3)]) (g := (gTup K 2 (gCons (gName 2) (gCons (gName 3) gNil)))) rfl sc_scaled.nd (pi_tup (pv 0)) (blkOk_by (N := N_scaled) (sc := defScope s_scaled) (by decide +kernel)) (fun _ _ _ _ _ => (pg_tup (by rfl) (pgs_cons (pg_name (i := 2) sc_scaled.nd rfl (Or.inl rfl)) (pgs_cons (pg_name (i := 3) sc_scaled.nd rfl (Or.inl rfl)) pgs_nil)))) (fun _ _ _ _ _ => pts_nil) (fun _ _ _ _ _ => (pe_tup (pa_cons (pv 2) (pa_cons (pe_call c_product.G (hr.mono (by decide)) (by rfl) c_product.m c_product.k c_product.b .nil pass0 (pa_cons (pv 3) (pa_cons (pv 1) pa_nil))) pa_nil))))) pa_nil))))), ?_⟩
  have tst := et_test (σ := [some v0, some v1, none, none]) (ev_op (ev_top (K := K) (p_var (i := 1) rfl h1)) (ev_c (v := .int 0)) (rv_eq rfl))
  by_cases c : r = 0
  · refine My.ps_ifT eB (et_is tst (by rw [c]; rfl)) fun H1 e1 => ?_
    refine My.ps_ret (eB.trans e1) (p_tup (K := K) q_nil (by show 0 ≤ 100000; decide)) fun v B1 H2 g hp => k v B1 H2 ((Gr.wide eB e1).trans g) ?_
    rw [if_pos c]
    exact hp
  · refine ps_ifN eB (et_is tst ?_) fun H1 e1 => ?_
    · have : (fr r).1 ≠ 0 := fun e => c ((fr_num0 r).mp e)
      simp [this]
    · dsimp only
      have main : EvP (tLc (iTup K (tVar 0)) (gTup K 2 (gCons (gName 2) (gCons (gName 3) gNil))) tYes (tTup (tCons (tVar 2) (tCons (tCall (spP (Rprod K)) [] E0 (tCons (tVar 3) (tCons (tVar 1) tNil))) tNil))) [2, 3]) [some v0, some v1, none, none] B (LsP ((toPo (scP p r)).map (tmP K))) := by
        have := p_lcSM (g := gTup K 2 (gCons (gName 2) (gCons (gName 3) gNil))) (te := tTup (tCons (tVar 2) (tCons (tCall (spP (Rprod K)) [] E0 (tCons (tVar 3) (tCons (tVar 1) tNil))) tNil))) (vs := [2, 3]) (src_tu (p_var (i := 0) (σ := [some v0, some v1, none, none]) rfl h0)) (by rw [po_len]; omega) (fun i => ((toPo (scP p r))[i]?.map (tmP K)).getD (IsV .non)) fun i v B1 hi e pv => ?_
        · have e1 : ((toPo p).map (tmP K)).length = (toPo (scP p r)).length := by
            rw [po_len]
            unfold toPo scP
            rw [List.length_map, List.length_map]
          rw [e1, range_all] at this
          exact this
        · rw [po_len] at hi
          have hj : ((toPo p).map (tmP K))[i]? = some (TuP K [moP K p[i].1, rtP K p[i].2]) := by
            unfold toPo
            rw [List.map_map, List.getElem?_map, List.getElem?_eq_getElem hi]
            rfl
          rw [List.getD_eq_getElem?_getD, hj] at pv
          obtain ⟨a, y1, y2, rfl, hq, m1, m2⟩ := tup2 pv (Ex.refl B1)
          have hr : ((toPo (scP p r))[i]?.map (tmP K)).getD (IsV .non) = TuP K [moP K p[i].1, rtP K (p[i].2 * r)] := by
            unfold toPo scP
            rw [List.map_map, List.getElem?_map, List.getElem?_eq_getElem hi]
            rfl
          refine ⟨[some v0, some v1, some y1, some y2], rfl, fun H2 Q e q => ⟨a, _, rfl, ex_t e hq, rfl, _, _, rfl, _, _, rfl, rfl, q⟩, ?_⟩
          rw [hr]
          exact p_tup (K := K) (q_cons (p_var rfl m1) (q_cons (p_callP (q_cons (p_var rfl m2) (q_cons (p_var rfl ((rtP K r).m e h1)) q_nil)) ⟨p[i].2, r, s1 _ (List.getElem_mem hi), s2, rfl, rfl⟩) q_nil)) (by show 2 ≤ 100000; decide)
      refine My.ps_ret (eB.trans e1) (p_tupOf (p_lq main)) fun v B1 H2 g hp => k v B1 H2 ((Gr.wide eB e1).trans g) ?_
      rw [if_neg c]
      exact hp

end
end K12
namespace K12
set_option autoImplicit false
open PySem PySem.W L2 Evl My Nd
section
variable {P : Program} {w : World} {K : PySem.W.Frag} {mg : Str → Option Value} {base : Heap}

/-- _derived_once -/
abbrev s__derived_once : Stmt := topS 15
abbrev N__derived_once : List Str := ["one", "axis", "total", "monomial", "number", "at", "derivative", "power", "lower", "rest", "higher"]
theorem sc__derived_once : FnScope N__derived_once ["one", "axis"] (defScope s__derived_once) := ⟨rfl, rfl, rfl, by decide +kernel, rfl, by decide +kernel, by decide +kernel⟩
theorem ok__derived_once {f : Addr} {fd : FuncData} (F : Fun K "_derived_once" "_derived_once" s__derived_once f fd)  {f__higher : Addr} {d__higher : FuncData} (c__higher : Cal P w K mg base "_higher" 1 ["derivative", "axis"] (spP Rhigh) f__higher d__higher) {f_monomials_together : Addr} {d_monomials_together : FuncData} (c_monomials_together : Cal P w K mg base "monomials_together" 1 ["one", "other"] (spP (Rmm K)) f_monomials_together d_monomials_together) {f_product : Addr} {d_product : FuncData} (c_product : Cal P w K mg base "product" 1 ["one", "other"] (spP (Rprod K)) f_product d_product) {f_add_term : Addr} {d_add_term : FuncData} (c_add_term : Cal P w K mg base "add_term" 2 ["total", "monomial", "number"] (spAddT P w K) f_add_term d_add_term) {f_polynomial_of : Addr} {d_polynomial_of : FuncData} (c_polynomial_of : Cal P w K mg base "polynomial_of" 1 ["total"] (spP (Rpof P w K)) f_polynomial_of d_polynomial_of) (n_enumerate : mg "enumerate" = none)  :
    FnOk P w K mg base CX0 3 f fd ["one", "axis"] (spP (Rder1 K)) := by
  refine F.ok sc__derived_once (spP_len (by rintro _ _ ⟨_, _, _, _, _, _, _, _, _, _, _, rfl, rfl⟩; rfl)) (fun cdv A outer s H vs Q E hr h => ?_)
  obtain ⟨B, ps, z, eB, hv, ⟨D, N, g, p, x, b1, b2, l1, mp, gl, hn, rfl, rfl⟩, k⟩ := h
  obtain ⟨v0, v1, rfl, h0, h1⟩ := all2 hv
  obtain rfl : v1 = _ := h1
  have hu := hu_of hr
  refine ⟨_, (pss_cons (ps_set (i := 2) sc__derived_once.nd rfl (by first | exact .inl rfl | exact .inr rfl) pe_dnewN)
    (pss_cons (ps_for PassesOwn.never rfl (pi_tup (pv 0)) (pg_tup (by rfl) (pgs_cons (pg_name (i := 3) sc__derived_once.nd rfl (by first | exact .inl rfl | exact .inr rfl)) (pgs_cons (pg_name (i := 4) sc__derived_once.nd rfl (by first | exact .inl rfl | exact .inr rfl)) pgs_nil)))
      (pss_one (ps_for PassesOwn.never rfl (pi_enumT (by rfl) n_enumerate (pa_cons (pv 3) pa_nil)) (pg_tup (by rfl) (pgs_cons (pg_name (i := 5) sc__derived_once.nd rfl (by first | exact .inl rfl | exact .inr rfl)) (pgs_cons (pg_tup (by rfl) (pgs_cons (pg_name (i := 6) sc__derived_once.nd rfl (by first | exact .inl rfl | exact .inr rfl)) (pgs_cons (pg_name (i := 7) sc__derived_once.nd rfl (by first | exact .inl rfl | exact .inr rfl)) pgs_nil))) pgs_nil)))
      (pss_cons (ps_set (i := 8) sc__derived_once.nd rfl (by first | exact .inl rfl | exact .inr rfl) (pe_ifExp (pt_cmpR op_gt (pv 7) pe_int (nomark _)) (pe_tup (pa_cons (pe_tup (pa_cons (pv 6) (pa_cons (pe_op op_sub (pv 7) pe_int) pa_nil))) pa_nil)) (pe_tup pa_nil)))
    (pss_cons (ps_set (i := 9) sc__derived_once.nd rfl (by first | exact .inl rfl | exact .inr rfl) (pe_op op_catA (pe_op op_catA (pe_slice sl_tupA (pv 3) po_none (po_some (pv 5))) (pv 8)) (pe_slice sl_tupA (pv 3) (po_some (pe_op op_add (pv 5) pe_int)) po_none)))
    (pss_cons (ps_set (i := 10) sc__derived_once.nd rfl (by first | exact .inl rfl | exact .inr rfl) (pe_tup (pa_cons (pe_tup (pa_cons (pe_call c__higher.G (hr.mono (by decide)) (by rfl) c__higher.m c__higher.k c__higher.b .nil pass0 (pa_cons (pv 6) (pa_cons (pv 1) pa_nil))) (pa_cons pe_int pa_nil))) pa_nil)))
    (pss_one (ps_expr (pe_call c_add_term.G (hr.mono (by decide)) (by rfl) c_add_term.m c_add_term.k c_add_term.b .nil pass0 (pa_cons (pv 2) (pa_cons (pe_call c_monomials_together.G (hr.mono (by decide)) (by rfl) c_monomials_together.m c_monomials_together.k c_monomials_together.b .nil pass0 (pa_cons (pv 9) (pa_cons (pv 10) pa_nil))) (pa_cons (pe_call c_product.G (hr.mono (by decide)) (by rfl) c_product.m c_product.k c_product.b .nil pass0 (pa_cons (pv 4) (pa_cons (pe_tup (pa_cons (pv 7) (pa_cons pe_int pa_nil))) pa_nil))) pa_nil))))))))))))
    (pss_one (ps_ret (pe_call c_polynomial_of.G (hr.mono (by decide)) (by rfl) c_polynomial_of.m c_polynomial_of.k c_polynomial_of.b .nil pass0 (pa_cons (pv 2) pa_nil)))))), ?_⟩
  have lm := lim_derR l1 x (g := g) fun t ht => (mp t ht).2.1
  refine dc_nul (ky := kyM K) (vp := rtP K) eB fun d H2 hd A2 => ?_
  dsimp only
  refine ps_forD (fun i => addAll [] (derR (p.take i) x)) (fun i σ => ∃ a b c e f g h j, σ = [some v0, some (.str (axS x)), some (.ref d), a, b, c, e, f, g, h, j]) A2 ⟨_, _, _, _, _, _, _, _, rfl⟩ rfl h0 (fun i z v' σ' B' H' hi e' hs A' pv F hF => ?_) fun σ' B' H' e' hs A' => ?_
  · obtain ⟨a1, a2, a3, a4, a5, a6, a7, a8, rfl⟩ := hs
    obtain ⟨t, ht, rfl⟩ := po_at hi
    obtain ⟨w0, y1, y2, rfl, hq, n1, n2⟩ := tup2 pv A'.ex
    refine ⟨w0, _, rfl, hq, rfl, _, _, rfl, _, _, rfl, rfl, ?_⟩
    have htm := List.mem_of_getElem? ht
    obtain ⟨c1, c2, c3⟩ := mp t htm
    refine ps_forDE (fun j => addAll [] (derR (p.take i) x ++ (derT t x).take j)) (fun j σ => ∃ c e f g h j, σ = [some v0, some (.str (axS x)), some (.ref d), some y1, some y2, c, e, f, g, h, j]) (by rw [List.take_zero, List.append_nil]; exact A') ⟨_, _, _, _, _, _, rfl⟩ rfl n1 (fun j z v' T σ' B2 H2 hj e2 hs A2 hT pv F2 hF2 => ?_) fun σ' B2 H2 e2 hs A2 => ?_
    · obtain ⟨d1, d2, d3, d4, d5, d6, rfl⟩ := hs
      rw [List.getElem?_map] at hj
      obtain ⟨y, hy, rfl⟩ := Option.map_eq_some_iff.mp hj
      obtain ⟨w1, x1, x2, rfl, hq2, r1, r2⟩ := tup2 pv A2.ex
      obtain rfl : x2 = _ := r2
      refine ⟨T, _, rfl, st_of hT, rfl, _, _, rfl, _, _, rfl, w1, _, rfl, hq2, rfl, _, _, rfl, _, _, rfl, rfl, rfl, ?_⟩
      have hym := List.mem_of_getElem? hy
      have hyp := c1.p y hym
      have hyg := Nat.le_trans (dg_at hym) c2
      have n1' := (moP K t.1).m e2 n1
      have n2' := (rtP K t.2).m e2 n2
      -- lower
      refine ps_asgN (fun v => [some v0, some (.str (axS x)), some (.ref d), some y1, some y2, some (.int (j : Nat)), some x1, some (.int y.2), some v, d5, d6]) A2.ex
        (ed_if (p := moP K (lowM y)) (b := decide (1 < y.2)) (et_test (ev_op (r := rI0 fun i j => .bl (decide (j < i))) (ev_var rfl) ev_c rv_I0))
          (fun h => by
            unfold lowM
            rw [if_pos (of_decide_eq_true h)]
            exact p_tup (K := K) (q_cons (p_tup (K := K) (q_cons (p_var (p := DvP y.1) rfl r1) (q_cons (p_ev (v := .int (y.2 - 1)) (ev_op (ev_var rfl) ev_c rv_I0)) q_nil)) (by show 2 ≤ 100000; decide)) q_nil) (by show 1 ≤ 100000; decide))
          (fun h => by
            unfold lowM
            rw [if_neg (of_decide_eq_false h)]
            exact p_tup (K := K) q_nil (by show 0 ≤ 100000; decide))) (fun vl B3 H3 g3 pl => ?_) (fun _ => rfl)
      have A3 := A2.step g3
      have n1' := (moP K t.1).m g3.b n1'
      have n2' := (rtP K t.2).m g3.b n2'
      have r1 := (DvP y.1).m g3.b r1
      dsimp only
      -- rest
      refine ps_asgN (fun v => [some v0, some (.str (axS x)), some (.ref d), some y1, some y2, some (.int (j : Nat)), some x1, some (.int y.2), some vl, some v, d6]) A3.ex
        (p := moP K (cutM t.1 j y)) ?_ (fun vr B4 H4 g4 pr => ?_) (fun _ => rfl)
      · have := p_catU (K := K) (p_catU (p_slTo (k := j) (p_var (i := 3) (σ := [some v0, some (.str (axS x)), some (.ref d), some y1, some y2, some (.int (j : Nat)), some x1, some (.int y.2), some vl, d5, d6]) rfl n1') (ev_var (i := 5) rfl)) (p_var (i := 8) rfl pl) (by
            have := cut_len t.1 j y
            unfold cutM at this
            rw [List.length_append, List.length_append] at this
            rw [← List.map_take, List.length_map, List.length_map]
            omega)) (p_slFrom (k := j + 1) (p_var (i := 3) rfl n1') (tb := tOp (rI0 fun i j => .int (i + j)) (tVar 5) (tC (.int 1))) (ev_op (ev_var rfl) ev_c rv_I0)) (by
            have := cut_len t.1 j y
            unfold cutM at this
            rw [List.length_append, List.length_append] at this
            rw [← List.map_take, List.length_append, List.length_map, List.length_map, ← List.map_drop, List.length_map]
            omega)
        rw [← List.map_take, ← List.map_drop, ← List.map_append, ← List.map_append] at this
        exact this
      have A4 := A3.step g4
      have n2' := (rtP K t.2).m g4.b n2'
      have r1 := (DvP y.1).m g4.b r1
      dsimp only
      -- higher
      refine ps_asgN (fun v => [some v0, some (.str (axS x)), some (.ref d), some y1, some y2, some (.int (j : Nat)), some x1, some (.int y.2), some vl, some vr, some v]) A4.ex
        (p := moP K [(upD y.1 x, 1)]) (p_tup (K := K) (q_cons (p_tup (K := K) (q_cons (p_callP (p := DvP (upD y.1 x)) (q_cons (p_var rfl r1) (q_cons (p_varV rfl) q_nil)) ⟨y.1, x, rfl, rfl⟩) (q_cons (p_c (v := .int 1)) q_nil)) (by show 2 ≤ 100000; decide)) q_nil) (by show 1 ≤ 100000; decide)) (fun vh B5 H5 g5 ph => ?_) (fun _ => rfl)
      have A5 := A4.step g5
      have n2' := (rtP K t.2).m g5.b n2'
      have pr' := (moP K (cutM t.1 j y)).m g5.b pr
      dsimp only
      obtain ⟨rest, hr⟩ := der_part (x := x) ht (j + 1)
      have erow : (derT t x).take (j + 1) = (derT t x).take j ++ [(dMo t.1 y.1 x, t.2 * (y.2 : Rat))] := by
        rw [List.take_add_one]
        unfold derT
        rw [List.getElem?_map, hy]
        rfl
      rw [erow, ← List.append_assoc] at hr
      rw [hr] at lm hn
      have len := addAll_len (l := derR (p.take i) x ++ (derT t x).take j) (zs := ([] : Pq))
      have cl := cut_len t.1 j y
      simp only [List.length_append, List.length_nil, List.length_cons] at hn len
      refine a_addT (m := dMo t.1 y.1 x) (r := t.2 * (y.2 : Rat)) rfl A5 (p_callP (q_cons (p_var rfl pr') (q_cons (p_var rfl ph) q_nil)) ⟨cutM t.1 j y, [(upD y.1 x, 1)], cut_moc c1 hy, ⟨⟨List.pairwise_singleton _ _, fun z hz => by rw [List.mem_singleton.mp hz]; exact Int.one_ne_zero⟩, fun z hz => by rw [List.mem_singleton.mp hz]; exact Int.one_pos⟩, ?_, rfl, by rw [cut_mm c1 hy]⟩)
        (p_callP (q_cons (p_var rfl n2') (q_cons (p_tup (K := K) (q_cons (p_varV (i := 7) rfl) (q_cons p_c q_nil)) (by show 2 ≤ 100000; decide)) q_nil)) ⟨t.2, (y.2 : Rat), l1.sm b1 htm, sm_int (Nat.lt_of_le_of_lt (Nat.le_trans hyg gl) (by decide)), rfl, rfl⟩)
        (addAll_nd nd_nil) (lm.l.r.sm b2 (t := (dMo t.1 y.1 x, t.2 * (y.2 : Rat))) List.mem_cons_self) (by rw [addAll_co nd_nil, List.nil_append]; exact lm.l.l.smc b2 _) (by omega) fun B6 H6 e6 A6 => ?_
      · rw [List.length_singleton]
        omega
      refine hF2 _ B6 H6 ⟨_, _, _, _, _, _, rfl⟩ (g3.b.trans (g4.b.trans (g5.b.trans e6))) ?_
      dsimp only
      rw [erow, ← List.append_assoc, addAll_app]
      exact A6
    · obtain ⟨d1, d2, d3, d4, d5, d6, rfl⟩ := hs
      refine hF _ B2 H2 ⟨_, _, _, _, _, _, _, _, rfl⟩ e2 ?_
      rw [List.length_map] at A2
      dsimp only at A2 ⊢
      rw [der_take ht]
      have : (derT t x).take t.1.length = derT t x := List.take_of_length_le (by unfold derT; rw [List.length_map]; exact Nat.le_refl _)
      rw [this] at A2
      exact A2
  · obtain ⟨a1, a2, a3, a4, a5, a6, a7, a8, rfl⟩ := hs
    rw [po_len] at A'
    dsimp only at A'
    rw [List.take_length] at A'
    dsimp only
    obtain ⟨B5, g5, hP⟩ := A'.fin hd
    have len := addAll_len (l := derR p x) (zs := ([] : Pq))
    rw [List.length_nil] at len
    refine My.ps_ret g5.c (p_callP (q_cons (p_var rfl hP) q_nil) ⟨_, addAll_nd nd_nil, by omega, rfl, rfl⟩) fun v B6 H6 g6 hp => k v B6 H6 (g5.trans g6) ?_
    rw [cf_all] at hp
    exact hp

end
end K12
namespace Nd
set_option autoImplicit false
open PySem PySem.W L2 My Evl
/-! ### a list of dicts under way -/
def woS (S : List Addr) (H : Hp) : Hp := fun b => if b ∈ S then none else H b
theorem woS_ne {S : List Addr} {b : Addr} {H : Hp} (n : b ∉ S) : woS S H b = H b := if_neg n
theorem woS_some {S : List Addr} {b : Addr} {H : Hp} {o : HO} (h : woS S H b = some o) : b ∉ S ∧ H b = some o := by
  unfold woS at h
  split at h
  · cases h
  · rename_i n
    exact ⟨n, h⟩
theorem woS_ex {S : List Addr} {H : Hp} : Ex (woS S H) H := fun _ _ e => (woS_some e).2
theorem woS_none {B H : Hp} {S : List Addr} (e : Ex B (woS S H)) {b : Addr} (hb : b ∈ S) : B b = none := by
  cases q : B b with
  | none => rfl
  | some o => exact absurd hb (woS_some (e _ _ q)).1
theorem woS_upd {S : List Addr} {H : Hp} {b : Addr} {o : HO} (h : b ∈ S) : woS S (upd H b o) = woS S H := funext fun x => by
  unfold woS
  split
  · rfl
  · rename_i n
    exact upd_ne fun e => n (by rw [e]; exact h)
theorem woS_new {S S' : List Addr} {H : Hp} {d : Addr} {o : HO} (h : H d = none) (hS : ∀ b, b ∈ S' ↔ b = d ∨ b ∈ S) : woS S' (upd H d o) = woS S H := funext fun x => by
  unfold woS
  by_cases e : x ∈ S
  · rw [if_pos e, if_pos ((hS x).mpr (.inr e))]
  · rw [if_neg e]
    by_cases q : x = d
    · rw [if_pos ((hS x).mpr (.inl q)), q, h]
    · rw [if_neg (fun z => ((hS x).mp z).elim q e), upd_ne q]
theorem gr_sideS {B H B1 H1 B2 H2 : Hp} {S : List Addr} (g : Gr B H B1 (woS S H1)) (hD : ∀ d ∈ S, H1 d ≠ none) (k : Gr B1 H1 B2 H2) : Gr B H B2 (woS S H2) :=
  ⟨fun b o e => by
    obtain ⟨n, q⟩ := woS_some (g.a b o e)
    rw [woS_ne n]
    exact k.a b o q, g.b.trans k.b, fun b o e => by
    have n : b ∉ S := fun z => by
      have := k.d b (woS_none g.c z) (hD b z)
      rw [e] at this
      cases this
    rw [woS_ne n]
    exact k.c b o e, fun x hb hh => k.d x (g.d x hb hh) (has woS_ex (has g.a hh)), fun z => k.e (g.e z)⟩
section
variable {κ β : Type} [DecidableEq κ]
structure LdAt (P : Program) (w : World) {K : PySem.W.Frag} (ky : Ky K κ) (vp : β → Pr) (B H0 : Hp) (L : Addr) (n : Nat) (Z : Nat → List (κ × β)) (Bi H : Hp) : Prop where
  ex_ : ∃ ds : List Addr, Gr B H0 Bi (woS (L :: ds) H) ∧ H L = some (.lst (ds.map .ref)) ∧ (L :: ds).Nodup ∧ ds.length = n ∧ (∀ (k : Nat) (d : Addr), ds[k]? = some d → ∃ xs, H d = some (DN P w d xs) ∧ KG ky vp (Z k) xs Bi) ∧ ∀ d ∈ L :: ds, H0 d = none
variable {P : Program} {w : World} {K : PySem.W.Frag} {ky : Ky K κ} {vp : β → Pr} {B H0 Bi B2 H H2 : Hp} {L : Addr} {n : Nat} {Z Z' : Nat → List (κ × β)} {σ : L2.St} {D : Ends} {i : Nat} {ty tv tj : TE} {k : κ} {f : β} {j : Nat}
theorem LdAt.ex (A : LdAt P w ky vp B H0 L n Z Bi H) : Ex Bi H := by
  obtain ⟨ds, g, _⟩ := A.ex_
  exact g.c.trans woS_ex
theorem ld_on {ds : List Addr} (h1 : H L = some (.lst (ds.map .ref))) (h2 : ∀ (k : Nat) (d : Addr), ds[k]? = some d → ∃ xs, H d = some (DN P w d xs) ∧ KG ky vp (Z k) xs Bi) : ∀ d ∈ L :: ds, H d ≠ none := fun d hd => by
  rcases List.mem_cons.mp hd with rfl | hd
  · rw [h1]
    exact fun z => nomatch z
  · obtain ⟨k, hk⟩ := List.mem_iff_getElem?.mp hd
    obtain ⟨xs, h, _⟩ := h2 k d hk
    rw [h]
    exact fun z => nomatch z
theorem LdAt.step (A : LdAt P w ky vp B H0 L n Z Bi H) (q : Gr Bi H B2 H2) : LdAt P w ky vp B H0 L n Z B2 H2 := by
  obtain ⟨ds, g, h1, h2, h3, h4, h5⟩ := A.ex_
  exact ⟨ds, gr_sideS g (ld_on h1 h4) q, q.a _ _ h1, h2, h3, fun k d hk => by
    obtain ⟨xs, h, al⟩ := h4 k d hk
    exact ⟨xs, q.a _ _ h, al.m q.b⟩, h5⟩
theorem LdAt.lst (A : LdAt P w ky vp B H0 L n Z Bi H) : ∃ xs, H L = some (.lst xs) ∧ xs.length = n := by
  obtain ⟨ds, g, h1, h2, h3, _⟩ := A.ex_
  exact ⟨_, h1, by rw [List.length_map]; exact h3⟩
/-- [{}] -/
theorem ld_new (e : Ex B H) (hZ : Z 0 = []) (q : ∀ L H2, LdAt P w ky vp B H L 1 Z B H2 → D.nx (σ.set i (some (.ref L))) H2) : tAsg (tLst (tCons (tDNewN P w) tNil)) (gName i) D σ H := fun d hd => ⟨sz_of (by show 1 ≤ 100000; decide), fun L hL => by
  have n : d ≠ L := fun z => by rw [z, upd_same] at hL; cases hL
  have hL0 : H L = none := by rw [upd_ne n.symm] at hL; exact hL
  refine q L _ ⟨[d], ?_, upd_same, ?_, rfl, fun k x hk => ?_, fun x hx => ?_⟩
  · rw [woS_new (S := [d]) hL fun b => by simp, woS_new (S := []) hd fun b => by simp]
    have : woS [] H = H := funext fun x => by unfold woS; simp
    rw [this]
    exact Gr.refl e
  · exact List.nodup_cons.mpr ⟨fun z => n (List.mem_singleton.mp z).symm, List.pairwise_singleton _ _⟩
  · cases k with
    | zero =>
      obtain rfl : d = x := Option.some.inj hk
      refine ⟨[], by rw [upd_ne n, upd_same], ?_⟩
      rw [hZ]
      exact trivial
    | succ k => cases hk
  · rcases List.mem_cons.mp hx with rfl | hx
    · exact hL0
    · rw [List.mem_singleton.mp hx]
      exact hd⟩
/-- totals.append({}) -/
theorem ps_ldApp (hs : σ[i]? = some (some (.ref L))) (A : LdAt P w ky vp B H0 L n Z Bi H) (hZ : Z n = []) (hn : n < 100000) (q : ∀ H2, LdAt P w ky vp B H0 L (n + 1) Z Bi H2 → D.nx σ H2) :
    tDrop (tBM K "list" rAppend (tVar i) (tCons (tDNewN P w) tNil)) D σ H := by
  obtain ⟨ds, g, h1, h2, h3, h4, h5⟩ := A.ex_
  refine ⟨.ref L, hs, .inl ⟨rfl, _, sq_of h1⟩, fun d hd => ?_⟩
  have nL : L ≠ d := fun z => by rw [← z, h1] at hd; cases hd
  have nd : ∀ x ∈ L :: ds, x ≠ d := fun x hx z => ld_on h1 h4 x hx (by rw [z]; exact hd)
  have h0 : H0 d = none := by
    cases z : H0 d with
    | none => rfl
    | some o =>
      have := (woS_some (g.a _ _ z)).2
      rw [hd] at this
      cases this
  refine ⟨L, ds.map .ref, .ref d, rfl, rfl, by rw [upd_ne nL]; exact h1, sz_lt (by rw [List.length_map]; omega), q _ ⟨ds ++ [d], ?_, ?_, ?_, ?_, fun k x hk => ?_, fun x hx => ?_⟩⟩
  · rw [woS_upd List.mem_cons_self, woS_new (S := L :: ds) hd fun b => by simp only [List.mem_cons, List.mem_append, List.not_mem_nil, or_false]; constructor <;> (intro h; rcases h with h | h | h <;> simp [h])]
    exact g
  · rw [upd_same, List.map_append]
    rfl
  · rw [← List.cons_append, List.nodup_append]
    exact ⟨h2, by simp, fun a ha b hb => by rw [List.mem_singleton.mp hb]; exact nd a ha⟩
  · rw [List.length_append, h3]
    rfl
  · by_cases e : k < ds.length
    · rw [List.getElem?_append_left e] at hk
      obtain ⟨xs, x1, x2⟩ := h4 k x hk
      have xm : x ∈ ds := List.mem_of_getElem? hk
      refine ⟨xs, ?_, x2⟩
      rw [upd_ne (fun z => (List.nodup_cons.mp h2).1 (by rw [← z]; exact xm)), upd_ne (nd x (List.mem_cons_of_mem _ xm))]
      exact x1
    · rw [List.getElem?_append_right (by omega)] at hk
      have k0 : k - ds.length = 0 := by
        have := (List.getElem?_eq_some_iff.mp hk).1
        rw [List.length_singleton] at this
        omega
      rw [k0] at hk
      obtain rfl : d = x := Option.some.inj hk
      refine ⟨[], by rw [upd_ne nL.symm, upd_same], ?_⟩
      have : k = n := by omega
      rw [this, hZ]
      exact trivial
  · rw [← List.cons_append] at hx
    rcases List.mem_append.mp hx with hx | hx
    · exact h5 x hx
    · rw [List.mem_singleton.mp hx]
      exact h0
/-- totals[j][k] = e -/
theorem ps_ldPut {y v : V} {l m s : Nat} (hs : σ[i]? = some (some (.ref L))) (A : LdAt P w ky vp B H0 L n Z Bi H) (hj : σ[l]? = some (some (.int (j : Int)))) (hjn : j < n) (hk : σ[m]? = some (some y)) (py : (ky.kp k).P y Bi) (hv : σ[s]? = some (some v)) (pv : (vp f).P v Bi) (hl : (Z j).length < 100000)
    (hz : Z' j = putG (Z j) k f) (hz2 : ∀ x, x ≠ j → Z' x = Z x) (q : ∀ H2, LdAt P w ky vp B H0 L n Z' Bi H2 → D.nx σ H2) : sNPut P w K (tOp (rIxL K) (tVar i) (tVar l)) (tVar m) (tVar s) D σ H := by
  obtain ⟨ds, g, h1, h2, h3, h4, h5⟩ := A.ex_
  have hjd : j < ds.length := by omega
  obtain ⟨xs, x1, x2⟩ := h4 j ds[j] (List.getElem?_eq_getElem hjd)
  obtain ⟨a, rfl⟩ := ky.rf py
  have hm : ds[j] ∈ L :: ds := List.mem_cons_of_mem _ (List.getElem_mem hjd)
  have nL : L ≠ ds[j] := fun z => (List.nodup_cons.mp h2).1 (by rw [z]; exact List.getElem_mem hjd)
  refine ⟨v, hv, .ref L, hs, .int j, hj, ⟨L, ds.map .ref, j, .ref ds[j], rfl, rfl, sq_of h1, atI_nat (by rw [List.getElem?_map, List.getElem?_eq_getElem hjd]; rfl), .ref a, hk, ds[j], a, xs, _, rfl, rfl, x1, x2.ok A.ex, ky.at_ ((ky.kp k).m A.ex py), by rw [x2.len]; exact hl, q _ ⟨ds, ?_, ?_, h2, h3, fun x d hd => ?_, h5⟩⟩⟩
  · rw [woS_upd hm]
    exact g
  · rw [upd_ne nL]
    exact h1
  · by_cases e : x = j
    · subst e
      rw [List.getElem?_eq_getElem hjd] at hd
      obtain rfl := Option.some.inj hd
      exact ⟨_, upd_same, by rw [hz]; exact x2.put py pv⟩
    · obtain ⟨ys, y1, y2⟩ := h4 x d hd
      have : d ≠ ds[j] := fun z => by
        obtain ⟨hx, ex⟩ := List.getElem?_eq_some_iff.mp hd
        rw [← ex] at z
        exact e ((List.getElem_inj (List.nodup_cons.mp h2).2).mp z)
      exact ⟨ys, by rw [upd_ne this]; exact y1, by rw [hz2 x e]; exact y2⟩
theorem LdAt.fin (A : LdAt P w ky vp B H0 L n Z Bi H) : ∃ B', Gr B H0 B' H ∧ (LsP ((List.range n).map fun k => DcP P w ky vp (Z k))).P (.ref L) B' := by
  obtain ⟨ds, g, h1, h2, h3, h4, h5⟩ := A.ex_
  have on := ld_on h1 h4
  have inS : ∀ x, x ∈ L :: ds → (fun x => if x ∈ L :: ds then H x else Bi x) x = H x := fun x hx => if_pos hx
  have up : Ex Bi (fun x => if x ∈ L :: ds then H x else Bi x) := fun b o e => by
    have n : b ∉ L :: ds := fun z => by
      rw [woS_none g.c z] at e
      cases e
    show (if b ∈ L :: ds then H b else Bi b) = some o
    rw [if_neg n]
    exact e
  refine ⟨fun x => if x ∈ L :: ds then H x else Bi x, ⟨g.a.trans woS_ex, g.b.trans up, fun b o e => ?_, fun x hb hh => ?_, fun z b qs q => ?_⟩, L, ds.map .ref, rfl, (inS L List.mem_cons_self).trans h1, ?_⟩
  · by_cases m : b ∈ L :: ds
    · exact (inS b m).symm.trans e
    · have e : (if b ∈ L :: ds then H b else Bi b) = some o := e
      rw [if_neg m] at e
      exact A.ex _ _ e
  · have m : x ∉ L :: ds := fun z => hh (h5 x z)
    show (if x ∈ L :: ds then H x else Bi x) = none
    rw [if_neg m]
    exact g.d x hb hh
  · by_cases m : b ∈ L :: ds
    · have q2 : H b = some (.tbl qs) := (inS b m).symm.trans q
      rcases List.mem_cons.mp m with rfl | m
      · rw [h1] at q2
        cases q2
      · obtain ⟨k, hk⟩ := List.mem_iff_getElem?.mp m
        obtain ⟨xs, h, _⟩ := h4 k b hk
        rw [h] at q2
        cases q2
    · have q : (if b ∈ L :: ds then H b else Bi b) = some (.tbl qs) := q
      rw [if_neg m] at q
      exact g.e z b qs q
  · refine AllP.ix (by rw [List.length_map, List.length_map, List.length_range, h3]) fun k p v hp hv => ?_
    rw [List.getElem?_map] at hp hv
    obtain ⟨d, hd, rfl⟩ := Option.map_eq_some_iff.mp hv
    obtain ⟨k', hk', rfl⟩ := Option.map_eq_some_iff.mp hp
    obtain ⟨_, e⟩ := List.getElem?_eq_some_iff.mp hk'
    rw [List.getElem_range] at e
    subst e
    obtain ⟨xs, x1, x2⟩ := h4 k d hd
    have dm : d ∈ L :: ds := List.mem_cons_of_mem _ (List.mem_of_getElem? hd)
    exact ⟨d, xs, Bi, rfl, (inS d dm).trans x1, woS_none g.c dm, up, x2⟩
end
/-! ### loops while something is under way -/
section
variable {K : PySem.W.Frag} {Bi H : Hp} {i : Nat} {v : V} {σ : L2.St} {ps : List Pr} {D : Ends} {g : TG} {tbd : TS}
theorem ps_forX (S : Nat → L2.St → Hp → Hp → Prop) (ex : ∀ j σ' B' H', S j σ' B' H' → Ex B' H') (s0 : S 0 σ Bi H) (hi : σ[i]? = some (some v)) (h : (TuP K ps).P v Bi)
    (st : ∀ j p v' σ' B' H', ps[j]? = some p → Ex Bi B' → S j σ' B' H' → p.P v' B' → ∀ N : L2.St → Hp → Prop, (∀ σ3 B3 H3, Ex B' B3 → S (j + 1) σ3 B3 H3 → N σ3 H3) → g v' σ' H' fun σ2 H2 => tbd { D with nx := N, ct := N, bk := D.nx } σ2 H2)
    (q : ∀ σ' B' H', Ex Bi B' → S ps.length σ' B' H' → D.nx σ' H') : tFor (iTup K (tVar i)) g tbd D σ H := by
  obtain ⟨l, xs, rfl, hx, al⟩ := h
  refine ⟨_, hi, l, rfl, ⟨xs, ex_t (ex _ _ _ _ s0) hx⟩, ?_⟩
  have w' := walk_tup (K := K) (a := l) (xs := xs)
  rw [al.len] at w'
  refine for_it w' (fun j σ' H' => ∃ B', Ex Bi B' ∧ S j σ' B' H') ⟨Bi, Ex.refl Bi, s0⟩ (fun j σ' H' _ pv => ?_) (fun j x σ' H' H2 _ pv y => ?_) fun σ' H' pv => ?_
  · obtain ⟨B', e', A'⟩ := pv
    exact ex_t (e'.trans (ex _ _ _ _ A')) hx
  · obtain ⟨B', e', A'⟩ := pv
    obtain ⟨rfl, y2⟩ := y
    obtain ⟨p, hp, k2⟩ := al.get y2
    exact st j p x σ' B' _ hp e' A' (p.m e' k2) _ fun σ3 B3 H3 h1 h2 => ⟨B3, e'.trans h1, h2⟩
  · obtain ⟨B', e', A'⟩ := pv
    exact q σ' B' H' e' A'
theorem ps_forXE (S : Nat → L2.St → Hp → Hp → Prop) (ex : ∀ j σ' B' H', S j σ' B' H' → Ex B' H') (s0 : S 0 σ Bi H) (hi : σ[i]? = some (some v)) (h : (TuP K ps).P v Bi)
    (st : ∀ j p v' T σ' B' H', ps[j]? = some p → Ex Bi B' → S j σ' B' H' → H' T = none → p.P v' B' → ∀ N : L2.St → Hp → Prop, (∀ σ3 B3 H3, Ex B' B3 → S (j + 1) σ3 B3 H3 → N σ3 H3) → g (.ref T) σ' (upd H' T (.tup [.int (j : Nat), v'])) fun σ2 H2 => tbd { D with nx := N, ct := N, bk := D.nx } σ2 H2)
    (q : ∀ σ' B' H', Ex Bi B' → S ps.length σ' B' H' → D.nx σ' H') : tFor (iEnumT K (tCons (tVar i) tNil)) g tbd D σ H := by
  obtain ⟨l, xs, rfl, hx, al⟩ := h
  refine ⟨_, hi, l, xs, rfl, ex_t (ex _ _ _ _ s0) hx, ?_⟩
  have w' := walk_enT (K := K) (a := l) (xs := xs)
  rw [al.len] at w'
  refine for_it w' (fun j σ' H' => ∃ B', Ex Bi B' ∧ S j σ' B' H') ⟨Bi, Ex.refl Bi, s0⟩ (fun j σ' H' _ pv => ?_) (fun j x σ' H' H2 _ pv y => ?_) fun σ' H' pv => ?_
  · obtain ⟨B', e', A'⟩ := pv
    exact ex_t (e'.trans (ex _ _ _ _ A')) hx
  · obtain ⟨B', e', A'⟩ := pv
    obtain ⟨T, y1, u, rfl, hT, rfl, h4, h5⟩ := y
    obtain rfl : V.int (j : Nat) = y1 := Option.some.inj h4
    obtain ⟨p, hp, k2⟩ := al.get h5
    exact st j p u T σ' B' H' hp e' A' hT (p.m e' k2) _ fun σ3 B3 H3 h1 h2 => ⟨B3, e'.trans h1, h2⟩
  · obtain ⟨B', e', A'⟩ := pv
    exact q σ' B' H' e' A'
end
end Nd
namespace Nd
set_option autoImplicit false
open PySem PySem.W L2 My Evl
/-! ### by powers of one derivative -/
def rsU (u : Dv) (m : Mo) : Mo := m.filter fun y => decide (y.1 ≠ u)
def hasU (u : Dv) (m : Mo) : Bool := m.any fun y => decide (y.1 = u)
theorem co_rs (u : Dv) (m : Mo) (v : Dv) : co (rsU u m) v = if v = u then 0 else co m v := by
  induction m with
  | nil => split <;> rfl
  | cons y m ih =>
    unfold rsU at *
    rw [List.filter_cons]
    by_cases h : y.1 = u
    · rw [if_neg (by simp [h]), ih, co_cons]
      split
      · rfl
      · rename_i n
        rw [if_neg (by rw [h]; exact fun e => n e.symm), z_add]
    · rw [if_pos (by simp [h]), co_cons, ih, co_cons]
      by_cases e : v = u
      · rw [if_pos e, if_pos e, if_neg (by rw [e]; exact h)]
        rfl
      · rw [if_neg e, if_neg e]
theorem mo_split {u : Dv} {m n : Mo} (hm : MoC m) (hn : MoC n) (h1 : co m u = co n u) (h2 : rsU u m = rsU u n) : m = n := cn_ext hm.c hn.c fun v => by
  by_cases e : v = u
  · rw [e]
    exact h1
  · have a := co_rs u m v
    have b := co_rs u n v
    rw [if_neg e] at a b
    rw [← a, ← b, h2]
def cofR (u : Dv) (k : Nat) (q : Pq) : Pq := (q.filter fun t => decide (co t.1 u = (k : Int))).map fun t => (rsU u t.1, t.2)
def nPw (u : Dv) (q : Pq) : Nat := q.foldl (fun n t => max n ((co t.1 u).toNat + 1)) 1
def cofP (u : Dv) (k : Nat) (q : Pq) : Pq := cf (cofR u k q)
theorem nPw_snoc (u : Dv) (q : Pq) (t : Mo × Rat) : nPw u (q ++ [t]) = max (nPw u q) ((co t.1 u).toNat + 1) := by
  unfold nPw
  rw [List.foldl_append]
  rfl
theorem take_snoc {α : Type} {p : List α} {i : Nat} {t : α} (h : p[i]? = some t) : p.take (i + 1) = p.take i ++ [t] := by
  rw [List.take_add_one, h]
  rfl
theorem fold_max {α : Type} (f : α → Nat) : ∀ (l : List α) (n : Nat), n ≤ l.foldl (fun n t => max n (f t)) n ∧ (∀ t ∈ l, f t ≤ l.foldl (fun n t => max n (f t)) n) ∧ (l.foldl (fun n t => max n (f t)) n = n ∨ ∃ t ∈ l, l.foldl (fun n t => max n (f t)) n = f t)
  | [], n => ⟨Nat.le_refl _, fun _ h => (by cases h), .inl rfl⟩
  | t :: l, n => by
    obtain ⟨h1, h2, h3⟩ := fold_max f l (max n (f t))
    rw [List.foldl_cons]
    refine ⟨by omega, fun x hx => ?_, ?_⟩
    · rcases List.mem_cons.mp hx with rfl | hx
      · omega
      · exact h2 x hx
    · rcases h3 with h3 | ⟨x, hx, h3⟩
      · rw [h3]
        by_cases c : f t ≤ n
        · exact .inl (by omega)
        · exact .inr ⟨t, List.mem_cons_self, by omega⟩
      · exact .inr ⟨x, List.mem_cons_of_mem _ hx, h3⟩
theorem nPw_ge (u : Dv) (q : Pq) : 1 ≤ nPw u q := (fold_max (fun t : Mo × Rat => (co t.1 u).toNat + 1) q 1).1
theorem nPw_at {u : Dv} {q : Pq} {t : Mo × Rat} (h : t ∈ q) : (co t.1 u).toNat + 1 ≤ nPw u q := (fold_max (fun t : Mo × Rat => (co t.1 u).toNat + 1) q 1).2.1 t h
theorem nPw_is (u : Dv) (q : Pq) : nPw u q = 1 ∨ ∃ t ∈ q, nPw u q = (co t.1 u).toNat + 1 := (fold_max (fun t : Mo × Rat => (co t.1 u).toNat + 1) q 1).2.2
theorem cofR_nil {u : Dv} {q : Pq} {k : Nat} (h : nPw u q ≤ k) : cofR u k q = [] := by
  unfold cofR
  rw [List.map_eq_nil_iff, List.filter_eq_nil_iff]
  intro t ht e
  have e := of_decide_eq_true e
  have := nPw_at (u := u) ht
  omega
theorem cofR_len (u : Dv) (k : Nat) (q : Pq) : (cofR u k q).length ≤ q.length := by
  unfold cofR
  rw [List.length_map]
  exact List.length_filter_le _ _
theorem cofR_snoc (u : Dv) (k : Nat) (q : Pq) (t : Mo × Rat) : cofR u k (q ++ [t]) = cofR u k q ++ (if co t.1 u = (k : Int) then [(rsU u t.1, t.2)] else []) := by
  unfold cofR
  rw [List.filter_append, List.map_append]
  congr 1
  by_cases e : co t.1 u = (k : Int)
  · simp [e]
  · simp [e]
theorem cofR_no {u : Dv} {k : Nat} {p : Pq} (hp : PoC p) {i : Nat} {t : Mo × Rat} (ht : p[i]? = some t) (e : co t.1 u = (k : Int)) : hasG (cofR u k (p.take i)) (rsU u t.1) = false := by
  cases h : hasG (cofR u k (p.take i)) (rsU u t.1) with
  | false => rfl
  | true =>
    exfalso
    obtain ⟨z, hz, e1⟩ := List.mem_map.mp (hasG_mem.mp h)
    obtain ⟨s, hs, rfl⟩ := List.mem_map.mp hz
    obtain ⟨hs, e2⟩ := List.mem_filter.mp hs
    have e2 := of_decide_eq_true e2
    have em : s.1 = t.1 := mo_split (hp.m s (List.mem_of_mem_take hs)) (hp.m t (List.mem_of_getElem? ht)) (e2.trans e.symm) e1
    obtain ⟨j, hj⟩ := List.mem_iff_getElem?.mp hs
    rw [List.getElem?_take] at hj
    split at hj
    · rename_i lt
      have nd := hp.c.nd
      have h1 : (p.map (·.1))[j]? = some t.1 := by rw [List.getElem?_map, hj, ← em]; rfl
      have h2 : (p.map (·.1))[i]? = some t.1 := by rw [List.getElem?_map, ht]; rfl
      obtain ⟨a1, a2⟩ := List.getElem?_eq_some_iff.mp h1
      obtain ⟨b1, b2⟩ := List.getElem?_eq_some_iff.mp h2
      have := (List.getElem_inj nd).mp (a2.trans b2.symm)
      omega
    · cases hj
theorem cofR_nd {u : Dv} {k : Nat} {p : Pq} (hp : PoC p) : ∀ n, n ≤ p.length → ((cofR u k (p.take n)).map (·.1)).Nodup
  | 0, _ => by
    rw [List.take_zero]
    exact List.nodup_nil
  | n + 1, hn => by
    have ht : p[n]? = some p[n] := List.getElem?_eq_getElem (by omega)
    have ih := cofR_nd (u := u) (k := k) hp n (by omega)
    rw [take_snoc ht, cofR_snoc]
    split
    · rename_i e
      have no := cofR_no hp ht e
      rw [List.map_append, List.nodup_append]
      refine ⟨ih, by simp, fun a ha b hb => ?_⟩
      rw [List.map_cons, List.map_nil, List.mem_singleton] at hb
      rintro rfl
      rw [hb] at ha
      rw [hasG_mem.mpr ha] at no
      cases no
    · rw [List.append_nil]
      exact ih
/-! the walk over one monomial -/
def rstJ (u : Dv) (m : Mo) (j : Nat) : Mo := if hasU u (m.take j) = true then rsU u m else m
theorem hasU_snoc (u : Dv) (m : Mo) (y : Dv × Int) : hasU u (m ++ [y]) = (hasU u m || decide (y.1 = u)) := by
  unfold hasU
  rw [List.any_append]
  simp
theorem hasU_no {u : Dv} {m : Mo} (h : hasU u m = false) : ∀ y ∈ m, y.1 ≠ u := fun y hy e => by
  have : hasU u m = true := List.any_eq_true.mpr ⟨y, hy, _root_.decide_eq_true e⟩
  rw [h] at this
  cases this
theorem rs_no {u : Dv} {m : Mo} (h : ∀ y ∈ m, y.1 ≠ u) : rsU u m = m := List.filter_eq_self.mpr fun y hy => _root_.decide_eq_true (h y hy)
theorem rst_end (u : Dv) (m : Mo) : rstJ u m m.length = rsU u m := by
  unfold rstJ
  rw [List.take_length]
  split
  · rfl
  · rename_i h
    exact (rs_no (hasU_no (Bool.not_eq_true _ ▸ h))).symm
theorem at_only {u : Dv} {m : Mo} (nd : (m.map (·.1)).Nodup) {j : Nat} {y : Dv × Int} (h : m[j]? = some y) (e : y.1 = u) : (∀ z ∈ m.take j, z.1 ≠ u) ∧ ∀ z ∈ m.drop (j + 1), z.1 ≠ u := by
  have sp := m_split h
  rw [sp, List.map_append, List.map_append] at nd
  rw [List.nodup_append] at nd
  obtain ⟨_, n2, n3⟩ := nd
  rw [List.nodup_append] at n2
  refine ⟨fun z hz q => ?_, fun z hz q => ?_⟩
  · exact n3 z.1 (List.mem_map.mpr ⟨z, hz, rfl⟩) y.1 (List.mem_append_left _ (by simp)) (q.trans e.symm)
  · exact n2.2.2 y.1 (by simp) z.1 (List.mem_map.mpr ⟨z, hz, rfl⟩) (e.trans q.symm)
theorem rs_at {u : Dv} {m : Mo} (nd : (m.map (·.1)).Nodup) {j : Nat} {y : Dv × Int} (h : m[j]? = some y) (e : y.1 = u) : m.take j ++ m.drop (j + 1) = rsU u m := by
  obtain ⟨h1, h2⟩ := at_only nd h e
  conv => rhs; rw [m_split h]
  unfold rsU
  rw [List.filter_append, List.filter_append, List.filter_eq_self.mpr fun z hz => _root_.decide_eq_true (h1 z hz), List.filter_eq_self.mpr fun z hz => _root_.decide_eq_true (h2 z hz)]
  simp [e]
theorem co_at {u : Dv} {m : Mo} (nd : (m.map (·.1)).Nodup) {j : Nat} {y : Dv × Int} (h : m[j]? = some y) (e : y.1 = u) : co (m.take (j + 1)) u = y.2 := by
  rw [take_snoc h, co_app, co_none (at_only nd h e).1, co_cons, if_pos e, co_nil]
  omega
theorem co_else {u : Dv} {m : Mo} {j : Nat} {y : Dv × Int} (h : m[j]? = some y) (e : y.1 ≠ u) : co (m.take (j + 1)) u = co (m.take j) u := by
  rw [take_snoc h, co_app, co_cons, if_neg e, co_nil]
  omega
def Rder (K : PySem.W.Frag) : List Pr → Pr → Prop := fun ps z => ∃ (Z : Nat → Pr) (b : Pr) (n : Nat), n ≤ 1000 ∧ ps = [Z 0, b, IsV (.int (n : Nat))] ∧ (∀ i < n, Rder1 K [Z i, b] (Z (i + 1))) ∧ z = Z n
def Rbyp (K : PySem.W.Frag) : List Pr → Pr → Prop := fun ps z => ∃ (p : Pq) (u : Dv), PoC p ∧ (∀ t ∈ p, dg t.1 ≤ 1000 ∧ t.1.length ≤ 1000 ∧ ∀ y ∈ t.1, SeqAt.shaped y.1.D = true) ∧ SeqAt.shaped u.D = true ∧ p.length ≤ 90000 ∧ ps = [poP K (toPo p), DvP u] ∧ z = LsP ((List.range (nPw u p)).map fun k => poP K (toPo (cofP u k p)))
theorem co_le_dg (m : Mo) (u : Dv) : (co m u).natAbs ≤ dg m := by
  induction m with
  | nil => exact Nat.zero_le _
  | cons y m ih =>
    rw [co_cons]
    unfold dg at *
    rw [List.map_cons, List.sum_cons]
    split
    · have := Int.natAbs_add_le y.2 (co m u)
      have e : (y.2 + co m u).natAbs = (y.2 + co m u).natAbs := rfl
      omega
    · rw [z_add]
      omega
end Nd
namespace K12
set_option autoImplicit false
open PySem PySem.W L2 Evl My Nd
section
variable {P : Program} {w : World} {K : PySem.W.Frag} {mg : Str → Option Value} {base : Heap}

/-- derived -/
abbrev s_derived : Stmt := topS 14
abbrev N_derived : List Str := ["one", "axis", "many", "result", "_"]
theorem sc_derived : FnScope N_derived ["one", "axis", "many"] (defScope s_derived) := ⟨rfl, rfl, rfl, by decide +kernel, rfl, by decide +kernel, by decide +kernel⟩
theorem ok_derived {f : Addr} {fd : FuncData} (F : Fun K "derived" "derived" s_derived f fd)  {f__derived_once : Addr} {d__derived_once : FuncData} (c__derived_once : Cal P w K mg base "_derived_once" 3 ["one", "axis"] (spP (Rder1 K)) f__derived_once d__derived_once) (n_range : mg "range" = none)  :
    FnOk P w K mg base CX0 4 f fd ["one", "axis", "many"] (spP (Rder K)) := by
  refine F.ok sc_derived (spP_len (by rintro _ _ ⟨_, _, _, _, rfl, _⟩; rfl)) (fun cdv A outer s H vs Q E hr h => ?_)
  obtain ⟨B, ps, z, eB, hv, ⟨Z, b, n, hn, rfl, hd, rfl⟩, k⟩ := h
  obtain ⟨v0, v1, v2, rfl, h0, h1, h2⟩ := all3 hv
  obtain rfl : v2 = _ := h2
  have hu := hu_of hr
  refine ⟨_, (pss_cons (ps_set (i := 3) sc_derived.nd rfl (by first | exact .inl rfl | exact .inr rfl) (pv 0))
    (pss_cons (ps_for PassesOwn.never rfl (pi_range1 (by rfl) n_range (pa_cons (pv 2) pa_nil)) (pg_name (i := 4) sc_derived.nd rfl (by first | exact .inl rfl | exact .inr rfl))
      (pss_one (ps_set (i := 3) sc_derived.nd rfl (by first | exact .inl rfl | exact .inr rfl) (pe_call c__derived_once.G (hr.mono (by decide)) (by rfl) c__derived_once.m c__derived_once.k c__derived_once.b .nil pass0 (pa_cons (pv 3) (pa_cons (pv 1) pa_nil))))))
    (pss_one (ps_ret (pv 3))))), ?_⟩
  refine ps_asgN (fun v => [some v0, some v1, some (.int (n : Nat)), some v, none]) eB (p_var rfl h0) (fun x B2 H2 g2 hx => ?_) (fun _ => rfl)
  dsimp only
  refine ps_forS g2.c (src_rng (j := n) (q_cons (p_var (p := IsV (.int (n : Nat))) rfl rfl) q_nil) (by omega)) fun B3 H3 g3 => ?_
  refine ⟨fun i σ H4 => ∃ B4, Gr B3 H3 B4 H4 ∧ ∃ v y, σ = [some v0, some v1, some (.int (n : Nat)), some v, y] ∧ (Z i).P v B4, ⟨B3, Gr.refl g3.c, x, none, rfl, (Z 0).m g3.b hx⟩, fun i σ H4 _ h => ?_, fun i v σ H4 hi pv px => ?_, fun σ H4 pv => ?_⟩
  · obtain ⟨B4, g4, _⟩ := h
    exact g4.b.trans g4.c
  · obtain ⟨B4, g4, v', y, rfl, hc⟩ := pv
    show tAsg _ _ _ [some v0, some v1, some (.int (n : Nat)), some v', some v] H4
    refine ps_asgN (fun x => [some v0, some v1, some (.int (n : Nat)), some x, some v]) g4.c (p_callP (q_cons (p_var rfl hc) (q_cons (p_var rfl (b.m (g2.b.trans (g3.b.trans g4.b)) h1)) q_nil)) (hd i hi)) (fun x B5 H5 g5 hx => ?_) (fun _ => rfl)
    exact ⟨B5, g4.trans g5, x, _, rfl, hx⟩
  · obtain ⟨B4, g4, v', y, rfl, hc⟩ := pv
    dsimp only
    exact My.ps_ret g4.c (p_var rfl hc) fun v B5 H5 g5 hp => k v B5 H5 ((g2.trans (g3.trans g4)).trans g5) hp

end
end K12
namespace K12
set_option autoImplicit false
open PySem PySem.W L2 Evl My Nd
section
variable {P : Program} {w : World} {K : PySem.W.Frag} {mg : Str → Option Value} {base : Heap}

/-- by_powers -/
abbrev s_by_powers : Stmt := topS 18
abbrev N_by_powers : List Str := ["one", "derivative", "totals", "monomial", "number", "power", "rest", "at", "found", "height", "total"]
theorem sc_by_powers : FnScope N_by_powers ["one", "derivative"] (defScope s_by_powers) := ⟨rfl, rfl, rfl, by decide +kernel, rfl, by decide +kernel, by decide +kernel⟩
theorem ok_by_powers {f : Addr} {fd : FuncData} (F : Fun K "by_powers" "by_powers" s_by_powers f fd)  {f_polynomial_of : Addr} {d_polynomial_of : FuncData} (c_polynomial_of : Cal P w K mg base "polynomial_of" 1 ["total"] (spP (Rpof P w K)) f_polynomial_of d_polynomial_of) (n_enumerate : mg "enumerate" = none) (n_len : mg "len" = none)  :
    FnOk P w K mg base CX0 2 f fd ["one", "derivative"] (spP (Rbyp K)) := by
  refine F.ok sc_by_powers (spP_len (by rintro _ _ ⟨_, _, _, _, _, _, rfl, rfl⟩; rfl)) (fun cdv A outer s H vs Q E hr h => ?_)
  obtain ⟨B, ps, z, eB, hv, ⟨p, u, hp, hm, hu0, hn, rfl, rfl⟩, k⟩ := h
  obtain ⟨v0, v1, rfl, h0, h1⟩ := all2 hv
  have hu := hu_of hr
  refine ⟨_, (pss_cons (ps_set (i := 2) sc_by_powers.nd rfl (by first | exact .inl rfl | exact .inr rfl) (pe_lst (pa_cons pe_dnewN pa_nil)))
    (pss_cons (ps_for PassesOwn.never rfl (pi_tup (pv 0)) (pg_tup (by rfl) (pgs_cons (pg_name (i := 3) sc_by_powers.nd rfl (by first | exact .inl rfl | exact .inr rfl)) (pgs_cons (pg_name (i := 4) sc_by_powers.nd rfl (by first | exact .inl rfl | exact .inr rfl)) pgs_nil)))
      (pss_cons (ps_set (i := 5) sc_by_powers.nd rfl (by first | exact .inl rfl | exact .inr rfl) pe_int)
    (pss_cons (ps_set (i := 6) sc_by_powers.nd rfl (by first | exact .inl rfl | exact .inr rfl) (pv 3))
    (pss_cons (ps_for PassesOwn.never rfl (pi_enumT (by rfl) n_enumerate (pa_cons (pv 3) pa_nil)) (pg_tup (by rfl) (pgs_cons (pg_name (i := 7) sc_by_powers.nd rfl (by first | exact .inl rfl | exact .inr rfl)) (pgs_cons (pg_tup (by rfl) (pgs_cons (pg_name (i := 8) sc_by_powers.nd rfl (by first | exact .inl rfl | exact .inr rfl)) (pgs_cons (pg_name (i := 9) sc_by_powers.nd rfl (by first | exact .inl rfl | exact .inr rfl)) pgs_nil))) pgs_nil)))
      (pss_one (ps_if (pt_cmpR (op_eqD hr.units) (pv 8) (pv 1) (nomark _)) (pss_cons (ps_set (i := 5) sc_by_powers.nd rfl (by first | exact .inl rfl | exact .inr rfl) (pv 9))
    (pss_one (ps_set (i := 6) sc_by_powers.nd rfl (by first | exact .inl rfl | exact .inr rfl) (pe_op op_catA (pe_slice sl_tupA (pv 3) po_none (po_some (pv 7))) (pe_slice sl_tupA (pv 3) (po_some (pe_op op_add (pv 7) pe_int)) po_none))))) pss_nil)))
    (pss_cons (ps_while PassesOwn.never (pt_cmpR op_le (pe_callB call_len_seq (by rfl) n_len (by decide +kernel) (pa_cons (pv 2) pa_nil)) (pv 5) (nomark _))
      (pss_one (ps_expr (pe_bm PySem.F.plainAttrs_list PySem.F.slot_list_append PySem.F.type_list_append mt_append (pv 2) (pa_cons pe_dnewN pa_nil)))))
    (pss_one (ps_dputN (by have h := hr.un; show (A.deeper _).units + 9 < cLine; omega) (pe_ix ix_list (pv 2) (pv 5) (fun _ _ => rfl)) (pv 6) (pv 4) rfl)))))))
    (pss_one (ps_ret (pe_lc (own := [("total", 10)]) rfl sc_by_powers.nd (pi_list (pv 2)) (blkOk_by (N := N_by_powers) (sc := defScope s_by_powers) (by decide +kernel)) (fun _ _ _ _ _ => (pg_name (i := 10) sc_by_powers.nd rfl (Or.inl rfl))) (fun _ _ _ _ _ => pts_nil) (fun _ _ _ _ _ => (pe_call c_polynomial_of.G (hr.mono (by decide)) (by rfl) c_polynomial_of.m c_polynomial_of.k c_polynomial_of.b .nil pass0 (pa_cons (pv 10) pa_nil)))))))), ?_⟩
  refine ld_new (ky := kyM K) (vp := rtP K) (Z := fun k => cofR u k (p.take 0)) eB rfl fun L H2 A2 => ?_
  dsimp only
  refine ps_forX (fun i σ B' H' => (∃ a b c d e f g, σ = [some v0, some v1, some (.ref L), a, b, c, d, e, f, g, none]) ∧ LdAt P w (kyM K) (rtP K) B H L (nPw u (p.take i)) (fun k => cofR u k (p.take i)) B' H') (fun _ _ _ _ h => h.2.ex) ⟨⟨_, _, _, _, _, _, _, rfl⟩, A2⟩ rfl h0 (fun i z v' σ' B' H' hi e' hs pv F hF => ?_) fun σ' B' H' e' hs => ?_
  · obtain ⟨⟨a, b, c, d, e, f, g, rfl⟩, A'⟩ := hs
    obtain ⟨t, ht, rfl⟩ := po_at hi
    obtain ⟨w0, y1, y2, rfl, hq, n1, n2⟩ := tup2 pv A'.ex
    refine ⟨w0, _, rfl, hq, rfl, _, _, rfl, _, _, rfl, rfl, ?_⟩
    have htm := List.mem_of_getElem? ht
    have hmo := hp.m t htm
    have nd := hmo.c.nd
    obtain ⟨c1, c2, c3⟩ := hm t htm
    refine ps_asgN (fun v => [some v0, some v1, some (.ref L), some y1, some y2, some v, d, e, f, g, none]) A'.ex (p_c (v := .int 0)) (fun x B2 H2 g2 hx => ?_) (fun _ => rfl)
    obtain rfl : x = _ := hx
    dsimp only
    refine ps_asgN (fun v => [some v0, some v1, some (.ref L), some y1, some y2, some (.int 0), some v, e, f, g, none]) g2.c (p_var rfl ((moP K t.1).m g2.b n1)) (fun x B3 H3 g3 hx => ?_) (fun _ => rfl)
    dsimp only
    have A3 := (A'.step g2).step g3
    refine ps_forXE (fun j σ B' H' => (∃ vr e f g, σ = [some v0, some v1, some (.ref L), some y1, some y2, some (.int (co (t.1.take j) u)), some vr, e, f, g, none] ∧ (moP K (rstJ u t.1 j)).P vr B') ∧ LdAt P w (kyM K) (rtP K) B H L (nPw u (p.take i)) (fun k => cofR u k (p.take i)) B' H') (fun _ _ _ _ h => h.2.ex) ⟨⟨x, e, f, g, rfl, hx⟩, A3⟩ rfl ((moP K t.1).m (g2.b.trans g3.b) n1) (fun j z v' T σ' B4 H4 hj e4 hs hT pv F2 hF2 => ?_) fun σ' B4 H4 e4 hs => ?_
    · obtain ⟨⟨vr, e, f, g, rfl, hr⟩, A4⟩ := hs
      rw [List.getElem?_map] at hj
      obtain ⟨y, hy, rfl⟩ := Option.map_eq_some_iff.mp hj
      have eT : Ex H4 (upd H4 T (.tup [.int (j : Nat), v'])) := Ex.new hT
      have A5 := A4.step (Gr.wide A4.ex eT)
      obtain ⟨w1, x1, x2, rfl, hq2, r1, r2⟩ := tup2 pv A5.ex
      obtain rfl : x2 = _ := r2
      refine ⟨T, _, rfl, st_of upd_same, rfl, _, _, rfl, _, _, rfl, w1, _, rfl, hq2, rfl, _, _, rfl, _, _, rfl, rfl, rfl, ?_⟩
      have n1' := (moP K t.1).m (g2.b.trans (g3.b.trans e4)) n1
      have tst := et_test (ev_eqD (K := K) (ed_dv (p_var (i := 8) (σ := [some v0, some v1, some (.ref L), some y1, some y2, some (.int (co (t.1.take j) u)), some vr, some (.int (j : Nat)), some x1, some (.int y.2), none]) rfl r1)) (ed_dv (p_var (i := 1) rfl ((DvP u).m (e'.trans (g2.b.trans (g3.b.trans e4))) h1))) (c3 y (List.mem_of_getElem? hy)) hu0)
      rw [eqv_dv0] at tst
      by_cases cu : y.1 = u
      · refine My.ps_ifT A5.ex (et_is tst (_root_.decide_eq_true cu)) fun H6 e6 => ?_
        have A6 := A5.step (Gr.wide A5.ex e6)
        refine ps_asgN (fun v => [some v0, some v1, some (.ref L), some y1, some y2, some v, some vr, some (.int (j : Nat)), some x1, some (.int y.2), none]) A6.ex (p_var (p := IsV (.int y.2)) rfl rfl) (fun x B7 H7 g7 hx => ?_) (fun _ => rfl)
        obtain rfl : x = _ := hx
        dsimp only
        refine ps_asgN (fun v => [some v0, some v1, some (.ref L), some y1, some y2, some (.int y.2), some v, some (.int (j : Nat)), some x1, some (.int y.2), none]) g7.c (p := moP K (rsU u t.1)) ?_ (fun x B8 H8 g8 hx => ?_) (fun _ => rfl)
        · have := p_catU (K := K) (p_slTo (k := j) (p_var (i := 3) (σ := [some v0, some v1, some (.ref L), some y1, some y2, some (.int y.2), some vr, some (.int (j : Nat)), some x1, some (.int y.2), none]) rfl ((moP K t.1).m g7.b n1')) (ev_var (i := 7) rfl)) (p_slFrom (k := j + 1) (p_var (i := 3) rfl ((moP K t.1).m g7.b n1')) (tb := tOp (rI0 fun i j => .int (i + j)) (tVar 7) (tC (.int 1))) (ev_op (ev_var rfl) ev_c rv_I0)) (by
            rw [← List.map_take, List.length_map, ← List.map_drop, List.length_map, List.length_take, List.length_drop]
            omega)
          rw [← List.map_take, ← List.map_drop, ← List.map_append, rs_at nd hy cu] at this
          exact this
        · refine hF2 _ B8 H8 (g7.b.trans g8.b) ⟨⟨x, some (.int (j : Nat)), some x1, some (.int y.2), ?_, ?_⟩, (A6.step g7).step g8⟩
          · rw [co_at nd hy cu]
          · have : rstJ u t.1 (j + 1) = rsU u t.1 := by
              unfold rstJ
              rw [take_snoc hy, hasU_snoc, _root_.decide_eq_true cu, Bool.or_true, if_pos rfl]
            rw [this]
            exact hx
      · refine ps_ifN A5.ex (et_is tst (decide_eq_false cu)) fun H6 e6 => ?_
        refine hF2 _ B4 H6 (Ex.refl _) ⟨⟨vr, some (.int (j : Nat)), some x1, some (.int y.2), ?_, ?_⟩, A5.step (Gr.wide A5.ex e6)⟩
        · rw [co_else hy cu]
          rfl
        · have : rstJ u t.1 (j + 1) = rstJ u t.1 j := by
            unfold rstJ
            rw [take_snoc hy, hasU_snoc, decide_eq_false cu, Bool.or_false]
          rw [this]
          exact hr
    · obtain ⟨⟨vr, e, f, g, rfl, hr⟩, A4⟩ := hs
      rw [List.length_map, rst_end] at hr
      dsimp only
      rw [List.length_map, List.take_length]
      obtain ⟨kk, hk⟩ : ∃ kk : Nat, co t.1 u = (kk : Int) := Int.eq_ofNat_of_zero_le (co_nn (fun x hx => Int.le_of_lt (hmo.p x hx)) u)
      have kb : kk ≤ 1000 := by
        have := co_le_dg t.1 u
        omega
      rw [hk]
      have nle : nPw u (p.take i) ≤ 1001 := by
        rcases nPw_is u (p.take i) with q | ⟨s, hs, q⟩
        · omega
        · have h1 := co_le_dg s.1 u
          have h2 := (hm s (List.mem_of_mem_take hs)).1
          omega
      have nx : nPw u (p.take (i + 1)) = max (nPw u (p.take i)) (kk + 1) := by
        rw [take_snoc ht, nPw_snoc, hk]
        rfl
      refine ⟨fun m σ' H' => σ' = [some v0, some v1, some (.ref L), some y1, some y2, some (.int (kk : Int)), some vr, e, f, g, none] ∧ ∃ n, m = kk + 1 - n ∧ nPw u (p.take i) ≤ n ∧ n ≤ nPw u (p.take (i + 1)) ∧ LdAt P w (kyM K) (rtP K) B H L n (fun k => cofR u k (p.take i)) B4 H', ⟨_, rfl, _, rfl, Nat.le_refl _, by omega, A4⟩, fun m σ' H5 hw => ?_⟩
      obtain ⟨rfl, n, rfl, hn1, hn2, A5⟩ := hw
      obtain ⟨xs, hL, hxl⟩ := A5.lst
      have tst : EvT (tTest (tOp (rI0 fun i j => .bl (decide (i ≤ j))) (tCB (rLenS K) (tCons (tVar 2) tNil)) (tVar 5))) [some v0, some v1, some (.ref L), some y1, some y2, some (.int (kk : Int)), some vr, e, f, g, none] H5 (decide ((n : Int) ≤ (kk : Int))) := by
        have := et_test (ev_op (r := rI0 fun i j => .bl (decide (i ≤ j))) (ev_len (K := K) (xs := xs) (ev_var (i := 2) (σ := [some v0, some v1, some (.ref L), some y1, some y2, some (.int (kk : Int)), some vr, e, f, g, none]) (H := H5) rfl) (sq_of hL)) (ev_var (i := 5) rfl) rv_I0)
        rw [hxl] at this
        exact this
      refine tst H5 (Ex.refl H5) _ fun H6 e6 => ?_
      have A6 := A5.step (Gr.wide A5.ex e6)
      by_cases cn : n ≤ kk
      · rw [if_pos (_root_.decide_eq_true (by omega))]
        refine ⟨fun σ' H' => σ' = [some v0, some v1, some (.ref L), some y1, some y2, some (.int (kk : Int)), some vr, e, f, g, none] ∧ LdAt P w (kyM K) (rtP K) B H L (n + 1) (fun k => cofR u k (p.take i)) B4 H', fun σ' H' h => ⟨kk + 1 - (n + 1), by omega, h.1, n + 1, rfl, by omega, by omega, h.2⟩, ?_⟩
        exact ps_ldApp rfl A6 (cofR_nil hn1) (by omega) fun H7 A7 => ⟨rfl, A7⟩
      · rw [if_neg (by simp; omega)]
        have en : n = nPw u (p.take (i + 1)) := by omega
        refine ps_ldPut (i := 2) (l := 5) (m := 6) (s := 4) (j := kk) (k := rsU u t.1) (f := t.2) (Z' := fun k => cofR u k (p.take (i + 1))) rfl A6 rfl (by omega) rfl hr rfl ((rtP K t.2).m (g2.b.trans (g3.b.trans e4)) n2) ?_ ?_ (fun x hx => ?_) fun H7 A7 => ?_
        · have := cofR_len u kk (p.take i)
          rw [List.length_take] at this
          omega
        · show cofR u kk (p.take (i + 1)) = putG (cofR u kk (p.take i)) (rsU u t.1) t.2
          rw [take_snoc ht, cofR_snoc, if_pos hk]
          unfold putG
          rw [cofR_no hp ht hk, if_neg Bool.false_ne_true]
        · show cofR u x (p.take (i + 1)) = cofR u x (p.take i)
          rw [take_snoc ht, cofR_snoc, if_neg (by rw [hk]; intro h; exact hx (by omega)), List.append_nil]
        · rw [en] at A7
          exact hF _ B4 H7 (g2.b.trans (g3.b.trans e4)) ⟨⟨_, _, _, _, _, _, _, rfl⟩, A7⟩
  · obtain ⟨⟨a, b, c, d, e, f, g, rfl⟩, A'⟩ := hs
    have A' : LdAt P w (kyM K) (rtP K) B H L (nPw u (p.take ((toPo p).map (tmP K)).length)) (fun k => cofR u k (p.take ((toPo p).map (tmP K)).length)) B' H' := A'
    rw [po_len, List.take_length] at A'
    obtain ⟨B5, g5, hP⟩ := A'.fin
    have nle : nPw u p ≤ 1001 := by
      rcases nPw_is u p with q | ⟨s, hs, q⟩
      · omega
      · have h1 := co_le_dg s.1 u
        have h2 := (hm s hs).1
        omega
    have main := p_lcM (K := K) (g := gName 10) (tt := tYes) (te := tCall (spP (Rpof P w K)) [] E0 (tCons (tVar 10) tNil)) (vs := [10]) (p_lq (K := K) (p_var (i := 2) (σ := [some v0, some v1, some (.ref L), a, b, c, d, e, f, g, none]) rfl hP)) (by rw [List.length_map, List.length_range]; omega) (fun k => poP K (toPo (cofP u k p))) fun i q v B1 hi e9 pv => ?_
    · rw [List.length_map, List.length_range] at main
      exact My.ps_ret g5.c main fun v B6 H6 g6 hp => k v B6 H6 (g5.trans g6) hp
    · rw [List.getElem?_map] at hi
      obtain ⟨k', hk', rfl⟩ := Option.map_eq_some_iff.mp hi
      obtain ⟨_, ek⟩ := List.getElem?_eq_some_iff.mp hk'
      rw [List.getElem_range] at ek
      subst ek
      refine ⟨[some v0, some v1, some (.ref L), a, b, c, d, e, f, g, some v], rfl, fun H2 Q e q => q, et_yes, p_callP (q_cons (p_var rfl pv) q_nil) ⟨_, ?_, ?_, rfl, rfl⟩⟩
      · have := cofR_nd (u := u) (k := i) hp p.length (Nat.le_refl _)
        rw [List.take_length] at this
        exact this
      · have := cofR_len u i p
        omega

end
end K12
namespace Nd
set_option autoImplicit false
open PySem PySem.W L2 My Evl LamX NdefX PyProof.Rows
/-! ### the greatest by keys -/
section
variable {α : Type}
end
/-! ### leaders -/
structure IsLead (r : Rk) (us : List Dv) (u : Dv) : Prop where
  m : u ∈ us
  g : ∀ v ∈ us, v = u ∨ r.lt v u
theorem IsLead.uniq {r : Rk} {us : List Dv} {u v : Dv} (h : IsLead r us u) (k : IsLead r us v) : u = v := by
  rcases h.g v k.m with e | e
  · exact e.symm
  · rcases k.g u h.m with e2 | e2
    · exact e2
    · exact absurd (r.lt_trans e e2) (r.lt_irrefl v)
/-! ### polynomials of a ranking, within limits -/
def Sz (b : Nat) (p : Pq) : Prop := ∃ D N, 0 < D ∧ D < 2 ^ b ∧ N < 2 ^ b ∧ Lim D N p
structure PG (r : Rk) (p : Pq) : Prop where
  c : PoC p
  of : ∀ t ∈ p, ∀ y ∈ t.1, y.1.Of r
  dg : ∀ t ∈ p, Nd.dg t.1 ≤ 10
  ln : p.length ≤ 100
  sz : Sz 1000 p
theorem mo_len {m : Mo} (h : MoC m) : m.length ≤ dg m := by
  have hp := h.p
  clear h
  induction m with
  | nil => exact Nat.le_refl _
  | cons y m ih =>
    have h1 := hp y List.mem_cons_self
    have h2 := ih fun x hx => hp x (List.mem_cons_of_mem _ hx)
    unfold dg at *
    rw [List.map_cons, List.sum_cons, List.length_cons]
    omega
theorem ups_of {α : Type} {R : α → α → Prop} {f : α → PyData} (hR : ∀ {a b}, R a b → dataLt (f a) (f b) = true) {l : List α} (h : l.Pairwise R) : Ups f l := fun i hi => hR (List.pairwise_iff_getElem.mp h i (i + 1) (by omega) hi (by omega))
theorem moOk_of {r : Rk} {m : Mo} (h : MoC m) (of : ∀ y ∈ m, y.1.Of r) : MoOk r m := ⟨fun x hx => ⟨of x hx, h.p x hx⟩, ups_of (R := fun a b => Od.lt a.1 b.1 = true) (fun h => h) h.c.up⟩
theorem PG.ok {r : Rk} {p : Pq} (h : PG r p) : PoOk r (toPo p) := by
  refine ⟨fun t ht => ?_, ?_⟩
  · obtain ⟨s, hs, rfl⟩ := List.mem_map.mp ht
    exact ⟨moOk_of (h.c.m s hs) (h.of s hs), ⟨fr_pos s.2, fr_low s.2⟩, fun e => h.c.c.nz s hs ((fr_num0 s.2).mp e)⟩
  · refine ups_of (R := fun a b => Od.lt a.1 b.1 = true) (fun h => h) ?_
    unfold toPo
    rw [List.pairwise_map]
    exact h.c.c.up
theorem dvs_to (p : Pq) : dvs (toPo p) = p.flatMap fun t => t.1.map (·.1) := by
  unfold dvs toPo
  rw [List.flatMap_map]
  rfl
theorem PG.dvs {r : Rk} {p : Pq} (h : PG r p) : (Nd.dvs (toPo p)).length ≤ 1000 := by
  have : ∀ l : Pq, (∀ t ∈ l, t.1.length ≤ 10) → (l.flatMap fun t => t.1.map (·.1)).length ≤ 10 * l.length := by
    intro l hl
    induction l with
    | nil => exact Nat.le_refl _
    | cons t l ih =>
      rw [List.flatMap_cons, List.length_append, List.length_map, List.length_cons]
      have := ih fun x hx => hl x (List.mem_cons_of_mem _ hx)
      have := hl t List.mem_cons_self
      omega
  rw [dvs_to]
  have h1 := this p fun t ht => Nat.le_trans (mo_len (h.c.m t ht)) (h.dg t ht)
  have := h.ln
  omega
end Nd
namespace K12
set_option autoImplicit false
open PySem PySem.W L2 Evl My Nd LamX NdefX
section
variable {P : Program} {w : World} {K : PySem.W.Frag} {mg : Str → Option Value} {base : Heap} {T : List (Addr × Str)}




end
end K12
namespace K12
open PySem L2 My
/-- a draw's state at d -/
def DSt (H : Hp) (d : Addr) (n : Nat) : Prop := ∃ l c t : Int, H d = some (.dK [(.inr "left", .int l), (.inr "cell", .int c), (.inr "turns", .int t)]) ∧ 0 ≤ l ∧ 0 ≤ t ∧ t ≤ n
/-- all but d as it was -/
def SameBut (d : Addr) (H H' : Hp) : Prop := ∀ b o, b ≠ d → H b = some o → H' b = some o
def spMixed : Sp := fun vs H Q _ => ∃ c k : Int, vs = [.int c, .int k] ∧ 0 ≤ k ∧ k ≤ 2 ^ 40 ∧ ∀ (m : Int) (H' : Hp), 0 ≤ m → m < 2147483647 → Same H H' → Q (.int m) H'
def spDraw : Sp := fun vs H Q _ => ∃ c k : Int, vs = [.int c, .int k] ∧ 0 ≤ k ∧ k ≤ 1000 ∧ ∀ (d : Addr) (H' : Hp), H d = none → DSt H' d 1000000 → Same H H' → Q (.ref d) H'
def spDigit : Sp := fun vs H Q _ => ∃ (d : Addr) (z : Int) (n : Nat), vs = [.ref d, .int z] ∧ 0 < z ∧ z < 1073741824 ∧ DSt H d n ∧ n ≤ 2 ^ 39 ∧ ∀ (m : Int) (H' : Hp), 0 ≤ m → m < z → DSt H' d (n + 4) → SameBut d H H' → Q (.int m) H'

abbrev s_Lmixed : Stmt := topS 33
abbrev N_Lmixed : List Str := ["_law_cell", "_law_k", "_law_mixed_here"]
theorem sc_Lmixed : FnScope N_Lmixed ["_law_cell", "_law_k"] (defScope s_Lmixed) := ⟨rfl, rfl, rfl, by decide +kernel, rfl, by decide +kernel, by decide +kernel⟩
abbrev s_Ldraw : Stmt := topS 34
abbrev N_Ldraw : List Str := ["_law_cell", "_law_k"]
theorem sc_Ldraw : FnScope N_Ldraw ["_law_cell", "_law_k"] (defScope s_Ldraw) := ⟨rfl, rfl, rfl, by decide +kernel, rfl, by decide +kernel, by decide +kernel⟩
section
variable {P : Program} {w : World} {K : PySem.W.Frag} {mg : Str → Option Value} {base : Heap}
theorem ok_Lmixed {f : Addr} {fd : FuncData} (F : Fun K "_law_mixed" "_law_mixed" s_Lmixed f fd) : FnOk P w K mg base CX0 1 f fd ["_law_cell", "_law_k"] spMixed := by
  refine F.ok sc_Lmixed (fun vs H Q E h => ?_) (fun cdv A outer s H vs Q E hr h => ?_)
  · obtain ⟨c, k, rfl, _⟩ := h
    rfl
  · obtain ⟨c, k, rfl, hk0, hk, q⟩ := h
    refine ⟨_, (pss_cons (ps_set (i := 2) sc_Lmixed.nd rfl (by first | exact .inl rfl | exact .inr rfl) (pe_op op_add (pe_op op_add (pe_op op_mod (pv 0) (pe_ix ix_list (pe_lst (pa_cons pe_int (pa_cons pe_int (pa_cons pe_int (pa_cons pe_int pa_nil))))) (pe_op op_mod (pv 1) pe_int) (fun _ _ => rfl))) (pe_op op_mul pe_int (pv 1))) pe_int))
    (pss_one (ps_ret (pe_op op_mod (pe_op op_mul (pe_op op_mod (pe_op op_mul (pv 2) (pv 2)) pe_int) pe_int) pe_int)))), ?_⟩
    walk_at "go"
    refine ⟨My.small (by decide), fun p hp => ?_⟩
    walk_at "go"
    obtain ⟨v, hv, e⟩ := My.atIn [V.int 1000000007, V.int 998244353, V.int 2147483629, V.int 1000000009] (k % 4) (by omega) (by show k % 4 < 4; omega)
    obtain ⟨y, rfl, hy⟩ : ∃ y, v = V.int y ∧ 0 < y ∧ y < 2147483647 := by
      simp only [List.mem_cons, List.not_mem_nil, or_false] at hv
      rcases hv with rfl | rfl | rfl | rfl <;> exact ⟨_, rfl, by decide⟩

    refine ⟨p, _, _, _, rfl, rfl, My.lstNew, e, ?_⟩
    have h1 := Int.emod_nonneg c (b := y) (by omega)
    have h2 := Int.emod_lt_of_pos c (b := y) (by omega)
    refine ⟨_, _, rfl, rfl, hy.1, ?_⟩
    walk_at "go"
    exact q _ _ (Int.emod_nonneg _ (by decide)) (Int.emod_lt_of_pos _ (by decide)) (My.new hp)
theorem ok_Ldraw {f : Addr} {fd : FuncData} (F : Fun K "_law_draw" "_law_draw" s_Ldraw f fd) : FnOk P w K mg base CX0 1 f fd ["_law_cell", "_law_k"] spDraw := by
  refine F.ok sc_Ldraw (fun vs H Q E h => ?_) (fun cdv A outer s H vs Q E hr h => ?_)
  · obtain ⟨c, k, rfl, _⟩ := h
    rfl
  · obtain ⟨c, k, rfl, hk0, hk, q⟩ := h
    have hu := hu_of hr
    refine ⟨_, (pss_one (ps_ret (pe_disp (pps_cons pe_str (pe_ifExp (pt_cmpR op_ge (pv 0) (pe_op op_pow pe_int pe_int) (nomark _)) (pv 0) pe_int) (pps_cons pe_str (pv 0) (pps_cons pe_str (pe_op op_mul pe_int (pv 1)) pps_nil))) rfl rfl (by simp) (by decide)))), ?_⟩
    intro p hp
    walk_at "go"
    refine ite2 (fun h => ?_) (fun h => ?_)
    · walk_at "go"
      refine ⟨upd_same, [(.inr "left", .int c), (.inr "cell", .int c), (.inr "turns", .int (1000 * k))], rfl, (by show 3 ≤ 15; decide), ?_⟩
      refine q _ _ hp ⟨c, c, 1000 * k, ?_, ?_, by omega, by omega⟩ ?_
      · rw [upd_same]; rfl
      · have := of_decide_eq_true h
        simp at this
        omega
      · exact My.new2 hp
    · walk_at "go"
      refine ⟨upd_same, [(.inr "left", .int 0), (.inr "cell", .int c), (.inr "turns", .int (1000 * k))], rfl, (by show 3 ≤ 15; decide), ?_⟩
      refine q _ _ hp ⟨0, c, 1000 * k, ?_, by omega, by omega, by omega⟩ ?_
      · rw [upd_same]; rfl
      · exact My.new2 hp
theorem sb_trans {d : Addr} {H H1 H2 : Hp} (a : SameBut d H H1) (b : SameBut d H1 H2) : SameBut d H H2 := fun c o n e => b c o n (a c o n e)
theorem sb_same {d : Addr} {H H1 : Hp} (a : Same H H1) : SameBut d H H1 := fun c o _ e => a c o e
theorem sb_upd {d : Addr} {H : Hp} {o : HO} : SameBut d H (upd H d o) := fun c u n e => by rw [upd_ne n]; exact e
theorem dget_left {H : Hp} {d : Addr} {a b c : V} (h : H d = some (.dK [(.inr "left", a), (.inr "cell", b), (.inr "turns", c)])) : DGet H d (.str "left") (some a) := DGet.k (k := .inr "left") h
theorem dget_cell {H : Hp} {d : Addr} {a b c : V} (h : H d = some (.dK [(.inr "left", a), (.inr "cell", b), (.inr "turns", c)])) : DGet H d (.str "cell") (some b) := DGet.k (k := .inr "cell") h
theorem dget_turns {H : Hp} {d : Addr} {a b c : V} (h : H d = some (.dK [(.inr "left", a), (.inr "cell", b), (.inr "turns", c)])) : DGet H d (.str "turns") (some c) := DGet.k (k := .inr "turns") h
theorem dput_left {H : Hp} {d : Addr} {a b c v : V} (h : H d = some (.dK [(.inr "left", a), (.inr "cell", b), (.inr "turns", c)])) : DPut H d (.str "left") v (upd H d (.dK [(.inr "left", v), (.inr "cell", b), (.inr "turns", c)])) := DPut.k (k := .inr "left") h (by show 3 < sizeLine; decide)
theorem dput_turns {H : Hp} {d : Addr} {a b c v : V} (h : H d = some (.dK [(.inr "left", a), (.inr "cell", b), (.inr "turns", c)])) : DPut H d (.str "turns") v (upd H d (.dK [(.inr "left", a), (.inr "cell", b), (.inr "turns", v)])) := DPut.k (k := .inr "turns") h (by show 3 < sizeLine; decide)

abbrev s_Ldigit : Stmt := topS 35
abbrev N_Ldigit : List Str := ["_law_state", "_law_size", "_law_j", "_law_found"]
theorem sc_Ldigit : FnScope N_Ldigit ["_law_state", "_law_size"] (defScope s_Ldigit) := ⟨rfl, rfl, rfl, by decide +kernel, rfl, by decide +kernel, by decide +kernel⟩
theorem ok_Ldigit {f fM : Addr} {fd fdM : FuncData} (F : Fun K "_law_digit" "_law_digit" s_Ldigit f fd) (G : FnOk P w K mg base CX0 1 fM fdM ["_law_cell", "_law_k"] spMixed)
    (n_range : mg "range" = none) (m_Lmixed : mg "_law_mixed" = some (.ref fM)) (k_Lmixed : PySem.W.keepIn K (.ref fM) = true) (b_Lmixed : Binds K fdM ["_law_cell", "_law_k"] []) : FnOk P w K mg base CX0 2 f fd ["_law_state", "_law_size"] spDigit := by
  refine F.ok sc_Ldigit (fun vs H Q E h => ?_) (fun cdv A outer s H vs Q E hr h => ?_)
  · obtain ⟨d, z, n, rfl, _⟩ := h
    rfl
  · obtain ⟨d, z, n, rfl, hz, hz2, ⟨l, c, t, hd, hl, ht, htn⟩, hn, q⟩ := h
    have hu := hu_of hr
    refine ⟨_, (pss_cons (ps_if (pt_cmpR op_eq (pe_dget hu (pv 0) pe_str (fun _ _ => rfl)) pe_int (nomark _)) (pss_one (ps_for PassesOwn.never rfl (pi_range1 (by rfl) n_range (pa_cons pe_int pa_nil)) (pg_name (i := 2) sc_Ldigit.nd rfl (by first | exact .inl rfl | exact .inr rfl))
      (pss_cons (ps_dput hu (pv 0) pe_str (pe_op op_add (pe_dget hu (pv 0) pe_str (fun _ _ => rfl)) pe_int) rfl)
    (pss_one (ps_dput hu (pv 0) pe_str (pe_op op_add (pe_op op_mul (pe_dget hu (pv 0) pe_str (fun _ _ => rfl)) pe_int) (pe_call G (hr.mono (by decide)) (by rfl) m_Lmixed k_Lmixed b_Lmixed .nil pass0 (pa_cons (pe_dget hu (pv 0) pe_str (fun _ _ => rfl)) (pa_cons (pe_dget hu (pv 0) pe_str (fun _ _ => rfl)) pa_nil)))) rfl))))) pss_nil)
    (pss_cons (ps_set (i := 3) sc_Ldigit.nd rfl (by first | exact .inl rfl | exact .inr rfl) (pe_op op_mod (pe_dget hu (pv 0) pe_str (fun _ _ => rfl)) (pv 1)))
    (pss_cons (ps_dput hu (pv 0) pe_str (pe_op op_fdiv (pe_dget hu (pv 0) pe_str (fun _ _ => rfl)) (pv 1)) rfl)
    (pss_one (ps_ret (pv 3)))))), ?_⟩
    -- what follows the if, from any state
    have rest : ∀ (x : Option V) (l t : Int) (H1 : Hp), H1 d = some (.dK [(.inr "left", .int l), (.inr "cell", .int c), (.inr "turns", .int t)]) → 0 ≤ l → 0 ≤ t → t ≤ (n + 4 : Nat) → SameBut d H H1 →
      ∀ D : Ends, D.rt = Q → tSeq (tAsg (tOp (rI (fun _ j => 0 < j) fun i j => .int (i % j)) (tDGet (tVar 0) (tC (.str "left"))) (tVar 1)) (gName 3)) (tSeq (sDPut (tVar 0) (tC (.str "left")) (tOp (rI CDiv fun i j => .int (i / j)) (tDGet (tVar 0) (tC (.str "left"))) (tVar 1))) (tRet (tVar 3))) D [some (.ref d), some (.int z), x, none] H1 := by
      intro x l t H1 h1 hl ht htn sb D hD
      walk_at "go"
      refine ⟨_, _, rfl, dget_left h1, ?_⟩
      walk_at "go"
      refine ⟨_, _, rfl, dget_left h1, ?_⟩
      walk_at "go"
      refine ⟨_, _, rfl, dput_left h1, ?_⟩
      walk_at "go"
      show D.rt _ _
      rw [hD]
      exact q _ _ (Int.emod_nonneg _ (by omega)) (Int.emod_lt_of_pos _ hz) ⟨_, _, _, upd_same, Int.ediv_nonneg hl (by omega), ht, htn⟩ (sb_trans sb sb_upd)
    walk_at "go"
    refine ⟨_, _, rfl, dget_left hd, ?_⟩
    walk_at "go"
    refine ite2 (fun h => ?_) (fun h => ?_)
    · walk_at "go"
      refine ⟨by decide, by decide, for_range (lo := 0) (n := 4) (fun i σ H1 => ∃ (x : Option V) (l t : Int), σ = [some (.ref d), some (.int z), x, none] ∧ H1 d = some (.dK [(.inr "left", .int l), (.inr "cell", .int c), (.inr "turns", .int t)]) ∧ 0 ≤ l ∧ 0 ≤ t ∧ t ≤ (n + i : Nat) ∧ SameBut d H H1)
        ⟨none, l, t, rfl, hd, hl, ht, by omega, fun c o n e => e⟩ ?_ ?_⟩
      · rintro i σ H1 hi ⟨x, l1, t1, rfl, h1, hl1, ht1, ht2, sb⟩
        walk_at "go"
        refine ⟨_, _, rfl, dget_turns h1, ?_⟩
        walk_at "go"
        refine ⟨_, _, rfl, dput_turns h1, ?_⟩
        walk_at "go"
        refine ⟨_, _, rfl, dget_left upd_same, ?_⟩
        walk_at "go"
        refine ⟨_, _, rfl, dget_cell upd_same, ?_⟩
        walk_at "go"
        refine ⟨_, _, rfl, dget_turns upd_same, ?_⟩
        refine ⟨c, t1 + 1, rfl, by omega, by omega, fun m H2 hm0 hm1 S => ?_⟩
        walk_at "go"
        refine ⟨_, _, rfl, dput_left (S _ _ upd_same), ?_⟩
        refine ⟨_, _, _, rfl, upd_same, ?_, by omega, by omega, sb_trans sb (sb_trans sb_upd (sb_trans (sb_same S) sb_upd))⟩
        have := Int.mul_nonneg hl1 (by decide : (0 : Int) ≤ 2147483647)
        omega
      · rintro σ H1 ⟨x, l1, t1, rfl, h1, hl1, ht1, ht2, sb⟩
        exact rest x l1 t1 H1 h1 hl1 ht1 ht2 sb _ rfl
    · exact rest none l t H hd hl ht (by omega) (fun c o n e => e) _ rfl
end
end K12
namespace K12
open PySem L2 My
def one (c : Nat) : Str := ⟨#[c]⟩
theorem DSt.le {H : Hp} {d : Addr} {n m : Nat} (h : DSt H d n) (k : n ≤ m) : DSt H d m := by
  obtain ⟨l, c, t, a, b, e, f⟩ := h
  exact ⟨l, c, t, a, b, e, by omega⟩
theorem DSt.same {H H' : Hp} {d : Addr} {n : Nat} (h : DSt H d n) (k : Same H H') : DSt H' d n := by
  obtain ⟨l, c, t, a, b⟩ := h
  exact ⟨l, c, t, k _ _ a, b⟩
theorem DSt.ne {H : Hp} {d p : Addr} {n : Nat} (h : DSt H d n) (k : H p = none) : d ≠ p := by
  obtain ⟨l, c, t, a, b⟩ := h
  exact ne_of_none a k
theorem DSt.upd {H : Hp} {d p : Addr} {n : Nat} {o : HO} (h : DSt H d n) (k : d ≠ p) : DSt (upd H p o) d n := by
  obtain ⟨l, c, t, a, b⟩ := h
  exact ⟨l, c, t, by rw [upd_ne k]; exact a, b⟩
end K12

namespace K12
set_option autoImplicit false
open PySem PySem.W L2 Evl My LamX
/-- what a draw leaves: the state's dict at d changed, all else kept; B' known behind, without d -/
structure GrD (d : Addr) (B H B' H' : Hp) : Prop where
  s : SameBut d H H'
  b : Ex B B'
  c : Ex B' H'
  d : B' d = none
  n : NoTab B → NoTab B'
  f : ∀ x, B x = none → H x ≠ none → B' x = none
theorem GrD.refl {d : Addr} {B H : Hp} (e : Ex B H) (h : B d = none) : GrD d B H B H := ⟨fun _ _ _ e => e, Ex.refl B, e, h, id, fun _ h _ => h⟩
theorem GrD.trans {d : Addr} {B H B1 H1 B2 H2 : Hp} (g : GrD d B H B1 H1) (k : GrD d B1 H1 B2 H2) : GrD d B H B2 H2 := ⟨sb_trans g.s k.s, g.b.trans k.b, k.c, k.d, fun z => k.n (g.n z), fun x hb hh => if n : x = d then n ▸ k.d else k.f x (g.f x hb hh) (by cases e : H x with | none => exact absurd e hh | some o => rw [g.s x o n e]; exact fun z => nomatch z)⟩
theorem ex_sb {d : Addr} {B H H' : Hp} (e : Ex B H) (h : B d = none) (s : SameBut d H H') : Ex B H' := fun b o k => s b o (ne_of_none k h) (e b o k)
theorem GrD.same {d : Addr} {B H H' : Hp} (e : Ex B H) (h : B d = none) (s : SameBut d H H') : GrD d B H B H' := ⟨s, Ex.refl B, ex_sb e h s, h, id, fun _ h _ => h⟩
theorem GrD.gr {d : Addr} {B H B' H' : Hp} {n : Nat} (g : Gr B H B' H') (h : B d = none) (hd : DSt H d n) : GrD d B H B' H' := ⟨fun b o _ e => g.a b o e, g.b, g.c, g.d d h (by obtain ⟨l, c, t, e, _⟩ := hd; rw [e]; exact fun z => nomatch z), g.e, fun x hb hh => g.d x hb hh⟩
theorem DSt.ex {H H' : Hp} {d : Addr} {n : Nat} (h : DSt H d n) (e : Ex H H') : DSt H' d n := by
  obtain ⟨l, c, t, a, b⟩ := h
  exact ⟨l, c, t, e _ _ a, b⟩
section
variable {P : Program} {w : World} {K : PySem.W.Frag} {mg : Str → Option Value} {base : Heap}


end
end K12

namespace K12
set_option autoImplicit false
open PySem PySem.W L2 Evl My LamX
def LstP (ns : List Str) : Pr := ⟨fun v H => ∃ a, v = .ref a ∧ H a = some (.lst (ns.map V.str)), fun e ⟨a, h1, h2⟩ => ⟨a, h1, e _ _ h2⟩⟩
def spDer : Sp := fun vs H Q _ => ∃ (B : Hp) (d : Addr) (n hi : Nat) (r : Rk) (vn : V), vs = [.ref d, vn, .int (r.axs.length : Nat), .int (hi : Nat)] ∧ hi ≤ 20 ∧ r.Ok ∧ (LstP r.ns).P vn B ∧ Ex B H ∧ B d = none ∧ DSt H d n ∧ n ≤ 2 ^ 36 ∧
  ∀ (u : Dv) (B' H' : Hp) (v : V), u.Of r → u.i + u.j ≤ hi → GrD d B H B' H' → DSt H' d (n + 20) → (DvP u).P v B' → Q v H'
theorem ax_two (r : Rk) : (r.axs.length = 2) ↔ (Str.ofString "y") ∈ r.axs := by
  have : ∀ a : Fin 3, ((axsOf a).length = 2) ↔ (Str.ofString "y") ∈ axsOf a := by decide +kernel
  exact this r.ax
section
variable {P : Program} {w : World} {K : PySem.W.Frag} {mg : Str → Option Value} {base : Heap}

/-- _law_derivative -/
abbrev s_Lderivative : Stmt := topS 42
abbrev N_Lderivative : List Str := ["_law_state", "_law_names", "_law_axes", "_law_high", "_law_name", "_law_total", "_law_j"]
theorem sc_Lderivative : FnScope N_Lderivative ["_law_state", "_law_names", "_law_axes", "_law_high"] (defScope s_Lderivative) := ⟨rfl, rfl, rfl, by decide +kernel, rfl, by decide +kernel, by decide +kernel⟩
theorem ok_Lderivative {f : Addr} {fd : FuncData} (F : Fun K "_law_derivative" "_law_derivative" s_Lderivative f fd)  {f_Ldigit : Addr} {d_Ldigit : FuncData} (c_Ldigit : Cal P w K mg base "_law_digit" 2 ["_law_state", "_law_size"] spDigit f_Ldigit d_Ldigit) (n_len : mg "len" = none)  :
    FnOk P w K mg base CX0 3 f fd ["_law_state", "_law_names", "_law_axes", "_law_high"] spDer := by
  refine F.ok sc_Lderivative (fun vs H Q E h => by obtain ⟨B, d, n, hi, r, vn, rfl, _⟩ := h; rfl) (fun cdv A outer s H vs Q E hr h => ?_)
  obtain ⟨B, d, n, hi, r, vn, rfl, hhi, hok, hN, hE, hBd, hd, hn, q⟩ := h
  have hu := hu_of hr
  refine ⟨_, (pss_cons (ps_par (i := 4) (j := 5) rfl sc_Lderivative.nd rfl rfl (by decide) rfl rfl (pa_cons (pe_ix ix_list (pv 1) (pe_call c_Ldigit.G (hr.mono (by decide)) (by rfl) c_Ldigit.m c_Ldigit.k c_Ldigit.b .nil pass0 (pa_cons (pv 0) (pa_cons (pe_callB call_len_seq (by rfl) n_len (by decide +kernel) (pa_cons (pv 1) pa_nil)) pa_nil))) (fun _ _ => rfl)) (pa_cons (pe_call c_Ldigit.G (hr.mono (by decide)) (by rfl) c_Ldigit.m c_Ldigit.k c_Ldigit.b .nil pass0 (pa_cons (pv 0) (pa_cons (pe_op op_add (pv 3) pe_int) pa_nil))) pa_nil)) (by rfl))
    (pss_cons (ps_set (i := 6) sc_Lderivative.nd rfl (by first | exact .inl rfl | exact .inr rfl) (pe_ifExp (pt_cmpR op_eq (pv 2) pe_int (nomark _)) (pe_call c_Ldigit.G (hr.mono (by decide)) (by rfl) c_Ldigit.m c_Ldigit.k c_Ldigit.b .nil pass0 (pa_cons (pv 0) (pa_cons (pe_op op_add (pv 5) pe_int) pa_nil))) pe_int))
    (pss_one (ps_ret (pe_tup (pa_cons (pv 4) (pa_cons (pe_op op_sub (pv 5) (pv 6)) (pa_cons (pv 6) pa_nil)))))))), ?_⟩
  obtain ⟨a, rfl, ha⟩ := hN
  have hle := hok.le
  have hne := hok.ne
  have sq : ∀ {H' : Hp}, Ex B H' → SqL K H' a (r.ns.map V.str) := fun e => sq_of (e _ _ ha)
  refine ⟨.ref a, rfl, .ref d, rfl, .ref a, rfl, a, _, rfl, .inl (sq hE), d, _, n, rfl, by rw [List.length_map]; omega, by rw [List.length_map]; omega, hd, by omega, fun m H1 m0 m1 hd1 S1 => ?_⟩
  have e1 := ex_sb hE hBd S1
  rw [List.length_map] at m1
  obtain ⟨k, rfl⟩ : ∃ k : Nat, m = (k : Int) := ⟨m.toNat, by omega⟩
  have hk : k < r.ns.length := by omega
  refine ⟨a, _, _, _, rfl, rfl, sq e1, atI_nat (by rw [List.getElem?_map, List.getElem?_eq_getElem hk]; rfl), ?_⟩
  refine ⟨.ref d, rfl, .int (hi : Nat), rfl, _, _, rfl, rfl, d, _, n + 4, rfl, by omega, by omega, hd1, by omega, fun t H2 t0 t1 hd2 S2 => ?_⟩
  have e2 := ex_sb e1 hBd S2
  refine ⟨_, _, rfl, ?_⟩
  dsimp only
  have fin : ∀ (j : Int) (H3 : Hp), 0 ≤ j → j ≤ t → (j = 0 ∨ (Str.ofString "y") ∈ r.axs) → DSt H3 d (n + 12) → GrD d B H B H3 → tRet (tTup (tCons (tVar 4) (tCons (tOp (rI0 fun i j => .int (i - j)) (tVar 5) (tVar 6)) (tCons (tVar 6) tNil)))) { nx := fun _ H' => Q .non H', rt := Q } [some (.ref d), some (.ref a), some (.int (r.axs.length : Nat)), some (.int (hi : Nat)), some (.str r.ns[k]), some (.int t), some (.int j)] H3 := fun j H3 j0 j1 hy hd3 g3 => by
    refine My.ps_ret g3.c (p_dv (u := ⟨r.ns[k], t - j, j⟩) rfl rfl rfl (q_cons (p_varV rfl) (q_cons (p_ev (ev_op (ev_var rfl) (ev_var rfl) rv_I0)) (q_cons (p_varV rfl) q_nil)))) fun v B4 H4 g4 hv => ?_
    exact q _ _ _ v ⟨List.getElem_mem hk, by show 0 ≤ t - j; omega, j0, hy⟩ (by show t - j + j ≤ (hi : Int); omega) (g3.trans (GrD.gr g4 hBd hd3)) ((hd3.ex g4.a).le (by omega)) hv
  have g2 : GrD d B H B H2 := GrD.same hE hBd (sb_trans S1 S2)
  refine ⟨_, rfl, rfl, ?_⟩
  by_cases h2 : r.axs.length = 2
  · have : decide (V.int (r.axs.length : Nat) = V.int 2) = true := by rw [h2]; rfl
    rw [this]
    refine ⟨_, rfl, ?_⟩
    refine iteT ?_
    refine ⟨.ref d, rfl, .int t, rfl, _, _, rfl, rfl, d, t + 1, n + 8, rfl, by omega, by omega, hd2.le (by omega), by omega, fun j H3 j0 j1 hd3 S3 => ?_⟩
    exact fin j H3 j0 (by omega) (.inr ((ax_two r).mp h2)) (hd3.le (by omega)) (g2.trans (GrD.same e2 hBd S3))
  · have : decide (V.int (r.axs.length : Nat) = V.int 2) = false := by
      rw [decide_eq_false_iff_not]
      intro z
      injection z with z
      omega
    rw [this]
    refine ⟨_, rfl, ?_⟩
    refine iteF ?_
    exact fin 0 H2 (by omega) (by omega) (.inl rfl) (hd2.le (by omega)) g2

end
end K12
namespace K12
set_option autoImplicit false
open PySem PySem.W L2 Evl My Nd LamX NdefX
theorem DSt.ne0 {H : Hp} {d : Addr} {n : Nat} (h : DSt H d n) : H d ≠ none := by
  obtain ⟨l, c, t, e, _⟩ := h
  rw [e]
  exact fun z => nomatch z
theorem tabs_lst {T : List (Addr × Str)} {p : Addr} {H : Hp} {xs : List V} {o : HO} (t : Tabs T H) (hp : H p = some (.lst xs)) : Tabs T (upd H p o) := by
  have at_ : ∀ {b : Addr} {u : HO}, H b = some u → (∀ ys, u ≠ .lst ys) → wo p H b = some u := fun {b u} h n => by
    rw [wo_ne fun z => by
      subst z
      rw [hp] at h
      exact n xs (Option.some.inj h).symm]
    exact h
  refine Tabs.ext (H := wo p H) (fun q hq => ?_) fun b u e => by
    obtain ⟨n, k⟩ := wo_some e
    rw [upd_ne n]
    exact k
  obtain ⟨ps, h1, h2, h3⟩ := t q hq
  refine ⟨ps, at_ h1 (fun _ z => nomatch z), h2, fun pos cv hc => ?_⟩
  obtain ⟨c, e1, e2⟩ := h3 pos cv hc
  exact ⟨c, e1, at_ e2 (fun _ z => nomatch z)⟩
section
variable {t u : TS} {D : Ends} {σ : L2.St} {H : Hp} {te ta tb : TE} {tx tr : TA} {g : TG} {Q : VK} {r : R2}
theorem b_seq (h : t { D with nx := u D } σ H) : tSeq t u D σ H := h
theorem b_asg (h : te σ H fun x H1 => g x σ H1 D.nx) : tAsg te g D σ H := h
theorem b_op (h : ta σ H fun x H1 => tb σ H1 fun y H2 => r x y H2 Q) : tOp r ta tb σ H Q := h
theorem b_cons {Q : List V → Hp → Prop} (h : ta σ H fun x H1 => tr σ H1 fun xs H2 => Q (x :: xs) H2) : tCons ta tr σ H Q := h
end
/-- what is known in B of a heap H with tables T and the draws' state at d, of at most n turns -/
structure Kx (T : List (Addr × Str)) (d : Addr) (n : Nat) (B H : Hp) : Prop where
  e : Ex B H
  nt : NoTab B
  t : Tabs T H
  z : B d = none
  s : DSt H d n
/-- what stays: all but the tables and the state -/
structure GX (d : Addr) (B H B' H' : Hp) : Prop where
  a : ∀ b o, b ≠ d → H b = some o → (∀ ps, o ≠ .tbl ps) → H' b = some o
  b : Ex B B'
  f : ∀ x o, x ≠ d → B x = none → H x = some o → (∀ ps, o ≠ .tbl ps) → B' x = none
section
variable {T : List (Addr × Str)} {d : Addr} {n m : Nat} {B H B1 H1 B2 H2 : Hp}
theorem GX.refl : GX d B H B H := ⟨fun _ _ _ e _ => e, Ex.refl B, fun _ _ _ h _ _ => h⟩
theorem GX.trans (g : GX d B H B1 H1) (k : GX d B1 H1 B2 H2) : GX d B H B2 H2 := ⟨fun b o n e z => k.a b o n (g.a b o n e z) z, g.b.trans k.b, fun x o n hb hh z => k.f x o n (g.f x o n hb hh z) (g.a x o n hh z) z⟩
theorem GX.gr (g : Gr B H B1 H1) : GX d B H B1 H1 := ⟨fun b o _ e _ => g.a b o e, g.b, fun x o _ hb hh _ => g.d x hb (by rw [hh]; exact fun z => nomatch z)⟩
theorem GX.gt (g : GT T B H B1 H1) : GX d B H B1 H1 := ⟨fun b o _ e z => g.a b o e z, g.b, fun x o _ hb hh z => g.f x o hb hh z⟩
theorem GX.sb (S : SameBut d H H1) : GX d B H B H1 := ⟨fun b o n e _ => S b o n e, Ex.refl B, fun _ _ _ h _ _ => h⟩
theorem GX.ex (e : Ex H H1) : GX d B H B H1 := ⟨fun b o _ h _ => e b o h, Ex.refl B, fun _ _ _ h _ _ => h⟩
theorem Kx.gr (k : Kx T d n B H) (g : Gr B H B1 H1) : Kx T d n B1 H1 := ⟨g.c, g.e k.nt, k.t.ext g.a, g.d d k.z k.s.ne0, k.s.ex g.a⟩
theorem Kx.ex (k : Kx T d n B H) (e : Ex H H1) : Kx T d n B H1 := ⟨k.e.trans e, k.nt, k.t.ext e, k.z, k.s.ex e⟩
theorem Kx.gt (k : Kx T d n B H) (g : GT T B H B1 H1) : Kx T d n B1 H1 := by
  obtain ⟨l, c, t, a, b⟩ := k.s
  exact ⟨g.c, g.e k.nt, g.t k.t, g.f d _ k.z a (fun _ z => nomatch z), l, c, t, g.a _ _ a (fun _ z => nomatch z), b⟩
theorem Kx.sb (k : Kx T d n B H) (S : SameBut d H H1) (hd : DSt H1 d m) : Kx T d m B H1 := by
  obtain ⟨l, c, t, a, b⟩ := k.s
  exact ⟨fun b o e => S b o (ne_of_none e k.z) (k.e b o e), k.nt, tabs_but k.t a S, k.z, hd⟩
theorem Kx.le (k : Kx T d n B H) (h : n ≤ m) : Kx T d m B H := ⟨k.e, k.nt, k.t, k.z, k.s.le h⟩
theorem x_digit {i : Nat} {z : Int} {te : TE} {σ : L2.St} {Q : VK} (k : Kx T d n B H) (hi : σ[i]? = some (some (.ref d))) (he : Ev te σ B (.int z)) (z0 : 0 < z) (z1 : z < 1073741824) (hn : n ≤ 2 ^ 39)
    (q : ∀ (m : Int) H', 0 ≤ m → m < z → Kx T d (n + 4) B H' → GX d B H B H' → Q (.int m) H') : tCall spDigit [] E0 (tCons (tVar i) (tCons te tNil)) σ H Q :=
  ⟨.ref d, hi, he H k.e _ fun H2 e2 => ⟨d, z, n, rfl, z0, z1, (k.ex e2).s, hn, fun m H' m0 m1 hd S => q m H' m0 m1 ((k.ex e2).sb S hd) ((GX.ex e2).trans (GX.sb S))⟩⟩
end
/-- the digit's thing of a list -/
theorem pick {ps : List Pr} {xs : List V} {B : Hp} (h : AllP ps xs B) {m : Int} (m0 : 0 ≤ m) (m1 : m < ps.length) : ∃ (i : Nat) (p : Pr) (v : V), i < ps.length ∧ m = (i : Nat) ∧ ps[i]? = some p ∧ atI xs m = some v ∧ p.P v B := by
  obtain ⟨i, rfl⟩ : ∃ i : Nat, m = (i : Nat) := ⟨m.toNat, by omega⟩
  have hi : i < ps.length := by omega
  obtain ⟨v, hv, pv⟩ := h.at (i := i) (p := ps[i]) (List.getElem?_eq_getElem hi)
  exact ⟨i, ps[i], v, hi, rfl, List.getElem?_eq_getElem hi, atI_nat hv, pv⟩
section
variable {te tb : TE} {σ : L2.St} {B : Hp} {K : PySem.W.Frag} {r : Rk}
end

end K12
namespace Nd
set_option autoImplicit false
open PySem PySem.W L2 My Evl LamX NdefX
/-- a polynomial of the law's, its tuple known as it stands -/
def fpP (K : PySem.W.Frag) (p : Pq) : Pr := FuP (p.map fun t => TuP K [moP K t.1, rtP K t.2])
theorem fp_po {K : PySem.W.Frag} {p : Pq} {v : V} {H : Hp} (h : (fpP K p).P v H) : (poP K (toPo p)).P v H := by
  have := fu_tu (K := K) h
  unfold poP toPo
  rw [List.map_map]
  exact this
def Rlow2 (K : PySem.W.Frag) : List Pr → Pr → Prop := fun ps z => ∃ n d : Int, d ≠ 0 ∧ d.natAbs < 2 ^ 4000 ∧ ps = [IsV (.int n), IsV (.int d)] ∧ z = rtP K (Rat.divInt n d)
section
variable {κ β : Type} [DecidableEq κ] {P : Program} {w : World} {K : PySem.W.Frag} {ky : Ky K κ} {vp : β → Pr} {σ : L2.St} {B : Hp} {zs : List (κ × β)} {i : Nat} {v : V} {k : κ} {f : β} {ty : TE}
/-- d[k], d as it is known -/
theorem p_getP (hi : σ[i]? = some (some v)) (hv : (DcP P w ky vp zs).P v B) (hk : EvP ty σ B (ky.kp k)) (hf : valG zs k = some f) : EvP (tDGetN P w K (tVar i) ty) σ B (vp f) := fun H a Q q => by
  obtain ⟨d, xs, B0, rfl, hd, n0, e0, al⟩ := hv
  refine ⟨.ref d, hi, hk H a _ fun y B2 H2 g py => ?_⟩
  obtain ⟨b, rfl⟩ := ky.rf py
  have al2 := al.m (e0.trans g.b)
  rcases al.look k with ⟨h1, _⟩ | ⟨f', u, h1, h2, h3⟩
  · rw [hf] at h1
    cases h1
  · rw [hf] at h1
    obtain rfl := Option.some.inj h1
    exact ⟨d, b, xs, _, u, rfl, rfl, g.a _ _ (a _ _ hd), al2.ok g.c, ky.at_ ((ky.kp k).m g.c py), h2, q u B2 H2 g ((vp f).m (e0.trans g.b) h3)⟩
/-- sorted(d), d as it is known -/
theorem p_sortP (hi : σ[i]? = some (some v)) (hv : (DcP P w ky vp zs).P v B) (hal : AllAlike (zs.map fun z => ky.kd z.1)) (hsk : Sortable (zs.map fun z => ky.kd z.1)) (hdep : ∀ z ∈ zs, (ky.kd z.1).depth ≤ 50) :
    EvP (tSortN P w K (tVar i)) σ B (LsP ((srtZ ky.kd (zs.map (·.1))).map ky.kp)) := fun H a Q q => by
  obtain ⟨d, xs, B0, rfl, hd, n0, e0, al⟩ := hv
  have km := al.m (e0.trans a)
  have lx := km.len
  have kb := al.m e0
  have akp : ∀ {C : Hp} {zs : List (κ × β)} {xs : List NV}, KG ky vp zs xs C → AllP ((zs.map (·.1)).map ky.kp) (xs.map fun x => V.ref x.2.1) C := by
    intro C zs
    induction zs with
    | nil =>
      intro xs h
      match xs, h with
      | [], _ => exact trivial
    | cons z zs ih =>
      intro xs h
      match xs, h with
      | x :: xs, h => exact ⟨h.1.2.1, ih h.2⟩
  have e1 : zs.map (fun z => ky.kd z.1) = (zs.map (·.1)).map ky.kd := by rw [List.map_map]; rfl
  refine ⟨.ref d, hi, d, xs, zs.map fun z => ky.kd z.1, rfl, a _ _ hd, by rw [List.length_map, lx], hal, hsk, fun e he => ?_, ?_, fun b hb => ?_⟩
  · obtain ⟨z, hz, rfl⟩ := List.mem_map.mp he
    exact hdep z hz
  · rw [e1]
    exact toAll_all (toAll_map _ ky.to) (akp km)
  · have h1 := byKey_Z ky.kp ky.kd (akp kb)
    rw [← e1] at h1
    exact q _ (upd B b (.lst (byKey (xs.map fun x => V.ref x.2.1) (zs.map fun z => ky.kd z.1)))) _ (Gr.new _ a hb) ⟨b, _, rfl, upd_same, h1.m (Ex.new (fresh_back a hb))⟩
end
end Nd
namespace K12
set_option autoImplicit false
open PySem PySem.W L2 Evl My Nd LamX NdefX
theorem int_abs (i : Int) : (if i < 0 then -i else i) = (i.natAbs : Int) := by split <;> omega
section
variable {P : Program} {w : World} {K : PySem.W.Frag} {mg : Str → Option Value} {base : Heap} {T : List (Addr × Str)}
theorem lowest_end {n : Int} {d : Nat} (hd : 0 < d) : fr (Rat.divInt n (d : Int)) = (n / (Nat.gcd d n.natAbs : Nat), (d : Int) / (Nat.gcd d n.natAbs : Nat)) := by
  have h := fr_lowest (n := n) (d := (d : Int)) (by omega)
  rw [h, Nat.gcd_comm]
  rfl

/-- _law_lowest -/
abbrev s_Llowest : Stmt := topS 36
abbrev N_Llowest : List Str := ["_law_top", "_law_bottom", "_law_one", "_law_other"]
theorem sc_Llowest : FnScope N_Llowest ["_law_top", "_law_bottom"] (defScope s_Llowest) := ⟨rfl, rfl, rfl, by decide +kernel, rfl, by decide +kernel, by decide +kernel⟩
theorem ok_Llowest {f : Addr} {fd : FuncData} (F : Fun K "_law_lowest" "_law_lowest" s_Llowest f fd)   (n_abs : mg "abs" = none)  :
    FnOk P w K mg base CX0 1 f fd ["_law_top", "_law_bottom"] (spP (Rlow2 K)) := by
  refine F.ok sc_Llowest (spP_len (by rintro _ _ ⟨_, _, _, _, rfl, rfl⟩; rfl)) (fun cdv A outer s H vs Q E hr h => ?_)
  obtain ⟨B, ps, p, eB, hv, ⟨n, d, hd, hs, rfl, rfl⟩, q⟩ := h
  obtain ⟨v0, v1, rfl, h0, h1⟩ := all2 hv
  have hu := hu_of hr
  refine ⟨_, (pss_cons (ps_asg (pe_ifExp (pt_cmpR op_lt (pv 1) pe_int (nomark _)) (pe_tup (pa_cons (pe_op op_sub pe_int (pv 0)) (pa_cons (pe_op op_sub pe_int (pv 1)) pa_nil))) (pe_tup (pa_cons (pv 0) (pa_cons (pv 1) pa_nil)))) (pg_tup (by rfl) (pgs_cons (pg_name (i := 0) sc_Llowest.nd rfl (by first | exact .inl rfl | exact .inr rfl)) (pgs_cons (pg_name (i := 1) sc_Llowest.nd rfl (by first | exact .inl rfl | exact .inr rfl)) pgs_nil))))
    (pss_cons (ps_par (i := 2) (j := 3) rfl sc_Llowest.nd rfl rfl (by decide) rfl rfl (pa_cons (pv 1) (pa_cons (pe_callB call_abs (by rfl) n_abs (by decide +kernel) (pa_cons (pv 0) pa_nil)) pa_nil)) (by rfl))
    (pss_cons (ps_while PassesOwn.never (pt_cmpR op_gt (pv 3) pe_int (nomark _))
      (pss_one (ps_par (i := 2) (j := 3) rfl sc_Llowest.nd rfl rfl (by decide) rfl rfl (pa_cons (pv 3) (pa_cons (pe_op op_mod (pv 2) (pv 3)) pa_nil)) (by rfl))))
    (pss_one (ps_ret (pe_tup (pa_cons (pe_op op_fdivW (pv 0) (pv 2)) (pa_cons (pe_op op_fdivW (pv 1) (pv 2)) pa_nil)))))))), ?_⟩
  obtain rfl : v0 = _ := h0
  obtain rfl : v1 = _ := h1
  -- a bottom above nought
  obtain ⟨n', d', hd', hs', e'⟩ : ∃ (n' : Int) (d' : Nat), 0 < d' ∧ d' < 2 ^ 4000 ∧ Rat.divInt n d = Rat.divInt n' (d' : Int) ∧ EvP (tIf (tTest (tOp (rI0 fun i j => .bl (decide (i < j))) (tVar 1) (tC (.int 0)))) (tTup (tCons (tOp (rI0 fun i j => .int (i - j)) (tC (.int 0)) (tVar 0)) (tCons (tOp (rI0 fun i j => .int (i - j)) (tC (.int 0)) (tVar 1)) tNil))) (tTup (tCons (tVar 0) (tCons (tVar 1) tNil)))) [some (.int n), some (.int d), none, none] B (TuP K [IsV (.int n'), IsV (.int (d' : Nat))]) := by
    have tst := et_test (σ := [some (.int n), some (.int d), none, none]) (H := B) (ev_op (r := rI0 fun i j => .bl (decide (i < j))) (ev_var (i := 1) rfl) (ev_c (v := .int 0)) rv_I0)
    by_cases c : d < 0
    · refine ⟨-n, (-d).toNat, by omega, by omega, ?_, ed_if tst (fun _ => p_tup (K := K) (q_cons (p_ev (ev_is (ev_op ev_c (ev_var rfl) rv_I0) (by congr 1; omega))) (q_cons (p_ev (ev_is (ev_op ev_c (ev_var rfl) rv_I0) (by congr 1; omega))) q_nil)) (by show 2 ≤ 100000; decide)) fun h => absurd c (of_decide_eq_false h)⟩
      rw [show ((-d).toNat : Int) = -d by omega, Rat.neg_divInt_neg]
    · refine ⟨n, d.toNat, by omega, by omega, ?_, ed_if tst (fun h => absurd (of_decide_eq_true h) c) fun _ => p_tup (K := K) (q_cons (p_varV rfl) (q_cons (p_ev (ev_is (ev_var rfl) (by congr 1; omega))) q_nil)) (by show 2 ≤ 100000; decide)⟩
      rw [show (d.toNat : Int) = d by omega]
  obtain ⟨e1, ev⟩ := e'
  refine ev H eB _ fun v B2 H2 g2 hv => ?_
  obtain ⟨a, y1, y2, rfl, hq, m1, m2⟩ := tup2 hv g2.c
  obtain rfl : y1 = _ := m1
  obtain rfl : y2 = _ := m2
  refine ⟨a, _, rfl, hq, rfl, _, _, rfl, _, _, rfl, rfl, ?_⟩
  dsimp only
  refine ⟨_, rfl, _, rfl, n', rfl, _, _, rfl, ?_⟩
  rw [int_abs]
  dsimp only
  refine ⟨fun m σ H3 => ∃ a b : Nat, m = b ∧ 0 < a ∧ σ = [some (.int n'), some (.int (d' : Nat)), some (.int (a : Nat)), some (.int (b : Nat))] ∧ Nat.gcd a b = Nat.gcd d' n'.natAbs ∧ Ex H2 H3, ⟨_, d', n'.natAbs, rfl, hd', rfl, rfl, Ex.refl H2⟩, fun m σ H3 hw => ?_⟩
  obtain ⟨a, b, rfl, ha, rfl, hg, e3⟩ := hw
  refine et_test (ev_op (r := rI0 fun i j => .bl (decide (j < i))) (ev_var (i := 3) (v := .int (m : Nat)) rfl) (ev_c (v := .int 0)) rv_I0) H3 (Ex.refl H3) _ fun H4 e4 => ?_
  by_cases c : m = 0
  · rw [if_neg (by simp [c])]
    have ea : a = Nat.gcd d' n'.natAbs := by
      rw [← hg, c, Nat.gcd_zero_right]
    have al : a < 2 ^ 4000 := by
      rw [ea]
      exact Nat.lt_of_le_of_lt (Nat.gcd_le_left _ hd') hs'
    have dv : 0 < (a : Int) ∧ ((a : Int)).natAbs.log2 < 9000 := ⟨by omega, by rw [Int.natAbs_natCast]; exact Nat.lt_of_le_of_lt (lg al) (by decide)⟩
    have g4 : Gr B H B2 H4 := g2.trans (Gr.wide g2.c (e3.trans e4))
    dsimp only
    refine My.ps_ret g4.c (p_tup (K := K) (ps := [IsV (.int (n' / (a : Int))), IsV (.int ((d' : Int) / (a : Int)))]) (q_cons (p_ev (ev_divW (ev_var rfl) (ev_var rfl) dv)) (q_cons (p_ev (ev_divW (ev_var rfl) (ev_var rfl) dv)) q_nil)) (by show 2 ≤ 100000; decide)) fun v B5 H5 g5 hp => q v B5 H5 (g4.trans g5) ?_
    show (frP K (fr (Rat.divInt n d))).P v B5
    rw [e1, lowest_end hd', ← ea]
    exact hp
  · rw [if_pos (by simp; omega)]
    refine ⟨fun σ H' => σ = [some (.int n'), some (.int (d' : Nat)), some (.int (m : Nat)), some (.int ((a % m : Nat) : Int))] ∧ Ex H2 H', fun σ H' h => ⟨a % m, Nat.mod_lt _ (by omega), m, a % m, rfl, by omega, h.1, by rw [← hg, Nat.gcd_comm a m]; exact (Nat.gcd_rec m a ▸ Nat.gcd_comm _ _), h.2⟩, ?_⟩
    refine ⟨_, rfl, _, rfl, _, rfl, ⟨(a : Int), (m : Int), rfl, rfl, by omega, _, _, rfl, ?_⟩⟩
    exact ⟨rfl, e3.trans e4⟩

end
end K12
namespace Nd
set_option autoImplicit false
open PySem PySem.W L2 My Evl LamX NdefX
section
variable {κ β : Type} [DecidableEq κ] [Od κ] [Lean.Grind.CommRing β] [DecidableEq β]
theorem keys_cf {kd : κ → PyData} (hlt : ∀ a b, dataLt (kd a) (kd b) = Od.lt a b) {zs : List (κ × β)} (nd : (zs.map (·.1)).Nodup) : ((srtZ kd (zs.map (·.1))).filter fun k => decide (co zs k ≠ 0)).map (fun k => (k, co zs k)) = cf zs := by
  have pm := srtZ_perm kd (zs.map (·.1))
  have pw := List.pairwise_mergeSort (leZ_tr kd) (leZ_tot kd) (zs.map (·.1))
  have nd2 : (srtZ kd (zs.map (·.1))).Nodup := pm.nodup_iff.mpr nd
  have up : (srtZ kd (zs.map (·.1))).Pairwise fun a b => Od.lt a b = true := List.Pairwise.imp₂ (S := fun a b => a ≠ b) (fun a b h n => by
    have h : (!dataLt (kd b) (kd a)) = true := h
    rw [hlt] at h
    rcases Od.tri n with c | c
    · exact c
    · rw [c] at h
      cases h) pw nd2
  have upf := up.sublist (List.filter_sublist (p := fun k => decide (co zs k ≠ 0)))
  have cn : Cn (((srtZ kd (zs.map (·.1))).filter fun k => decide (co zs k ≠ 0)).map fun k => (k, co zs k)) := ⟨List.pairwise_map.mpr upf, fun z hz => by
    obtain ⟨k, hk, rfl⟩ := List.mem_map.mp hz
    exact of_decide_eq_true (List.mem_filter.mp hk).2⟩
  refine cf_eq cn fun k => ?_
  by_cases hk : k ∈ (srtZ kd (zs.map (·.1))).filter fun k => decide (co zs k ≠ 0)
  · exact co_one cn.nd (z := (k, co zs k)) (List.mem_map.mpr ⟨k, hk, rfl⟩)
  · rw [co_none (k := k) (fun z hz e => by
      obtain ⟨j, hj, rfl⟩ := List.mem_map.mp hz
      exact hk (e ▸ hj))]
    by_cases hm : k ∈ zs.map (·.1)
    · by_cases h0 : co zs k = 0
      · exact h0.symm
      · exact absurd (List.mem_filter.mpr ⟨pm.mem_iff.mpr hm, _root_.decide_eq_true h0⟩) hk
    · exact (co_none fun z hz e => hm (List.mem_map.mpr ⟨z, hz, e⟩)).symm
end
section
variable {κ β : Type} [DecidableEq κ] {P : Program} {w : World} {K : PySem.W.Frag} {ky : Ky K κ} {vp : β → Pr} {B H0 Bi H : Hp} {d : Addr} {i : Nat} {v : V} {σ : L2.St} {ps : List Pr} {D : Ends} {g : TG} {tbd : TS}
/-- a loop over a list while a dict is under way -/
theorem ps_forDL (Z : Nat → List (κ × β)) (S : Nat → L2.St → Prop)
    (A : DcAt P w ky vp B H0 d (Z 0) Bi H) (s0 : S 0 σ) (hi : σ[i]? = some (some v)) (h : (LqP K ps).P v Bi)
    (st : ∀ j p v' σ' B' H', ps[j]? = some p → Ex Bi B' → S j σ' → DcAt P w ky vp B H0 d (Z j) B' H' → p.P v' B' → ∀ N : L2.St → Hp → Prop, (∀ σ3 B3 H3, S (j + 1) σ3 → Ex B' B3 → DcAt P w ky vp B H0 d (Z (j + 1)) B3 H3 → N σ3 H3) →
      g v' σ' H' fun σ2 H2 => tbd { D with nx := N, ct := N, bk := D.nx } σ2 H2)
    (q : ∀ σ' B' H', Ex Bi B' → S ps.length σ' → DcAt P w ky vp B H0 d (Z ps.length) B' H' → D.nx σ' H') : tFor (iList K (tVar i)) g tbd D σ H := by
  obtain ⟨l, xs, rfl, hx, al⟩ := h
  refine ⟨_, hi, l, rfl, ⟨xs, ex_l A.ex hx⟩, ?_⟩
  have w' := walk_list (K := K) (a := l) (xs := xs)
  rw [al.len] at w'
  refine for_it w' (fun j σ' H' => S j σ' ∧ ∃ B', Ex Bi B' ∧ DcAt P w ky vp B H0 d (Z j) B' H') ⟨s0, Bi, Ex.refl Bi, A⟩ (fun j σ' H' _ pv => ?_) (fun j x σ' H' H2 _ pv y => ?_) fun σ' H' pv => ?_
  · obtain ⟨_, B', e', A'⟩ := pv
    exact ex_l (e'.trans A'.ex) hx
  · obtain ⟨hs, B', e', A'⟩ := pv
    obtain ⟨rfl, y2⟩ := y
    obtain ⟨p, hp, k2⟩ := al.get y2
    exact st j p x σ' B' _ hp e' hs A' (p.m e' k2) _ fun σ3 B3 H3 h1 h2 h3 => ⟨h1, B3, e'.trans h2, h3⟩
  · obtain ⟨hs, B', e', A'⟩ := pv
    exact q σ' B' H' e' hs A'
end
theorem hu9 {k : Nat} {A : Around} (hr : Room k A) : A.units + 9 < cLine := by
  have h := hr.un
  omega
theorem hu10 {k : Nat} {A : Around} (hr : Room k A) : A.units + 10 < cLine := by
  have h := hr.un
  omega
def Sm1 (r : Rat) : Prop := r.num.natAbs < 2 ^ 1000 ∧ r.den < 2 ^ 1000
def pqL (K : PySem.W.Frag) (q : Pq) : List Pr := q.map fun t => TuP K [moP K t.1, rtP K t.2]
def Rlm (K : PySem.W.Frag) : List Pr → Pr → Prop := fun ps z => ∃ l : Mo, (∀ u, 0 ≤ co l u) ∧ l.length ≤ 10000 ∧ ps = [moP K l] ∧ z = moP K (cf l)
def Radd0 (K : PySem.W.Frag) (f : List Pr → Pr) : List Pr → Pr → Prop := fun ps z => ∃ (D N : Nat) (p q : Pq) (c : Rat), 0 < D ∧ D < 2 ^ 1000 ∧ N < 2 ^ 1000 ∧ Lim D N (p ++ scP q c) ∧ (∀ t ∈ q, Sm1 t.2) ∧ Sm1 c ∧ (p.map (·.1)).Nodup ∧ p.length + q.length ≤ 50000 ∧
  ps = [fpP K p, f (pqL K q), rtP K c] ∧ z = fpP K (addP p (scP q c))
def Radd (K : PySem.W.Frag) : List Pr → Pr → Prop := Radd0 K (LqP K)
def RaddT (K : PySem.W.Frag) : List Pr → Pr → Prop := Radd0 K (TuP K)
theorem sm1_lg {r : Rat} (h : Sm1 r) : (fr r).1.natAbs < 2 ^ 1000 ∧ (fr r).2.natAbs < 2 ^ 1000 := h
theorem mul_lg {a b : Int} {m n : Nat} (h : a.natAbs < 2 ^ m) (k : b.natAbs < 2 ^ n) : (a * b).natAbs < 2 ^ (m + n) := by
  rw [Int.natAbs_mul, Nat.pow_add]
  exact Nat.mul_lt_mul'' h k
theorem add_val (r s c : Rat) : Rat.divInt ((fr r).1 * ((fr s).2 * (fr c).2) + (fr s).1 * (fr c).1 * (fr r).2) ((fr r).2 * ((fr s).2 * (fr c).2)) = r + s * c := by
  have pr := fr_pos r
  have ps := fr_pos s
  have pc := fr_pos c
  have h1 : (fr s).2 * (fr c).2 ≠ 0 := Int.mul_ne_zero (by omega) (by omega)
  rw [← Rat.divInt_add_divInt _ _ (by omega) h1, ← Rat.divInt_mul_divInt, fr_val, fr_val, fr_val]
theorem pq_at {K : PySem.W.Frag} {q : Pq} {j : Nat} {p : Pr} (h : (pqL K q)[j]? = some p) : ∃ t, q[j]? = some t ∧ p = TuP K [moP K t.1, rtP K t.2] := by
  unfold pqL at h
  rw [List.getElem?_map] at h
  obtain ⟨t, ht, rfl⟩ := Option.map_eq_some_iff.mp h
  exact ⟨t, ht, rfl⟩
theorem sc_take (q : Pq) (c : Rat) {j : Nat} {t : Mo × Rat} (h : q[j]? = some t) : (scP q c).take (j + 1) = (scP q c).take j ++ [(t.1, t.2 * c)] := by
  have : (scP q c)[j]? = some (t.1, t.2 * c) := by
    unfold scP
    rw [List.getElem?_map, h]
    rfl
  exact take_snoc this
end Nd
namespace K12
set_option autoImplicit false
open PySem PySem.W L2 Evl My Nd LamX NdefX
section
variable {P : Program} {w : World} {K : PySem.W.Frag} {mg : Str → Option Value} {base : Heap} {T : List (Addr × Str)}

/-- _law_monomial -/
abbrev s_Lmonomial : Stmt := topS 38
abbrev N_Lmonomial : List Str := ["_law_pairs", "_law_rises", "_law_derivative_here", "_law_rise"]
theorem sc_Lmonomial : FnScope N_Lmonomial ["_law_pairs"] (defScope s_Lmonomial) := ⟨rfl, rfl, rfl, by decide +kernel, rfl, by decide +kernel, by decide +kernel⟩
theorem ok_Lmonomial {f : Addr} {fd : FuncData} (F : Fun K "_law_monomial" "_law_monomial" s_Lmonomial f fd)   (n_tuple : mg "tuple" = none) (n_sorted : mg "sorted" = none)  :
    FnOk P w K mg base CX0 1 f fd ["_law_pairs"] (spP (Rlm K)) := by
  refine F.ok sc_Lmonomial (spP_len (by rintro _ _ ⟨_, _, _, rfl, rfl⟩; rfl)) (fun cdv A outer s H vs Q E hr h => ?_)
  obtain ⟨B, ps, z, eB, hv, ⟨l, hco, hn, rfl, rfl⟩, q⟩ := h
  obtain ⟨v0, rfl, h0⟩ := all1 hv
  have hu := hu_of hr
  refine ⟨_, (pss_cons (ps_set (i := 1) sc_Lmonomial.nd rfl (by first | exact .inl rfl | exact .inr rfl) pe_dnewN)
    (pss_cons (ps_for PassesOwn.never rfl (pi_tup (pv 0)) (pg_tup (by rfl) (pgs_cons (pg_name (i := 2) sc_Lmonomial.nd rfl (by first | exact .inl rfl | exact .inr rfl)) (pgs_cons (pg_name (i := 3) sc_Lmonomial.nd rfl (by first | exact .inl rfl | exact .inr rfl)) pgs_nil)))
      (pss_one (ps_dputN (by have h := hr.un; show (A.deeper _).units + 9 < cLine; omega) (pv 1) (pv 2) (pe_op op_add (pe_dget2N (by have h := hr.un; show (A.deeper _).units + 9 < cLine; omega) (pv 1) (pv 2) pe_int (by exact ⟨rfl, rfl, rfl, rfl⟩)) (pv 3)) rfl)))
    (pss_one (ps_ret (pe_callTy call_tuple_of (by rfl) n_tuple (by decide +kernel) (pa_cons (pe_lc (tt := tTest (tOp (rI0 fun i j => .bl (decide (j < i))) (tDGetN P w K (tVar 1) (tVar 2)) (tC (.int 0)))) (te := tTup (tCons (tVar 2) (tCons (tDGetN P w K (tVar 1) (tVar 2)) tNil))) (own := [("_law_derivative_here", 2)]) rfl sc_Lmonomial.nd (pi_list (pe_sortN hr (by rfl) n_sorted (pv 1))) (blkOk_by (N := N_Lmonomial) (sc := defScope s_Lmonomial) (by decide +kernel)) (fun _ _ _ _ _ => (pg_name (i := 2) sc_Lmonomial.nd rfl (Or.inl rfl))) (fun _ _ _ _ _ => (pts_one (pt_cmpR op_gt (pe_dgetN (hu9 hr) (pv 1) (pv 2) (fun _ _ => rfl)) pe_int (nomark _)))) (fun _ _ _ _ _ => (pe_tup (pa_cons (pv 2) (pa_cons (pe_dgetN (hu9 hr) (pv 1) (pv 2) (fun _ _ => rfl)) pa_nil))))) pa_nil)))))), ?_⟩
  have nn : (([] : Mo).map (·.1)).Nodup := List.nodup_nil
  refine dc_nul (ky := kyD K) (vp := fun i => IsV (.int i)) eB fun d H2 hd A2 => ?_
  dsimp only
  refine ps_forD (fun j => addAll [] (l.take j)) (fun j σ => ∃ x y, σ = [some v0, some (.ref d), x, y]) A2 ⟨_, _, rfl⟩ rfl h0 (fun j p v' σ' B' H' hj e' hs A' pv N hN => ?_) fun σ' B' H' e' hs A' => ?_
  · obtain ⟨x, y, rfl⟩ := hs
    rw [List.getElem?_map] at hj
    obtain ⟨t, ht, rfl⟩ := Option.map_eq_some_iff.mp hj
    obtain ⟨a, y1, y2, rfl, hq, m1, m2⟩ := tup2 pv A'.ex
    refine ⟨a, _, rfl, hq, rfl, _, _, rfl, _, _, rfl, rfl, ?_⟩
    have len := addAll_len (l := l.take j) (zs := ([] : Mo))
    rw [List.length_take, List.length_nil] at len
    obtain rfl : y2 = .int t.2 := m2
    refine ps_put (f := co (addAll [] (l.take j)) t.1 + t.2) rfl A' (a_op (x := .int (co (addAll [] (l.take j)) t.1)) (y := .int t.2) ?_ (a_ev (p_var rfl rfl)) (fun H Q q => ⟨_, _, rfl, rfl, q⟩)) (p_var rfl m1) (by omega) fun B4 H4 e4 A4 => ?_
    · have := a_get2 (ky := kyD K) (vp := fun i => IsV (.int i)) (f0 := 0) (k := t.1) (ty := tVar 2) (tx := tC (.int 0)) (σ := [some v0, some (.ref d), some y1, some (.int t.2)]) (P := P) (w := w) (B := B) (H0 := H) (d := d) (zs := addAll [] (l.take j)) (Bi := B') (i := 1) rfl (p_var rfl m1) p_c
      rw [val_co (addAll_nd nn)] at this
      exact this
    · refine hN _ B4 H4 ⟨_, _, rfl⟩ e4 ?_
      show DcAt P w (kyD K) (fun i => IsV (.int i)) B H d (addAll [] (l.take (j + 1))) B4 H4
      rw [take_snoc ht, addAll_app]
      exact A4
  · obtain ⟨x, y, rfl⟩ := hs
    have A' : DcAt P w (kyD K) (fun i => IsV (.int i)) B H d (addAll [] (l.take ((l.map (pwP K)).length))) B' H' := A'
    rw [List.length_map, List.take_length] at A'
    obtain ⟨B5, g5, hP⟩ := A'.fin hd
    have nd := addAll_nd (l := l) nn
    have cok : ∀ k, co (addAll [] l) k = co l k := fun k => by rw [addAll_co nn, List.nil_append]
    have len := addAll_len (l := l) (zs := ([] : Mo))
    rw [List.length_nil] at len
    -- sorted, noughts left out
    have main := p_lc (K := K) (g := gName 2) (tt := tTest (tOp (rI0 fun i j => .bl (decide (j < i))) (tDGetN P w K (tVar 1) (tVar 2)) (tC (.int 0)))) (te := tTup (tCons (tVar 2) (tCons (tDGetN P w K (tVar 1) (tVar 2)) tNil))) (vs := [2]) (σ := [some v0, some (.ref d), x, y]) (B := B5)
      (p_lq (p_sortP (P := P) (w := w) (ky := kyD K) (vp := fun i => IsV (.int i)) (zs := addAll [] l) (i := 1) rfl hP (AllAlike.of (enc := fun z : Dv × Int => z.1.D) (bs := addAll [] l) fun u v => alike_dv u.1 v.1) (Sortable.tuples (fun u => ⟨_, _, rfl⟩)) (fun z _ => by have := deep_dv z.1; show z.1.D.depth ≤ 50; omega)))
      (by rw [List.length_map]; unfold srtZ; rw [List.length_mergeSort, List.length_map]; omega)
      (fun i => ((srtZ (kyD K).kd ((addAll [] l).map (·.1)))[i]?.map fun k => decide (co (addAll [] l) k ≠ 0)).getD false) (fun i => ((srtZ (kyD K).kd ((addAll [] l).map (·.1)))[i]?.map fun k => pwP K (k, co (addAll [] l) k)).getD (IsV .non)) fun i p v B1 hi e pv => ?_
    · rw [List.length_map, range_pick] at main
      have e9 : ((srtZ (kyD K).kd ((addAll [] l).map (·.1))).filter fun k => decide (co (addAll [] l) k ≠ 0)).map (fun k => pwP K (k, co (addAll [] l) k)) = (cf l).map (pwP K) := by
        have h1 := keys_cf (kd := (kyD K).kd) (fun a b => rfl) nd
        have h2 : cf (addAll [] l) = cf l := cf_ext cok
        rw [← h2, ← h1, List.map_map]
        rfl
      rw [e9] at main
      exact My.ps_ret g5.c (p_tupOf (p_lq main)) fun v B6 H6 g6 hp => q v B6 H6 (g5.trans g6) hp
    · rw [List.getElem?_map] at hi
      obtain ⟨k, hk, rfl⟩ := Option.map_eq_some_iff.mp hi
      have km : k ∈ (addAll [] l).map (·.1) := (srtZ_perm _ _).mem_iff.mp (List.mem_of_getElem? hk)
      have hval : valG (addAll [] l) k = some (co (addAll [] l) k) := by
        have h1 := val_co nd k
        cases hv : valG (addAll [] l) k with
        | none =>
          have := val_no.mp hv
          rw [hasG_mem.mpr km] at this
          cases this
        | some f =>
          rw [hv] at h1
          rw [← h1]
          rfl
      have get : EvP (tDGetN P w K (tVar 1) (tVar 2)) [some v0, some (.ref d), some v, y] B1 (IsV (.int (co (addAll [] l) k))) := p_getP (ky := kyD K) (vp := fun i => IsV (.int i)) rfl ((DcP P w (kyD K) _ _).m e hP) (p_var rfl pv) hval
      refine ⟨[some v0, some (.ref d), some v, y], rfl, fun H2 Q e q => q, et_is (et_test (ev_op (ev_p get) ev_c rv_I0)) ?_, fun _ => ?_⟩
      · rw [hk]
        show decide (0 < co (addAll [] l) k) = decide (co (addAll [] l) k ≠ 0)
        have := hco k
        rw [cok]
        by_cases h0 : co l k = 0
        · simp [h0]
        · simp [h0]
          omega
      · rw [hk]
        exact p_tup (K := K) (ps := [DvP k, IsV (.int (co (addAll [] l) k))]) (q_cons (p_var rfl pv) (q_cons get q_nil)) (by show 2 ≤ 100000; decide)

end
end K12
namespace Nd
set_option autoImplicit false
open PySem PySem.W L2 My Evl LamX NdefX
section
variable {κ β : Type} [DecidableEq κ] {P : Program} {w : World} {K : PySem.W.Frag} {ky : Ky K κ} {vp : β → Pr} {σ : L2.St} {B : Hp} {zs : List (κ × β)} {i : Nat} {v : V} {k : κ} {f : β} {ty : TE}
/-- sorted(d), d as it is known -/
theorem p_sortM (hi : σ[i]? = some (some v)) (hv : (DcP P w ky vp zs).P v B) (hal : AllAlike (zs.map fun z => ky.kd z.1)) (hsk : ∀ d ∈ (zs.map fun z => ky.kd z.1), ∃ xs, d = PyData.tuple xs) (hdep : ∀ z ∈ zs, (ky.kd z.1).depth ≤ 50) :
    EvP (tSortM P w K (tVar i)) σ B (LsP ((srtZ ky.kd (zs.map (·.1))).map ky.kp)) := fun H a Q q => by
  obtain ⟨d, xs, B0, rfl, hd, n0, e0, al⟩ := hv
  have km := al.m (e0.trans a)
  have lx := km.len
  have kb := al.m e0
  have akp : ∀ {C : Hp} {zs : List (κ × β)} {xs : List NV}, KG ky vp zs xs C → AllP ((zs.map (·.1)).map ky.kp) (xs.map fun x => V.ref x.2.1) C := by
    intro C zs
    induction zs with
    | nil =>
      intro xs h
      match xs, h with
      | [], _ => exact trivial
    | cons z zs ih =>
      intro xs h
      match xs, h with
      | x :: xs, h => exact ⟨h.1.2.1, ih h.2⟩
  have e1 : zs.map (fun z => ky.kd z.1) = (zs.map (·.1)).map ky.kd := by rw [List.map_map]; rfl
  refine ⟨.ref d, hi, d, xs, zs.map fun z => ky.kd z.1, rfl, a _ _ hd, by rw [List.length_map, lx], hal, hsk, fun e he => ?_, ?_, fun b hb => ?_⟩
  · obtain ⟨z, hz, rfl⟩ := List.mem_map.mp he
    exact hdep z hz
  · rw [e1]
    exact toAll_all (toAll_map _ ky.to) (akp km)
  · have h1 := byKey_Z ky.kp ky.kd (akp kb)
    rw [← e1] at h1
    exact q _ (upd B b (.lst (byKey (xs.map fun x => V.ref x.2.1) (zs.map fun z => ky.kd z.1)))) _ (Gr.new _ a hb) ⟨b, _, rfl, upd_same, h1.m (Ex.new (fresh_back a hb))⟩
end
end Nd

namespace K12
set_option autoImplicit false
open PySem PySem.W L2 Evl My Nd LamX NdefX
section
variable {P : Program} {w : World} {K : PySem.W.Frag} {mg : Str → Option Value} {base : Heap} {T : List (Addr × Str)}

/-- _law_added -/
abbrev s_Ladded : Stmt := topS 37
abbrev N_Ladded : List Str := ["_law_one", "_law_other", "_law_number_here", "_law_terms", "_law_monomial_here", "_law_own", "_law_top", "_law_bottom", "_law_far", "_law_low"]
theorem sc_Ladded : FnScope N_Ladded ["_law_one", "_law_other", "_law_number_here"] (defScope s_Ladded) := ⟨rfl, rfl, rfl, by decide +kernel, rfl, by decide +kernel, by decide +kernel⟩
theorem ok_Ladded {f : Addr} {fd : FuncData} (F : Fun K "_law_added" "_law_added" s_Ladded f fd)  {f_Llowest : Addr} {d_Llowest : FuncData} (c_Llowest : Cal P w K mg base "_law_lowest" 1 ["_law_top", "_law_bottom"] (spP (Rlow2 K)) f_Llowest d_Llowest) (n_dict : mg "dict" = none) (n_tuple : mg "tuple" = none) (n_sorted : mg "sorted" = none)  :
    FnOk P w K mg base CX0 2 f fd ["_law_one", "_law_other", "_law_number_here"] (spP (Radd K)) := by
  refine F.ok sc_Ladded (spP_len (by rintro _ _ ⟨_, _, _, _, _, _, _, _, _, _, _, _, _, rfl, rfl⟩; rfl)) (fun cdv A outer s H vs Q E hr h => ?_)
  obtain ⟨B, ps, z, eB, hv, ⟨D, N, p, q, c, hD, hD2, hN2, hl, hq1, hc1, ndp, hn, rfl, rfl⟩, k⟩ := h
  obtain ⟨v0, v1, v2, rfl, h0, h1, h2⟩ := all3 hv
  have hu := hu_of hr
  refine ⟨_, (pss_cons (ps_set (i := 3) sc_Ladded.nd rfl (by first | exact .inl rfl | exact .inr rfl) (pe_callTy (call_dictN rfl (hu10 hr)) (by rfl) n_dict (by decide +kernel) (pa_cons (pv 0) pa_nil)))
    (pss_cons (ps_for PassesOwn.never rfl (pi_list (pv 1)) (pg_tup (by rfl) (pgs_cons (pg_name (i := 4) sc_Ladded.nd rfl (by first | exact .inl rfl | exact .inr rfl)) (pgs_cons (pg_name (i := 5) sc_Ladded.nd rfl (by first | exact .inl rfl | exact .inr rfl)) pgs_nil)))
      (pss_cons (ps_asg (pe_dget2N (by have h := hr.un; show (A.deeper _).units + 9 < cLine; omega) (pv 3) (pv 4) (pe_tup (pa_cons pe_int (pa_cons pe_int pa_nil))) (by exact ⟨rfl, rfl, rfl, rfl⟩)) (pg_tup (by rfl) (pgs_cons (pg_name (i := 6) sc_Ladded.nd rfl (by first | exact .inl rfl | exact .inr rfl)) (pgs_cons (pg_name (i := 7) sc_Ladded.nd rfl (by first | exact .inl rfl | exact .inr rfl)) pgs_nil))))
    (pss_cons (ps_par (i := 8) (j := 9) rfl sc_Ladded.nd rfl rfl (by decide) rfl rfl (pa_cons (pe_op op_mulW (pe_ix ix_tup (pv 5) pe_int (fun _ _ => rfl)) (pe_ix ix_tup (pv 2) pe_int (fun _ _ => rfl))) (pa_cons (pe_op op_mulW (pe_ix ix_tup (pv 5) pe_int (fun _ _ => rfl)) (pe_ix ix_tup (pv 2) pe_int (fun _ _ => rfl))) pa_nil)) (by rfl))
    (pss_one (ps_dputN (by have h := hr.un; show (A.deeper _).units + 9 < cLine; omega) (pv 3) (pv 4) (pe_call c_Llowest.G (hr.mono (by decide)) (by rfl) c_Llowest.m c_Llowest.k c_Llowest.b .nil pass0 (pa_cons (pe_op op_add (pe_op op_mulW (pv 6) (pv 9)) (pe_op op_mulW (pv 8) (pv 7))) (pa_cons (pe_op op_mulW (pv 7) (pv 9)) pa_nil))) rfl)))))
    (pss_one (ps_ret (pe_callTy call_tupleF (by rfl) n_tuple (by decide +kernel) (pa_cons (pe_lc (tt := tTest (tOp rNe (tOp (rIxT K) (tDGetN P w K (tVar 3) (tVar 4)) (tC (.int 0))) (tC (.int 0)))) (te := tTup (tCons (tVar 4) (tCons (tDGetN P w K (tVar 3) (tVar 4)) tNil))) (own := [("_law_monomial_here", 4)]) rfl sc_Ladded.nd (pi_list (pe_sortM hr (by rfl) n_sorted (pv 3))) (blkOk_by (N := N_Ladded) (sc := defScope s_Ladded) (by decide +kernel)) (fun _ _ _ _ _ => (pg_name (i := 4) sc_Ladded.nd rfl (Or.inl rfl))) (fun _ _ _ _ _ => (pts_one (pt_cmpR op_ne (pe_ix ix_tup (pe_dgetN (hu9 hr) (pv 3) (pv 4) (fun _ _ => rfl)) pe_int (fun _ _ => rfl)) pe_int (nomark _)))) (fun _ _ _ _ _ => (pe_tup (pa_cons (pv 4) (pa_cons (pe_dgetN (hu9 hr) (pv 3) (pv 4) (fun _ _ => rfl)) pa_nil))))) pa_nil)))))), ?_⟩
  have bD : D < 2 ^ 4000 := Nat.lt_trans hD2 (Nat.pow_lt_pow_right (by decide) (by decide))
  have bN : N < 2 ^ 4000 := Nat.lt_trans hN2 (Nat.pow_lt_pow_right (by decide) (by decide))
  refine ps_dictN (ky := kyM K) (vp := rtP K) (zs := p) eB (p_var (i := 0) (σ := [some v0, some v1, some v2, none, none, none, none, none, none, none]) rfl h0) ndp fun d B2 H2 hd e2 A2 => ?_
  dsimp only
  refine ps_forDL (fun j => addAll p ((scP q c).take j)) (fun j σ => ∃ a b e f g h, σ = [some v0, some v1, some v2, some (.ref d), a, b, e, f, g, h]) A2 ⟨_, _, _, _, _, _, rfl⟩ rfl ((LqP K (pqL K q)).m e2 h1) (fun j pr v' σ' B' H' hj e' hs A' pv F hF => ?_) fun σ' B' H' e' hs A' => ?_
  · obtain ⟨a4, a5, a6, a7, a8, a9, rfl⟩ := hs
    obtain ⟨t, ht, rfl⟩ := pq_at hj
    obtain ⟨w0, y1, y2, rfl, hq, m1, m2⟩ := tup2 pv A'.ex
    refine ⟨w0, _, rfl, hq, rfl, _, _, rfl, _, _, rfl, rfl, ?_⟩
    have htm := List.mem_of_getElem? ht
    have hjl : j < q.length := (List.getElem?_eq_some_iff.mp ht).1
    have slen : (scP q c).length = q.length := by unfold scP; rw [List.length_map]
    have len := addAll_len (l := (scP q c).take j) (zs := p)
    rw [List.length_take, slen] at len
    -- what stands there
    have GA := a_get2 (σ := [some v0, some v1, some v2, some (.ref d), some y1, some y2, a6, a7, a8, a9]) (ky := kyM K) (vp := rtP K) (f0 := 0) (k := t.1) (ty := tVar 4) (tx := tTup (tCons (tC (.int 0)) (tCons (tC (.int 1)) tNil))) (P := P) (w := w) (B := B) (H0 := H) (d := d) (zs := addAll p ((scP q c).take j)) (Bi := B') (i := 3) rfl (p_var (i := 4) rfl m1) (p_tup (K := K) (ps := [IsV (.int 0), IsV (.int 1)]) (q_cons p_c (q_cons p_c q_nil)) (by show 2 ≤ 100000; decide))
    dsimp only
    unfold tSeq
    unfold tAsg
    refine GA B' H' (Ex.refl B') A' _ fun v3 B3 H3 e3 A3 pv3 => ?_
    rw [val_co (addAll_nd ndp), addAll_co ndp] at pv3
    obtain ⟨w3, z1, z2, rfl, hq3, n1, n2⟩ := tup2 pv3 A3.ex
    obtain rfl : z1 = _ := n1
    obtain rfl : z2 = _ := n2
    refine ⟨w3, _, rfl, hq3, rfl, _, _, rfl, _, _, rfl, rfl, ?_⟩
    generalize hr : co (p ++ (scP q c).take j) t.1 = r at A3 ⊢
    have smr : Sm1 r := by
      have := (hl.pre j).co t.1
      rw [hr] at this
      obtain ⟨s1, s2⟩ := ab_small hD this.1
      exact ⟨Nat.lt_of_le_of_lt (Nat.le_trans s1 this.2) hN2, Nat.lt_of_le_of_lt s2 hD2⟩
    have m2' := (rtP K t.2).m e3 m2
    have h2' := (rtP K c).m (e2.trans (e'.trans e3)) h2
    obtain ⟨r1, r2⟩ := sm1_lg smr
    obtain ⟨t1, t2⟩ := sm1_lg (hq1 t htm)
    obtain ⟨c1, c2⟩ := sm1_lg hc1
    have far := mul_lg t1 c1
    have low := mul_lg t2 c2
    dsimp only
    refine (q_cons (p_ev (ev_mulW (k := 1000) (ev_top (K := K) (p_var (i := 5) (σ := [some v0, some v1, some v2, some (.ref d), some y1, some y2, some (.int (fr r).1), some (.int (fr r).2), a8, a9]) rfl m2')) (ev_top (K := K) (p_var (i := 2) rfl h2')) (lg t1) (lg c1))) (q_cons (p_ev (ev_mulW (k := 1000) (ev_bot (K := K) (p_var (i := 5) rfl m2')) (ev_bot (K := K) (p_var (i := 2) rfl h2')) (lg t2) (lg c2))) q_nil)) H3 A3.ex _ fun vs B4 H4 g4 al => ?_
    obtain ⟨u1, u2, rfl, k1, k2⟩ := all2 al
    obtain rfl : u1 = _ := k1
    obtain rfl : u2 = _ := k2
    have A4 := A3.step g4
    refine ⟨_, _, rfl, ?_⟩
    dsimp only
    have val := add_val r t.2 c
    refine ps_put (f := r + t.2 * c) rfl A4 (a_ev (p_callP (ps := [IsV _, IsV _]) (q_cons (p_ev (ev_addI (ev_mulW (k := 2000) (ev_var (i := 6) rfl) (ev_var (i := 9) rfl) (lg (Nat.lt_of_lt_of_le r1 (Nat.pow_le_pow_right (by decide) (by decide)))) (lg low)) (ev_mulW (k := 2000) (ev_var (i := 8) rfl) (ev_var (i := 7) rfl) (lg far) (lg (Nat.lt_of_lt_of_le r2 (Nat.pow_le_pow_right (by decide) (by decide))))))) (q_cons (p_ev (ev_mulW (k := 2000) (ev_var (i := 7) rfl) (ev_var (i := 9) rfl) (lg (Nat.lt_of_lt_of_le r2 (Nat.pow_le_pow_right (by decide) (by decide)))) (lg low))) q_nil)) ⟨_, _, ?_, ?_, rfl, by rw [val]⟩)) (p_var rfl ((moP K t.1).m (e3.trans g4.b) m1)) (by omega) fun B5 H5 e5 A5 => ?_
    · have := fr_pos r
      have := fr_pos t.2
      have := fr_pos c
      exact Int.mul_ne_zero (by omega) (Int.mul_ne_zero (by omega) (by omega))
    · exact Nat.lt_of_lt_of_le (mul_lg r2 low) (Nat.pow_le_pow_right (by decide) (by decide))
    · refine hF _ B5 H5 ⟨_, _, _, _, _, _, rfl⟩ (e3.trans (g4.b.trans e5)) ?_
      show DcAt P w (kyM K) (rtP K) B H d (addAll p ((scP q c).take (j + 1))) B5 H5
      rw [sc_take q c ht, addAll_app]
      have e9 : addAll (addAll p ((scP q c).take j)) [(t.1, t.2 * c)] = putG (addAll p ((scP q c).take j)) t.1 (r + t.2 * c) := by
        show addG _ _ _ = _
        unfold addG
        rw [addAll_co ndp, hr]
      rw [e9]
      exact A5
  · obtain ⟨a4, a5, a6, a7, a8, a9, rfl⟩ := hs
    have slen : (scP q c).length = q.length := by unfold scP; rw [List.length_map]
    have A' : DcAt P w (kyM K) (rtP K) B H d (addAll p ((scP q c).take (pqL K q).length)) B' H' := A'
    rw [show (pqL K q).length = (scP q c).length by rw [slen]; unfold pqL; rw [List.length_map], List.take_length] at A'
    obtain ⟨B5, g5, hP⟩ := A'.fin hd
    have nd := addAll_nd (l := scP q c) ndp
    have len := addAll_len (l := scP q c) (zs := p)
    generalize hZ : addAll p (scP q c) = Z at nd len hP
    have cfe : cf Z = addP p (scP q c) := by
      rw [← hZ]
      exact cf_ext fun k => addAll_co ndp k
    have main := p_lc (K := K) (g := gName 4) (tt := tTest (tOp rNe (tOp (rIxT K) (tDGetN P w K (tVar 3) (tVar 4)) (tC (.int 0))) (tC (.int 0)))) (te := tTup (tCons (tVar 4) (tCons (tDGetN P w K (tVar 3) (tVar 4)) tNil))) (vs := [4]) (σ := [some v0, some v1, some v2, some (.ref d), a4, a5, a6, a7, a8, a9]) (B := B5)
      (p_lq (p_sortM (P := P) (w := w) (ky := kyM K) (vp := rtP K) (zs := Z) (i := 3) rfl hP (AllAlike.of (enc := fun z : Mo × Rat => moD z.1) (bs := Z) fun u v => alike_mo u.1 v.1) (fun d hd => by obtain ⟨z, _, rfl⟩ := List.mem_map.mp hd; exact ⟨_, rfl⟩) (fun z _ => by have := deep_mo z.1; show (moD z.1).depth ≤ 50; omega)))
      (by rw [List.length_map]; unfold srtZ; rw [List.length_mergeSort, List.length_map]; omega)
      (fun i => ((srtZ (kyM K).kd (Z.map (·.1)))[i]?.map fun k => decide (co Z k ≠ 0)).getD false) (fun i => ((srtZ (kyM K).kd (Z.map (·.1)))[i]?.map fun k => TuP K [moP K k, rtP K (co Z k)]).getD (IsV .non)) fun i p v B1 hi e pv => ?_
    · rw [List.length_map, range_pick] at main
      have e9 : ((srtZ (kyM K).kd (Z.map (·.1))).filter fun k => decide (co Z k ≠ 0)).map (fun k => TuP K [moP K k, rtP K (co Z k)]) = (cf Z).map fun t => TuP K [moP K t.1, rtP K t.2] := by
        have h1 := keys_cf (kd := (kyM K).kd) (fun a b => rfl) nd
        rw [← h1, List.map_map]
        rfl
      rw [e9, cfe] at main
      exact My.ps_ret g5.c (p_tupOfF (p_lq main)) fun v B6 H6 g6 hp => k v B6 H6 (g5.trans g6) hp
    · rw [List.getElem?_map] at hi
      obtain ⟨m, hm, rfl⟩ := Option.map_eq_some_iff.mp hi
      have km : m ∈ Z.map (·.1) := (srtZ_perm _ _).mem_iff.mp (List.mem_of_getElem? hm)
      have hval : valG Z m = some (co Z m) := by
        have h1 := val_co nd m
        cases hv : valG Z m with
        | none =>
          have := val_no.mp hv
          rw [hasG_mem.mpr km] at this
          cases this
        | some f =>
          rw [hv] at h1
          rw [← h1]
          rfl
      have get : EvP (tDGetN P w K (tVar 3) (tVar 4)) [some v0, some v1, some v2, some (.ref d), some v, a5, a6, a7, a8, a9] B1 (rtP K (co Z m)) := p_getP (ky := kyM K) (vp := rtP K) rfl ((DcP P w (kyM K) _ _).m e hP) (p_var rfl pv) hval
      refine ⟨[some v0, some v1, some v2, some (.ref d), some v, a5, a6, a7, a8, a9], rfl, fun H2 Q e q => q, et_is (et_test (ev_op (ev_top get) (ev_c (v := .int 0)) (rv_ne rfl))) ?_, fun _ => ?_⟩
      · rw [hm]
        show (!decide (V.int (fr (co Z m)).1 = V.int 0)) = decide (co Z m ≠ 0)
        by_cases h : co Z m = 0
        · rw [h]
          rfl
        · have : (fr (co Z m)).1 ≠ 0 := fun e => h ((fr_num0 _).mp e)
          simp [h, this]
      · rw [hm]
        exact p_tup (K := K) (ps := [moP K m, rtP K (co Z m)]) (q_cons (p_var rfl pv) (q_cons get q_nil)) (by show 2 ≤ 100000; decide)

theorem ok_LaddedT {f : Addr} {fd : FuncData} (F : Fun K "_law_added" "_law_added" s_Ladded f fd)  {f_Llowest : Addr} {d_Llowest : FuncData} (c_Llowest : Cal P w K mg base "_law_lowest" 1 ["_law_top", "_law_bottom"] (spP (Rlow2 K)) f_Llowest d_Llowest) (n_dict : mg "dict" = none) (n_tuple : mg "tuple" = none) (n_sorted : mg "sorted" = none)  :
    FnOk P w K mg base CX0 2 f fd ["_law_one", "_law_other", "_law_number_here"] (spP (RaddT K)) := by
  refine F.ok sc_Ladded (spP_len (by rintro _ _ ⟨_, _, _, _, _, _, _, _, _, _, _, _, _, rfl, rfl⟩; rfl)) (fun cdv A outer s H vs Q E hr h => ?_)
  obtain ⟨B, ps, z, eB, hv, ⟨D, N, p, q, c, hD, hD2, hN2, hl, hq1, hc1, ndp, hn, rfl, rfl⟩, k⟩ := h
  obtain ⟨v0, v1, v2, rfl, h0, h1, h2⟩ := all3 hv
  have hu := hu_of hr
  refine ⟨_, (pss_cons (ps_set (i := 3) sc_Ladded.nd rfl (by first | exact .inl rfl | exact .inr rfl) (pe_callTy (call_dictN rfl (hu10 hr)) (by rfl) n_dict (by decide +kernel) (pa_cons (pv 0) pa_nil)))
    (pss_cons (ps_for PassesOwn.never rfl (pi_tup (pv 1)) (pg_tup (by rfl) (pgs_cons (pg_name (i := 4) sc_Ladded.nd rfl (by first | exact .inl rfl | exact .inr rfl)) (pgs_cons (pg_name (i := 5) sc_Ladded.nd rfl (by first | exact .inl rfl | exact .inr rfl)) pgs_nil)))
      (pss_cons (ps_asg (pe_dget2N (by have h := hr.un; show (A.deeper _).units + 9 < cLine; omega) (pv 3) (pv 4) (pe_tup (pa_cons pe_int (pa_cons pe_int pa_nil))) (by exact ⟨rfl, rfl, rfl, rfl⟩)) (pg_tup (by rfl) (pgs_cons (pg_name (i := 6) sc_Ladded.nd rfl (by first | exact .inl rfl | exact .inr rfl)) (pgs_cons (pg_name (i := 7) sc_Ladded.nd rfl (by first | exact .inl rfl | exact .inr rfl)) pgs_nil))))
    (pss_cons (ps_par (i := 8) (j := 9) rfl sc_Ladded.nd rfl rfl (by decide) rfl rfl (pa_cons (pe_op op_mulW (pe_ix ix_tup (pv 5) pe_int (fun _ _ => rfl)) (pe_ix ix_tup (pv 2) pe_int (fun _ _ => rfl))) (pa_cons (pe_op op_mulW (pe_ix ix_tup (pv 5) pe_int (fun _ _ => rfl)) (pe_ix ix_tup (pv 2) pe_int (fun _ _ => rfl))) pa_nil)) (by rfl))
    (pss_one (ps_dputN (by have h := hr.un; show (A.deeper _).units + 9 < cLine; omega) (pv 3) (pv 4) (pe_call c_Llowest.G (hr.mono (by decide)) (by rfl) c_Llowest.m c_Llowest.k c_Llowest.b .nil pass0 (pa_cons (pe_op op_add (pe_op op_mulW (pv 6) (pv 9)) (pe_op op_mulW (pv 8) (pv 7))) (pa_cons (pe_op op_mulW (pv 7) (pv 9)) pa_nil))) rfl)))))
    (pss_one (ps_ret (pe_callTy call_tupleF (by rfl) n_tuple (by decide +kernel) (pa_cons (pe_lc (tt := tTest (tOp rNe (tOp (rIxT K) (tDGetN P w K (tVar 3) (tVar 4)) (tC (.int 0))) (tC (.int 0)))) (te := tTup (tCons (tVar 4) (tCons (tDGetN P w K (tVar 3) (tVar 4)) tNil))) (own := [("_law_monomial_here", 4)]) rfl sc_Ladded.nd (pi_list (pe_sortM hr (by rfl) n_sorted (pv 3))) (blkOk_by (N := N_Ladded) (sc := defScope s_Ladded) (by decide +kernel)) (fun _ _ _ _ _ => (pg_name (i := 4) sc_Ladded.nd rfl (Or.inl rfl))) (fun _ _ _ _ _ => (pts_one (pt_cmpR op_ne (pe_ix ix_tup (pe_dgetN (hu9 hr) (pv 3) (pv 4) (fun _ _ => rfl)) pe_int (fun _ _ => rfl)) pe_int (nomark _)))) (fun _ _ _ _ _ => (pe_tup (pa_cons (pv 4) (pa_cons (pe_dgetN (hu9 hr) (pv 3) (pv 4) (fun _ _ => rfl)) pa_nil))))) pa_nil)))))), ?_⟩
  have bD : D < 2 ^ 4000 := Nat.lt_trans hD2 (Nat.pow_lt_pow_right (by decide) (by decide))
  have bN : N < 2 ^ 4000 := Nat.lt_trans hN2 (Nat.pow_lt_pow_right (by decide) (by decide))
  refine ps_dictN (ky := kyM K) (vp := rtP K) (zs := p) eB (p_var (i := 0) (σ := [some v0, some v1, some v2, none, none, none, none, none, none, none]) rfl h0) ndp fun d B2 H2 hd e2 A2 => ?_
  dsimp only
  refine ps_forD (fun j => addAll p ((scP q c).take j)) (fun j σ => ∃ a b e f g h, σ = [some v0, some v1, some v2, some (.ref d), a, b, e, f, g, h]) A2 ⟨_, _, _, _, _, _, rfl⟩ rfl ((TuP K (pqL K q)).m e2 h1) (fun j pr v' σ' B' H' hj e' hs A' pv F hF => ?_) fun σ' B' H' e' hs A' => ?_
  · obtain ⟨a4, a5, a6, a7, a8, a9, rfl⟩ := hs
    obtain ⟨t, ht, rfl⟩ := pq_at hj
    obtain ⟨w0, y1, y2, rfl, hq, m1, m2⟩ := tup2 pv A'.ex
    refine ⟨w0, _, rfl, hq, rfl, _, _, rfl, _, _, rfl, rfl, ?_⟩
    have htm := List.mem_of_getElem? ht
    have hjl : j < q.length := (List.getElem?_eq_some_iff.mp ht).1
    have slen : (scP q c).length = q.length := by unfold scP; rw [List.length_map]
    have len := addAll_len (l := (scP q c).take j) (zs := p)
    rw [List.length_take, slen] at len
    -- what stands there
    have GA := a_get2 (σ := [some v0, some v1, some v2, some (.ref d), some y1, some y2, a6, a7, a8, a9]) (ky := kyM K) (vp := rtP K) (f0 := 0) (k := t.1) (ty := tVar 4) (tx := tTup (tCons (tC (.int 0)) (tCons (tC (.int 1)) tNil))) (P := P) (w := w) (B := B) (H0 := H) (d := d) (zs := addAll p ((scP q c).take j)) (Bi := B') (i := 3) rfl (p_var (i := 4) rfl m1) (p_tup (K := K) (ps := [IsV (.int 0), IsV (.int 1)]) (q_cons p_c (q_cons p_c q_nil)) (by show 2 ≤ 100000; decide))
    dsimp only
    unfold tSeq
    unfold tAsg
    refine GA B' H' (Ex.refl B') A' _ fun v3 B3 H3 e3 A3 pv3 => ?_
    rw [val_co (addAll_nd ndp), addAll_co ndp] at pv3
    obtain ⟨w3, z1, z2, rfl, hq3, n1, n2⟩ := tup2 pv3 A3.ex
    obtain rfl : z1 = _ := n1
    obtain rfl : z2 = _ := n2
    refine ⟨w3, _, rfl, hq3, rfl, _, _, rfl, _, _, rfl, rfl, ?_⟩
    generalize hr : co (p ++ (scP q c).take j) t.1 = r at A3 ⊢
    have smr : Sm1 r := by
      have := (hl.pre j).co t.1
      rw [hr] at this
      obtain ⟨s1, s2⟩ := ab_small hD this.1
      exact ⟨Nat.lt_of_le_of_lt (Nat.le_trans s1 this.2) hN2, Nat.lt_of_le_of_lt s2 hD2⟩
    have m2' := (rtP K t.2).m e3 m2
    have h2' := (rtP K c).m (e2.trans (e'.trans e3)) h2
    obtain ⟨r1, r2⟩ := sm1_lg smr
    obtain ⟨t1, t2⟩ := sm1_lg (hq1 t htm)
    obtain ⟨c1, c2⟩ := sm1_lg hc1
    have far := mul_lg t1 c1
    have low := mul_lg t2 c2
    dsimp only
    refine (q_cons (p_ev (ev_mulW (k := 1000) (ev_top (K := K) (p_var (i := 5) (σ := [some v0, some v1, some v2, some (.ref d), some y1, some y2, some (.int (fr r).1), some (.int (fr r).2), a8, a9]) rfl m2')) (ev_top (K := K) (p_var (i := 2) rfl h2')) (lg t1) (lg c1))) (q_cons (p_ev (ev_mulW (k := 1000) (ev_bot (K := K) (p_var (i := 5) rfl m2')) (ev_bot (K := K) (p_var (i := 2) rfl h2')) (lg t2) (lg c2))) q_nil)) H3 A3.ex _ fun vs B4 H4 g4 al => ?_
    obtain ⟨u1, u2, rfl, k1, k2⟩ := all2 al
    obtain rfl : u1 = _ := k1
    obtain rfl : u2 = _ := k2
    have A4 := A3.step g4
    refine ⟨_, _, rfl, ?_⟩
    dsimp only
    have val := add_val r t.2 c
    refine ps_put (f := r + t.2 * c) rfl A4 (a_ev (p_callP (ps := [IsV _, IsV _]) (q_cons (p_ev (ev_addI (ev_mulW (k := 2000) (ev_var (i := 6) rfl) (ev_var (i := 9) rfl) (lg (Nat.lt_of_lt_of_le r1 (Nat.pow_le_pow_right (by decide) (by decide)))) (lg low)) (ev_mulW (k := 2000) (ev_var (i := 8) rfl) (ev_var (i := 7) rfl) (lg far) (lg (Nat.lt_of_lt_of_le r2 (Nat.pow_le_pow_right (by decide) (by decide))))))) (q_cons (p_ev (ev_mulW (k := 2000) (ev_var (i := 7) rfl) (ev_var (i := 9) rfl) (lg (Nat.lt_of_lt_of_le r2 (Nat.pow_le_pow_right (by decide) (by decide)))) (lg low))) q_nil)) ⟨_, _, ?_, ?_, rfl, by rw [val]⟩)) (p_var rfl ((moP K t.1).m (e3.trans g4.b) m1)) (by omega) fun B5 H5 e5 A5 => ?_
    · have := fr_pos r
      have := fr_pos t.2
      have := fr_pos c
      exact Int.mul_ne_zero (by omega) (Int.mul_ne_zero (by omega) (by omega))
    · exact Nat.lt_of_lt_of_le (mul_lg r2 low) (Nat.pow_le_pow_right (by decide) (by decide))
    · refine hF _ B5 H5 ⟨_, _, _, _, _, _, rfl⟩ (e3.trans (g4.b.trans e5)) ?_
      show DcAt P w (kyM K) (rtP K) B H d (addAll p ((scP q c).take (j + 1))) B5 H5
      rw [sc_take q c ht, addAll_app]
      have e9 : addAll (addAll p ((scP q c).take j)) [(t.1, t.2 * c)] = putG (addAll p ((scP q c).take j)) t.1 (r + t.2 * c) := by
        show addG _ _ _ = _
        unfold addG
        rw [addAll_co ndp, hr]
      rw [e9]
      exact A5
  · obtain ⟨a4, a5, a6, a7, a8, a9, rfl⟩ := hs
    have slen : (scP q c).length = q.length := by unfold scP; rw [List.length_map]
    have A' : DcAt P w (kyM K) (rtP K) B H d (addAll p ((scP q c).take (pqL K q).length)) B' H' := A'
    rw [show (pqL K q).length = (scP q c).length by rw [slen]; unfold pqL; rw [List.length_map], List.take_length] at A'
    obtain ⟨B5, g5, hP⟩ := A'.fin hd
    have nd := addAll_nd (l := scP q c) ndp
    have len := addAll_len (l := scP q c) (zs := p)
    generalize hZ : addAll p (scP q c) = Z at nd len hP
    have cfe : cf Z = addP p (scP q c) := by
      rw [← hZ]
      exact cf_ext fun k => addAll_co ndp k
    have main := p_lc (K := K) (g := gName 4) (tt := tTest (tOp rNe (tOp (rIxT K) (tDGetN P w K (tVar 3) (tVar 4)) (tC (.int 0))) (tC (.int 0)))) (te := tTup (tCons (tVar 4) (tCons (tDGetN P w K (tVar 3) (tVar 4)) tNil))) (vs := [4]) (σ := [some v0, some v1, some v2, some (.ref d), a4, a5, a6, a7, a8, a9]) (B := B5)
      (p_lq (p_sortM (P := P) (w := w) (ky := kyM K) (vp := rtP K) (zs := Z) (i := 3) rfl hP (AllAlike.of (enc := fun z : Mo × Rat => moD z.1) (bs := Z) fun u v => alike_mo u.1 v.1) (fun d hd => by obtain ⟨z, _, rfl⟩ := List.mem_map.mp hd; exact ⟨_, rfl⟩) (fun z _ => by have := deep_mo z.1; show (moD z.1).depth ≤ 50; omega)))
      (by rw [List.length_map]; unfold srtZ; rw [List.length_mergeSort, List.length_map]; omega)
      (fun i => ((srtZ (kyM K).kd (Z.map (·.1)))[i]?.map fun k => decide (co Z k ≠ 0)).getD false) (fun i => ((srtZ (kyM K).kd (Z.map (·.1)))[i]?.map fun k => TuP K [moP K k, rtP K (co Z k)]).getD (IsV .non)) fun i p v B1 hi e pv => ?_
    · rw [List.length_map, range_pick] at main
      have e9 : ((srtZ (kyM K).kd (Z.map (·.1))).filter fun k => decide (co Z k ≠ 0)).map (fun k => TuP K [moP K k, rtP K (co Z k)]) = (cf Z).map fun t => TuP K [moP K t.1, rtP K t.2] := by
        have h1 := keys_cf (kd := (kyM K).kd) (fun a b => rfl) nd
        rw [← h1, List.map_map]
        rfl
      rw [e9, cfe] at main
      exact My.ps_ret g5.c (p_tupOfF (p_lq main)) fun v B6 H6 g6 hp => k v B6 H6 (g5.trans g6) hp
    · rw [List.getElem?_map] at hi
      obtain ⟨m, hm, rfl⟩ := Option.map_eq_some_iff.mp hi
      have km : m ∈ Z.map (·.1) := (srtZ_perm _ _).mem_iff.mp (List.mem_of_getElem? hm)
      have hval : valG Z m = some (co Z m) := by
        have h1 := val_co nd m
        cases hv : valG Z m with
        | none =>
          have := val_no.mp hv
          rw [hasG_mem.mpr km] at this
          cases this
        | some f =>
          rw [hv] at h1
          rw [← h1]
          rfl
      have get : EvP (tDGetN P w K (tVar 3) (tVar 4)) [some v0, some v1, some v2, some (.ref d), some v, a5, a6, a7, a8, a9] B1 (rtP K (co Z m)) := p_getP (ky := kyM K) (vp := rtP K) rfl ((DcP P w (kyM K) _ _).m e hP) (p_var rfl pv) hval
      refine ⟨[some v0, some v1, some v2, some (.ref d), some v, a5, a6, a7, a8, a9], rfl, fun H2 Q e q => q, et_is (et_test (ev_op (ev_top get) (ev_c (v := .int 0)) (rv_ne rfl))) ?_, fun _ => ?_⟩
      · rw [hm]
        show (!decide (V.int (fr (co Z m)).1 = V.int 0)) = decide (co Z m ≠ 0)
        by_cases h : co Z m = 0
        · rw [h]
          rfl
        · have : (fr (co Z m)).1 ≠ 0 := fun e => h ((fr_num0 _).mp e)
          simp [h, this]
      · rw [hm]
        exact p_tup (K := K) (ps := [moP K m, rtP K (co Z m)]) (q_cons (p_var rfl pv) (q_cons get q_nil)) (by show 2 ≤ 100000; decide)

end
end K12
namespace Nd
set_option autoImplicit false
open PySem PySem.W L2 My Evl LamX NdefX
theorem lim_cfl {D N : Nat} {p q : Pq} (h : Lim D N (p ++ q)) : Lim D N (cf p ++ q) := by
  have hp : Lim D (wt D p) p := ⟨h.l.w, Nat.le_refl _⟩
  have hq : Lim D (wt D q) q := ⟨h.r.w, Nat.le_refl _⟩
  have := h.s
  rw [wt_app] at this
  exact (hp.cf.app hq).le this
theorem sm1_of {D N : Nat} {r : Rat} (hD : 0 < D) (hD2 : D < 2 ^ 1000) (hN : N < 2 ^ 1000) (h : Wh D r ∧ ab D r ≤ N) : Sm1 r := by
  obtain ⟨s1, s2⟩ := ab_small hD h.1
  exact ⟨Nat.lt_of_le_of_lt (Nat.le_trans s1 h.2) hN, Nat.lt_of_le_of_lt s2 hD2⟩
def rowQ (t : Mo × Rat) (q : Pq) : Pq := q.map fun s => (mm t.1 s.1, s.2)
theorem row_sc (t : Mo × Rat) (q : Pq) : scP (rowQ t q) t.2 = rowP t q := by
  unfold scP rowQ rowP
  rw [List.map_map]
  refine List.map_congr_left fun s _ => ?_
  show (mm t.1 s.1, s.2 * t.2) = (mm t.1 s.1, t.2 * s.2)
  rw [Rat.mul_comm]
def Rltimes (K : PySem.W.Frag) : List Pr → Pr → Prop := fun ps z => ∃ (D E N M : Nat) (p q : Pq), 0 < D ∧ 0 < E ∧ D < 2 ^ 1000 ∧ E < 2 ^ 1000 ∧ N < 2 ^ 1000 ∧ M < 2 ^ 1000 ∧ D * E < 2 ^ 1000 ∧ N * M < 2 ^ 1000 ∧ Lim D N p ∧ Lim E M q ∧
  (∀ t ∈ p, MoC t.1 ∧ t.1.length ≤ 1000) ∧ (∀ t ∈ q, MoC t.1 ∧ t.1.length ≤ 1000) ∧ p.length * q.length ≤ 40000 ∧ q.length ≤ 40000 ∧ ps = [poP K (toPo p), poP K (toPo q)] ∧ z = fpP K (mulP p q)
end Nd
namespace K12
set_option autoImplicit false
open PySem PySem.W L2 Evl My Nd LamX NdefX
section
variable {P : Program} {w : World} {K : PySem.W.Frag} {mg : Str → Option Value} {base : Heap} {T : List (Addr × Str)}

/-- _law_times -/
abbrev s_Ltimes : Stmt := topS 39
abbrev N_Ltimes : List Str := ["_law_one", "_law_other", "_law_found", "_law_monomial_here", "_law_number_here", "_law_row", "_law_far", "_law_own"]
theorem sc_Ltimes : FnScope N_Ltimes ["_law_one", "_law_other"] (defScope s_Ltimes) := ⟨rfl, rfl, rfl, by decide +kernel, rfl, by decide +kernel, by decide +kernel⟩
theorem ok_Ltimes {f : Addr} {fd : FuncData} (F : Fun K "_law_times" "_law_times" s_Ltimes f fd)  {f_Lmonomial : Addr} {d_Lmonomial : FuncData} (c_Lmonomial : Cal P w K mg base "_law_monomial" 1 ["_law_pairs"] (spP (Rlm K)) f_Lmonomial d_Lmonomial) {f_Ladded : Addr} {d_Ladded : FuncData} (c_Ladded : Cal P w K mg base "_law_added" 2 ["_law_one", "_law_other", "_law_number_here"] (spP (Radd K)) f_Ladded d_Ladded)   :
    FnOk P w K mg base CX0 3 f fd ["_law_one", "_law_other"] (spP (Rltimes K)) := by
  refine F.ok sc_Ltimes (spP_len (by rintro _ _ ⟨_, _, _, _, _, _, _, _, _, _, _, _, _, _, _, _, _, _, _, _, rfl, rfl⟩; rfl)) (fun cdv A outer s H vs Q E hr h => ?_)
  obtain ⟨B, ps, z, eB, hv, ⟨D, E', N, M, p, q, hD, hE, hD2, hE2, hN2, hM2, hDE, hNM, l1, l2, m1, m2, hn, hn2, rfl, rfl⟩, k⟩ := h
  obtain ⟨v0, v1, rfl, h0, h1⟩ := all2 hv
  have hu := hu_of hr
  refine ⟨_, (pss_cons (ps_set (i := 2) sc_Ltimes.nd rfl (by first | exact .inl rfl | exact .inr rfl) (pe_tupF pa_nil))
    (pss_cons (ps_for PassesOwn.never rfl (pi_tup (pv 0)) (pg_tup (by rfl) (pgs_cons (pg_name (i := 3) sc_Ltimes.nd rfl (by first | exact .inl rfl | exact .inr rfl)) (pgs_cons (pg_name (i := 4) sc_Ltimes.nd rfl (by first | exact .inl rfl | exact .inr rfl)) pgs_nil)))
      (pss_cons (ps_setLc (i := 5) (own := [("_law_far", 6), ("_law_own", 7)]) (g := (gTup K 2 (gCons (gName 6) (gCons (gName 7) gNil)))) rfl sc_Ltimes.nd rfl rfl (sw_true rfl rfl rfl (by decide +kernel)) (pi_tup (pv 1)) (blkOk_by (N := N_Ltimes) (sc := defScope s_Ltimes) (by decide +kernel)) (fun _ _ _ _ _ => (pg_tup (by rfl) (pgs_cons (pg_name (i := 6) sc_Ltimes.nd rfl (Or.inl rfl)) (pgs_cons (pg_name (i := 7) sc_Ltimes.nd rfl (Or.inl rfl)) pgs_nil)))) (fun _ _ _ _ _ => pts_nil) (fun _ _ _ _ _ => (pe_tup (pa_cons (pe_call c_Lmonomial.G (hr.mono (by decide)) (by rfl) c_Lmonomial.m c_Lmonomial.k c_Lmonomial.b .nil pass0 (pa_cons (pe_op (show OpR _ (binaryOp .Add) (rCatA K) from op_catA) (pv 3) (pv 6)) pa_nil)) (pa_cons (pv 7) pa_nil)))))
    (pss_one (ps_set (i := 2) sc_Ltimes.nd rfl (by first | exact .inl rfl | exact .inr rfl) (pe_call c_Ladded.G (hr.mono (by decide)) (by rfl) c_Ladded.m c_Ladded.k c_Ladded.b .nil pass0 (pa_cons (pv 2) (pa_cons (pv 5) (pa_cons (pv 4) pa_nil))))))))
    (pss_one (ps_ret (pv 2))))), ?_⟩
  have lm := lim_mul l1 l2
  have ln := mulR_len p q
  have wlt : ∀ {n : Nat}, n ≤ 2 ^ 1000 → n ≤ 2 ^ 1000 := fun h => h
  refine My.ps_asg eB (p_tupFu q_nil (by show 0 ≤ 100000; decide)) fun v2 B2 H2 g2 h2 => ?_
  dsimp only
  refine ps_forX (fun j σ' B' H' => Gr B H B' H' ∧ Ex B2 B' ∧ ∃ vf a b c e f, σ' = [some v0, some v1, some vf, a, b, c, e, f] ∧ (fpP K (cf (mulR (p.take j) q))).P vf B') (fun j σ' B' H' h => h.1.c) ⟨g2, Ex.refl B2, v2, none, none, none, none, none, rfl, h2⟩ (i := 0) rfl ((poP K (toPo p)).m g2.b h0) (fun i z v' σ' B' H' hi e' hs pv F hF => ?_) fun σ' B' H' e' hs => ?_
  · obtain ⟨g, e2, vf, a, b, c, e, f, rfl, hf⟩ := hs
    obtain ⟨t, ht, rfl⟩ := po_at hi
    obtain ⟨w0, y1, y2, rfl, hq, n1, n2⟩ := tup2 pv g.c
    refine ⟨w0, _, rfl, hq, rfl, _, _, rfl, _, _, rfl, rfl, ?_⟩
    have htm := List.mem_of_getElem? ht
    obtain ⟨c1, c2⟩ := m1 t htm
    -- the row
    have row : EvP (tLc (iTup K (tVar 1)) (gTup K 2 (gCons (gName 6) (gCons (gName 7) gNil))) tYes (tTup (tCons (tCall (spP (Rlm K)) [] E0 (tCons (tOp (rCatA K) (tVar 3) (tVar 6)) tNil)) (tCons (tVar 7) tNil))) [6, 7]) [some v0, some v1, some vf, some y1, some y2, c, e, f] B' (LsP (pqL K (rowQ t q))) := by
      have := p_lcSM (g := gTup K 2 (gCons (gName 6) (gCons (gName 7) gNil))) (te := tTup (tCons (tCall (spP (Rlm K)) [] E0 (tCons (tOp (rCatA K) (tVar 3) (tVar 6)) tNil)) (tCons (tVar 7) tNil))) (vs := [6, 7]) (src_tu (p_var (i := 1) (σ := [some v0, some v1, some vf, some y1, some y2, c, e, f]) rfl ((poP K (toPo q)).m (g2.b.trans e2) h1))) (by rw [po_len]; omega) (fun i => ((rowQ t q)[i]?.map fun s => TuP K [moP K s.1, rtP K s.2]).getD (IsV .non)) fun i v B1 hi e pv => ?_
      · have e1 : ((toPo q).map (tmP K)).length = (rowQ t q).length := by
          rw [po_len]
          unfold rowQ
          rw [List.length_map]
        rw [e1, range_all] at this
        exact this
      · rw [po_len] at hi
        have hj : ((toPo q).map (tmP K))[i]? = some (TuP K [moP K q[i].1, rtP K q[i].2]) := by
          unfold toPo
          rw [List.map_map, List.getElem?_map, List.getElem?_eq_getElem hi]
          rfl
        rw [List.getD_eq_getElem?_getD, hj] at pv
        obtain ⟨a1, x1, x2, rfl, hq2, r1, r2⟩ := tup2 pv (Ex.refl B1)
        have hr : ((rowQ t q)[i]?.map fun s => TuP K [moP K s.1, rtP K s.2]).getD (IsV .non) = TuP K [moP K (mm t.1 q[i].1), rtP K q[i].2] := by
          unfold rowQ
          rw [List.getElem?_map, List.getElem?_eq_getElem hi]
          rfl
        obtain ⟨c3, c4⟩ := m2 q[i] (List.getElem_mem hi)
        refine ⟨[some v0, some v1, some vf, some y1, some y2, c, some x1, some x2], rfl, fun H2 Q e q => ⟨a1, _, rfl, ex_t e hq2, rfl, _, _, rfl, _, _, rfl, rfl, q⟩, ?_⟩
        rw [hr]
        refine p_tup (K := K) (ps := [moP K (mm t.1 q[i].1), rtP K q[i].2]) (q_cons (p_callP (ps := [moP K (t.1 ++ q[i].1)]) (q_cons ?_ q_nil) ⟨t.1 ++ q[i].1, fun u => ?_, by rw [List.length_append]; omega, rfl, rfl⟩) (q_cons (p_var rfl r2) q_nil)) (by show 2 ≤ 100000; decide)
        · have := p_catU (K := K) (σ := [some v0, some v1, some vf, some y1, some y2, c, some x1, some x2]) (p_var (i := 3) rfl ((moP K t.1).m e n1)) (p_var (i := 6) rfl r1) (by rw [List.length_map, List.length_map]; omega)
          rw [← List.map_append] at this
          exact this
        · rw [co_app]
          have h1 := co_nn (fun x hx => Int.le_of_lt (c1.p x hx)) u
          have h2 := co_nn (fun x hx => Int.le_of_lt (c3.p x hx)) u
          omega
    refine My.ps_asg g.c row fun v5 B5 H5 g5 h5 => ?_
    dsimp only
    have il : i < p.length := (List.getElem?_eq_some_iff.mp ht).1
    have emul : mulR p q = mulR (p.take (i + 1)) q ++ mulR (p.drop (i + 1)) q := mul_pre p q (i + 1)
    rw [mul_take ht] at emul
    rw [emul] at lm
    have lrow := lim_cfl lm.l
    have len1 := cf_len (mulR (p.take i) q)
    rw [mulR_len, List.length_take] at len1
    have rl : (rowQ t q).length = q.length := by unfold rowQ; rw [List.length_map]
    have len2 : (min i p.length + 1) * q.length ≤ p.length * q.length := Nat.mul_le_mul_right _ (by omega)
    rw [Nat.add_mul, Nat.one_mul] at len2
    have hadd : Radd K [fpP K (cf (mulR (p.take i) q)), LqP K (pqL K (rowQ t q)), rtP K t.2] (fpP K (cf (mulR (p.take (i + 1)) q))) := by
      refine ⟨D * E', N * M, cf (mulR (p.take i) q), rowQ t q, t.2, Nat.mul_pos hD hE, hDE, hNM, ?_, fun s hs => ?_, sm1_of hD hD2 hN2 (l1.at htm), (cn_cf _).nd, by omega, rfl, ?_⟩
      · rw [row_sc]
        exact lrow
      · unfold rowQ at hs
        obtain ⟨s', hs', rfl⟩ := List.mem_map.mp hs
        have := sm1_of hE hE2 hM2 (l2.at (t := s') hs')
        exact this
      · rw [row_sc, mul_take ht]
        unfold addP
        rw [cf_app]
    refine My.ps_asg g5.c (p_callP (ps := [fpP K (cf (mulR (p.take i) q)), LqP K (pqL K (rowQ t q)), rtP K t.2]) (q_cons (p_var rfl ((fpP K _).m g5.b hf)) (q_cons (p_lq (p_var rfl h5)) (q_cons (p_var rfl ((rtP K t.2).m g5.b n2)) q_nil))) hadd) fun v6 B6 H6 g6 h6 => ?_
    exact hF _ B6 H6 (g5.b.trans g6.b) ⟨(g.trans g5).trans g6, (e2.trans g5.b).trans g6.b, v6, _, _, _, _, _, rfl, h6⟩
  · obtain ⟨g, e2, vf, a, b, c, e, f, rfl, hf⟩ := hs
    rw [po_len, List.take_length] at hf
    dsimp only
    exact My.ps_ret g.c (p_var rfl hf) fun v B6 H6 g6 hp => k v B6 H6 (g.trans g6) hp

end
end K12
namespace Nd
set_option autoImplicit false
open PySem PySem.W L2 My Evl LamX NdefX
def Rlder (K : PySem.W.Frag) : List Pr → Pr → Prop := fun ps z => ∃ (D N g : Nat) (p : Pq) (x : Bool), 0 < D ∧ D < 2 ^ 1000 ∧ N < 2 ^ 1000 ∧ N * g < 2 ^ 1000 ∧ g ≤ 1000 ∧ Lim D N p ∧ (∀ t ∈ p, MoC t.1 ∧ dg t.1 ≤ g ∧ t.1.length ≤ 1000) ∧ (derR p x).length ≤ 40000 ∧
  ps = [poP K (toPo p), IsV (.str (axS x))] ∧ z = fpP K (derP p x)
theorem mo_ix {K : PySem.W.Frag} {m : Mo} {j : Nat} {p : Pr} (h : (m.map (pwP K))[j]? = some p) : ∃ y, m[j]? = some y ∧ p = TuP K [DvP y.1, IsV (.int y.2)] := by
  rw [List.getElem?_map] at h
  obtain ⟨y, hy, rfl⟩ := Option.map_eq_some_iff.mp h
  exact ⟨y, hy, rfl⟩
theorem axS_dec (x : Bool) : decide (V.str (axS x) = V.str "x") = x := by
  cases x
  · decide +kernel
  · decide +kernel
end Nd
namespace K12
set_option autoImplicit false
open PySem PySem.W L2 Evl My Nd LamX NdefX
section
variable {P : Program} {w : World} {K : PySem.W.Frag} {mg : Str → Option Value} {base : Heap} {T : List (Addr × Str)}


/-- _law_derived -/
abbrev s_Lderived : Stmt := topS 40
abbrev N_Lderived : List Str := ["_law_one", "_law_axis", "_law_found", "_law_monomial_here", "_law_number_here", "_law_derivative_here", "_law_rise", "_law_name", "_law_i", "_law_j", "_law_more", "_law_own"]
theorem sc_Lderived : FnScope N_Lderived ["_law_one", "_law_axis"] (defScope s_Lderived) := ⟨rfl, rfl, rfl, by decide +kernel, rfl, by decide +kernel, by decide +kernel⟩
theorem ok_Lderived {f : Addr} {fd : FuncData} (F : Fun K "_law_derived" "_law_derived" s_Lderived f fd)  {f_Lmonomial : Addr} {d_Lmonomial : FuncData} (c_Lmonomial : Cal P w K mg base "_law_monomial" 1 ["_law_pairs"] (spP (Rlm K)) f_Lmonomial d_Lmonomial) {f_Ladded : Addr} {d_Ladded : FuncData} (c_Ladded : Cal P w K mg base "_law_added" 2 ["_law_one", "_law_other", "_law_number_here"] (spP (Radd K)) f_Ladded d_Ladded)   :
    FnOk P w K mg base CX0 3 f fd ["_law_one", "_law_axis"] (spP (Rlder K)) := by
  refine F.ok sc_Lderived (spP_len (by rintro _ _ ⟨_, _, _, _, _, _, _, _, _, _, _, _, _, rfl, rfl⟩; rfl)) (fun cdv A outer s H vs Q E hr h => ?_)
  obtain ⟨B, ps, z, eB, hv, ⟨D, N, d, p, x, hD, hD2, hN2, hNg, hg, l1, m1, hn, rfl, rfl⟩, k⟩ := h
  obtain ⟨v0, v1, rfl, h0, h1⟩ := all2 hv
  obtain rfl : v1 = _ := h1
  have hu := hu_of hr
  refine ⟨_, (pss_cons (ps_set (i := 2) sc_Lderived.nd rfl (by first | exact .inl rfl | exact .inr rfl) (pe_tupF pa_nil))
    (pss_cons (ps_for PassesOwn.never rfl (pi_tup (pv 0)) (pg_tup (by rfl) (pgs_cons (pg_name (i := 3) sc_Lderived.nd rfl (by first | exact .inl rfl | exact .inr rfl)) (pgs_cons (pg_name (i := 4) sc_Lderived.nd rfl (by first | exact .inl rfl | exact .inr rfl)) pgs_nil)))
      (pss_one (ps_for PassesOwn.never rfl (pi_tup (pv 3)) (pg_tup (by rfl) (pgs_cons (pg_name (i := 5) sc_Lderived.nd rfl (by first | exact .inl rfl | exact .inr rfl)) (pgs_cons (pg_name (i := 6) sc_Lderived.nd rfl (by first | exact .inl rfl | exact .inr rfl)) pgs_nil)))
      (pss_cons (ps_asg (pv 5) (pg_tup (by rfl) (pgs_cons (pg_name (i := 7) sc_Lderived.nd rfl (by first | exact .inl rfl | exact .inr rfl)) (pgs_cons (pg_name (i := 8) sc_Lderived.nd rfl (by first | exact .inl rfl | exact .inr rfl)) (pgs_cons (pg_name (i := 9) sc_Lderived.nd rfl (by first | exact .inl rfl | exact .inr rfl)) pgs_nil)))))
    (pss_cons (ps_set (i := 10) sc_Lderived.nd rfl (by first | exact .inl rfl | exact .inr rfl) (pe_ifExp (pt_cmpR op_eq (pv 1) pe_str (nomark _)) (pe_tup (pa_cons (pv 7) (pa_cons (pe_op op_add (pv 8) pe_int) (pa_cons (pv 9) pa_nil)))) (pe_tup (pa_cons (pv 7) (pa_cons (pv 8) (pa_cons (pe_op op_add (pv 9) pe_int) pa_nil))))))
    (pss_cons (ps_set (i := 11) sc_Lderived.nd rfl (by first | exact .inl rfl | exact .inr rfl) (pe_call c_Lmonomial.G (hr.mono (by decide)) (by rfl) c_Lmonomial.m c_Lmonomial.k c_Lmonomial.b .nil pass0 (pa_cons (pe_op op_catA (pv 3) (pe_tup (pa_cons (pe_tup (pa_cons (pv 5) (pa_cons (pe_un un_neg pe_int) pa_nil))) (pa_cons (pe_tup (pa_cons (pv 10) (pa_cons pe_int pa_nil))) pa_nil)))) pa_nil)))
    (pss_one (ps_set (i := 2) sc_Lderived.nd rfl (by first | exact .inl rfl | exact .inr rfl) (pe_call c_Ladded.G (hr.mono (by decide)) (by rfl) c_Ladded.m c_Ladded.k c_Ladded.b .nil pass0 (pa_cons (pv 2) (pa_cons (pe_lst (pa_cons (pe_tup (pa_cons (pv 11) (pa_cons (pv 4) pa_nil))) pa_nil)) (pa_cons (pe_tup (pa_cons (pv 6) (pa_cons pe_int pa_nil))) pa_nil))))))))))))
    (pss_one (ps_ret (pv 2))))), ?_⟩
  have lm := lim_derR l1 x (fun t ht => (m1 t ht).2.1)
  refine My.ps_asg eB (p_tupFu q_nil (by show 0 ≤ 100000; decide)) fun v2 B2 H2 g2 h2 => ?_
  dsimp only
  refine ps_forX (fun j σ' B' H' => Gr B H B' H' ∧ Ex B2 B' ∧ ∃ vf a b c e f g h i j', σ' = [some v0, some (.str (axS x)), some vf, a, b, c, e, f, g, h, i, j'] ∧ (fpP K (cf (derR (p.take j) x))).P vf B') (fun j σ' B' H' h => h.1.c) ⟨g2, Ex.refl B2, v2, none, none, none, none, none, none, none, none, none, rfl, h2⟩ (i := 0) rfl ((poP K (toPo p)).m g2.b h0) (fun i z v' σ' B' H' hi e' hs pv F hF => ?_) fun σ' B' H' e' hs => ?_
  · obtain ⟨g, e2, vf, a3, a4, a5, a6, a7, a8, a9, a10, a11, rfl, hf⟩ := hs
    obtain ⟨t, ht, rfl⟩ := po_at hi
    obtain ⟨w0, y1, y2, rfl, hq, n1, n2⟩ := tup2 pv g.c
    refine ⟨w0, _, rfl, hq, rfl, _, _, rfl, _, _, rfl, rfl, ?_⟩
    have htm := List.mem_of_getElem? ht
    obtain ⟨c1, c2, c3⟩ := m1 t htm
    refine ps_forX (fun j σ' B3 H' => Gr B H B3 H' ∧ Ex B' B3 ∧ ∃ vf c e f g h i' j', σ' = [some v0, some (.str (axS x)), some vf, some y1, some y2, c, e, f, g, h, i', j'] ∧ (fpP K (cf (derR (p.take i) x ++ (derT t x).take j))).P vf B3) (fun j σ' B' H' h => h.1.c) ⟨g, Ex.refl B', vf, a5, a6, a7, a8, a9, a10, a11, rfl, by rw [List.take_zero, List.append_nil]; exact hf⟩ (i := 3) rfl n1 (fun j z v' σ' B3 H3 hj e3 hs pv F2 hF2 => ?_) fun σ' B3 H3 e3 hs => ?_
    · obtain ⟨g3, e4, vf, b5, b6, b7, b8, b9, b10, b11, rfl, hf⟩ := hs
      obtain ⟨y, hy, rfl⟩ := mo_ix hj
      obtain ⟨w1, x1, x2, rfl, hq2, r1, r2⟩ := tup2 pv g3.c
      obtain rfl : x2 = _ := r2
      refine ⟨w1, _, rfl, hq2, rfl, _, _, rfl, _, _, rfl, rfl, ?_⟩
      have hym := List.mem_of_getElem? hy
      have yd := dg_at hym
      refine ps_unD (K := K) g3.c (p_var rfl r1) fun B5 H5 g5 => ?_
      dsimp only
      have tst := et_test (σ := [some v0, some (.str (axS x)), some vf, some y1, some y2, some x1, some (.int y.2), some (.str y.1.n), some (.int y.1.i), some (.int y.1.j), b10, b11]) (H := B5) (ev_op (ev_var (i := 1) rfl) (ev_c (v := .str "x")) (rv_eq rfl))
      refine My.ps_asg g5.c (ed_if (p := DvP (upD y.1 x)) (b := x) (et_is tst (axS_dec x)) (fun hx => ?_) fun hx => ?_) fun v10 B6 H6 g6 h10 => ?_
      · subst hx
        exact p_dv (u := upD y.1 true) rfl rfl rfl (q_cons (p_varV rfl) (q_cons (p_ev (ev_addI (ev_var rfl) ev_c)) (q_cons (p_varV rfl) q_nil)))
      · subst hx
        exact p_dv (u := upD y.1 false) rfl rfl rfl (q_cons (p_varV rfl) (q_cons (p_varV rfl) (q_cons (p_ev (ev_addI (ev_var rfl) ev_c)) q_nil)))
      dsimp only
      have n1' := (moP K t.1).m (e4.trans (g5.b.trans g6.b)) n1
      have n2' := (rtP K t.2).m (e4.trans (g5.b.trans g6.b)) n2
      have r1' := (DvP y.1).m (g5.b.trans g6.b) r1
      have own : EvP (tCall (spP (Rlm K)) [] E0 (tCons (tOp (rCatA K) (tVar 3) (tTup (tCons (tTup (tCons (tVar 5) (tCons (tUn (rU fun i => .int (-i)) (tC (.int 1))) tNil))) (tCons (tTup (tCons (tVar 10) (tCons (tC (.int 1)) tNil))) tNil)))) tNil)) [some v0, some (.str (axS x)), some vf, some y1, some y2, some x1, some (.int y.2), some (.str y.1.n), some (.int y.1.i), some (.int y.1.j), some v10, b11] B6 (moP K (dMo t.1 y.1 x)) := by
        refine p_callP (ps := [moP K (t.1 ++ [(y.1, -1), (upD y.1 x, 1)])]) (q_cons ?_ q_nil) ⟨t.1 ++ [(y.1, -1), (upD y.1 x, 1)], fun u => ?_, by rw [List.length_append]; show _ + 2 ≤ _; omega, rfl, rfl⟩
        · have := p_catU (K := K) (σ := [some v0, some (.str (axS x)), some vf, some y1, some y2, some x1, some (.int y.2), some (.str y.1.n), some (.int y.1.i), some (.int y.1.j), some v10, b11]) (p_var (i := 3) rfl n1') (p_tup (K := K) (ps := [TuP K [DvP y.1, IsV (.int (-1))], TuP K [DvP (upD y.1 x), IsV (.int 1)]]) (q_cons (p_tup (K := K) (q_cons (p_var (i := 5) rfl r1') (q_cons (p_ev (ev_un ev_c ru_neg)) q_nil)) (by show 2 ≤ 100000; decide)) (q_cons (p_tup (K := K) (q_cons (p_var (i := 10) rfl h10) (q_cons p_c q_nil)) (by show 2 ≤ 100000; decide)) q_nil)) (by show 2 ≤ 100000; decide)) (by rw [List.length_map]; show _ + 2 ≤ _; omega)
          have e : ((t.1 ++ [(y.1, -1), (upD y.1 x, 1)]).map (pwP K)) = t.1.map (pwP K) ++ [TuP K [DvP y.1, IsV (.int (-1))], TuP K [DvP (upD y.1 x), IsV (.int 1)]] := by
            rw [List.map_append]
            rfl
          unfold moP
          rw [e]
          exact this
        · have h1 := co_nn (fun z hz => Int.le_of_lt (c1.p z hz)) u
          have h2 := c1.p y hym
          have h3 := co_one c1.c.nd hym
          rw [co_app, co_pair]
          by_cases e : y.1 = u
          · rw [← e, h3, if_pos rfl]
            split <;> omega
          · rw [if_neg e]
            split <;> omega
      refine My.ps_asg g6.c own fun v11 B7 H7 g7 h11 => ?_
      dsimp only
      obtain ⟨rest, hr⟩ := der_part (x := x) ht (j + 1)
      have erow : (derT t x).take (j + 1) = (derT t x).take j ++ [(dMo t.1 y.1 x, t.2 * (y.2 : Rat))] := by
        rw [List.take_add_one]
        unfold derT
        rw [List.getElem?_map, hy]
        rfl
      rw [erow, ← List.append_assoc] at hr
      rw [hr] at lm hn
      have len1 := cf_len (derR (p.take i) x ++ (derT t x).take j)
      simp only [List.length_append, List.length_cons, List.length_nil] at hn len1
      have hadd : Radd K [fpP K (cf (derR (p.take i) x ++ (derT t x).take j)), LqP K (pqL K [(dMo t.1 y.1 x, t.2)]), rtP K ((y.2 : Int) : Rat)] (fpP K (cf (derR (p.take i) x ++ (derT t x).take (j + 1)))) := by
        refine ⟨D, N * d, cf (derR (p.take i) x ++ (derT t x).take j), [(dMo t.1 y.1 x, t.2)], _, hD, hD2, hNg, lim_cfl lm.l, fun s hs => ?_, ⟨?_, ?_⟩, (cn_cf _).nd, by show _ + 1 ≤ _; omega, rfl, ?_⟩
        · rw [List.mem_singleton.mp hs]
          have := sm1_of hD hD2 hN2 (l1.at (t := t) htm)
          exact this
        · show y.2.natAbs < 2 ^ 1000
          exact Nat.lt_of_le_of_lt (Nat.le_trans yd (Nat.le_trans c2 hg)) (by decide +kernel)
        · show 1 < 2 ^ 1000
          decide +kernel
        · unfold addP
          rw [cf_app, erow, List.append_assoc]
          rfl
      refine My.ps_asg g7.c (p_callP (ps := [fpP K (cf (derR (p.take i) x ++ (derT t x).take j)), LqP K (pqL K [(dMo t.1 y.1 x, t.2)]), rtP K ((y.2 : Int) : Rat)]) (q_cons (p_var rfl ((fpP K _).m (g5.b.trans (g6.b.trans g7.b)) hf)) (q_cons (p_lq (p_lst (ps := pqL K [(dMo t.1 y.1 x, t.2)]) (q_cons (p_tup (K := K) (q_cons (p_var rfl h11) (q_cons (p_var rfl ((rtP K t.2).m g7.b n2')) q_nil)) (by show 2 ≤ 100000; decide)) q_nil) (by show 1 ≤ 100000; decide))) (q_cons (p_tup (K := K) (ps := [IsV (.int y.2), IsV (.int 1)]) (q_cons (p_varV rfl) (q_cons p_c q_nil)) (by show 2 ≤ 100000; decide)) q_nil))) hadd) fun v6 B8 H8 g8 h8 => ?_
      exact hF2 _ B8 H8 (g5.b.trans (g6.b.trans (g7.b.trans g8.b))) ⟨(((g3.trans g5).trans g6).trans g7).trans g8, (((e4.trans g5.b).trans g6.b).trans g7.b).trans g8.b, v6, _, _, _, _, _, _, _, rfl, h8⟩
    · obtain ⟨g3, e4, vf, b5, b6, b7, b8, b9, b10, b11, rfl, hf⟩ := hs
      refine hF _ B3 H3 e4 ⟨g3, e2.trans e4, vf, _, _, _, _, _, _, _, _, _, rfl, ?_⟩
      rw [List.length_map] at hf
      have : (derT t x).take t.1.length = derT t x := List.take_of_length_le (by unfold derT; rw [List.length_map]; exact Nat.le_refl _)
      rw [this, ← der_take ht] at hf
      exact hf
  · obtain ⟨g, e2, vf, a3, a4, a5, a6, a7, a8, a9, a10, a11, rfl, hf⟩ := hs
    rw [po_len, List.take_length] at hf
    dsimp only
    exact My.ps_ret g.c (p_var rfl hf) fun v B6 H6 g6 hp => k v B6 H6 (g.trans g6) hp

end
end K12
namespace Nd
set_option autoImplicit false
open PySem PySem.W L2 My Evl LamX NdefX
theorem dg_cons (y : Dv × Int) (m : Mo) : dg (y :: m) = y.2.natAbs + dg m := by
  unfold dg
  rw [List.map_cons, List.sum_cons]
theorem dg_ins (k : Dv) (v : Int) : ∀ l : Mo, dg (ins k v l) ≤ v.natAbs + dg l
  | [] => by
    unfold ins
    split
    · exact Nat.zero_le _
    · exact Nat.le_refl _
  | y :: l => by
    unfold ins
    split
    · split
      · rw [dg_cons]
        omega
      · rw [dg_cons, dg_cons]
        show (y.2 + v).natAbs + dg l ≤ _
        omega
    · split
      · split
        · omega
        · rw [dg_cons]
          exact Nat.le_refl _
      · rw [dg_cons, dg_cons]
        have := dg_ins k v l
        omega
theorem dg_cf : ∀ l : Mo, dg (cf l) ≤ dg l
  | [] => Nat.le_refl _
  | y :: l => by
    show dg (ins y.1 y.2 (cf l)) ≤ _
    have h1 := dg_ins y.1 y.2 (cf l)
    have h2 := dg_cf l
    rw [dg_cons]
    omega
theorem dg_app (l m : Mo) : dg (l ++ m) = dg l + dg m := by
  unfold dg
  rw [List.map_append, List.sum_append]
/-- the law's numbers -/
def NumOk (r : Rat) : Prop := r ≠ 0 ∧ Wh 6 r ∧ ab 6 r ≤ 30
theorem num_all : ∀ t ∈ [1, -1, 2, -2, 3, 1, (5 : Int)], ∀ b ∈ [1, 1, 1, 2, (3 : Int)], Rat.divInt t b ≠ 0 ∧ Rat.divInt t b * (((6 : Nat) : Int) : Rat) = ((t * (6 / b) : Int) : Rat) ∧ (t * (6 / b)).natAbs ≤ 30 := by decide +kernel
theorem num_ok {t b : Int} (ht : t ∈ [1, -1, 2, -2, 3, 1, (5 : Int)]) (hb : b ∈ [1, 1, 1, 2, (3 : Int)]) : NumOk (Rat.divInt t b) := by
  obtain ⟨h1, h2, h3⟩ := num_all t ht b hb
  exact ⟨h1, ⟨_, h2⟩, by rw [ab_of h2]; exact h3⟩
/-- the law's polynomials -/
structure LP (r : Rk) (n : Nat) (p : Pq) : Prop where
  c : PoC p
  of : ∀ t ∈ p, ∀ y ∈ t.1, y.1.Of r
  dg : ∀ t ∈ p, Nd.dg t.1 ≤ 3
  ln : p.length ≤ n
  lm : Lim 6 (30 * n) p
  o : ∀ t ∈ p, ∀ y ∈ t.1, y.1.i + y.1.j ≤ 3
theorem lp_nil {r : Rk} : LP r 0 [] := ⟨poc_nil, fun _ h => absurd h List.not_mem_nil, fun _ h => absurd h List.not_mem_nil, Nat.le_refl _, Lim.nil, fun _ h => absurd h List.not_mem_nil⟩
def onesL (us : List Dv) : Mo := us.map fun u => (u, 1)
theorem dg_ones : ∀ us : List Dv, dg (onesL us) = us.length
  | [] => rfl
  | u :: us => by
    show dg ((u, 1) :: onesL us) = _
    rw [dg_cons, dg_ones us, List.length_cons]
    show (1 : Int).natAbs + _ = _
    omega
theorem co_ones (us : List Dv) (u : Dv) : 0 ≤ co (onesL us) u := co_nn (fun x hx => by
  obtain ⟨v, _, rfl⟩ := List.mem_map.mp hx
  exact (by decide : (0 : Int) ≤ 1)) u
theorem LP.add {r : Rk} {n : Nat} {p : Pq} (h : LP r n p) {us : List Dv} (hu : ∀ u ∈ us, Dv.Of u r ∧ u.i + u.j ≤ 3) (hl : us.length ≤ 3) {s : Rat} (hs : NumOk s) : LP r (n + 1) (addP p [(cf (onesL us), s)]) := by
  have one : PoC [(cf (onesL us), s)] := ⟨⟨List.pairwise_singleton _ _, fun z hz => by rw [List.mem_singleton.mp hz]; exact hs.1⟩, fun t ht => by rw [List.mem_singleton.mp ht]; exact moc_cf (co_ones us)⟩
  have key : ∀ t ∈ addP p [(cf (onesL us), s)], t.1 = cf (onesL us) ∨ ∃ z ∈ p, z.1 = t.1 := fun t ht => by
    have := cf_key ht
    rw [List.map_append, List.mem_append] at this
    rcases this with h1 | h1
    · obtain ⟨z, hz, e⟩ := List.mem_map.mp h1
      exact .inr ⟨z, hz, e⟩
    · exact .inl (List.mem_singleton.mp h1)
  refine ⟨poc_add h.c one, fun t ht y hy => ?_, fun t ht => ?_, Nat.le_trans (addP_len _ _) (Nat.add_le_add_right h.ln 1), ?_, fun t ht y hy => ?_⟩
  · rcases key t ht with e | ⟨z, hz, e⟩
    · rw [e] at hy
      have := cf_key hy
      obtain ⟨x, hx, e2⟩ := List.mem_map.mp this
      obtain ⟨u, hu', rfl⟩ := List.mem_map.mp hx
      rw [← e2]
      exact (hu u hu').1
    · exact h.of z hz y (e ▸ hy)
  · rcases key t ht with e | ⟨z, hz, e⟩
    · rw [e]
      have := dg_cf (onesL us)
      rw [dg_ones] at this
      omega
    · rw [← e]
      exact h.dg z hz
  · have l1 : Lim 6 30 [(cf (onesL us), s)] := ⟨fun t ht => by rw [List.mem_singleton.mp ht]; exact hs.2.1, by rw [wt_cons]; show ab 6 s + 0 ≤ 30; have := hs.2.2; omega⟩
    exact ((h.lm.app l1).cf).le (by omega)
  · rcases key t ht with e | ⟨z, hz, e⟩
    · rw [e] at hy
      have := cf_key hy
      obtain ⟨x, hx, e2⟩ := List.mem_map.mp this
      obtain ⟨u, hu', rfl⟩ := List.mem_map.mp hx
      rw [← e2]
      exact (hu u hu').2
    · exact h.o z hz y (e ▸ hy)
end Nd
namespace K12
set_option autoImplicit false
open PySem PySem.W L2 Evl My Nd LamX NdefX
section
variable {T : List (Addr × Str)} {d : Addr} {n m : Nat} {B H B1 H1 B2 H2 : Hp}
theorem GX.gd (g : GrD d B H B1 H1) : GX d B H B1 H1 := ⟨fun b o n e _ => g.s b o n e, g.b, fun x o _ hb hh _ => g.f x hb (by rw [hh]; exact fun z => nomatch z)⟩
theorem Kx.gd (k : Kx T d n B H) (g : GrD d B H B1 H1) (hd : DSt H1 d m) : Kx T d m B1 H1 := by
  have kk := k.sb g.s hd
  exact ⟨g.c, g.n k.nt, kk.t, g.d, hd⟩
theorem GX.lst {D : Addr} {o : HO} (g : GX d B H B1 H1) (hD : H D = none) : GX d B H B1 (upd H1 D o) := ⟨fun b u n e z => by
  by_cases h : b = D
  · subst h
    rw [hD] at e
    cases e
  · rw [upd_ne h]
    exact g.a b u n e z, g.b, g.f⟩
theorem x_der {σ : L2.St} {i0 i1 i2 i3 hi : Nat} {r : Rk} {vn : V} {Q : VK} (k : Kx T d n B H) (h0 : σ[i0]? = some (some (.ref d))) (h1 : σ[i1]? = some (some vn)) (h2 : σ[i2]? = some (some (.int (r.axs.length : Nat)))) (h3 : σ[i3]? = some (some (.int (hi : Nat)))) (hhi : hi ≤ 20) (ok : r.Ok) (hN : (LstP r.ns).P vn B) (hn : n ≤ 2 ^ 36)
    (q : ∀ (u : Dv) B' H' v, u.Of r → u.i + u.j ≤ hi → Kx T d (n + 20) B' H' → GX d B H B' H' → (DvP u).P v B' → Q v H') : tCall spDer [] E0 (tCons (tVar i0) (tCons (tVar i1) (tCons (tVar i2) (tCons (tVar i3) tNil)))) σ H Q :=
  ⟨_, h0, _, h1, _, h2, _, h3, B, d, n, hi, r, vn, rfl, hhi, ok, hN, k.e, k.z, k.s, hn, fun u B' H' v hu hh g hd hv => q u B' H' v hu hh (k.gd g hd) (GX.gd g) hv⟩
theorem x_pickI {K : PySem.W.Frag} {ks : List Int} {ta : TA} {σ : L2.St} {i : Nat} {z : Int} {Q : VK} (k : Kx T d n B H) (hl : EvPs ta σ B (ks.map fun i => IsV (.int i))) (hi : σ[i]? = some (some (.ref d))) (hz : z = (ks.length : Nat)) (h0 : 0 < ks.length) (h1 : ks.length < 1000) (hn : n ≤ 2 ^ 38)
    (q : ∀ (j : Nat) (hj : j < ks.length) B' H', Kx T d (n + 4) B' H' → GX d B H B' H' → Q (.int ks[j]) H') : tOp (rIxL K) (tLst ta) (tCall spDigit [] E0 (tCons (tVar i) (tCons (tC (.int z)) tNil))) σ H Q := by
  subst hz
  refine p_lst hl (by rw [List.length_map]; omega) H k.e _ fun v B1 H1 g hv => ?_
  refine x_digit (k.gr g) hi ev_c (by omega) (by omega) (by omega) fun m H2 m0 m1 k2 g2 => ?_
  obtain ⟨l, xs, rfl, hx, al⟩ := hv
  obtain ⟨j, p, w, hj, rfl, hp, hat, hw⟩ := pick al m0 (by rw [List.length_map]; exact m1)
  rw [List.getElem?_map] at hp
  obtain ⟨c, hc, rfl⟩ := Option.map_eq_some_iff.mp hp
  obtain ⟨hj2, rfl⟩ := List.getElem?_eq_some_iff.mp hc
  obtain rfl : w = _ := hw
  exact ⟨l, xs, _, _, rfl, rfl, sq_of (k2.e _ _ hx), hat, q j hj2 B1 H2 k2 ((GX.gr g).trans g2)⟩
/-- a comprehension over a range, with draws -/
theorem x_lcR {α : Type} {f : α → Pr} {ok : α → Prop} {te : TE} {σ : L2.St} {jx jv c : Nat} {Q : VK} (k : Kx T d n B H) (hj : σ[jx]? = some (some (.int (m : Nat)))) (hm : m ≤ 1000) (hw : ∀ x, wipe ((wipe σ [jv]).set jv (some x)) [jv] = wipe σ [jv])
    (step : ∀ (i : Nat) (B1 H1 : Hp) (Q' : VK), i < m → Kx T d (n + c * i) B1 H1 → GX d B H B1 H1 → (∀ (a : α) v B2 H2, ok a → Kx T d (n + c * (i + 1)) B2 H2 → GX d B1 H1 B2 H2 → (f a).P v B2 → Q' v H2) → te ((wipe σ [jv]).set jv (some (.int (i : Nat)))) H1 Q')
    (q : ∀ (as : List α) v B' H', (∀ a ∈ as, ok a) → as.length = m → Kx T d (n + c * m) B' H' → GX d B H B' H' → (LsP (as.map f)).P v B' → Q v H') :
    tLc (iRng1 (tCons (tVar jx) tNil)) (gName jv) tYes te [jv] σ H Q := by
  refine ⟨_, hj, (m : Int), rfl, by omega, by omega, fun D hD => ?_⟩
  have hDd : D ≠ d := fun e => k.s.ne0 (e ▸ hD)
  have hBD : B D = none := fresh_back k.e hD
  have a0 : AllP (([] : List α).map f) [] B := trivial
  refine lc_range (lo := 0) (n := (m : Int).toNat) (fun i H' => ∃ B1 as acc, (∀ a ∈ as, ok a) ∧ as.length = i ∧ Kx T d (n + c * i) B1 H' ∧ GX d B H B1 H' ∧ B1 D = none ∧ H' D = some (.lst acc) ∧ AllP (as.map f) acc B1)
    ⟨B, [], [], fun a h => absurd h List.not_mem_nil, rfl, k.ex (Ex.new hD), GX.ex (Ex.new hD), hBD, upd_same, a0⟩ (fun i H' hi h => ?_) fun H' h => ?_
  · obtain ⟨B1, as, acc, h1, h2, h3, h4, h5, h6, h7⟩ := h
    refine ⟨hw _, ?_⟩
    dsimp only [tYes]
    rw [if_pos rfl, Int.zero_add]
    refine step i B1 H' _ (by omega) h3 h4 fun a v B2 H2 oa k2 g2 hv => ?_
    have hD2 : H2 D = some (.lst acc) := g2.a D _ hDd h6 (fun _ z => nomatch z)
    have hB2 : B2 D = none := g2.f D _ hDd h5 h6 (fun _ z => nomatch z)
    have hlen := h7.len
    rw [List.length_map] at hlen
    refine ⟨acc, hD2, small1000 (by omega), B2, as ++ [a], acc ++ [v], ?_, by rw [List.length_append, h2]; rfl, ?_, (h4.trans g2).lst hD, hB2, upd_same, ?_⟩
    · intro b hb
      rcases List.mem_append.mp hb with hb | hb
      · exact h1 b hb
      · rw [List.mem_singleton.mp hb]
        exact oa
    · refine ⟨fun b o e => ?_, k2.nt, tabs_lst k2.t hD2, k2.z, k2.s.upd hDd.symm⟩
      rw [upd_ne (fun z => by subst z; rw [hB2] at e; cases e)]
      exact k2.e b o e
    · rw [List.map_append]
      exact (h7.m g2.b).app ⟨hv, trivial⟩
  · obtain ⟨B1, as, acc, h1, h2, h3, h4, h5, h6, h7⟩ := h
    have ne : Ex B1 (upd B1 D (.lst acc)) := Ex.new h5
    refine q as _ (upd B1 D (.lst acc)) H' h1 (by rw [h2]; omega) ?_ ?_ ⟨D, acc, rfl, upd_same, h7.m ne⟩
    · refine ⟨fun b o e => ?_, nt_upd h3.nt (fun _ z => nomatch z), h3.t, by rw [upd_ne hDd.symm]; exact h3.z, ?_⟩
      · by_cases z : b = D
        · subst z
          rw [upd_same] at e
          rw [← e]
          exact h6
        · rw [upd_ne z] at e
          exact h3.e b o e
      · have e : (m : Int).toNat = m := Int.toNat_natCast m
        rw [e] at h3
        exact h3.s
    · exact ⟨h4.a, h4.b.trans ne, fun x o n hb hh z => by
        rw [upd_ne (fun e => by subst e; rw [hD] at hh; cases hh)]
        exact h4.f x o n hb hh z⟩
end
section
variable {t u : TS} {D : Ends} {σ : L2.St} {H : Hp} {tc ta tb : TE} {tt : TT} {g : TG} {Q : VK}
theorem b_forD (h : tc σ H fun v H1 => ∃ j : Int, [v] = [V.int j] ∧ -(2 ^ 62) ≤ j ∧ j < 2 ^ 62 ∧ ∃ W : Nat → Nat → L2.St → Hp → Prop, (∃ m, W 0 m σ H1) ∧ ∀ i m σ H, W i m σ H →
      ((Itr 0 j.toNat).stop i H ∧ D.nx σ H) ∨ ((Itr 0 j.toNat).go i H ∧ ∃ N : L2.St → Hp → Prop, (∀ σ' H', N σ' H' → ∃ m', m' < m ∧ W (i + 1) m' σ' H') ∧ ∀ x H', (Itr 0 j.toNat).yld i H x H' → g x σ H' fun σ2 H2 => t { D with nx := N, ct := N, bk := D.nx } σ2 H2)) : tFor (iRng1 (tCons tc tNil)) g t D σ H := h
end
def spNum (K : PySem.W.Frag) (T : List (Addr × Str)) : Sp := fun vs H Q _ => ∃ (B : Hp) (d : Addr) (n : Nat), vs = [.ref d] ∧ Kx T d n B H ∧ n ≤ 2 ^ 36 ∧ ∀ (r : Rat) (v : V) (B' H' : Hp), NumOk r → Kx T d (n + 8) B' H' → GX d B H B' H' → (rtP K r).P v B' → Q v H'
def spPoly (K : PySem.W.Frag) (T : List (Addr × Str)) : Sp := fun vs H Q _ => ∃ (B : Hp) (d : Addr) (n : Nat) (r : Rk) (vn : V) (hg : Nat), vs = [.ref d, vn, .int (r.axs.length : Nat), .int (4 : Nat), .int (hg : Nat)] ∧ hg ≤ 3 ∧ r.Ok ∧ (LstP r.ns).P vn B ∧ Kx T d n B H ∧ n ≤ 2 ^ 35 ∧
  ∀ (p : Pq) (v : V) (B' H' : Hp), LP r 4 p → Kx T d (n + 400) B' H' → GX d B H B' H' → (fpP K p).P v B' → Q v H'
section
variable {P : Program} {w : World} {K : PySem.W.Frag} {mg : Str → Option Value} {base : Heap} {T : List (Addr × Str)}

/-- _law_number -/
abbrev s_Lnumber : Stmt := topS 41
abbrev N_Lnumber : List Str := ["_law_state", "_law_top"]
theorem sc_Lnumber : FnScope N_Lnumber ["_law_state"] (defScope s_Lnumber) := ⟨rfl, rfl, rfl, by decide +kernel, rfl, by decide +kernel, by decide +kernel⟩
theorem ok_Lnumber {f : Addr} {fd : FuncData} (F : Fun K "_law_number" "_law_number" s_Lnumber f fd)  {f_Ldigit : Addr} {d_Ldigit : FuncData} (c_Ldigit : Cal P w K mg base "_law_digit" 2 ["_law_state", "_law_size"] spDigit f_Ldigit d_Ldigit) {f_Llowest : Addr} {d_Llowest : FuncData} (c_Llowest : Cal P w K mg base "_law_lowest" 1 ["_law_top", "_law_bottom"] (spP (Rlow2 K)) f_Llowest d_Llowest)   :
    FnOk P w K mg base CX0 3 f fd ["_law_state"] (spNum K T) := by
  refine F.ok sc_Lnumber (fun vs H Q E h => by obtain ⟨B, d, n, rfl, _⟩ := h; rfl) (fun cdv A outer s H vs Q E hr h => ?_)
  obtain ⟨B, d, n, rfl, k, hn, q⟩ := h
  have hu := hu_of hr
  refine ⟨_, (pss_cons (ps_set (i := 1) sc_Lnumber.nd rfl (by first | exact .inl rfl | exact .inr rfl) (pe_ix ix_list (pe_lst (pa_cons pe_int (pa_cons (pe_un un_neg pe_int) (pa_cons pe_int (pa_cons (pe_un un_neg pe_int) (pa_cons pe_int (pa_cons pe_int (pa_cons pe_int pa_nil)))))))) (pe_call c_Ldigit.G (hr.mono (by decide)) (by rfl) c_Ldigit.m c_Ldigit.k c_Ldigit.b .nil pass0 (pa_cons (pv 0) (pa_cons pe_int pa_nil))) (fun _ _ => rfl)))
    (pss_one (ps_ret (pe_call c_Llowest.G (hr.mono (by decide)) (by rfl) c_Llowest.m c_Llowest.k c_Llowest.b .nil pass0 (pa_cons (pv 1) (pa_cons (pe_ix ix_list (pe_lst (pa_cons pe_int (pa_cons pe_int (pa_cons pe_int (pa_cons pe_int (pa_cons pe_int pa_nil)))))) (pe_call c_Ldigit.G (hr.mono (by decide)) (by rfl) c_Ldigit.m c_Ldigit.k c_Ldigit.b .nil pass0 (pa_cons (pv 0) (pa_cons pe_int pa_nil))) (fun _ _ => rfl)) pa_nil)))))), ?_⟩
  refine x_pickI (K := K) (ks := [1, -1, 2, -2, 3, 1, 5]) k (q_cons p_c (q_cons (p_ev (ev_un ev_c ru_neg)) (q_cons p_c (q_cons (p_ev (ev_un ev_c ru_neg)) (q_cons p_c (q_cons p_c (q_cons p_c q_nil))))))) rfl rfl (by decide) (by decide) (by omega) fun j hj B1 H1 k1 g1 => ?_
  dsimp only [gName]
  refine ⟨_, rfl, ?_⟩
  refine x_pickI (K := K) (ks := [1, 1, 1, 2, 3]) k1 (q_cons p_c (q_cons p_c (q_cons p_c (q_cons p_c (q_cons p_c q_nil))))) rfl rfl (by decide) (by decide) (by omega) fun j2 hj2 B2 H2 k2 g2 => ?_
  have hb := List.getElem_mem hj2
  have hb0 : [1, 1, 1, 2, (3 : Int)][j2] ≠ 0 ∧ [1, 1, 1, 2, (3 : Int)][j2].natAbs < 2 ^ 4000 := by
    have : ∀ b ∈ [1, 1, 1, 2, (3 : Int)], b ≠ 0 ∧ b.natAbs ≤ 3 := by decide
    obtain ⟨h1, h2⟩ := this _ hb
    exact ⟨h1, Nat.lt_of_le_of_lt h2 (by decide +kernel)⟩
  refine ⟨B2, [IsV _, IsV _], _, k2.e, ⟨rfl, rfl, trivial⟩, ⟨_, _, hb0.1, hb0.2, rfl, rfl⟩, fun v B3 H3 g3 hv => ?_⟩
  exact q _ v B3 H3 (num_ok (List.getElem_mem hj) hb) (k2.gr g3) ((g1.trans g2).trans (GX.gr g3)) hv

/-- _law_poly -/
abbrev s_Lpoly : Stmt := topS 43
abbrev N_Lpoly : List Str := ["_law_state", "_law_names", "_law_axes", "_law_size", "_law_high", "_law_found", "_law_turn", "_law_wide", "_law_pairs", "_law_j"]
theorem sc_Lpoly : FnScope N_Lpoly ["_law_state", "_law_names", "_law_axes", "_law_size", "_law_high"] (defScope s_Lpoly) := ⟨rfl, rfl, rfl, by decide +kernel, rfl, by decide +kernel, by decide +kernel⟩
theorem ok_Lpoly {f : Addr} {fd : FuncData} (F : Fun K "_law_poly" "_law_poly" s_Lpoly f fd)  {f_Ldigit : Addr} {d_Ldigit : FuncData} (c_Ldigit : Cal P w K mg base "_law_digit" 2 ["_law_state", "_law_size"] spDigit f_Ldigit d_Ldigit) {f_Lderivative : Addr} {d_Lderivative : FuncData} (c_Lderivative : Cal P w K mg base "_law_derivative" 3 ["_law_state", "_law_names", "_law_axes", "_law_high"] spDer f_Lderivative d_Lderivative) {f_Lmonomial : Addr} {d_Lmonomial : FuncData} (c_Lmonomial : Cal P w K mg base "_law_monomial" 1 ["_law_pairs"] (spP (Rlm K)) f_Lmonomial d_Lmonomial) {f_Lnumber : Addr} {d_Lnumber : FuncData} (c_Lnumber : Cal P w K mg base "_law_number" 3 ["_law_state"] (spNum K T) f_Lnumber d_Lnumber) {f_Ladded : Addr} {d_Ladded : FuncData} (c_Ladded : Cal P w K mg base "_law_added" 2 ["_law_one", "_law_other", "_law_number_here"] (spP (Radd K)) f_Ladded d_Ladded) (n_range : mg "range" = none) (n_tuple : mg "tuple" = none)  :
    FnOk P w K mg base CX0 4 f fd ["_law_state", "_law_names", "_law_axes", "_law_size", "_law_high"] (spPoly K T) := by
  refine F.ok sc_Lpoly (fun vs H Q E h => by obtain ⟨B, d, n, r, vn, hg, rfl, _⟩ := h; rfl) (fun cdv A outer s H vs Q E hr h => ?_)
  obtain ⟨B, d, n, r, vn, hg, rfl, hhi, hok, hN, k, hn, q⟩ := h
  have hu := hu_of hr
  refine ⟨_, (pss_cons (ps_set (i := 5) sc_Lpoly.nd rfl (by first | exact .inl rfl | exact .inr rfl) (pe_tupF pa_nil))
    (pss_cons (ps_for PassesOwn.never rfl (pi_range1 (by rfl) n_range (pa_cons (pe_op op_add pe_int (pe_call c_Ldigit.G (hr.mono (by decide)) (by rfl) c_Ldigit.m c_Ldigit.k c_Ldigit.b .nil pass0 (pa_cons (pv 0) (pa_cons (pv 3) pa_nil)))) pa_nil)) (pg_name (i := 6) sc_Lpoly.nd rfl (by first | exact .inl rfl | exact .inr rfl))
      (pss_cons (ps_set (i := 7) sc_Lpoly.nd rfl (by first | exact .inl rfl | exact .inr rfl) (pe_ix ix_list (pe_lst (pa_cons pe_int (pa_cons pe_int (pa_cons pe_int (pa_cons pe_int (pa_cons pe_int (pa_cons pe_int pa_nil))))))) (pe_call c_Ldigit.G (hr.mono (by decide)) (by rfl) c_Ldigit.m c_Ldigit.k c_Ldigit.b .nil pass0 (pa_cons (pv 0) (pa_cons pe_int pa_nil))) (fun _ _ => rfl)))
    (pss_cons (ps_setLc (i := 8) (own := [("_law_j", 9)]) rfl sc_Lpoly.nd rfl rfl (sw_true rfl rfl rfl (by decide +kernel)) (pi_range1 (by rfl) n_range (pa_cons (pv 7) pa_nil)) (blkOk_by (N := N_Lpoly) (sc := defScope s_Lpoly) (by decide +kernel)) (fun _ _ _ _ _ => (pg_name (i := 9) sc_Lpoly.nd rfl (Or.inl rfl))) (fun _ _ _ _ _ => pts_nil) (fun _ _ _ _ _ => (pe_tup (pa_cons (pe_call c_Lderivative.G (hr.mono (by decide)) (by rfl) c_Lderivative.m c_Lderivative.k c_Lderivative.b .nil pass0 (pa_cons (pv 0) (pa_cons (pv 1) (pa_cons (pv 2) (pa_cons (pv 4) pa_nil))))) (pa_cons pe_int pa_nil)))))
    (pss_one (ps_set (i := 5) sc_Lpoly.nd rfl (by first | exact .inl rfl | exact .inr rfl) (pe_call c_Ladded.G (hr.mono (by decide)) (by rfl) c_Ladded.m c_Ladded.k c_Ladded.b .nil pass0 (pa_cons (pv 5) (pa_cons (pe_lst (pa_cons (pe_tup (pa_cons (pe_call c_Lmonomial.G (hr.mono (by decide)) (by rfl) c_Lmonomial.m c_Lmonomial.k c_Lmonomial.b .nil pass0 (pa_cons (pe_callTy call_tuple_of (by rfl) n_tuple (by decide +kernel) (pa_cons (pv 8) pa_nil)) pa_nil)) (pa_cons (pe_call c_Lnumber.G (hr.mono (by decide)) (by rfl) c_Lnumber.m c_Lnumber.k c_Lnumber.b .nil pass0 (pa_cons (pv 0) pa_nil)) pa_nil))) pa_nil)) (pa_cons (pe_tup (pa_cons pe_int (pa_cons pe_int pa_nil))) pa_nil)))))))))
    (pss_one (ps_ret (pv 5))))), ?_⟩
  refine My.ps_asg k.e (p_tupFu q_nil (by show 0 ≤ 100000; decide)) fun v5 B2 H2 g2 h5 => ?_
  have k2 := k.gr g2
  dsimp only
  refine b_seq (b_forD (b_op ?_))
  show tCall spDigit [] E0 (tCons (tVar 0) (tCons (tVar 3) tNil)) _ _ _
  refine x_digit (z := (4 : Nat)) k2 rfl (ev_var rfl) (by decide) (by decide) (by omega) fun m H3 m0 m1 k3 g3 => ?_
  refine ⟨1, m, rfl, rfl, 1 + m, rfl, by omega, by omega, for_range (lo := 0) (n := (1 + m).toNat) (fun t σ H' => ∃ B' p vf x6 x7 x8, Kx T d (n + 4 + 72 * t) B' H' ∧ GX d B2 H3 B' H' ∧ LP r t p ∧ (fpP K p).P vf B' ∧ σ = [some (.ref d), some vn, some (.int (r.axs.length : Nat)), some (.int (4 : Nat)), some (.int (hg : Nat)), some vf, x6, x7, x8, none])
    ⟨B2, [], v5, none, none, none, k3, GX.refl, lp_nil, h5, rfl⟩ (fun t σ H' ht pv => ?_) (fun σ H' pv => ?_)⟩
  · obtain ⟨B', p, vf, x6, x7, x8, k', g', hp, hf, rfl⟩ := pv
    have ht5 : t < 4 := by omega
    refine b_seq (b_asg ?_)
    refine x_pickI (K := K) (ks := [0, 1, 1, 2, 2, 3]) k' (q_cons p_c (q_cons p_c (q_cons p_c (q_cons p_c (q_cons p_c (q_cons p_c q_nil)))))) rfl rfl (by decide) (by decide) (by omega) fun j hj B4 H4 k4 g4 => ?_
    have hw : ∃ wd : Nat, [0, 1, 1, 2, 2, (3 : Int)][j] = (wd : Int) ∧ wd ≤ 3 := by
      have : ∀ b ∈ [0, 1, 1, 2, 2, (3 : Int)], 0 ≤ b ∧ b ≤ 3 := by decide
      have h := this _ (List.getElem_mem hj)
      exact ⟨[0, 1, 1, 2, 2, (3 : Int)][j].toNat, by omega, by omega⟩
    obtain ⟨wd, ew, hwd⟩ := hw
    rw [ew]
    have hN4 := (LstP r.ns).m (g2.b.trans (g'.b.trans g4.b)) hN
    dsimp only [gName, List.set_cons_succ, List.set_cons_zero]
    refine b_seq (b_asg ?_)
    refine x_lcR (α := Dv) (f := fun u => pwP K (u, 1)) (ok := fun u => u.Of r ∧ u.i + u.j ≤ 3) (jx := 7) (jv := 9) (c := 20) (m := wd) k4 rfl (by omega) (fun x => rfl) (fun i B5 H5 Q' hi k5 g5 st => ?_) fun us v8 B5 H5 hus hlen k5 g5 h8 => ?_
    · have st' := st
      refine x_der (hi := hg) (r := r) k5 rfl rfl rfl rfl (by omega) hok ((LstP r.ns).m g5.b hN4) (by omega) fun u B6 H6 v hu ho k6 g6 hv => ?_
      refine ⟨by show 2 ≤ sizeLine; decide, fun pp hpp => ?_⟩
      have g7 := Gr.new (B := B6) (.tup [v, .int 1]) k6.e hpp
      exact st u _ _ _ ⟨hu, by omega⟩ ((k6.gr g7).le (by omega)) (g6.trans (GX.gr g7)) ⟨pp, _, rfl, st_of upd_same, (DvP u).m g7.b hv, rfl, trivial⟩
    · dsimp only [gName, List.set_cons_succ, List.set_cons_zero]
      have hf5 := (fpP K p).m (g4.b.trans g5.b) hf
      have e8 : us.map (fun u => pwP K (u, 1)) = (onesL us).map (pwP K) := by
        unfold onesL
        rw [List.map_map]
        rfl
      rw [e8] at h8
      have hul : us.length ≤ 3 := by omega
      -- the polynomial so far
      refine b_asg ?_
      refine ⟨vf, rfl, ?_⟩
      refine (p_callP (ps := [moP K (onesL us)]) (σ := [some (.ref d), some vn, some (.int (r.axs.length : Nat)), some (.int (4 : Nat)), some (.int (hg : Nat)), some vf, some (.int (0 + (t : Nat))), some (.int (wd : Nat)), some v8, none]) (q_cons (p_tupOf (p_lq (p_var (i := 8) rfl h8))) q_nil) ⟨onesL us, co_ones us, by unfold onesL; rw [List.length_map]; omega, rfl, rfl⟩) H5 k5.e _ fun w1 B7 H7 g7 hw1 => ?_
      have k7 := k5.gr g7
      refine ⟨_, rfl, B7, d, n + 4 + 72 * t + 4 + 20 * wd, rfl, k7, by omega, fun s w2 B8 H8 hs k8 g8 hw2 => ?_⟩
      refine ⟨by show 2 ≤ sizeLine; decide, fun p1 hp1 => ⟨by show 1 ≤ sizeLine; decide, fun p2 hp2 => ⟨by show 2 ≤ sizeLine; decide, fun p3 hp3 => ?_⟩⟩⟩
      have n1 := Gr.new (B := B8) (.tup [w1, w2]) k8.e hp1
      have k9 := k8.gr n1
      have n2 := Gr.new (.lst [.ref p1]) k9.e hp2
      have k10 := k9.gr n2
      have n3 := Gr.new (.tup [.int 1, .int 1]) k10.e hp3
      have k11 := k10.gr n3
      have gg := (n1.trans n2).trans n3
      have hp' := hp.add hus hul hs
      have l1 : Lim 6 30 [(cf (onesL us), s)] := ⟨fun t ht => by rw [List.mem_singleton.mp ht]; exact hs.2.1, by rw [wt_cons]; show ab 6 s + 0 ≤ 30; have := hs.2.2; omega⟩
      have e1 : scP [(cf (onesL us), s)] 1 = [(cf (onesL us), s)] := by
        show [(cf (onesL us), s * 1)] = _
        rw [Rat.mul_one]
      have tw : ∀ k, k ≤ 1000 → k < 2 ^ 1000 := fun k h => Nat.lt_of_le_of_lt h (by decide +kernel)
      refine ⟨_, [fpP K p, LqP K (pqL K [(cf (onesL us), s)]), rtP K 1], fpP K (addP p [(cf (onesL us), s)]), k11.e, ⟨(fpP K p).m (g7.b.trans (g8.b.trans gg.b)) hf5, ⟨p2, _, rfl, sq_of (n3.b _ _ upd_same), ⟨?_, trivial⟩⟩, ?_, trivial⟩, ⟨6, 30 * (t + 1), p, [(cf (onesL us), s)], 1, by decide, tw _ (by decide), tw _ (by omega), ?_, fun z hz => ?_, ?_, hp.c.c.nd, ?_, rfl, ?_⟩, fun vr B9 H9 g9 hr9 => ?_⟩
      · exact ⟨p1, _, rfl, st_of ((n2.b.trans n3.b) _ _ upd_same), (moP K _).m (g8.b.trans gg.b) hw1, (rtP K s).m gg.b hw2, trivial⟩
      · exact ⟨p3, _, rfl, st_of upd_same, rfl, rfl, trivial⟩
      · rw [e1]
        exact (hp.lm.app l1).le (by omega)
      · rw [List.mem_singleton.mp hz]
        exact sm1_of (D := 6) (N := 30) (by decide) (tw _ (by decide)) (tw _ (by decide)) ⟨hs.2.1, hs.2.2⟩
      · exact ⟨tw _ (by decide), tw _ (by decide)⟩
      · have := hp.ln
        show _ + 1 ≤ 50000
        omega
      · rw [e1]
      · dsimp only [gName, List.set_cons_succ, List.set_cons_zero]
        refine ⟨B9, _, vr, _, _, _, (k11.gr g9).le (by omega), ((((g'.trans g4).trans g5).trans (GX.gr g7)).trans g8).trans (GX.gr (gg.trans g9)), hp', hr9, rfl⟩
  · obtain ⟨B', p, vf, x6, x7, x8, k', g', hp, hf, rfl⟩ := pv
    have hp5 : LP r 4 p := ⟨hp.c, hp.of, hp.dg, by have := hp.ln; omega, hp.lm.le (by omega), hp.o⟩
    refine My.ps_ret k'.e (p_var rfl hf) fun v B6 H6 g6 hv => ?_
    exact q p v B6 H6 hp5 ((k'.gr g6).le (by omega)) ((GX.gr g2).trans (g3.trans (g'.trans (GX.gr g6)))) hv

end
end K12
namespace Nd
set_option autoImplicit false
open PySem PySem.Spec PySem.W PyProof.Rows L2 My
/-! ### sets of nested tuples: small questions asked of such tuples -/
section
variable {P : Program} {w : World}
mutual
theorem cls_key : ∀ (k : NestedKey) (v : Value) (n : Nat) (A : Around) (E : Value → Shared → Prop) (s : Shared) (Q : Bool → Shared → Prop), NestedIs s.heap k v → k.depth ≤ n → Q false s → wpAny (model P w) A (ofAClassStatement n v) Q E s
  | .none, _, n, A, E, s, Q, x, _, h => by cases x; cases n <;> exact wpAny_pure h
  | .num i, _, n, A, E, s, Q, x, _, h => by cases x <;> cases n <;> exact wpAny_pure h
  | .text y, _, n, A, E, s, Q, x, _, h => by cases x; cases n <;> exact wpAny_pure h
  | .tup ks, _, n, A, E, s, Q, x, hn, h => by
    cases x with
    | @tup a o vs m _ hg hc hd hk =>
      simp only [NestedKey.depth] at hn
      cases n with
      | zero => omega
      | succ n =>
        have hT : s.TypeIs (.ref a) "tuple" := ⟨o, hg, hc⟩
        have all := cls_keys ks _ n A E s hk (by omega)
        unfold ofAClassStatement
        refine wpAny_bind (wpAny_typeOf hT ?_)
        have e : (("tuple" : String) == "tuple") = true := by decide
        simp only [e, if_true, Bool.not_true, Bool.false_eq_true, if_false]
        try refine wpAny_bind (wpAny_pure ?_)
        try simp only [Bool.not_true, Bool.false_eq_true, if_false]
        show wpAny _ _ (seqItems? (.ref a) >>= _) _ _ s
        refine wpAny_bind (wpAny_seqItems hg hd (wpAny_bind ?_))
        show wpAny _ _ (forIn vs _ _) _ _ s
        rw [← Array.forIn_toList]
        refine wpAny_forIn_list _ (fun rest r s' => r.1 = none ∧ s' = s ∧ ∀ v ∈ rest, ∀ Q' : Bool → Shared → Prop, Q' false s → wpAny (model P w) A (ofAClassStatement n v) Q' E s) _ ?_ ?_ _ _ ⟨rfl, rfl, all⟩
        · rintro v rest r s' ⟨_, rfl, hall⟩
          refine wpAny_bind (hall v List.mem_cons_self _ ?_)
          simp only [Bool.false_eq_true, if_false]
          exact wpAny_pure ⟨rfl, rfl, fun u hu => hall u (List.mem_cons_of_mem _ hu)⟩
        · rintro ⟨r1, r2⟩ s' ⟨hr, rfl, _⟩
          obtain rfl : r1 = none := hr
          exact wpAny_pure h
theorem cls_keys : ∀ (ks : List NestedKey) (vs : List Value) (n : Nat) (A : Around) (E : Value → Shared → Prop) (s : Shared), NestedAll s.heap ks vs → NestedKey.depthAll ks ≤ n → ∀ v ∈ vs, ∀ Q : Bool → Shared → Prop, Q false s → wpAny (model P w) A (ofAClassStatement n v) Q E s
  | [], _, n, A, E, s, x, _, v, hv => by cases x; cases hv
  | k :: ks, _, n, A, E, s, x, hn, v, hv => by
    cases x with
    | cons x1 x2 =>
      simp only [NestedKey.depthAll] at hn
      rcases List.mem_cons.mp hv with e | hv
      · rw [e]
        exact fun Q h => cls_key k _ n A E s Q x1 (by omega) h
      · exact cls_keys ks _ n A E s x2 (by omega) v hv
end
mutual
theorem byv_key : ∀ (k : NestedKey) (v : Value) (n : Nat) (A : Around) (E : Value → Shared → Prop) (s : Shared) (Q : Bool → Shared → Prop), NestedIs s.heap k v → (∀ b, Q b s) → wpAny (model P w) A (hashByValue n v) Q E s
  | .none, _, n, A, E, s, Q, x, h => by cases x; cases n <;> exact wpAny_pure (h _)
  | .num i, _, n, A, E, s, Q, x, h => by cases x <;> cases n <;> exact wpAny_pure (h _)
  | .text y, _, n, A, E, s, Q, x, h => by cases x; cases n <;> exact wpAny_pure (h _)
  | .tup ks, _, n, A, E, s, Q, x, h => by
    cases x with
    | @tup a o vs m _ hg hc hd hk =>
      cases n with
      | zero => exact wpAny_pure (h _)
      | succ n =>
        have hT : s.TypeIs (.ref a) "tuple" := ⟨o, hg, hc⟩
        have all := byv_keys ks _ n A E s hk
        unfold hashByValue
        refine wpAny_bind (wpAny_specialOf hT F.slot_tuple_hash.lookup ?_)
        show wpAny _ _ (seqItems? (.ref a) >>= _) _ _ s
        refine wpAny_bind (wpAny_seqItems hg hd (wpAny_bind ?_))
        show wpAny _ _ (forIn vs _ _) _ _ s
        rw [← Array.forIn_toList]
        refine wpAny_forIn_list _ (fun rest r s' => r.1 = none ∧ s' = s ∧ ∀ v ∈ rest, ∀ Q' : Bool → Shared → Prop, (∀ b, Q' b s) → wpAny (model P w) A (hashByValue n v) Q' E s) _ ?_ ?_ _ _ ⟨rfl, rfl, all⟩
        · rintro v rest r s' ⟨_, rfl, hall⟩
          refine wpAny_bind (hall v List.mem_cons_self _ fun b => ?_)
          cases b with
          | true =>
            simp only [Bool.not_true, Bool.false_eq_true, if_false]
            exact wpAny_pure ⟨rfl, rfl, fun u hu => hall u (List.mem_cons_of_mem _ hu)⟩
          | false =>
            simp only [Bool.not_false, if_true]
            exact wpAny_pure (wpAny_pure (h _))
        · rintro ⟨r1, r2⟩ s' ⟨hr, rfl, _⟩
          obtain rfl : r1 = none := hr
          exact wpAny_pure (h _)
theorem byv_keys : ∀ (ks : List NestedKey) (vs : List Value) (n : Nat) (A : Around) (E : Value → Shared → Prop) (s : Shared), NestedAll s.heap ks vs → ∀ v ∈ vs, ∀ Q : Bool → Shared → Prop, (∀ b, Q b s) → wpAny (model P w) A (hashByValue n v) Q E s
  | [], _, n, A, E, s, x, v, hv => by cases x; cases hv
  | k :: ks, _, n, A, E, s, x, v, hv => by
    cases x with
    | cons x1 x2 =>
      rcases List.mem_cons.mp hv with e | hv
      · rw [e]
        exact fun Q h => byv_key k _ n A E s Q x1 h
      · exact byv_keys ks _ n A E s x2 v hv
end
/-- the tuple at a is the key k -/
def KIs (h : Heap) (k : NestedKey) (a : Addr) : Prop := NestedIs h k (.ref a) ∧ k.depth ≤ 8
theorem KIs.keep {h h' : Heap} {k : NestedKey} {a : Addr} (x : KIs h k a) (hk : ∀ b o, h.get? b = some o → h'.get? b = some o) : KIs h' k a := ⟨NestedIs.at (fun b o _ _ e _ => hk b o e) k _ x.1, x.2⟩
theorem KIs.same {h h' : Heap} {k : NestedKey} {a d : Addr} {o : Obj} {es : Array (Int × Value)} {ep : Nat} {t : SetTable} (x : KIs h k a) (ho : h.get? d = some o) (hd : o.data = .set es ep t) (hs : Heap.SameBut d h h') : KIs h' k a :=
  ⟨NestedIs.at (fun b ob vs n hb hc => by
    refine (hs.2 b fun e => ?_).trans hb
    rw [e, ho] at hb
    obtain rfl := Option.some.inj hb
    rw [hd] at hc
    cases hc) k _ x.1, x.2⟩
theorem KIs.inj {h : Heap} {a : Addr} {x y : NestedKey} (hx : KIs h x a) (hy : KIs h y a) : x = y := NestedIs.inj _ _ _ hx.1 hy.1
/-- a search among such tuples shows nothing -/
theorem seen_key {A : Around} {E : Value → Shared → Prop} {s : Shared} {k : NestedKey} {b : Addr} {Q : Bool → Shared → Prop} (hk : KIs s.heap k b) {ys : List Value} (hy : ∀ y ∈ ys, ∃ k' c, y = Value.ref c ∧ KIs s.heap k' c) (h : Q false s) :
    wpAny (model P w) A (searchCouldBeSeen (.ref b) ys) Q E s := by
  have quiet : ∀ {k c} {Q : Bool → Shared → Prop}, KIs s.heap k c → Q true s → wpAny (model P w) A (eqIsQuiet 8 (.ref c)) Q E s := fun hc q => quiet_key _ _ 8 s hc.1 hc.2 A E _ q
  have cls : ∀ {k c} {Q : Bool → Shared → Prop}, KIs s.heap k c → Q false s → wpAny (model P w) A (ofAClassStatement 8 (.ref c)) Q E s := fun hc q => cls_key _ _ 8 A E s _ hc.1 hc.2 q
  unfold searchCouldBeSeen
  refine wpAny_bind ?_
  refine wpAny_forIn_list _ (fun rest r s' => r.1 = none ∧ s' = s ∧ ∀ y ∈ rest, ∃ k' c, y = Value.ref c ∧ KIs s.heap k' c) _ ?_ ?_ _ _ ⟨rfl, rfl, hy⟩
  · rintro v rest r s' ⟨_, rfl, hall⟩
    obtain ⟨k', c, rfl, hc⟩ := hall v List.mem_cons_self
    have rest' : ∀ y ∈ rest, ∃ k' c, y = Value.ref c ∧ KIs s'.heap k' c := fun u hu => hall u (List.mem_cons_of_mem _ hu)
    dsimp only
    by_cases hv : (b == c || (carriedByValue (.ref b) && carriedByValue (.ref c))) = true
    · exact wp_if_pos hv (wpAny_pure ⟨rfl, rfl, rest'⟩)
    · refine wp_if_neg hv (wpAny_bind (quiet hk ?_))
      simp only [Bool.not_true, Bool.false_eq_true, if_false]
      refine wpAny_bind (quiet hc ?_)
      simp only [Bool.not_true, Bool.false_eq_true, if_false]
      refine wpAny_bind (cls hk ?_)
      simp only [Bool.false_eq_true, if_false]
      refine wpAny_bind (cls hc ?_)
      simp only [Bool.false_eq_true, if_false]
      exact wpAny_pure ⟨rfl, rfl, rest'⟩
  · rintro ⟨r1, r2⟩ s' ⟨hr, rfl, _⟩
    obtain rfl : r1 = none := hr
    exact wpAny_pure h
end
end Nd
namespace Nd
set_option autoImplicit false
open PySem PySem.Spec PySem.W PyProof.Rows L2 My
/-! ### the set of nested tuples -/
abbrev KL := List (Addr × NestedKey)
abbrev hsK (w : World) (L : KL) : List Int := L.map fun p => p.2.hash w
def rowsK (w : World) (L : KL) : List (Int × Value) := L.map fun p => (p.2.hash w, Value.ref p.1)
structure SetN (w : World) (h : Heap) (a : Addr) (L : KL) (es : Array (Int × Value)) (ep : Nat) (t : SetTable) : Prop where
  ob : ∃ o, h.get? a = some o ∧ o.ExactSet ∧ o.data = .set es ep t
  rows : es.toList = rowsK w L
  tab : TabOk t (hsK w L)
  nd : (L.map (·.2)).Nodup
  key : ∀ p ∈ L, KIs h p.2 p.1
  led : w.params.followText "set-order" = true ∨ t.led = true
  room : L.length * 5 < t.mask * 3
  few : L.length < 64
section
variable {P : Program} {w : World} {A : Around} {E : Value → Shared → Prop} {s : Shared} {a x : Addr} {L : KL} {es : Array (Int × Value)} {ep : Nat} {t : SetTable} {k : NestedKey}
theorem rowsK_size (h : es.toList = rowsK w L) : es.size = L.length := by
  have := congrArg List.length h
  unfold rowsK at this
  rw [Array.length_toList, List.length_map] at this
  exact this
theorem SetN.size (R : SetN w s.heap a L es ep t) : es.size = L.length := rowsK_size R.rows
theorem SetN.entry (R : SetN w s.heap a L es ep t) {i : Nat} {p : Addr × NestedKey} (h : L[i]? = some p) : es[i]? = some (p.2.hash w, Value.ref p.1) := by
  rw [← Array.getElem?_toList, R.rows]
  unfold rowsK
  rw [List.getElem?_map, h]
  rfl
theorem SetN.psz (R : SetN w s.heap a L es ep t) : t.place.toList.length = L.length := by
  rw [Array.length_toList, R.tab.sz, List.length_map]
theorem fits_of {n : Nat} (h : t.place.size = n) (hd : t.dummies = #[]) (hm : n ≤ t.mask) : t.fits n = true := by
  unfold SetTable.fits SetTable.fill
  rw [hd, Bool.and_eq_true, beq_iff_eq, decide_eq_true_eq]
  refine ⟨h, ?_⟩
  show t.place.size + 0 ≤ t.mask
  omega
theorem SetN.fits (R : SetN w s.heap a L es ep t) : t.fits es.size = true := by
  have h1 := R.psz
  have h2 := R.size
  have h3 := R.room
  rw [Array.length_toList] at h1
  exact fits_of (by omega) R.tab.dm (by omega)
/-- the c-th state of the search for a hash -/
abbrev stt (m : Nat) (h : Int) (c : Nat) : SetTable.Probe := nth m (runAt m (SetTable.bits h % (m + 1)) (SetTable.bits h)) c
theorem stt_dummy (m : Nat) (h : Int) : ∀ c, (stt m h c).dummy = none
  | 0 => rfl
  | c + 1 => by
    show (nth m _ (c + 1)).dummy = none
    rw [nth_succ]
    have := stt_dummy m h c
    unfold adv
    split <;> exact this
theorem stt_add (m : Nat) (h : Int) (c q : Nat) : nth m (stt m h c) q = stt m h (c + q) := (nth_add m c _ q).symm
/-- the search, from its c-th state on; K: the first empty slot -/
theorem seek (R : SetN w s.heap a L es ep t) (hx : KIs s.heap k x) (hu : A.units + 8 < cLine) {K : Nat} (hKf : K < 10 * SetTable.turns t.mask)
    (hK : way t.mask (k.hash w) K ∉ t.place.toList) (hKb : ∀ c, c < K → way t.mask (k.hash w) c ∈ t.place.toList) {Q : SetFound → Shared → Prop}
    (hin : k ∈ L.map (·.2) → Q (.there none) s) (hout : k ∉ L.map (·.2) → Q (.free (way t.mask (k.hash w) K) false) s) :
    ∀ (f c : Nat) (stand : Option SetTable.Probe), stand.getD (t.probeStart (k.hash w)) = stt t.mask (k.hash w) c → c ≤ K → K - c < f →
      (∀ (i : Nat) p, L[i]? = some p → p.2 = k → ∃ c', c ≤ c' ∧ c' < K ∧ t.place.toList[i]? = some (way t.mask (k.hash w) c')) →
      wpAny (model P w) A (setSearchFrom a (.ref x) (k.hash w) true f stand) Q E s
  | 0, _, _, _, _, hf, _ => absurd hf (Nat.not_lt_zero _)
  | f + 1, c, stand, hst, hc, hf, hre => by
    obtain ⟨o, ho, hex, hd⟩ := R.ob
    have gw : ¬ t.gaveWay = true := by
      unfold SetTable.gaveWay
      rw [mask_odd R.tab.mok]
      decide
    rw [setSearchFrom_succ]
    refine wpAny_bind (wpAny_setState_of ho hd R.fits ?_)
    dsimp only
    refine wp_if_neg gw ?_
    try refine wpAny_bind (wpAny_pure ?_)
    have at_ : ∀ q, (nth t.mask (stt t.mask (k.hash w) c) q).j = way t.mask (k.hash w) (c + q) := fun q => congrArg SetTable.Probe.j (stt_add t.mask (k.hash w) c q)
    have ent : ∀ (i : Nat) p, L[i]? = some p → (es[i]?.map (·.1)).getD 0 = p.2.hash w := fun i p hp => by
      rw [R.entry hp]
      rfl
    rcases go_spec t R.tab.ris R.tab.dm (fun i => (es[i]?.map (·.1)).getD 0) (k.hash w) (10 * SetTable.turns t.mask) (K - c) (stt t.mask (k.hash w) c) (stt_dummy _ _ c) (by omega)
      (fun q hq => by rw [at_]; exact hKb (c + q) (by omega)) (by rw [at_, show c + (K - c) = K by omega]; exact hK) with ⟨q, i, hq, hi, hh, hno, hpr⟩ | ⟨hno, hpr⟩
    · -- one that has this hash
      have met : t.probe (fun i => (es[i]?.map (·.1)).getD 0) (k.hash w) (stand.getD (t.probeStart (k.hash w))) = some (.candidate (way t.mask (k.hash w) (c + q)) i (stt t.mask (k.hash w) (c + (q + 1)))) := by
        rw [hst, ← at_, ← stt_add]
        exact hpr
      rw [met]
      dsimp only
      rw [at_] at hi
      have hil : i < L.length := by
        have := (List.getElem?_eq_some_iff.mp hi).1
        rw [R.psz] at this
        exact this
      have hp : L[i]? = some L[i] := List.getElem?_eq_getElem hil
      generalize L[i] = p at hp
      have hpt := R.key p (List.mem_of_getElem? hp)
      have goOn : wpAny (model P w) A (searchRest a (.ref x) (k.hash w) true f es t (way t.mask (k.hash w) (c + q)) i (stt t.mask (k.hash w) (c + (q + 1)))) Q E s := by
        unfold searchRest
        rw [R.entry hp]
        dsimp only
        refine wpAny_bind (wpAny_holding ((nestedKind P w).eqBool hu hpt hx ?_))
        refine wpAny_bind (wpAny_setState_of ho hd R.fits ?_)
        dsimp only
        by_cases e : p.2 = k
        · refine wp_if_pos (by simp [e]) (wpAny_pure (hin ?_))
          exact List.mem_map.mpr ⟨p, List.mem_of_getElem? hp, e⟩
        · refine wp_if_neg (by simp [e]) ?_
          try refine wpAny_bind (wpAny_pure ?_)
          rw [sameMem]
          dsimp only
          have live : t.slot (way t.mask (k.hash w) (c + q)) = .live i := slot_live R.tab.ris hi
          simp only [if_true, live, R.entry hp]
          refine wpAny_bind (wpAny_isSame_ref_self (wpAny_bind (wpAny_pure ?_)))
          simp only [if_true]
          refine wp_if_neg (by simp [e]) ?_
          refine seek R hx hu hKf hK hKb hin hout f (c + (q + 1)) _ rfl (by omega) (by omega) fun i0 p0 h0 hk0 => ?_
          obtain ⟨c', a1, a2, a3⟩ := hre i0 p0 h0 hk0
          refine ⟨c', ?_, a2, a3⟩
          -- what is k isn't passed by
          rcases Nat.lt_trichotomy c' (c + q) with z | z | z
          · refine absurd ((ent i0 p0 h0).trans (by rw [hk0])) (hno (c' - c) i0 (by omega) ?_)
            rw [at_, show c + (c' - c) = c' by omega]
            exact a3
          · rw [z] at a3
            have s0 := slot_live R.tab.ris a3
            rw [live] at s0
            injection s0 with s0
            rw [← s0, hp] at h0
            exact absurd ((congrArg Prod.snd (Option.some.inj h0)).trans hk0) e
          · omega
      by_cases hl : t.led = true
      · refine wp_if_neg (by simp [hl]) ?_
        try refine wpAny_bind (wpAny_pure ?_)
        exact goOn
      · refine wp_if_pos (by simp [hl]) (wpAny_bind (seen_key hx (fun y hy => ?_) ?_))
        · obtain ⟨e, he, rfl⟩ := List.mem_map.mp hy
          have he1 : e ∈ es ∧ e.1 = k.hash w := by simpa using he
          have he2 : e ∈ es.toList := by simpa using he1.1
          rw [R.rows] at he2
          obtain ⟨p2, hp2, rfl⟩ := List.mem_map.mp he2
          exact ⟨p2.2, p2.1, rfl, R.key p2 hp2⟩
        · refine wp_if_neg (by decide) ?_
          try refine wpAny_bind (wpAny_pure ?_)
          exact goOn
    · -- the empty slot
      have met : t.probe (fun i => (es[i]?.map (·.1)).getD 0) (k.hash w) (stand.getD (t.probeStart (k.hash w))) = some (.empty (way t.mask (k.hash w) K) none) := by
        have e2 : way t.mask (k.hash w) K = (nth t.mask (stt t.mask (k.hash w) c) (K - c)).j := by rw [at_, show c + (K - c) = K by omega]
        rw [hst, e2]
        exact hpr
      rw [met]
      refine wpAny_pure (hout fun hm => ?_)
      obtain ⟨p0, h0, hk0⟩ := List.mem_map.mp hm
      obtain ⟨i0, hi0⟩ := List.mem_iff_getElem?.mp h0
      obtain ⟨c', a1, a2, a3⟩ := hre i0 p0 hi0 hk0
      refine absurd ((ent i0 p0 hi0).trans (by rw [hk0])) (hno (c' - c) i0 (by omega) ?_)
      rw [at_, show c + (c' - c) = c' by omega]
      exact a3
/-- the search as adding asks for it -/
theorem seekAll (R : SetN w s.heap a L es ep t) (hx : KIs s.heap k x) (hu : A.units + 8 < cLine) {Q : SetFound → Shared → Prop} (hin : k ∈ L.map (·.2) → Q (.there none) s)
    (hout : ∀ K, k ∉ L.map (·.2) → way t.mask (k.hash w) K ∉ t.place.toList → (∀ c, c < K → way t.mask (k.hash w) c ∈ t.place.toList) → Q (.free (way t.mask (k.hash w) K) false) s) :
    wpAny (model P w) A (setSearch a (.ref x) (k.hash w) true) Q E s := by
  have hroom := R.room
  obtain ⟨K, hKf, hK, hKb⟩ := R.tab.first (by rw [List.length_map]; omega) (k.hash w)
  have turns : 10 * SetTable.turns t.mask ≤ 1420 := by
    unfold SetTable.turns
    rcases R.tab.mok with e | e | e <;> omega
  unfold setSearch
  refine seek R hx hu hKf hK hKb hin (fun hn => hout K hn hK hKb) 100000 0 none rfl (Nat.zero_le _) (by omega) fun i p hp hk => ?_
  have hil : i < t.place.toList.length := by
    rw [R.psz]
    exact (List.getElem?_eq_some_iff.mp hp).1
  have hj := List.getElem?_eq_getElem hil
  obtain ⟨c, hc, e⟩ := R.tab.before (h := k.hash w) hK (by rw [List.getElem?_map, hp, ← hk]; rfl) hj
  exact ⟨c, Nat.zero_le _, hc, by rw [hj, e]⟩
end
end Nd
namespace Nd
set_option autoImplicit false
open PySem PySem.Spec PySem.W PyProof.Rows L2 My
/-! ### sets of nested tuples: adding -/
section
variable {P : Program} {w : World} {A : Around} {E : Value → Shared → Prop} {s : Shared} {a x : Addr} {L : KL} {es : Array (Int × Value)} {ep : Nat} {t : SetTable} {k : NestedKey}
theorem rowsK_put (L : KL) (p : Nat) (x : Addr) (k : NestedKey) : rowsK w (L.take p ++ (x, k) :: L.drop p) = (rowsK w L).take p ++ (k.hash w, Value.ref x) :: (rowsK w L).drop p := by
  unfold rowsK
  rw [List.map_append, List.map_cons, List.map_take, List.map_drop]
theorem hsK_put (L : KL) (p : Nat) (x : Addr) (k : NestedKey) : hsK w (L.take p ++ (x, k) :: L.drop p) = (hsK w L).take p ++ k.hash w :: (hsK w L).drop p := by
  unfold hsK
  rw [List.map_append, List.map_cons, List.map_take, List.map_drop]
theorem pick_all {α : Type} (L : List α) : (List.range L.length).filterMap (fun i => L[i]?) = L := by
  have : ∀ n, n ≤ L.length → (List.range n).filterMap (fun i => L[i]?) = L.take n := by
    intro n
    induction n with
    | zero => intro _; rfl
    | succ n ih =>
      intro hn
      have e := List.getElem?_eq_getElem (show n < L.length from hn)
      rw [List.range_succ, List.filterMap_append, ih (by omega), List.take_add_one, e, List.filterMap_cons_some e]
      rfl
  rw [this L.length (Nat.le_refl _), List.take_length]
/-- the rows by another order -/
theorem rowsK_order (order : Array Nat) (hr : es.toList = rowsK w L) (hp : order.toList.Perm (List.range L.length)) :
    ∃ L2, (order.filterMap (es[·]?)).toList = rowsK w L2 ∧ L2.Perm L ∧ hsK w L2 = order.toList.map fun i => (es.map (·.1)).getD i 0 := by
  have ent : ∀ i : Nat, es[i]? = (L[i]?).map fun (p : Addr × NestedKey) => (p.2.hash w, Value.ref p.1) := fun i => by
    rw [← Array.getElem?_toList, hr]
    exact List.getElem?_map
  refine ⟨order.toList.filterMap (fun i => L[i]?), ?_, ?_, ?_⟩
  · rw [Array.toList_filterMap]
    unfold rowsK
    rw [List.map_filterMap]
    congr 1
    funext i
    rw [ent]
  · have h1 := hp.filterMap (fun i => L[i]?)
    rw [pick_all] at h1
    exact h1
  · have key : ∀ l : List Nat, (∀ i ∈ l, i < L.length) → hsK w (l.filterMap fun i => L[i]?) = l.map fun i => (es.map (·.1)).getD i 0 := by
      intro l
      induction l with
      | nil => intro _; rfl
      | cons i l ih =>
        intro hl
        have hi := hl i List.mem_cons_self
        have e := List.getElem?_eq_getElem hi
        rw [List.filterMap_cons_some e, List.map_cons, ← ih fun j hj => hl j (List.mem_cons_of_mem _ hj)]
        have e2 : (es.map (·.1))[i]? = some (L[i].2.hash w) := by
          rw [Array.getElem?_map, ent, e]
          rfl
        have e3 : (es.map (·.1)).getD i 0 = L[i].2.hash w := by simp [Array.getD_eq_getD_getElem?, e2]
        rw [e3]
        rfl
    exact key _ fun i hi => List.mem_range.mp (hp.mem_iff.mp hi)
/-- the table laid anew, larger -/
theorem setN_relay {o : Obj} (ho : s.heap.get? a = some o) (hex : o.ExactSet) (hd : o.data = .set es ep t) (hrows : es.toList = rowsK w L) (hsz : t.place.size = es.size) (hdm : t.dummies = #[]) (hfl : es.size ≤ t.mask)
    (nd : (L.map (·.2)).Nodup) (key : ∀ p ∈ L, KIs s.heap p.2 p.1) (ld : w.params.followText "set-order" = true ∨ t.led = true) (few : L.length < 64) {wanted M : Nat}
    (hw : SetTable.sizeAbove wanted - 1 = M) (hM : MaskOk M) (hw2 : SetTable.sizeAbove wanted ≤ 128) (hn : L.length * 5 < M * 3) {Q : Unit → Shared → Prop}
    (hQ : ∀ h' L' es' ep' t', Heap.SameBut a s.heap h' → SetN w h' a L' es' ep' t' → L'.Perm L → Q () { s with heap := h' }) : wpAny (model P w) A (setRelay a wanted) Q E s := by
  have hsl := rowsK_size hrows
  obtain ⟨t', order, e, hp, T, em, el, _, _⟩ := relaid_ok t (hs := es.map (·.1)) (wanted := wanted) hw hM (by rw [Array.size_map, hsl]; omega)
  rw [Array.size_map, hsl] at hp
  obtain ⟨L2, r1, r2, r3⟩ := rowsK_order order hrows hp
  rw [← r3] at T
  have hs2 : (order.filterMap (es[·]?)).size = es.size := by rw [rowsK_size r1, r2.length_eq, hsl]
  rw [setRelay_eq]
  refine wpAny_bind (wpAny_setState_of ho hd (fits_of hsz hdm hfl) ?_)
  dsimp only
  refine wp_if_neg (by rw [sizeLine_eq]; omega) ?_
  try refine wpAny_bind (wpAny_pure ?_)
  rw [e]
  dsimp only
  refine wpAny_bind ?_
  refine wp_if_neg (by rw [hs2]; simp) ?_
  try refine wpAny_bind (wpAny_pure ?_)
  refine wpAny_pure ?_
  dsimp only
  refine wpAny_storeSet_of ho hd ?_ (by rw [hs2, hsl, sizeLine_eq]; omega)
  have sb : Heap.SameBut a s.heap (s.heap.update a (Obj.putSet (order.filterMap (es[·]?)) t')) := Heap.SameBut.update ..
  exact hQ _ L2 (order.filterMap (es[·]?)) (ep + 1) t' sb ⟨⟨_, store_at ho hd, ⟨hex.1, hex.2.1, hex.2.2⟩, rfl⟩, r1, T, (r2.map (·.2)).nodup_iff.mpr nd, fun p hpm => (key p (r2.mem_iff.mp hpm)).same ho hd sb, by rw [el]; exact ld, by rw [r2.length_eq, em]; exact hn, by rw [r2.length_eq]; exact few⟩ r2
/-- adding -/
theorem setN_add (R : SetN w s.heap a L es ep t) (hx : KIs s.heap k x) (hu : A.units + 8 < cLine) (hfew : L.length + 1 < 64) {Q : Bool → Shared → Prop}
    (hQ : ∀ b h' L' es' ep' t', Heap.SameBut a s.heap h' → SetN w h' a L' es' ep' t' → (k ∈ L.map (·.2) → L' = L) → (k ∉ L.map (·.2) → L'.Perm ((x, k) :: L)) → Q b { s with heap := h' }) :
    wpAny (model P w) A (setAddHashed a (.ref x) (k.hash w)) Q E s := by
  obtain ⟨o, ho, hex, hd⟩ := R.ob
  have hsl := R.size
  have hroom := R.room
  unfold setAddHashed
  refine wpAny_holding ?_
  rw [show (100000 : Nat) = 99999 + 1 from rfl, setAddHashedIn_succ]
  refine wpAny_bind (wpAny_setState_of ho hd R.fits ?_)
  dsimp only
  refine wp_if_neg (by simp [byScan, Value.scannable]) ?_
  try refine wpAny_bind (wpAny_pure ?_)
  refine wpAny_bind (seekAll R hx hu (fun hm => ?_) fun K hm hK hb => ?_)
  · exact wpAny_pure (hQ false s.heap L es ep t (Heap.SameBut.refl a s.heap) R (fun _ => rfl) fun z => absurd hm z)
  · dsimp only
    refine wpAny_bind (wpAny_setState_of ho hd R.fits ?_)
    dsimp only
    obtain ⟨q1, q2, q3, q4, q5, q6, q7, q8, q9⟩ := R.tab.put hK hb
    generalize t.put (way t.mask (k.hash w) K) = pt at q1 q3 q4 q5 q6 q7 q8 q9 ⊢
    obtain ⟨t1, p⟩ := pt
    dsimp only at q1 q3 q4 q5 q6 q7 q8 q9 ⊢
    subst q1
    have hin : (SetTable.insertAt es (SetTable.below t.place (way t.mask (k.hash w) K)) (k.hash w, Value.ref x)).toList = rowsK w (L.take (SetTable.below t.place (way t.mask (k.hash w) K)) ++ (x, k) :: L.drop (SetTable.below t.place (way t.mask (k.hash w) K))) := by
      rw [SetTable.toList_insertAt, rowsK_put, R.rows]
    generalize SetTable.below t.place (way t.mask (k.hash w) K) = p at q2 q3 hin ⊢
    have pm := put_perm L p (x, k)
    have hlen : (L.take p ++ (x, k) :: L.drop p).length = L.length + 1 := pm.length_eq
    rw [← hsK_put L p x k] at q3
    have nd1 : ((L.take p ++ (x, k) :: L.drop p).map (·.2)).Nodup := by
      refine (pm.map (·.2)).nodup_iff.mpr ?_
      rw [List.map_cons]
      exact List.nodup_cons.mpr ⟨hm, R.nd⟩
    have hes := rowsK_size hin
    rw [hlen] at hes
    generalize SetTable.insertAt es p (k.hash w, Value.ref x) = es1 at hin hes ⊢
    generalize L.take p ++ (x, k) :: L.drop p = L1 at pm hlen q3 nd1 hin
    -- whether the table stays plain is all one
    have fin : ∀ t2 : SetTable, t2.place = t1.place → t2.dummies = t1.dummies → t2.mask = t1.mask → t2.led = t1.led → wpAny (model P w) A (do
        storeSet a es1 t2
        if !false && t2.tooFull then setRelay a (SetTable.grown (es.size + 1))
        return true) Q E s := by
      intro t2 u1 u2 u3 u4
      have T2 : TabOk t2 (hsK w L1) := ⟨by rw [u1]; exact q3.ris, by rw [u2]; exact q3.dm, by rw [u1]; exact q3.sz, by rw [u3]; exact q3.mok, by rw [u1, u3]; exact q3.bd, by rw [u1, u3]; exact q3.reach⟩
      have m2 : t2.mask = t.mask := u3.trans q4
      have full : t2.tooFull = decide ((L.length + 1) * 5 ≥ t2.mask * 3) := by
        have e1 : t2.tooFull = t1.tooFull := by unfold SetTable.tooFull SetTable.fill; rw [u1, u2, u3]
        rw [e1, u3]
        unfold SetTable.tooFull
        rw [q9, List.length_map]
      refine wpAny_bind (wpAny_storeSet_of ho hd ?_ (by rw [hes, sizeLine_eq]; omega))
      have sb : Heap.SameBut a s.heap (s.heap.update a (Obj.putSet es1 t2)) := Heap.SameBut.update ..
      have ho1 := store_at (es' := es1) (t' := t2) ho hd
      generalize s.heap.update a (Obj.putSet es1 t2) = h1 at sb ho1 ⊢
      have key1 : ∀ p ∈ L1, KIs h1 p.2 p.1 := fun p hp => by
        rcases List.mem_cons.mp (pm.mem_iff.mp hp) with e | hp
        · rw [e]
          exact hx.same ho hd sb
        · exact (R.key p hp).same ho hd sb
      have ld1 : w.params.followText "set-order" = true ∨ t2.led = true := by
        rw [u4, q5]
        exact R.led
      by_cases hf : (L.length + 1) * 5 ≥ t2.mask * 3
      · rw [_root_.decide_eq_true hf] at full
        rw [hsl]
        have sz1 : t2.place.size = es1.size := by
          have h := T2.sz
          rw [List.length_map, hlen] at h
          rw [h, hes]
        have go : ∀ M, SetTable.sizeAbove (SetTable.grown (L.length + 1)) - 1 = M → MaskOk M → SetTable.sizeAbove (SetTable.grown (L.length + 1)) ≤ 128 → (L.length + 1) * 5 < M * 3 →
            wpAny (model P w) A (setRelay a (SetTable.grown (L.length + 1))) (fun _ s' => wpAny (model P w) A (pure true) Q E s') E { s with heap := h1 } := fun M g1 g2 g3 g4 =>
          setN_relay (s := { s with heap := h1 }) ho1 ⟨hex.1, hex.2.1, hex.2.2⟩ rfl hin sz1 T2.dm (by rw [hes]; omega) nd1 key1 ld1 (by rw [hlen]; exact hfew) g1 g2 g3 (by rw [hlen]; exact g4)
            fun h2 L2 es2 ep2 t3 sb2 R2 pm2 => wpAny_pure (hQ true h2 L2 es2 ep2 t3 (sb.trans sb2) R2 (fun z => absurd z hm) fun _ => pm2.trans pm)
        have done : wpAny (model P w) A (setRelay a (SetTable.grown (L.length + 1))) (fun _ s' => wpAny (model P w) A (pure true) Q E s') E { s with heap := h1 } := by
          rcases R.tab.mok with e | e | e
          · have e2 : L.length = 4 := by omega
            exact go 31 (by rw [e2, size_20]) (.inr (.inl rfl)) (by rw [e2, size_20]; decide) (by omega)
          · have e2 : L.length = 18 := by omega
            exact go 127 (by rw [e2, size_76]) (.inr (.inr rfl)) (by rw [e2, size_76]; decide) (by omega)
          · omega
        first
          | (refine wpAny_bind ?_; refine wp_if_pos (by simp [full]) ?_; exact done)
          | (refine wp_if_pos (by simp [full]) ?_; refine wpAny_bind ?_; exact done)
      · rw [decide_eq_false hf] at full
        have last : Q true { s with heap := h1 } := hQ true h1 L1 es1 (ep + 1) t2 sb ⟨⟨_, ho1, ⟨hex.1, hex.2.1, hex.2.2⟩, rfl⟩, hin, T2, nd1, key1, ld1, by rw [hlen]; omega, by rw [hlen]; exact hfew⟩ (fun z => absurd z hm) fun _ => pm
        first
          | exact wp_if_neg (by simp [full]) (wpAny_pure last)
          | (refine wpAny_bind ?_; refine wp_if_neg (by simp [full]) ?_; exact wpAny_pure (wpAny_pure last))
    by_cases hpl : t1.plain = true
    · have step : wpAny (model P w) A (hashByValue 8 (.ref x)) (fun b s' => s' = s ∧ (b = true ∨ b = false)) E s := byv_key (P := P) k (.ref x) 8 A E s _ hx.1 fun b => ⟨rfl, by cases b <;> simp⟩
      have next : ∀ b : Bool, wpAny (model P w) A (do
          storeSet a es1 (if b = true then t1 else { t1 with plain := false })
          if !false && (if b = true then t1 else { t1 with plain := false }).tooFull then setRelay a (SetTable.grown (es.size + 1))
          return true) Q E s := fun b => fin _ (by cases b <;> rfl) (by cases b <;> rfl) (by cases b <;> rfl) (by cases b <;> rfl)
      first
        | (refine wpAny_bind ?_; refine wp_if_pos hpl ?_; exact byv_key (P := P) k (.ref x) 8 A E s _ hx.1 next)
        | exact wp_if_pos hpl (wpAny_bind (byv_key (P := P) k (.ref x) 8 A E s _ hx.1 next))
    · have next := fin t1 rfl rfl rfl rfl
      first
        | (refine wpAny_bind ?_; refine wp_if_neg hpl ?_; exact wpAny_pure next)
        | exact wp_if_neg hpl (wpAny_bind (wpAny_pure next))
end
end Nd
namespace Nd
set_option autoImplicit false
open PySem PySem.Spec PySem.W PyProof.Rows L2 My
/-! ### set(xs), xs a list: by what adding one after another keeps -/
abbrev setObj0 (w : World) : Obj := { cls := .type "set", dict := none, data := .set #[] 0 (.fresh 0 0 (!w.params.followText "set-order")) }
/-- J i holds of the heap when i things have been added to the set at S; h0: the heap before -/
structure Adds (P : Program) (w : World) (h0 : Heap) (S : Addr) (items : Array Value) (J : Nat → Heap → Prop) : Prop where
  keep : ∀ (i : Nat) (h h' : Heap), J i h → (∀ b o, (b = S ∨ h0.get? b ≠ none) → h.get? b = some o → h'.get? b = some o) → J i h'
  add : ∀ (A : Around) (E : Value → Shared → Prop) (s : Shared) (i : Nat) (v : Value) (Q : Bool → Shared → Prop), A.units + 8 < cLine → items[i]? = some v → (∀ b o, h0.get? b = some o → s.heap.get? b = some o) → J i s.heap →
    (∀ b h' tk, Heap.SameBut S s.heap h' → J (i + 1) h' → s.toks ≤ tk → Q b { s with heap := h', toks := tk }) → wpAny (model P w) A (setAdd S v) Q E s
section
variable {P : Program} {w : World} {A : Around} {E : Value → Shared → Prop} {s : Shared}
theorem adds_loop {I S : Addr} {fp wr : List Addr} {G : Array GenState → Array GenState → Prop} {items : Array Value} {St : Nat → Shared → Prop} {R : Result → Shared → Prop} {h0 : Heap} {J : Nat → Heap → Prop}
    (W : WalksS P w A.in1 I fp wr G items.size (fun i v => items[i]? = some v) St) (D : Adds P w h0 S items J) (hSf : S ∉ fp) (hS0 : h0.get? S = none) (hw0 : ∀ b ∈ wr, h0.get? b = none) (hu : A.in1.units + 8 < cLine) :
    ∀ (k i : Nat) (s : Shared), items.size - i = k → i ≤ items.size → St i s → (∀ b o, h0.get? b = some o → s.heap.get? b = some o) → J i s.heap →
      (∀ s', Moved (S :: wr) G s s' → J items.size s'.heap → (∀ b o, h0.get? b = some o → s'.heap.get? b = some o) → R (.ok (.ret .none)) s') →
      codeAny (model P w) A (.builtin "set.update.loop" ⟨[.ref S, .ref I], []⟩) R s := by
  have hSw : S ∉ wr := fun h => hSf (W.sub _ h)
  have hsub : ∀ b ∈ wr, b ∈ S :: wr := fun b hb => List.mem_cons_of_mem _ hb
  have keepM : ∀ {s s' : Shared}, Moved wr G s s' → (∀ b o, h0.get? b = some o → s.heap.get? b = some o) → ∀ b o, h0.get? b = some o → s'.heap.get? b = some o := fun hm hkp b o e =>
    hm.heap b o (fun hb => by rw [hw0 b hb] at e; cases e) (hkp b o e)
  have keepJ : ∀ {s s' : Shared} {i : Nat}, Moved wr G s s' → J i s.heap → J i s'.heap := fun hm hj => D.keep _ _ _ hj fun b o hb e => hm.heap b o (fun hbw => by
    rcases hb with rfl | hb
    · exact hSw hbw
    · exact hb (hw0 b hbw)) e
  intro k
  induction k with
  | zero =>
    intro i s hk' hi hst hkp hj hR
    obtain rfl : i = items.size := by omega
    refine codeAny_builtin F.entry_set_update_loop ?_
    rw [Around.under_plainId F.plain_set_update_loop _]
    show wpAny _ A.in1 (pyNext (.ref I) >>= _) _ _ s
    refine wpAny_bind (W.done s _ _ hst fun s' hm => ?_)
    exact wpAny_pure (hR s' (hm.mono hsub) (keepJ hm hj) (keepM hm hkp))
  | succ k ih =>
    intro i s hk' hi hst hkp hj hR
    have hlt : i < items.size := by omega
    refine codeAny_builtin F.entry_set_update_loop ?_
    rw [Around.under_plainId F.plain_set_update_loop _]
    show wpAny _ A.in1 (pyNext (.ref I) >>= _) _ _ s
    refine wpAny_bind (W.item i s _ _ hlt hst fun v s' hP hst' hm => ?_)
    have hkp' := keepM hm hkp
    show wpAny _ A.in1 (holding [v] (setAdd S v) >>= _) _ _ s'
    refine wpAny_bind (wpAny_holding (D.add A.in1 _ s' i v _ hu hP hkp' (keepJ hm hj) fun b h' tk hsb hj2 htk => ?_))
    have hkp2 : ∀ b o, h0.get? b = some o → h'.get? b = some o := fun b o e => (hsb.2 b (fun z => by rw [z, hS0] at e; cases e)).trans (hkp' b o e)
    refine wpAny_pure ⟨plainId_quiet F.plain_set_update_loop _, ih (i + 1) _ (by omega) hlt (W.frame _ s' h' tk hst' htk fun b hb o e => (hsb.2 b fun z => hSf (by rw [← z]; exact hb)).trans e) hkp2 hj2 fun s'' hm'' hj3 hkp3 => ?_⟩
    exact hR s'' (Moved.trans W.gtrans ((hm.mono hsub).then_heap htk fun b o hb e => (hsb.2 b fun z => hb (by rw [z]; exact List.mem_cons_self)).trans e) hm'') hj3 hkp3
set_option maxRecDepth 100000 in
set_option maxHeartbeats 3200000 in
theorem call_setList {l : Addr} {items : Array Value} {J : Nat → Heap → Prop} {Q : Value → Shared → Prop} (hh : A.handled = none) (hl : s.heap.IsList l items) (D : Adds P w s.heap s.heap.objs.size items J)
    (h0 : ∀ h : Heap, h.get? s.heap.objs.size = some (setObj0 w) → (∀ b o, s.heap.get? b = some o → h.get? b = some o) → J 0 h) (hu : A.units + 12 < cLine)
    (h : ∀ (h' : Heap) (tk : Nat), J items.size h' → (∀ b o, s.heap.get? b = some o → h'.get? b = some o) → Q (.ref s.heap.objs.size) { s with heap := h', toks := tk }) :
    wpAny (model P w) A (call (.type "set") [.ref l]) Q E s := by
  obtain ⟨c, tl, hmro⟩ := F.called_set.mro
  have hmade := F.called_set.made
  have hsub := F.called_set.sub
  refine wpAny_call (codeAny_of_tree ?_)
  show wpAny _ _ (callAny (.type "set") _) _ _ _
  refine wpAny_pure ⟨Code.quiet_builtin _ (by decide +kernel), codeAny_builtin F.entry_type_call ?_⟩
  rw [Around.under_plain (weight_type_call_type "set" [.ref l] []) rfl]
  have h1 := F.called_set.notType
  have h2 := F.called_set.canCreate
  have hct := F.typeCall_set_1 (.ref l)
  repeat (any_goals (first | assumption | wp_step))
  refine codeAny_mono (code_set_led1 (.ref l) (E := E) (Q₁ := fun obj s₁ => obj = .ref s.heap.objs.size ∧ s₁ = { s with heap := s.heap.push (setObj0 w) }) ⟨rfl, rfl⟩) fun r s₁ hr => ?_
  match r, hr with
  | .error e, hr => exact hr
  | .ok (.ret obj), hr =>
    obtain ⟨rfl, rfl⟩ := hr
    have hS : (s.heap.push (setObj0 w)).get? s.heap.objs.size = some (setObj0 w) := Heap.get?_push_size _ rfl
    have hT : Shared.TypeIs { s with heap := s.heap.push (setObj0 w) } (.ref s.heap.objs.size) "set" := ⟨_, hS, rfl⟩
    have hli := F.called_set.init.lookup
    have hbi := F.called_set.init.bind (.ref s.heap.objs.size)
    repeat (any_goals (first | assumption | wp_step))
    refine codeAny_mono (codeAny_call_builtin (R := wants (fun r s₂ => r = .none ∧ ∃ h' tk, s₂ = { s with heap := h', toks := tk } ∧ J items.size h' ∧ (∀ b o, s.heap.get? b = some o → h'.get? b = some o)) E) F.called_set.init.plain F.entry_set_init (check_set_init_1 hT ?_)) fun r₂ s₂ hr₂ => ?_
    · obtain ⟨⟨ocls, odict, odata, oslots⟩, hol, hcl, nl, hdl⟩ := hl
      simp only at hcl hdl
      subst hcl hdl
      have hol' : (s.heap.push (setObj0 w)).get? l = some { cls := .type "list", dict := odict, data := .seq items nl, slots := oslots } := Heap.get?_push_of_some _ hol
      have hl0 : s.heap.IsList l items := ⟨_, hol, rfl, nl, rfl⟩
      have hl1 : (s.heap.push (setObj0 w)).IsList l items := ⟨_, hol', rfl, nl, rfl⟩
      have hsls := F.sub_list_set
      have hslf := F.sub_list_frozenset
      have hne : (Value.type "list" == Value.type "dict") = false := by decide
      unfold Builtin.«set.__init__» noKeywords Builtin.Frozenset.updateFrom
      generalize hPI : pyIter = PI
      wp_walk
      subst hPI
      refine wpAny_pyIter_list hl1 (wpAny_bind (wpAny_runValue ?_))
      have hlS : l < s.heap.objs.size := Heap.lt_size hol
      have hh3 : A.in1.in1.in1.handled = none := by simp [hh]
      have sz : (s.heap.push (setObj0 w)).objs.size = s.heap.objs.size + 1 := Heap.size_push ..
      have fresh : ∀ b, s.heap.objs.size ≤ b → s.heap.get? b = none := fun b hb => by
        cases q : s.heap.get? b with
        | none => rfl
        | some o => exact absurd (Nat.lt_of_lt_of_le (Heap.lt_size q) hb) (Nat.lt_irrefl _)
      refine adds_loop ((Walks.list hh3 _ l (by rw [sz]; exact Nat.ne_of_lt (Nat.lt_succ_of_lt hlS)) items).toS) D (fun hm => ?_) (fresh _ (Nat.le_refl _)) (fun b hb => ?_) ?_ (items.size - 0) 0 _ (by omega) (Nat.zero_le _)
        ⟨⟨_, Heap.get?_push_size _ rfl, rfl, rfl⟩, (hl1.push _)⟩ (fun b o e => Heap.get?_push_of_some _ (Heap.get?_push_of_some _ e)) (h0 _ (Heap.get?_push_of_some _ hS) fun b o e => Heap.get?_push_of_some _ (Heap.get?_push_of_some _ e)) ?_
      · rcases List.mem_cons.mp hm with e | hm
        · rw [sz] at e
          exact absurd e (Nat.ne_of_lt (Nat.lt_succ_self _))
        · exact Nat.ne_of_gt hlS (List.mem_singleton.mp hm)
      · rw [List.mem_singleton.mp hb, sz]
        exact fresh _ (Nat.le_succ _)
      · simp only [Around.in1_units]
        omega
      · rintro ⟨h', g2, d', tk', os'⟩ hm hj hkp
        obtain rfl : g2 = s.gens := hm.gens
        obtain rfl : d' = s.drawn := hm.drawn
        obtain rfl : os' = s.os := hm.os
        show wpAny _ _ _ _ _ _
        refine wpAny_pure ?_
        show wpAny _ _ (ret Value.none) _ _ _
        exact wpAny_pure ⟨rfl, h', tk', rfl, hj, hkp⟩
    · match r₂, hr₂ with
      | .error e, hr₂ => exact hr₂
      | .ok (.ret r), hr₂ =>
        obtain ⟨rfl, h', tk, rfl, hj, hk'⟩ := hr₂
        repeat (any_goals (first | assumption | wp_step))
        exact h _ _ hj hk'
end
end Nd
namespace Nd
set_option autoImplicit false
open PySem PySem.Spec PySem.W PySem.Calls PyProof.Rows L2 My Evl
/-! ### sorted of a set -/
section
variable {X : Cx} {pins : List (Addr × Obj)} {σ : L2.St} {H : Hp} {s : Shared} {E : Value → Shared → Prop}
theorem each_of {R : Value → PyData → Prop} (dat : Value → PyData) : ∀ {vs : List Value}, (∀ v ∈ vs, R v (dat v)) → EachIs R vs (vs.map dat)
  | [], _ => .nil
  | v :: vs, h => .cons (h v List.mem_cons_self) (each_of dat fun u hu => h u (List.mem_cons_of_mem _ hu))
theorem vals_of (vv : Value → V) : ∀ {vs : List Value}, (∀ v ∈ vs, RelV (vv v) v) → Vals (vs.map vv) vs
  | [], _ => .nil
  | v :: vs, h => .cons (h v List.mem_cons_self) (vals_of vv fun u hu => h u (List.mem_cons_of_mem _ hu))
theorem sorted_setD {a : Addr} {es : Array (Int × Value)} {ep : Nat} {t : SetTable} {Q : VK} (I : Inv X pins σ H s) (hh : X.A.handled = none) (ha : SetAt s.heap a es ep t) (hf : t.fits es.size = true) (hsz : es.size < scanBound) (r : Ris t.place.toList)
    (hl : X.w.params.followText "set-order" = true ∨ t.led = true) (vv : Value → V) (dat : Value → PyData) (hv : ∀ v ∈ es.toList.map (·.2), RelV (vv v) v) (hd : ∀ v ∈ es.toList.map (·.2), ∃ bs, Reads s.heap v (dat v) bs)
    (hal : ∀ vs : List Value, vs.Perm (es.toList.map (·.2)) → AllAlike (vs.map dat) ∧ Sortable (vs.map dat)) (hu : ∀ v ∈ es.toList.map (·.2), X.A.units + 2 + (dat v).depth < cLine)
    (q : ∀ (vs : List Value) (b : Addr), vs.Perm (es.toList.map (·.2)) → H b = none → Q (.ref b) (upd H b (.lst (byKey (vs.map vv) (vs.map dat))))) :
    wpAny (model X.prog X.w) X.A (call (.builtin "sorted") [.ref a]) (EP X pins σ Q) E s := by
  refine call_function_entry_kw kind_sorted plain_sorted entry_sorted (args_sorted1 _) ?_
  unfold Builtin.«sorted»
  refine wpAny_bind (m := checkCount "sorted" 1 1 _) (wpAny_pure ?_)
  refine wpAny_bind (collect_set (A := X.A.in1) hh ha hf hsz r hl fun s1 vs k1 hz g1 o1 pm => ?_)
  have hvl : vs.length = es.size := by rw [pm.length_eq, List.length_map, Array.length_toList]
  have hvz : vs.length ≤ sizeLine := by rw [hvl]; exact fits_of_scanBound hsz
  refine wpAny_bind (wpAny_newList ?_ hvz)
  have at1 : (s1.heap.push (seqObj "list" vs.toArray 0)).get? s1.heap.objs.size = some (seqObj "list" vs.toArray 0) := Heap.get?_push_size _ rfl
  obtain ⟨hal, hsk⟩ := hal vs pm
  have rv : Vals (vs.map vv) vs := vals_of vv fun v hvm => hv v (pm.mem_iff.mp hvm)
  have hl' : (vs.map dat).length = (vs.map vv).length := by rw [List.length_map, List.length_map]
  have ev : EachIs (fun u d => ∃ bs, Reads (sortingHeap (s1.heap.push (seqObj "list" vs.toArray 0)) s1.heap.objs.size vs) u d bs) vs (vs.map dat) :=
    each_of dat fun v hvm => by
      obtain ⟨bs, rd⟩ := hd v (pm.mem_iff.mp hvm)
      exact ⟨bs, Reads.keeps (fun b o e => sortingHeap_old (Nat.ne_of_lt (Heap.lt_size (k1 b o e))) (Heap.get?_push_of_some _ (k1 b o e))) rd⟩
  have ez := zip_snd hl'
  have out := sortVals_data (enc := fun p : V × PyData => p.2) false (vals_each (h := s.heap) rv hl') (each_zip ev hl') (by rw [ez]; exact hal)
  obtain ⟨c, at3⟩ := sortedHeap_at (vs := vs) (out := (sortVals (dataKind (sortingHeap (s1.heap.push (seqObj "list" vs.toArray 0)) s1.heap.objs.size vs) (((vs.map vv).zip (vs.map dat)).map fun p => p.2)) false vs vs).toArray) at1
  have vl : (byKey (vs.map vv) (vs.map dat)).length ≤ sizeLine := by
    show (((vs.map vv).zip (vs.map dat)).mergeSort (dataLe false (·.2)) |>.map (·.1)).length ≤ _
    rw [List.length_map, List.length_mergeSort, List.length_zip, List.length_map, List.length_map]
    omega
  refine wpAny_bind (wpAny_holding (wpAny_call_entry_kw slot_list_sort ⟨_, at1, rfl⟩ entry_list_sort ?_ (args_list_sort _)))
  refine list_sort_vals (s := { s1 with heap := s1.heap.push (seqObj "list" vs.toArray 0) }) (κ := dataKind (sortingHeap (s1.heap.push (seqObj "list" vs.toArray 0)) s1.heap.objs.size vs) (((vs.map vv).zip (vs.map dat)).map fun p => p.2)) at1 ?_ hvz ?_
  · rw [ez]
    exact SortsAt.data (s := { s1 with heap := sortingHeap (s1.heap.push (seqObj "list" vs.toArray 0)) s1.heap.objs.size vs }) ev hal hsk fun d hdm => by
      obtain ⟨v, hvm, rfl⟩ := List.mem_map.mp hdm
      exact hu v (pm.mem_iff.mp hvm)
  · refine ⟨_, rfl, wpAny_pure ⟨_, rfl, ?_⟩⟩
    have hn : H s1.heap.objs.size = none := I.hok.fresh hz
    have k2 : ∀ b o, s.heap.get? b = some o → (sortedHeap (s1.heap.push (seqObj "list" vs.toArray 0)) s1.heap.objs.size vs (sortVals (dataKind (sortingHeap (s1.heap.push (seqObj "list" vs.toArray 0)) s1.heap.objs.size vs) (((vs.map vv).zip (vs.map dat)).map fun p => p.2)) false vs vs).toArray).get? b = some o := fun b o e => by
      have e1 := k1 b o e
      have lt := Heap.lt_size e1
      rw [sortedHeap_old (Nat.ne_of_lt lt) (by rw [size_push']; exact Nat.lt_succ_of_lt lt)]
      exact Heap.get?_push_of_some _ e1
    have J : Inv X pins σ (upd H s1.heap.objs.size (.lst (byKey (vs.map vv) (vs.map dat)))) { s with heap := sortedHeap (s1.heap.push (seqObj "list" vs.toArray 0)) s1.heap.objs.size vs (sortVals (dataKind (sortingHeap (s1.heap.push (seqObj "list" vs.toArray 0)) s1.heap.objs.size vs) (((vs.map vv).zip (vs.map dat)).map fun p => p.2)) false vs vs).toArray, gens := s1.gens, drawn := s1.drawn, toks := s1.toks } :=
      I.call (ch := []) (Un.laid k2 hz hn) (I.hok.laid k2 hz ⟨vl, _, c, each_vals out, at3⟩) (by rw [g1]; exact I.bare) (fun _ z => nomatch z)
    obtain ⟨hp, gg, dd, tt, oo⟩ := s1
    obtain rfl : gg = s.gens := g1
    obtain rfl : oo = s.os := o1
    exact ⟨.ref hp.objs.size, _, J, rfl, q vs _ pm hn⟩
end
end Nd
namespace Nd
set_option autoImplicit false
open PySem PySem.Spec PySem.W PySem.Calls PyProof.Rows L2 My Evl
/-! ### set(xs) of nested tuples, sorted(it) -/
theorem nodup_sub {α : Type} [DecidableEq α] : ∀ (l D : List α), l.Nodup → (∀ x ∈ l, x ∈ D) → l.length ≤ D.length
  | [], _, _, _ => Nat.zero_le _
  | x :: l, D, hn, hs => by
    obtain ⟨h1, h2⟩ := List.nodup_cons.mp hn
    have hx : x ∈ D := hs x List.mem_cons_self
    have ih := nodup_sub l (D.erase x) h2 fun y hy => (List.mem_erase_of_ne fun e => h1 (by rw [← e]; exact hy)).2 (hs y (List.mem_cons_of_mem _ hy))
    have e := List.length_erase_of_mem hx
    have hp := List.length_pos_of_mem hx
    rw [List.length_cons]
    omega
section
variable {P : Program} {w : World}
theorem setN_fresh {h : Heap} {a : Addr} (ho : h.get? a = some (setObj0 w)) : SetN w h a [] #[] 0 (.fresh 0 0 (!w.params.followText "set-order")) where
  ob := ⟨_, ho, ⟨rfl, rfl, rfl⟩, rfl⟩
  rows := rfl
  tab := ⟨List.Pairwise.nil, rfl, rfl, .inl rfl, fun x hx => absurd hx List.not_mem_nil, fun i h j hi => by simp at hi⟩
  nd := List.nodup_nil
  key := fun p hp => absurd hp List.not_mem_nil
  led := by
    show _ ∨ (!w.params.followText "set-order") = true
    cases w.params.followText "set-order"
    · exact .inr rfl
    · exact .inl rfl
  room := by show 0 * 5 < 7 * 3; decide
  few := by decide
theorem SetN.keep {h h' : Heap} {a : Addr} {L : KL} {es : Array (Int × Value)} {ep : Nat} {t : SetTable} (R : SetN w h a L es ep t) (ha : ∀ o, h.get? a = some o → h'.get? a = some o) (hk : ∀ p ∈ L, KIs h' p.2 p.1) : SetN w h' a L es ep t :=
  ⟨let ⟨o, e, r⟩ := R.ob; ⟨o, ha o e, r⟩, R.rows, R.tab, R.nd, hk, R.led, R.room, R.few⟩
/-- the first i have been added -/
def JN (w : World) (h0 : Heap) (S : Addr) (ks : KL) (i : Nat) (h : Heap) : Prop :=
  (∀ b o, h0.get? b = some o → h.get? b = some o) ∧ ∃ L es ep t, SetN w h S L es ep t ∧ (∀ p ∈ L, p ∈ ks.take i) ∧ ∀ p ∈ ks.take i, p.2 ∈ L.map (·.2)
theorem addsN {h0 : Heap} {S : Addr} {items : Array Value} (ks : KL) (Dm : List NestedKey) (hD : Dm.length < 63) (hk : ∀ p ∈ ks, KIs h0 p.2 p.1 ∧ p.2 ∈ Dm) (hit : items.toList = ks.map fun p => Value.ref p.1) (hS0 : h0.get? S = none) : Adds P w h0 S items (JN w h0 S ks) where
  keep := fun i h h' ⟨j0, L, es, ep, t, R, j1, j2⟩ k => by
    have k0 : ∀ b o, h0.get? b = some o → h'.get? b = some o := fun b o e => k b o (.inr (by rw [e]; exact fun z => nomatch z)) (j0 b o e)
    exact ⟨k0, L, es, ep, t, R.keep (fun o e => k S o (.inl rfl) e) fun p hp => (hk p (List.mem_of_mem_take (j1 p hp))).1.keep k0, j1, j2⟩
  add := fun A E s i v Q hu hv hkp ⟨j0, L, es, ep, t, R, j1, j2⟩ q => by
    have hv2 : items.toList[i]? = some v := by rw [Array.getElem?_toList]; exact hv
    rw [hit, List.getElem?_map] at hv2
    obtain ⟨p, hp, rfl⟩ := Option.map_eq_some_iff.mp hv2
    have pm := List.mem_of_getElem? hp
    obtain ⟨hx0, _⟩ := hk p pm
    have hx := hx0.keep hkp
    have snoc : ks.take (i + 1) = ks.take i ++ [p] := by
      rw [List.take_add_one, hp]
      rfl
    have lim : L.length ≤ Dm.length := by
      have := nodup_sub (L.map (·.2)) Dm R.nd fun x hx => by
        obtain ⟨z, hz, rfl⟩ := List.mem_map.mp hx
        exact (hk z (List.mem_of_mem_take (j1 z hz))).2
      rw [List.length_map] at this
      exact this
    unfold setAdd
    refine wpAny_holding (wpAny_bind ((nestedKind P w).pyHash hu hx ?_))
    refine setN_add (s := { s with toks := s.toks + p.2.draws }) R hx hu (by omega) fun b h' L' es' ep' t' sb R' c1 c2 => ?_
    refine q b h' (s.toks + p.2.draws) sb ⟨fun b o e => (sb.2 b fun z => by rw [z, hS0] at e; cases e).trans (hkp b o e), L', es', ep', t', R', ?_⟩ (Nat.le_add_right _ _)
    by_cases c : p.2 ∈ L.map (·.2)
    · obtain rfl := c1 c
      refine ⟨fun z hz => by rw [snoc]; exact List.mem_append_left _ (j1 z hz), fun z hz => ?_⟩
      rw [snoc] at hz
      rcases List.mem_append.mp hz with hz | hz
      · exact j2 z hz
      · rw [List.mem_singleton.mp hz]
        exact c
    · have pm := c2 c
      refine ⟨fun z hz => ?_, fun z hz => ?_⟩
      · rw [snoc]
        rcases List.mem_cons.mp (pm.mem_iff.mp hz) with e | hz
        · rw [e]
          exact List.mem_append_right _ List.mem_cons_self
        · exact List.mem_append_left _ (j1 z hz)
      · rw [(pm.map (·.2)).mem_iff, List.map_cons]
        rw [snoc] at hz
        rcases List.mem_append.mp hz with hz | hz
        · exact List.mem_cons_of_mem _ (j2 z hz)
        · rw [List.mem_singleton.mp hz]
          exact List.mem_cons_self
end
/-- the set at a, the tuples themselves apart -/
def SetNf (w : World) (a : Addr) (L : KL) : Heap → Prop := fun h => ∃ (es : Array (Int × Value)) (ep : Nat) (t : SetTable), (∃ o, h.get? a = some o ∧ o.ExactSet ∧ o.data = .set es ep t) ∧ es.toList = rowsK w L ∧ TabOk t (hsK w L) ∧ (L.map (·.2)).Nodup ∧
  (w.params.followText "set-order" = true ∨ t.led = true) ∧ L.length * 5 < t.mask * 3 ∧ L.length < 64
def SetNO (w : World) (a : Addr) (L : KL) : HO := .ext (SetNf w a L)
theorem setNO_new {P : Program} {w : World} {H : Hp} {h : Heap} {a : Addr} {L : KL} (R : SetNf w a L h) : ObjOk P w H h a (SetNO w a L) := by
  refine ⟨R, (let ⟨_, _, _, ⟨o, e, _⟩, _⟩ := R; ⟨o, e⟩), fun h1 h2 r k => ?_⟩
  obtain ⟨es, ep, t, ⟨o, e, r1⟩, r2⟩ := r
  exact ⟨es, ep, t, ⟨o, k o e, r1⟩, r2⟩
theorem refsK : ∀ {ks : KL} {us : List Value}, Vals (ks.map fun p => V.ref p.1) us → us = ks.map fun p => Value.ref p.1
  | [], _, .nil => rfl
  | p :: ks, _, .cons r t => by
    cases r
    rw [refsK t]
    rfl
section
variable {X : Cx}
/-- set(xs), xs a list of nested tuples -/
def rSetN (K : PySem.W.Frag) (w : World) : List V → Hp → VK → Prop := fun xs H Q => ∃ (l : Addr) (ks : KL) (Dm : List NestedKey), xs = [V.ref l] ∧ SqL K H l (ks.map fun p => V.ref p.1) ∧ (∀ p ∈ ks, KeyAt K H p.1 p.2 ∧ p.2 ∈ Dm) ∧ Dm.length < 63 ∧
  ∀ a L, H a = none → (∀ p ∈ L, p ∈ ks) → (∀ p ∈ ks, p.2 ∈ L.map (·.2)) → (L.map (·.2)).Nodup → Q (.ref a) (upd H a (SetNO w a L))
theorem cr_setN {k : Nat} (hr : Room k X.A) : CallR X (.type "set") (rSetN X.K X.w) := by
  intro pins s σ H xs us Q I r h
  obtain ⟨l, ks, Dm, rfl, hl, hk, hD, q⟩ := h
  obtain rfl := Vals.ref1 r
  obtain ⟨its, rv, pl, hz⟩ := I.list hl
  have un := hr.un
  have hS0 : s.heap.get? s.heap.objs.size = none := by
    cases q : s.heap.get? s.heap.objs.size with
    | none => rfl
    | some o => exact absurd (Heap.lt_size q) (Nat.lt_irrefl _)
  have hit : its.toArray.toList = ks.map fun p => Value.ref p.1 := by
    have := refsK rv
    simpa using this
  refine call_setList (P := X.prog) (w := X.w) (J := JN X.w s.heap s.heap.objs.size ks) hr.hd pl.isList (addsN ks Dm hD (fun p hp => ⟨key_is I (hk p hp).1, (hk p hp).2⟩) hit hS0) (fun h ho kp => ?_) (by omega) fun h' tk hj kp => ?_
  · exact ⟨kp, [], #[], 0, _, setN_fresh ho, fun p hp => absurd hp List.not_mem_nil, fun p hp => by rw [List.take_zero] at hp; exact absurd hp List.not_mem_nil⟩
  · obtain ⟨_, L, es, ep, t, R, j1, j2⟩ := hj
    have sz : its.toArray.size = ks.length := by
      rw [← Array.length_toList, hit, List.length_map]
    rw [sz, List.take_length] at j1 j2
    have hn : H s.heap.objs.size = none := I.hok.fresh (Nat.le_refl _)
    exact ⟨.ref s.heap.objs.size, upd H s.heap.objs.size (SetNO X.w s.heap.objs.size L), I.laid (t' := tk) kp (Nat.le_refl _) (setNO_new ⟨es, ep, t, R.ob, R.rows, R.tab, R.nd, R.led, R.room, R.few⟩), rfl, q _ L hn j1 j2 R.nd⟩
/-- sorted(s), s such a set -/
def rSortSN (K : PySem.W.Frag) (w : World) : List V → Hp → VK → Prop := fun vs H Q => ∃ (a : Addr) (L : KL) (dat : Addr → PyData), vs = [.ref a] ∧ H a = some (SetNO w a L) ∧ (∀ p ∈ L, Dp K H (.ref p.1) (dat p.1) ∧ (dat p.1).depth ≤ 50) ∧
  (∀ as : List Addr, as.Perm (L.map (·.1)) → AllAlike (as.map dat) ∧ Sortable (as.map dat)) ∧ ∀ (as : List Addr) (b : Addr), as.Perm (L.map (·.1)) → H b = none → Q (.ref b) (upd H b (.lst (byKey (as.map V.ref) (as.map dat))))
theorem cr_sortSN {k : Nat} (hr : Room k X.A) : CallR X (.builtin "sorted") (rSortSN X.K X.w) := by
  intro pins s σ H vs us Q I r h
  obtain ⟨a, L, dat, rfl, ha, hd, hal, q⟩ := h
  obtain rfl := Vals.ref1 r
  obtain ⟨es, ep, t, ⟨o, ho, hex, hdt⟩, rows, tab, nd, led, room, few⟩ := (I.hok a _ ha).1
  have un := hr.un
  have hsz := rowsK_size rows
  have psz : t.place.size = es.size := by rw [tab.sz, List.length_map, hsz]
  have vals : es.toList.map (·.2) = (L.map (·.1)).map Value.ref := by
    rw [rows]
    unfold rowsK
    rw [List.map_map, List.map_map]
    rfl
  have unref : ∀ {vs : List Value}, vs.Perm (es.toList.map (·.2)) → ∃ as : List Addr, vs = as.map Value.ref ∧ as.Perm (L.map (·.1)) := fun {vs} pm => by
    rw [vals] at pm
    have pm2 := pm.map (fun v : Value => match v with | .ref a => a | _ => 0)
    rw [List.map_map] at pm2
    have e : (L.map (·.1)).map ((fun v : Value => match v with | .ref a => a | _ => 0) ∘ Value.ref) = L.map (·.1) := List.map_id _
    rw [e] at pm2
    refine ⟨_, ?_, pm2⟩
    rw [List.map_map]
    conv => lhs; rw [← List.map_id vs]
    refine List.map_congr_left fun v hv => ?_
    obtain ⟨b, _, rfl⟩ := List.mem_map.mp (pm.mem_iff.mp hv)
    rfl
  have back : ∀ as : List Addr, (as.map Value.ref).map (fun v : Value => match v with | .ref a => V.ref a | _ => V.non) = as.map V.ref := fun as => by rw [List.map_map]; rfl
  have backD : ∀ as : List Addr, (as.map Value.ref).map (fun v : Value => match v with | .ref a => dat a | _ => PyData.none) = as.map dat := fun as => by rw [List.map_map]; rfl
  refine sorted_setD (s := s) I hr.hd (a := a) ⟨o, ho, hex.1, hdt⟩ (fits_of psz tab.dm (by omega)) (by rw [hsz]; exact Nat.lt_trans few (by decide)) tab.ris led (fun v : Value => match v with | .ref a => V.ref a | _ => V.non) (fun v : Value => match v with | .ref a => dat a | _ => PyData.none) (fun v hv => ?_) (fun v hv => ?_) (fun vs pm => ?_) (fun v hv => ?_) fun vs b pm hb => ?_
  · rw [vals] at hv
    obtain ⟨b, _, rfl⟩ := List.mem_map.mp hv
    exact rfl
  · rw [vals, List.map_map] at hv
    obtain ⟨p, hp, rfl⟩ := List.mem_map.mp hv
    have ev := dps_each I (vs := [V.ref p.1]) (us := [Value.ref p.1]) (ds := [dat p.1]) (.cons rfl .nil) (.cons (hd p hp).1 .nil)
    cases ev with
    | cons a _ => exact a
  · obtain ⟨as, rfl, pa⟩ := unref pm
    rw [backD]
    exact hal as pa
  · rw [vals, List.map_map] at hv
    obtain ⟨p, hp, rfl⟩ := List.mem_map.mp hv
    have := (hd p hp).2
    show X.A.units + 2 + (dat p.1).depth < cLine
    omega
  · obtain ⟨as, rfl, pa⟩ := unref pm
    rw [back, backD]
    exact q as b pa hb
end
end Nd
namespace Nd
set_option autoImplicit false
open PySem PySem.Spec PySem.W PySem.Calls PyProof.Rows L2 My Evl PySem.Froz
/-! ### sets of texts -/
theorem perm_sub {α : Type} [DecidableEq α] : ∀ {L M : List α}, L.Nodup → (∀ x ∈ L, x ∈ M) → M.length = L.length → M.Perm L
  | [], M, _, _, h => by
    obtain rfl : M = [] := List.length_eq_zero_iff.mp h
    exact List.Perm.refl _
  | x :: L, M, nd, hs, h => by
    obtain ⟨n1, n2⟩ := List.nodup_cons.mp nd
    have hx := hs x List.mem_cons_self
    have e := List.length_erase_of_mem hx
    rw [h, List.length_cons] at e
    have ih := perm_sub (M := M.erase x) n2 (fun y hy => (List.mem_erase_of_ne fun z => n1 (by rw [← z]; exact hy)).mpr (hs y (List.mem_cons_of_mem _ hy))) (by omega)
    exact (List.perm_cons_erase hx).trans (ih.cons x)
def addS (L : List Str) (k : Str) : List Str := if k ∈ L then L else k :: L
theorem addS_mem {L : List Str} {k x : Str} : x ∈ addS L k ↔ x ∈ L ∨ x = k := by
  unfold addS
  split
  · rename_i h
    exact ⟨.inl, fun q => q.elim id fun e => e ▸ h⟩
  · rw [List.mem_cons]
    exact Or.comm
theorem addS_len (L : List Str) (k : Str) : (addS L k).length ≤ L.length + 1 := by
  unfold addS
  split
  · omega
  · exact Nat.le_refl _
structure StT (P : Program) (w : World) (h : Heap) (a : Addr) (L : List Str) : Prop where
  ex : ∃ D : SD, h.get? a = some (sObj "set" D) ∧ TxOk P w D L ∧ Ris D.2.2.place.toList ∧ (w.params.followText "set-order" = true ∨ D.2.2.led = true)
  nd : L.Nodup
section
variable {P : Program} {w : World} {A : Around} {E : Value → Shared → Prop} {s : Shared} {a : Addr} {L : List Str} {k : Str} {u : Tok}
theorem str_shape {v : Value} (h : (strKind P w).is k v = true) : ∃ t, v = .str k t := by
  have h : Value.isStrOf k v = true := h
  cases v with
  | str x t =>
    unfold Value.isStrOf at h
    exact ⟨t, by rw [eq_of_beq h]⟩
  | _ => cases h
theorem StT.at {h h' : Heap} (R : StT P w h a L) (ha : ∀ o, h.get? a = some o → h'.get? a = some o) : StT P w h' a L := by
  obtain ⟨⟨D, e, r⟩, nd⟩ := R
  exact ⟨⟨D, ha _ e, r⟩, nd⟩
theorem stT_fresh {h : Heap} (ho : h.get? a = some (setObj0 w)) : StT P w h a [] := by
  refine ⟨⟨(#[], 0, .fresh 0 0 (!w.params.followText "set-order")), ho, TxOk.nil (by rfl), List.Pairwise.nil, ?_⟩, List.nodup_nil⟩
  show _ ∨ (!w.params.followText "set-order") = true
  cases w.params.followText "set-order"
  · exact .inr rfl
  · exact .inl rfl
theorem tail_ris {ep : Nat} {es1 : Array (Int × Value)} {t2 : SetTable} {wd : Bool} (r : Ris t2.place.toList) : Ris (tailTx ep es1 t2 wd).2.2.place.toList := by
  unfold tailTx
  split
  · exact relayAll_ris _ _ _
  · exact r
theorem tail_led {ep : Nat} {es1 : Array (Int × Value)} {t2 : SetTable} {wd : Bool} : (tailTx ep es1 t2 wd).2.2.led = t2.led := by
  unfold tailTx
  split
  · exact relayAll_led _ _ _
  · rfl
theorem addTx_ris (h : Int) (v : Value) (D : SD) (r : Ris D.2.2.place.toList) : Ris (addTx h v D).2.2.place.toList := by
  have h1 := layNew_ris D.2.2 D.1 h v r
  unfold addTx
  refine tail_ris ?_
  split <;> exact h1
theorem addTx_led (h : Int) (v : Value) (D : SD) : (addTx h v D).2.2.led = D.2.2.led := by
  have h1 := layNew_led D.2.2 D.1 h v
  unfold addTx
  rw [tail_led]
  split <;> exact h1
theorem stT_add (R : StT P w s.heap a L) (room : L.length + 1 < scanBound) {Q : Bool → Shared → Prop} (hQ : ∀ b h', Heap.SameBut a s.heap h' → StT P w h' a (addS L k) → Q b { s with heap := h' }) :
    wpAny (model P w) A (setAddHashed a (.str k u) (hashStr w k)) Q E s := by
  obtain ⟨⟨D, ho, F, r, hl⟩, nd⟩ := R
  by_cases c : k ∈ L
  · -- it is there
    have eL : addS L k = L := if_pos c
    rw [eL] at hQ
    have fin := hQ false s.heap (Heap.SameBut.refl a s.heap) ⟨⟨D, ho, F, r, hl⟩, nd⟩
    obtain ⟨es, ep, t⟩ := D
    have hd : (sObj "set" (es, ep, t)).data = .set es ep t := rfl
    have hel : ElemsOf (strKind P w) es.toList := F.el
    have hf : t.fits es.size = true := F.fit
    have hsz : es.size = L.length := F.sz
    have hkey : (strKind P w).is k (.str k u) = true := is_str k u
    unfold setAddHashed setAddHashedIn
    refine wpAny_holding (wpAny_bind (wpAny_setState_of ho hd hf ?_))
    dsimp only
    rw [byScan_of rfl (by omega) hel]
    simp only [↓reduceIte]
    unfold setAddByScan
    refine wpAny_bind (wpAny_bind (wpAny_rule (wpAny_bind (wpAny_setScan_of (knd := strKind P w) (k := k) hkey ho hd hf hel ?_))))
    cases hr : List.findIdx? (fun e => (strKind P w).is k e.2) es.toList with
    | none =>
      exfalso
      obtain ⟨e, he, p⟩ := (F.mem k).mp c
      have := List.findIdx?_eq_none_iff.mp hr e he
      rw [p] at this
      cases this
    | some j =>
      dsimp only
      exact wpAny_pure (wpAny_pure fin)
  · have eL : addS L k = k :: L := if_neg c
    rw [eL] at hQ
    refine add_x ho F c room (hQ true _ (Heap.SameBut.update s.heap a _) ⟨⟨addTx (hashStr w k) (.str k u) D, get_upd _ ho rfl, add_ok u F, addTx_ris _ _ D r, ?_⟩, List.nodup_cons.mpr ⟨c, nd⟩⟩)
    rw [addTx_led]
    exact hl
theorem stT_setAdd (R : StT P w s.heap a L) (room : L.length + 1 < scanBound) {Q : Bool → Shared → Prop} (hQ : ∀ b h', Heap.SameBut a s.heap h' → StT P w h' a (addS L k) → Q b { s with heap := h', toks := s.toks + 1 }) :
    wpAny (model P w) A (setAdd a (.str k u)) Q E s := by
  unfold setAdd
  refine wpAny_holding (wpAny_bind ((strKind P w).pyHash (k := k) (is_str k u) ?_))
  exact stT_add (s := { s with toks := s.toks + 1 }) R room hQ
theorem stT_call (R : StT P w s.heap a L) (room : L.length + 1 < scanBound) {Q : Value → Shared → Prop} (hQ : ∀ h', Heap.SameBut a s.heap h' → StT P w h' a (addS L k) → Q .none { s with heap := h', toks := s.toks + 1 }) :
    wpAny (model P w) A (call (.builtin "set.add") [.ref a, .str k u]) Q E s := by
  have hT : s.TypeIs (.ref a) "set" := let ⟨⟨D, ho, _⟩, _⟩ := R; ⟨_, ho, rfl⟩
  refine wpAny_call_entry F.slot_set_add hT F.entry_set_add ?_ (F.args_set_add_2 _ _)
  unfold Builtin.«set.add» Builtin.Frozenset.oneOther
  simp only [List.isEmpty_nil, bind_assoc]
  unfold Builtin.Frozenset.addrOf
  refine wpAny_bind (wpAny_pure ?_)
  try dsimp only
  refine wpAny_bind (wpAny_pure ?_)
  try dsimp only
  refine wpAny_bind (stT_setAdd R room fun b h' sb r => ?_)
  show wpAny _ _ (ret Value.none) _ _ _
  exact wpAny_pure ⟨_, rfl, hQ h' sb r⟩
/-- the first i have been added -/
def JT (P : Program) (w : World) (S : Addr) (xs : List Str) (i : Nat) (h : Heap) : Prop := ∃ L, StT P w h S L ∧ L.length ≤ i ∧ ∀ x, x ∈ L ↔ x ∈ xs.take i
theorem addsT {h0 : Heap} {S : Addr} {items : Array Value} (xs : List Str) (hn : xs.length + 1 < scanBound) (hv : ∀ (i : Nat) v, items[i]? = some v → ∃ x t, xs[i]? = some x ∧ v = .str x t) : Adds P w h0 S items (JT P w S xs) where
  keep := fun i h h' ⟨L, R, j1, j2⟩ k => ⟨L, R.at fun o e => k S o (.inl rfl) e, j1, j2⟩
  add := fun A E s i v Q _ hi _ ⟨L, R, j1, j2⟩ q => by
    obtain ⟨x, t, hx, rfl⟩ := hv i v hi
    have il := (List.getElem?_eq_some_iff.mp hx).1
    refine stT_setAdd R (by omega) fun b h' sb R' => q b h' _ sb ⟨_, R', Nat.le_trans (addS_len L x) (by omega), fun y => ?_⟩ (Nat.le_succ _)
    rw [addS_mem, j2, List.take_add_one, hx, List.mem_append]
    simp
end
/-- the set of texts at a -/
def StTO (P : Program) (w : World) (a : Addr) (L : List Str) : HO := .ext fun h => StT P w h a L
theorem stTO_new {P : Program} {w : World} {H : Hp} {h : Heap} {a : Addr} {L : List Str} (R : StT P w h a L) : ObjOk P w H h a (StTO P w a L) := by
  have ⟨⟨D, ho, _⟩, _⟩ := R
  exact ⟨R, ⟨_, ho⟩, fun h1 h2 r k => StT.at r k⟩
section
variable {X : Cx}
/-- set(xs), xs a list of texts -/
def rSetT (K : PySem.W.Frag) (P : Program) (w : World) : List V → Hp → VK → Prop := fun vs H Q => ∃ (l : Addr) (xs : List Str), vs = [V.ref l] ∧ SqL K H l (xs.map V.str) ∧ xs.length < 1000 ∧
  ∀ a L, H a = none → L.Nodup → (∀ x, x ∈ L ↔ x ∈ xs) → Q (.ref a) (upd H a (StTO P w a L))
theorem cr_setT {k : Nat} (hr : Room k X.A) : CallR X (.type "set") (rSetT X.K X.prog X.w) := by
  intro pins s σ H vs us Q I r h
  obtain ⟨l, xs, rfl, hl, hx, q⟩ := h
  obtain rfl := Vals.ref1 r
  obtain ⟨its, rv, pl, hz⟩ := I.list hl
  have un := hr.un
  have sz : its.toArray.size = xs.length := by
    have := rv.length
    rw [List.length_map] at this
    rw [List.size_toArray, this]
  have hv : ∀ (i : Nat) v, its.toArray[i]? = some v → ∃ x t, xs[i]? = some x ∧ v = .str x t := fun i v hv => by
    have hi : i < xs.length := by
      have := (Array.getElem?_eq_some_iff.mp hv).1
      omega
    obtain ⟨u, hu, ru⟩ := rv.get (i := i) (x := V.str xs[i]) (by rw [List.getElem?_map, List.getElem?_eq_getElem hi]; rfl)
    have e : its[i]? = some v := by simpa using hv
    rw [hu] at e
    obtain rfl := Option.some.inj e
    obtain ⟨t, rfl⟩ := ru
    exact ⟨xs[i], t, List.getElem?_eq_getElem hi, rfl⟩
  refine call_setList (P := X.prog) (w := X.w) (J := JT X.prog X.w s.heap.objs.size xs) hr.hd pl.isList (addsT xs (by unfold scanBound; omega) hv) (fun h ho kp => ?_) (by omega) fun h' tk hj kp => ?_
  · exact ⟨[], stT_fresh ho, Nat.zero_le _, fun x => by rw [List.take_zero]⟩
  · obtain ⟨L, R, j1, j2⟩ := hj
    rw [sz, List.take_length] at j2
    have hn : H s.heap.objs.size = none := I.hok.fresh (Nat.le_refl _)
    exact ⟨.ref s.heap.objs.size, upd H s.heap.objs.size (StTO X.prog X.w s.heap.objs.size L), I.laid (t' := tk) kp (Nat.le_refl _) (stTO_new R), rfl, q _ L hn R.nd j2⟩
/-- sorted(s), s such a set -/
def rSortST (P : Program) (w : World) : List V → Hp → VK → Prop := fun vs H Q => ∃ (a : Addr) (L : List Str), vs = [.ref a] ∧ H a = some (StTO P w a L) ∧ L.length < 4000 ∧ ∀ (xs : List Str) (b : Addr), xs.Perm L → H b = none → Q (.ref b) (upd H b (.lst (byKey (xs.map V.str) (xs.map .str))))
theorem cr_sortST {k : Nat} (hr : Room k X.A) : CallR X (.builtin "sorted") (rSortST X.prog X.w) := by
  intro pins s σ H vs us Q I r h
  obtain ⟨a, L, rfl, ha, hL, q⟩ := h
  obtain rfl := Vals.ref1 r
  obtain ⟨⟨D, ho, F, rs, hl⟩, nd⟩ : StT X.prog X.w s.heap a L := (I.hok a _ ha).1
  have un := hr.un
  have hsz : D.1.size = L.length := F.sz
  have allT : ∀ v ∈ D.1.toList.map (·.2), ∃ x t, v = Value.str x t ∧ x ∈ L := fun v hv => by
    obtain ⟨e, he, rfl⟩ := List.mem_map.mp hv
    obtain ⟨x, hx⟩ := F.el.keys e he
    obtain ⟨t, e2⟩ := str_shape hx
    exact ⟨x, t, e2, (F.mem x).mpr ⟨e, he, hx⟩⟩
  have perm : ∀ {vs : List Value}, vs.Perm (D.1.toList.map (·.2)) → ∃ xs : List Str, xs.Perm L ∧ vs.map (fun v : Value => match v with | .str x _ => V.str x | _ => V.non) = xs.map V.str ∧ vs.map (fun v : Value => match v with | .str x _ => PyData.str x | _ => PyData.none) = xs.map .str := fun {vs} pm => by
    have sv : ∀ v ∈ vs, ∃ x t, v = Value.str x t ∧ x ∈ L := fun v hv => allT v (pm.mem_iff.mp hv)
    refine ⟨vs.map (fun v : Value => match v with | .str x _ => x | _ => ""), ?_, ?_, ?_⟩
    · have h1 : (vs.map (fun v : Value => match v with | .str x _ => x | _ => "")).length = L.length := by
        rw [List.length_map, pm.length_eq, List.length_map, Array.length_toList, hsz]
      have hsub : ∀ x ∈ L, x ∈ vs.map (fun v : Value => match v with | .str x _ => x | _ => "") := fun x hx => by
        obtain ⟨e, he, hk⟩ := (F.mem x).mp hx
        obtain ⟨t, e2⟩ := str_shape hk
        exact List.mem_map.mpr ⟨e.2, pm.mem_iff.mpr (List.mem_map.mpr ⟨e, he, rfl⟩), by rw [e2]⟩
      exact perm_sub nd hsub h1
    · rw [List.map_map]
      refine List.map_congr_left fun v hv => ?_
      obtain ⟨x, t, rfl, _⟩ := sv v hv
      rfl
    · rw [List.map_map]
      refine List.map_congr_left fun v hv => ?_
      obtain ⟨x, t, rfl, _⟩ := sv v hv
      rfl
  refine sorted_setD (s := s) I hr.hd (a := a) ⟨_, ho, rfl, rfl⟩ F.fit (by rw [hsz]; unfold scanBound; omega) rs hl (fun v : Value => match v with | .str x _ => V.str x | _ => V.non) (fun v : Value => match v with | .str x _ => PyData.str x | _ => PyData.none) (fun v hv => ?_) (fun v hv => ?_) (fun vs pm => ?_) (fun v hv => ?_) fun vs b pm hb => ?_
  · obtain ⟨x, t, rfl, _⟩ := allT v hv
    exact ⟨t, rfl⟩
  · obtain ⟨x, t, rfl, _⟩ := allT v hv
    exact ⟨_, .str x t⟩
  · obtain ⟨xs, _, _, e⟩ := perm pm
    rw [e]
    refine ⟨AllAlike.of fun _ _ => rfl, Sortable.others fun _ => ⟨?_, ?_⟩⟩
    · exact fun z => nomatch z
    · exact fun _ z => nomatch z
  · obtain ⟨x, t, rfl, _⟩ := allT v hv
    show X.A.units + 2 + 0 < cLine
    omega
  · obtain ⟨xs, p, e1, e2⟩ := perm pm
    rw [e1, e2]
    exact q xs b p hb
end
end Nd
namespace Nd
set_option autoImplicit false
open PySem PySem.Spec PySem.W PySem.Calls PyProof.Rows L2 My Evl LamX
/-! ### derivatives in the order of data, told by their parts -/
def ltD (u v : Dv) : Prop := dataLt u.D v.D = true
theorem ltD_irr (u : Dv) : ¬ ltD u u := fun h => by
  have := Od.irr (κ := Dv) u
  unfold ltD at h
  rw [show Od.lt u u = dataLt u.D u.D from rfl, h] at this
  cases this
theorem ltD_tr {u v w : Dv} (h : ltD u v) (k : ltD v w) : ltD u w := Od.tr (κ := Dv) h k
theorem ltD_one {us vs : List Dv} (h : us.Pairwise ltD) (k : vs.Pairwise ltD) (e : ∀ v, v ∈ us ↔ v ∈ vs) : us = vs := by
  have nd : ∀ {l : List Dv}, l.Pairwise ltD → l.Nodup := fun {l} h => List.Pairwise.imp (fun {a b} z e => by
    subst e
    exact ltD_irr _ z) h
  exact List.Perm.eq_of_pairwise (le := ltD) (fun u v _ _ a b => (ltD_irr u (ltD_tr a b)).elim) h k ((List.perm_ext_iff_of_nodup (nd h) (nd k)).mpr e)
theorem srtD_lt {us : List Dv} (nd : us.Nodup) : (srtD us).Pairwise ltD := by
  have h1 : (srtD us).Pairwise (fun u v => leD u v = true) := List.pairwise_mergeSort (le := leD) (fun a b c h k => by
    unfold leD at *
    simp only [Bool.not_eq_true'] at *
    cases e : dataLt c.D a.D with
    | false => rfl
    | true => rcases dlt_tr (y := b.D) e with z | z
              · rw [z] at k; cases k
              · rw [z] at h; cases h) (fun a b => by
    unfold leD
    cases e : dataLt b.D a.D with
    | false => rfl
    | true => rw [dlt_as e]; rfl) us
  have h2 : (srtD us).Nodup := (List.mergeSort_perm us leD).nodup_iff.mpr nd
  refine (h1.and h2).imp fun {u v} h => ?_
  unfold leD at h
  rcases Od.tri (κ := Dv) h.2 with z | z
  · exact z
  · have z : dataLt v.D u.D = true := z
    rw [z] at h
    exact absurd h.1 (by decide)
/-! ### names in order -/
def leN (x y : Str) : Bool := !dataLt (.str y) (.str x)
def srtN (ns : List Str) : List Str := ns.mergeSort leN
def ltN (x y : Str) : Prop := dataLt (.str x) (.str y) = true
theorem ltN_ne {x y : Str} (h : ltN x y) : x ≠ y := fun e => by
  subst e
  have : dataLt (.str x) (.str x) = false := lex_irrefl _
  unfold ltN at h
  rw [this] at h
  cases h
theorem srtN_lt {ns : List Str} (nd : ns.Nodup) : (srtN ns).Pairwise ltN := by
  have h1 : (srtN ns).Pairwise (fun u v => leN u v = true) := List.pairwise_mergeSort (le := leN) (fun a b c h k => by
    unfold leN at *
    simp only [Bool.not_eq_true'] at *
    cases e : dataLt (.str c) (.str a) with
    | false => rfl
    | true => rcases dlt_tr (y := .str b) e with z | z
              · rw [z] at k; cases k
              · rw [z] at h; cases h) (fun a b => by
    unfold leN
    cases e : dataLt (.str b) (.str a) with
    | false => rfl
    | true => rw [dlt_as e]; rfl) ns
  have h2 : (srtN ns).Nodup := (List.mergeSort_perm ns leN).nodup_iff.mpr nd
  refine (h1.and h2).imp fun {u v} h => ?_
  unfold leN at h
  rcases dlt_ne (x := .str u) (y := .str v) (by simp [alike]) (by simp [PyData.eqv]; exact h.2) with z | z
  · exact z
  · rw [z] at h
    exact absurd h.1 (by decide)
theorem byKey_str {xs : List Str} : byKey (xs.map V.str) (xs.map PyData.str) = (srtN xs).map V.str := by
  have e1 : (xs.map V.str).zip (xs.map PyData.str) = xs.map fun x => (V.str x, PyData.str x) := by
    induction xs with
    | nil => rfl
    | cons x xs ih => rw [List.map_cons, List.map_cons, List.zip_cons_cons, ih]; rfl
  have e2 : (xs.mergeSort leN).map (fun x => (V.str x, PyData.str x)) = (xs.map fun x => (V.str x, PyData.str x)).mergeSort (dataLe false (·.2)) := by
    refine List.map_mergeSort fun p _ q _ => ?_
    rw [dataLe_eq]
    rfl
  unfold byKey
  rw [e1, ← e2, List.map_map]
  rfl

theorem ltN_tr {x y z : Str} (h : ltN x y) (k : ltN y z) : ltN x z := lex_trans _ _ _ h k
theorem srtN_one {xs ys : List Str} (nx : xs.Nodup) (ny : ys.Nodup) (e : ∀ x, x ∈ xs ↔ x ∈ ys) : srtN xs = srtN ys :=
  List.Perm.eq_of_pairwise (le := ltN) (fun u v _ _ a b => (ltN_ne (ltN_tr a b) rfl).elim) (srtN_lt nx) (srtN_lt ny) (((List.mergeSort_perm xs leN).trans ((List.perm_ext_iff_of_nodup nx ny).mpr e)).trans (List.mergeSort_perm ys leN).symm)
/-- the texts, each once -/
def dedS (xs : List Str) : List Str := xs.foldl addS []
theorem addS_nd {L : List Str} {k : Str} (h : L.Nodup) : (addS L k).Nodup := by
  unfold addS
  split
  · exact h
  · rename_i c
    exact List.nodup_cons.mpr ⟨c, h⟩
theorem foldS : ∀ (xs L : List Str), (∀ x, x ∈ xs.foldl addS L ↔ x ∈ L ∨ x ∈ xs) ∧ (L.Nodup → (xs.foldl addS L).Nodup) ∧ (xs.foldl addS L).length ≤ L.length + xs.length
  | [], L => ⟨fun x => by simp, id, Nat.le_refl _⟩
  | y :: xs, L => by
    obtain ⟨h1, h2, h3⟩ := foldS xs (addS L y)
    rw [List.foldl_cons]
    refine ⟨fun x => ?_, fun nd => h2 (addS_nd nd), ?_⟩
    · rw [h1, addS_mem, List.mem_cons]
      exact ⟨fun h => h.elim (fun a => a.elim .inl fun b => .inr (.inl b)) fun a => .inr (.inr a), fun h => h.elim (fun a => .inl (.inl a)) fun a => a.elim (fun b => .inl (.inr b)) .inr⟩
    · have := addS_len L y
      rw [List.length_cons]
      omega
theorem dedS_mem {xs : List Str} {x : Str} : x ∈ dedS xs ↔ x ∈ xs := by
  unfold dedS
  rw [(foldS xs []).1]
  simp
theorem dedS_nd (xs : List Str) : (dedS xs).Nodup := (foldS xs []).2.1 List.nodup_nil
/-- a set of these texts -/
def StP (P : Program) (w : World) (xs : List Str) : Pr := ⟨fun v H => ∃ a L, v = .ref a ∧ H a = some (StTO P w a L) ∧ L.Nodup ∧ L.length < 4000 ∧ ∀ x, x ∈ L ↔ x ∈ xs, fun e ⟨a, L, h1, h2, h3⟩ => ⟨a, L, h1, e _ _ h2, h3⟩⟩
/-- a set of these derivatives -/
structure SnAt (w : World) (us : List Dv) (v : V) (H : Hp) (a : Addr) (L : KL) : Prop where
  v : v = .ref a
  h : H a = some (SetNO w a L)
  nd : (L.map (·.2)).Nodup
  of : ∀ p ∈ L, ∃ u ∈ us, (DvP u).P (.ref p.1) H ∧ p.2 = nk u.D
  all : ∀ u ∈ us, nk u.D ∈ L.map (·.2)
def SnP (w : World) (us : List Dv) : Pr := ⟨fun v H => ∃ a L, SnAt w us v H a L, fun e ⟨a, L, h⟩ => ⟨a, L, h.v, e _ _ h.h, h.nd, fun p hp => let ⟨u, hu, h, q⟩ := h.of p hp; ⟨u, hu, (DvP u).m e h, q⟩, h.all⟩⟩
section
variable {P : Program} {w : World} {K : PySem.W.Frag} {te : TE} {σ : L2.St} {B : Hp}
theorem strs_at {H : Hp} : ∀ {xs : List Str} {vs : List V}, AllP (xs.map fun x => IsV (.str x)) vs H → vs = xs.map V.str
  | [], [], _ => rfl
  | _ :: _, _ :: _, h => by rw [show _ = V.str _ from h.1, strs_at h.2]; rfl
theorem at_strs {H : Hp} : ∀ xs : List Str, AllP (xs.map fun x => IsV (.str x)) (xs.map V.str) H
  | [] => trivial
  | _ :: xs => ⟨rfl, at_strs xs⟩
theorem p_setT {xs : List Str} (h : EvP te σ B (LqP K (xs.map fun x => IsV (.str x)))) (hl : xs.length < 1000) : EvP (tCB (rSetT K P w) (tCons te tNil)) σ B (StP P w xs) := fun H1 a Q k =>
  h H1 a _ fun v B2 H2 g pv => by
    obtain ⟨l, vs, rfl, hx, al⟩ := pv
    obtain rfl := strs_at al
    refine ⟨l, xs, rfl, ex_l g.c hx, hl, fun r L hr nd hm => ?_⟩
    have hL : L.length < 4000 := by
      have := nodup_sub L xs nd fun x hx => (hm x).mp hx
      omega
    exact k _ _ _ (g.trans (Gr.new (StTO P w r L) g.c hr (fun _ z => nomatch z))) ⟨r, L, rfl, upd_same, nd, hL, hm⟩
theorem p_sortST {xs : List Str} (h : EvP te σ B (StP P w xs)) : EvP (tCB (rSortST P w) (tCons te tNil)) σ B (LsP ((srtN (dedS xs)).map fun x => IsV (.str x))) := fun H1 a Q k =>
  h H1 a _ fun v B2 H2 g pv => by
    obtain ⟨b, L, rfl, hb, nd, hL, hm⟩ := pv
    refine ⟨b, L, rfl, g.c _ _ hb, hL, fun ys r pm hr => ?_⟩
    have e : srtN ys = srtN (dedS xs) := srtN_one (pm.nodup_iff.mpr nd) (dedS_nd xs) fun x => by rw [pm.mem_iff, hm, dedS_mem]
    rw [byKey_str, e]
    exact k _ _ _ (g.trans (Gr.new (.lst ((srtN (dedS xs)).map V.str)) g.c hr)) ⟨r, _, rfl, upd_same, at_strs _⟩
theorem dvs_refs {H : Hp} : ∀ {us : List Dv} {vs : List V}, AllP (us.map DvP) vs H → ∃ as : List Addr, vs = as.map V.ref ∧ as.length = us.length ∧ ∀ (i : Nat) (a : Addr) u, as[i]? = some a → us[i]? = some u → (DvP u).P (.ref a) H
  | [], [], _ => ⟨[], rfl, rfl, fun i a u h => by simp at h⟩
  | u :: us, v :: vs, h => by
    obtain ⟨as, rfl, hl, h2⟩ := dvs_refs h.2
    obtain ⟨b, rfl, hb⟩ := h.1
    refine ⟨b :: as, rfl, by rw [List.length_cons, List.length_cons, hl], fun i a u' ha hu => ?_⟩
    cases i with
    | zero =>
      obtain rfl := Option.some.inj ha
      obtain rfl := Option.some.inj hu
      exact ⟨b, rfl, hb⟩
    | succ i => exact h2 i a u' ha hu
theorem p_setN {us : List Dv} (h : EvP te σ B (LqP K (us.map DvP))) (hl : (dedD us).length < 63) : EvP (tCB (rSetN K w) (tCons te tNil)) σ B (SnP w us) := fun H1 a Q k =>
  h H1 a _ fun v B2 H2 g pv => by
    obtain ⟨l, vs, rfl, hx, al⟩ := pv
    obtain ⟨as, rfl, len, hk⟩ := dvs_refs al
    have zipk : ∀ (i : Nat) p, (as.zip (us.map fun u => nk u.D))[i]? = some p → ∃ u, us[i]? = some u ∧ as[i]? = some p.1 ∧ p.2 = nk u.D := fun i p hp => by
      rw [List.getElem?_zip_eq_some] at hp
      obtain ⟨h1, h2⟩ := hp
      rw [List.getElem?_map] at h2
      obtain ⟨u, hu, e⟩ := Option.map_eq_some_iff.mp h2
      exact ⟨u, hu, h1, e.symm⟩
    have e1 : (as.zip (us.map fun u => nk u.D)).map (fun p => V.ref p.1) = as.map V.ref := by
      have := congrArg (List.map V.ref) (List.map_fst_zip (l₁ := as) (l₂ := us.map fun u => nk u.D) (by rw [List.length_map]; omega))
      rw [List.map_map] at this
      exact this
    refine ⟨l, as.zip (us.map fun u => nk u.D), (dedD us).map fun u => nk u.D, rfl, by rw [e1]; exact ex_l g.c hx, fun p hp => ?_, by rw [List.length_map]; exact hl, fun r L hr hsub hall nd => ?_⟩
    · obtain ⟨i, hi⟩ := List.mem_iff_getElem?.mp hp
      obtain ⟨u, hu, ha, e⟩ := zipk i p hi
      rw [e]
      exact ⟨key_dv ((DvP u).m g.c (hk i p.1 u ha hu)), List.mem_map.mpr ⟨u, ded_mem.mpr (List.mem_of_getElem? hu), rfl⟩⟩
    · refine k _ _ _ (g.trans (Gr.new (SetNO w r L) g.c hr (fun _ z => nomatch z))) ⟨r, L, rfl, upd_same, nd, fun p hp => ?_, fun u hu => ?_⟩
      · obtain ⟨i, hi⟩ := List.mem_iff_getElem?.mp (hsub p hp)
        obtain ⟨u, hu, ha, e⟩ := zipk i p hi
        exact ⟨u, List.mem_of_getElem? hu, (DvP u).m (Ex.new (fresh_back g.c hr)) (hk i p.1 u ha hu), e⟩
      · obtain ⟨i, hi⟩ := List.mem_iff_getElem?.mp hu
        have hil : i < as.length := by
          have := (List.getElem?_eq_some_iff.mp hi).1
          omega
        have hz : (as.zip (us.map fun u => nk u.D))[i]? = some (as[i], nk u.D) := by
          rw [List.getElem?_zip_eq_some]
          exact ⟨List.getElem?_eq_getElem hil, by rw [List.getElem?_map, hi]; rfl⟩
        exact hall _ (List.mem_of_getElem? hz)
theorem p_sortSN {us : List Dv} (h : EvP te σ B (SnP w us)) : EvP (tCB (rSortSN K w) (tCons te tNil)) σ B (LsP ((srtD (dedD us)).map DvP)) := fun H1 a Q k =>
  h H1 a _ fun v B2 H2 g pv => by
    obtain ⟨b, L, ⟨rfl, hb, nd, hk, hall⟩⟩ := pv
    -- each address has its derivative
    have pick : ∃ f : Addr → Dv, ∀ p ∈ L, f p.1 ∈ us ∧ (DvP (f p.1)).P (.ref p.1) B2 ∧ p.2 = nk (f p.1).D := by
      classical
      refine ⟨fun x => if h : ∃ u, u ∈ us ∧ (DvP u).P (.ref x) B2 then Classical.choose h else ⟨"", 0, 0⟩, fun p hp => ?_⟩
      obtain ⟨u, hu, h1, e⟩ := hk p hp
      have ex : ∃ u, u ∈ us ∧ (DvP u).P (.ref p.1) B2 := ⟨u, hu, h1⟩
      dsimp only
      rw [dif_pos ex]
      obtain ⟨c1, c2⟩ := Classical.choose_spec ex
      generalize Classical.choose ex = z at c1 c2
      refine ⟨c1, c2, ?_⟩
      have : z = u := by
        obtain ⟨x1, q1, h3⟩ := c2
        obtain ⟨x2, q2, h4⟩ := h1
        cases q1
        cases q2
        rw [h3] at h4
        obtain ⟨n, i, j⟩ := z
        obtain ⟨n', i', j'⟩ := u
        injection Option.some.inj h4 with e
        injection e with e1 e
        injection e with e2 e
        injection e with e3 e
        injection e1 with e1
        injection e2 with e2
        injection e3 with e3
        dsimp only at e1 e2 e3
        subst e1 e2 e3
        rfl
      rw [this]
      exact e
    obtain ⟨f, hf⟩ := pick
    have deq : ∀ as : List Addr, as.map (fun a => (f a).D) = (as.map f).map Dv.D := fun as => by rw [List.map_map]; rfl
    refine ⟨b, L, fun a => (f a).D, rfl, g.c _ _ hb, fun p hp => ⟨dp_m g.c (dv_d (hf p hp).2.1), by rw [deep_dv]; decide⟩, fun as pm => by rw [deq]; exact ⟨AllAlike.of fun u v => alike_dv u v, Sortable.tuples fun u => ⟨_, _, rfl⟩⟩, fun as r pm hr => ?_⟩
    have alas : ∀ as : List Addr, (∀ x ∈ as, (DvP (f x)).P (.ref x) B2) → AllP ((as.map f).map DvP) (as.map V.ref) B2 := by
      intro as
      induction as with
      | nil => exact fun _ => trivial
      | cons x as ih => exact fun h => ⟨h x List.mem_cons_self, ih fun y hy => h y (List.mem_cons_of_mem _ hy)⟩
    have mem : ∀ x ∈ as, ∃ p ∈ L, p.1 = x := fun x hx => List.mem_map.mp (pm.mem_iff.mp hx)
    have al := alas as fun x hx => by
      obtain ⟨p, hp, rfl⟩ := mem x hx
      exact (hf p hp).2.1
    have nd2 : (as.map f).Nodup := by
      have e : ((L.map (·.1)).map f).map (fun u => nk u.D) = L.map (·.2) := by
        rw [List.map_map, List.map_map]
        exact List.map_congr_left fun p hp => (hf p hp).2.2.symm
      have n1 : ((L.map (·.1)).map f).Nodup := nodup_of_map (f := fun u : Dv => nk u.D) (by rw [e]; exact nd)
      exact (pm.map f).nodup_iff.mpr n1
    have srt : srtD (as.map f) = srtD (dedD us) := ltD_one (srtD_lt nd2) (srtD_lt (ded_nd us)) fun u => by
      have p1 : u ∈ srtD (as.map f) ↔ u ∈ as.map f := (List.mergeSort_perm _ leD).mem_iff
      have p2 : u ∈ srtD (dedD us) ↔ u ∈ dedD us := (List.mergeSort_perm _ leD).mem_iff
      rw [p1, p2, ded_mem, (pm.map f).mem_iff]
      constructor
      · intro h
        obtain ⟨x, hx, rfl⟩ := List.mem_map.mp h
        obtain ⟨p, hp, rfl⟩ := List.mem_map.mp hx
        exact (hf p hp).1
      · intro h
        obtain ⟨p, hp, e⟩ := List.mem_map.mp (hall u h)
        have : f p.1 = u := nk_inj ((hf p hp).2.2.symm.trans e)
        exact List.mem_map.mpr ⟨p.1, List.mem_map.mpr ⟨p, hp, rfl⟩, this⟩
    have bk := byKey_dv al
    rw [srt] at bk
    rw [deq]
    exact k _ _ _ (g.trans (Gr.new (.lst (byKey (as.map V.ref) ((as.map f).map Dv.D))) g.c hr)) ⟨r, _, rfl, upd_same, bk.m (Ex.new (fresh_back g.c hr))⟩
end
end Nd
namespace Nd
set_option autoImplicit false
open PySem PySem.Spec PySem.W PySem.Calls PyProof.Rows L2 My Evl PySem.Froz
theorem newSet_at {P : Program} {w : World} {A : Around} {E : Value → Shared → Prop} {s : Shared} {Q : Value → Shared → Prop} (h : Q (.ref s.heap.objs.size) { s with heap := s.heap.push (setObj0 w) }) : wpAny (model P w) A (newSet (.type "set")) Q E s := by
  unfold newSet
  refine wpAny_bind (wpAny_byText ?_)
  dsimp only
  simp only [newObj]
  exact wpAny_bind (wpAny_alloc (wpAny_pure h))
section
variable {X : Cx}
/-- {k for target in iter if ..}, k a text: d the new set -/
def tScT (P : Program) (w : World) (wi : TI) (g : TG) (tt : TT) (tk : TE) (vs : List Nat) : TE := fun σ H Q => wi σ H fun J H1 => ∀ d, H1 d = none →
  ∃ W : Nat → Nat → Hp → Prop, (∃ m, W 0 m (upd H1 d (StTO P w d []))) ∧ ∀ i m H, W i m H → (J.stop i H ∧ Q (.ref d) H) ∨ (J.go i H ∧
    ∃ Nx : Hp → Prop, (∀ H', Nx H' → ∃ m', m' < m ∧ W (i + 1) m' H') ∧ ∀ x H', J.yld i H x H' → g x (wipe σ vs) H' fun σ2 H2 => wipe σ2 vs = wipe σ vs ∧ tt σ2 H2 fun b H3 =>
      if b = true then tk σ2 H3 fun y H4 => ∃ (x : Str) (L : List Str), y = .str x ∧ H4 d = some (StTO P w d L) ∧ L.length + 1 < scanBound ∧ Nx (upd H4 d (StTO P w d (addS L x)))
      else Nx H3)
theorem scT_core {pins : List (Addr × Obj)} {s : Shared} {σ : L2.St} {H : Hp} {Q : VK} {ke tg it0 : Expr} {fs : List Expr} {sc : Scope} {own : List (Str × Nat)} {pos pos' : Pos} {wi : TI} {g : TG} {tt : TT} {tk : TE} {use : Option (Value → Sem Unit)} {Qf : Value → Shared → Prop} (calm : X.calm = true) (nd : X.N.Nodup) (I : Inv X pins σ H s) (hi : PI X tg it0 wi) (bk : BlkOk X.N X.env.scope sc own)
    (hg : InBlk X sc fun Y => L2.PG Y tg g) (ht : InBlk X sc fun Y => PTs Y fs tt) (hk : InBlk X sc fun Y => PE Y ke tk) (nofold : ∀ x, foldedSetIterable it0 X.env x = pure x) (h : tScT X.prog X.w wi g tt tk (own.map (·.2)) σ H Q)
    (fine : ∀ D C s' m H', Inv X pins σ H' s' → Q (.ref D) H' → s'.heap.Ns C m → FpOk X pins H' C → compPost (model X.prog X.w) X.A X.xe use Qf (.ref D) C (.ok .next) s') :
    wpAny (model X.prog X.w) X.A (comprehension (.SetComp ke [⟨tg, it0, fs, 0⟩] sc pos) sc X.env pos' (newSet (.type "set")) false (eval it0 X.env) use) Qf X.xe s := by
  have cells : ∀ y ∈ sc.names, y.2 = .free → ∃ c, X.env.cells.lookup y.1 = some c := fun y hy e => I.ok.has _ (bk.free y hy e)
  refine wpAny_comprehension_free (use := use) rfl nofold (closure_ok cells) bk.kind (fun y hy e => e ▸ bk.uniq y hy) (thn (hi.run pins s σ H _ I h) fun xv s1 hx => thn hx fun itv s2 h2 => ?_)
  obtain ⟨a, fp, tn, J, H2, rfl, I2, T, st2, f2, q⟩ := h2
  refine newSet_at (newEnv_comp ?_)
  generalize hD : s2.heap.objs.size = d
  have dn : H2 d = none := I2.hok.fresh (Nat.le_of_eq hD)
  obtain ⟨W, ⟨m0, w0⟩, turn⟩ := q d dn
  -- the new dict
  generalize hs3 : ({ s2 with heap := s2.heap.push (setObj0 X.w) } : Shared) = s3
  have heap3 : s3.heap = s2.heap.push (setObj0 X.w) := by subst hs3; rfl
  have keep3 : ∀ b o, s2.heap.get? b = some o → s3.heap.get? b = some o := fun b o e => by
    rw [heap3]
    exact Heap.get?_push_of_some _ e
  have I3 : Inv X pins σ (upd H2 d (StTO X.prog X.w d [])) s3 := by
    subst hs3 hD
    exact I2.laid (a := s2.heap.objs.size) (o := StTO X.prog X.w s2.heap.objs.size []) (t' := s2.toks) (fun _ _ e => Heap.get?_push_of_some _ e) (Nat.le_refl _) (stTO_new (stT_fresh (Heap.get?_push_size _ rfl)))
  have f3 : ∀ b ∈ fp, FpOk X pins (upd H2 d (StTO X.prog X.w d [])) b ∧ b < s3.heap.objs.size := fun b hb => by
    obtain ⟨o, e, _⟩ := T.obj _ _ st2 b hb
    have lt : b < s2.heap.objs.size := Heap.lt_size e
    refine ⟨⟨?_, (f2 b hb).2⟩, Heap.lt_size (keep3 _ _ e)⟩
    rw [upd_ne (hD ▸ Nat.ne_of_lt lt)]
    exact (f2 b hb).1
  have st3 : tn 0 s3.heap := T.keep _ _ _ st2 fun b _ o e => keep3 b o e
  have I4 := block_start I3 bk nd f3
  have nfp : ∀ b ∈ fp, (upd H2 d (StTO X.prog X.w d [])) b = none := fun b hb => (f3 b hb).1.1
  generalize hH3 : upd H2 d (StTO X.prog X.w d []) = H3 at I3 I4 w0 nfp f3
  have pg := hg s3 H3 s3.heap.objs.size (cellsFrom (s3.heap.objs.size + 1) sc.names (cloFrom X.env.cells sc.names [])) fp
  have pt := ht s3 H3 s3.heap.objs.size (cellsFrom (s3.heap.objs.size + 1) sc.names (cloFrom X.env.cells sc.names [])) fp
  have pk := hk s3 H3 s3.heap.objs.size (cellsFrom (s3.heap.objs.size + 1) sc.names (cloFrom X.env.cells sc.names [])) fp
  show codeAny _ _ (.compStart (.SetComp ke [⟨tg, it0, fs, 0⟩] sc pos) 0 (.ref a) (.ref d) (compEnvC sc (cellsFrom (s3.heap.objs.size + 1) sc.names (cloFrom X.env.cells sc.names [])) s3.heap.objs.size X.env)) (compPost (model X.prog X.w) X.A X.xe use Qf (.ref d) s3.heap.objs.size) { s3 with heap := pushCells (s3.heap.push { cls := .type "dict", data := .dict #[] }) sc.names }
  generalize hce : compEnvC sc (cellsFrom (s3.heap.objs.size + 1) sc.names (cloFrom X.env.cells sc.names [])) s3.heap.objs.size X.env = ce at I4 pg pt pk ⊢
  have loc : ce.locals = s3.heap.objs.size := by subst hce; rfl
  generalize hs4 : ({ s3 with heap := pushCells (s3.heap.push { cls := .type "dict", data := .dict #[] }) sc.names } : Shared) = s4 at I4 ⊢
  have st4 : tn 0 s4.heap := T.keep _ _ _ st3 fun b _ o e => by
    subst hs4
    exact pushCells_keeps _ _ _ _ (Heap.get?_push_of_some _ e)
  -- what is known of the things walked over, in the block
  have stat : ∀ {σ' : L2.St} {H' : Hp} {t : Shared}, Inv (X.blk s3 H3 sc ce fp) [] σ' H' t → (∀ b ∈ fp, H' b = none) → ∀ b ∈ fp, FpOk (X.blk s3 H3 sc ce fp) [] H' b := by
    intro σ' H' t I' no b hb
    have x := I'.ok.exf b hb
    exact ⟨no b hb, x.1, I'.ok.exfs b hb, .inl hb, fun y c e => x.2 y c e, fun p hp => by cases hp⟩
  have loop : codeAny (model X.prog X.w) X.A (.compLoop (.SetComp ke [⟨tg, it0, fs, 0⟩] sc pos) 0 (.ref a) (.ref d) ce) (compPost (model X.prog X.w) X.A X.xe use Qf (.ref d) s3.heap.objs.size) s4 := by
    refine PpSet.compLoopS_any (fun n t => ∃ i H', Inv (X.blk s3 H3 sc ce fp) [] (wipe σ (own.map (·.2))) H' t ∧ tn i t.heap ∧ (∀ b ∈ fp, H' b = none) ∧ W i n H') (fun n t J5 => ?_) m0 ⟨0, H3, I4, st4, nfp, w0⟩
    obtain ⟨i, H5, I5, st5, n5, w5⟩ := J5
    rcases turn i n H5 w5 with ⟨stop, fin⟩ | ⟨go, Nx, hNx, step⟩
    · refine thnF (T.done (X.blk s3 H3 sc ce fp) rfl rfl rfl calm i [] t _ H5 (fun _ _ => False) I5 (stat I5 n5) st5 stop) fun r t6 z => ?_
      obtain ⟨rfl, I6⟩ := z
      -- the def's context again
      have I7 : Inv X pins σ H5 t6 := I3.call' (ch := fp) I6.os I6.base I6.hok I6.bare fun b hb => by
        have x := (f3 b hb).1
        exact ⟨x.2.2.2.1, x.2.1, x.2.2.2.2.1, x.2.2.2.2.2⟩
      have nC : H5 ce.locals = none := I6.free
      obtain ⟨m, hn, _⟩ := I6.loc
      have hn2 : t6.heap.Ns ce.locals m := hn
      rw [loc] at nC hn2
      exact fine d s3.heap.objs.size t6 m H5 I7 fin hn2 (I3.fpOk (Nat.le_refl _) nC)
    · refine thnF (T.item (X.blk s3 H3 sc ce fp) rfl rfl rfl calm i [] t _ H5 (fun _ _ => False) I5 (stat I5 n5) st5 go) fun r t6 z => ?_
      obtain ⟨u, rfl, h6⟩ := z
      refine thnF h6 fun _ t7 z => ?_
      obtain ⟨x, H7, I7, r7, y7, st7, n7⟩ := z
      refine thnF (pg.run _ t7 _ H7 x u _ (I7.pinned (stat I7 n7) (T.obj _ _ st7)) r7 (step x H7 y7)) fun _ t8 z => ?_
      obtain ⟨σ8, H8, I8, w8, q8⟩ := z
      refine thnF (pt.run _ t8 σ8 H8 _ I8 q8) fun b t9 z => ?_
      obtain ⟨H9, I9, q9⟩ := z
      have wl : (wipe σ (own.map (·.2))).length = σ8.length := by rw [← w8, wipe_length]
      -- the next turn
      have next : ∀ {H' : Hp} {t' : Shared}, Inv (X.blk s3 H3 sc ce fp) ([] ++ pinsAt fp t7.heap) σ8 H' t' → Nx H' → ∃ m, m < n ∧ ∃ i H', Inv (X.blk s3 H3 sc ce fp) [] (wipe σ (own.map (·.2))) H' t' ∧ tn i t'.heap ∧ (∀ b ∈ fp, H' b = none) ∧ W i m H' := by
        intro H' t' I' nx
        obtain ⟨m', lt, w'⟩ := hNx H' nx
        have pin : ∀ b ∈ fp, ∀ o, t7.heap.get? b = some o → t'.heap.get? b = some o ∧ H' b = none := fun b hb o e => by
          have z := I'.pin (b, o) (List.mem_append_right _ (List.mem_append_right _ (mem_pinsAt hb e)))
          exact ⟨z.1, z.2.1⟩
        refine ⟨m', lt, i + 1, H', (I'.unpinned (pins := [])).weak wl (fun j v e => ?_), T.keep _ _ _ st7 fun b hb o e => (pin b hb o e).1, fun b hb => ?_, w'⟩
        · rw [← w8] at e
          exact (wipe_some e).1
        · obtain ⟨o, e, _⟩ := T.obj _ _ st7 b hb
          exact (pin b hb o e).2
      cases b with
      | false => exact next I9 q9
      | true =>
        refine thnF (pk.run _ t9 σ8 H9 _ I9 q9) fun z t10 y => ?_
        obtain ⟨yk, H10, I10, r10, q10⟩ := y
        obtain ⟨x, L, rfl, hd10, hz10, nx⟩ := q10
        obtain ⟨tk, rfl⟩ := r10
        refine stT_call (k := x) (show StT X.prog X.w t10.heap d L from (I10.hok d _ hd10).1) hz10 fun h' sb R' => ?_
        have there : ∃ u, h'.get? d = some u := let ⟨⟨D, e, _⟩, _⟩ := R'; ⟨_, e⟩
        exact next (I10.write (e := d) (t' := t10.toks + 1) (by rw [hd10]; trivial) (.inl rfl) (fun b u hb hu => (sb.2 b hb).trans hu) there (stTO_new R')) nx
  exact PpSet.codeAny_compStart_set loop (T.self X.A 0 _ _ _ st4 loop)
theorem pe_scT {ke tg it0 : Expr} {fs : List Expr} {sc : Scope} {own : List (Str × Nat)} {pos : Pos} {wi : TI} {g : TG} {tt : TT} {tk : TE} (calm : X.calm = true) (nd : X.N.Nodup) (hi : PI X tg it0 wi) (bk : BlkOk X.N X.env.scope sc own)
    (hg : InBlk X sc fun Y => L2.PG Y tg g) (ht : InBlk X sc fun Y => PTs Y fs tt) (hk : InBlk X sc fun Y => PE Y ke tk) (nofold : ∀ x, foldedSetIterable it0 X.env x = pure x := by intro _; rfl) :
    PE X (.SetComp ke [⟨tg, it0, fs, 0⟩] sc pos) (tScT X.prog X.w wi g tt tk (own.map (·.2))) := by
  constructor
  intro pins s σ H Q I h
  rw [arm_eval_SetComp]
  refine scT_core calm nd I hi bk hg ht hk nofold h fun D C s' m H' J q hn f => ⟨m, hn, fun h2 sb => ?_⟩
  obtain ⟨e0, e1, _, e3, e4, e5⟩ := f
  exact ⟨.ref D, H', J.turned (t' := s'.toks) (fun b o hb e => (sb.2 b hb).trans e) e0 e1 e3 e4 e5, rfl, q⟩
end
section
variable {P : Program} {w : World} {K : PySem.W.Frag} {te tk : TE} {σ : L2.St} {B : Hp} {g : TG} {vs : List Nat} {ps : List Pr}
/-- {k for target in a tuple} -/
theorem p_scT (h : EvP te σ B (TuP K ps)) (hl : ps.length < 3000) (kk : Nat → Str)
    (step : ∀ i p v B1, ps[i]? = some p → Ex B B1 → p.P v B1 → ∃ σ2, wipe σ2 vs = wipe σ vs ∧ (∀ H2 Q, Ex B1 H2 → Q σ2 H2 → g v (wipe σ vs) H2 Q) ∧ Ev tk σ2 B1 (.str (kk i))) :
    EvP (tScT P w (iTup K te) g tYes tk vs) σ B (StP P w ((List.range ps.length).map kk)) := fun H1 a Q q =>
  h H1 a _ fun v B2 H2 gr b => by
    obtain ⟨l, xs, rfl, hx, hal⟩ := b
    have hlen := hal.len
    refine ⟨l, rfl, ⟨xs, ex_t gr.c hx⟩, fun d hd => ?_⟩
    have hdB : B2 d = none := fresh_back gr.c hd
    refine ⟨fun i m Hc => m = xs.length - i ∧ i ≤ xs.length ∧ Ex B2 (wo d Hc) ∧ Ex H2 (wo d Hc) ∧ ∃ L, Hc d = some (StTO P w d L) ∧ L.Nodup ∧ L.length ≤ i ∧ ∀ x, x ∈ L ↔ x ∈ (List.range i).map kk, ⟨xs.length, rfl, Nat.zero_le _, by rw [wo_new hd]; exact gr.c, by rw [wo_new hd]; exact Ex.refl H2, [], upd_same, List.nodup_nil, Nat.le_refl _, fun x => by simp⟩, ?_⟩
    rintro i m Hc ⟨rfl, hi, eB, eH, L, hL, nd, len, hm⟩
    have eBc := eB.trans wo_ex
    have sq : SqT K Hc l xs := ex_t eBc hx
    by_cases lt : i < xs.length
    · refine .inr ⟨⟨xs, xs[i], sq, List.getElem?_eq_getElem lt⟩, fun H' => Ex B2 (wo d H') ∧ Ex H2 (wo d H') ∧ ∃ L, H' d = some (StTO P w d L) ∧ L.Nodup ∧ L.length ≤ i + 1 ∧ ∀ x, x ∈ L ↔ x ∈ (List.range (i + 1)).map kk, fun H' z => ⟨xs.length - (i + 1), by omega, rfl, lt, z⟩, fun x H' y => ?_⟩
      obtain ⟨rfl, y2⟩ := y
      obtain ⟨p, hp, px⟩ := hal.get (y2 xs sq)
      obtain ⟨σ2, hw, hg, hk⟩ := step i p x B2 hp gr.b px
      refine hg _ _ eBc ⟨hw, ?_⟩
      dsimp only [tYes]
      rw [if_pos rfl]
      refine hk _ eBc _ fun H4 e4 => ?_
      refine ⟨kk i, L, rfl, e4 _ _ hL, by unfold scanBound; omega, by rw [wo_upd]; exact eB.trans (wo_mono e4), by rw [wo_upd]; exact eH.trans (wo_mono e4), _, upd_same, addS_nd nd, by have := addS_len L (kk i); omega, fun x => ?_⟩
      rw [addS_mem, hm, List.range_succ, List.map_append, List.mem_append]
      simp
    · obtain rfl : i = xs.length := by omega
      refine .inl ⟨⟨xs, sq, Nat.le_refl _⟩, ?_⟩
      rw [hlen] at hm len
      have eU : Ex (upd B2 d (StTO P w d L)) Hc := fun b o e => by
        by_cases n : b = d
        · subst n
          rw [upd_same] at e
          rw [hL]
          exact e
        · rw [upd_ne n] at e
          exact eBc _ _ e
      refine q (.ref d) (upd B2 d (StTO P w d L)) Hc (gr.trans ⟨eH.trans wo_ex, Ex.new hdB, eU, fun x hb hh => ?_, fun z b qs e => ?_⟩) ⟨d, L, rfl, upd_same, nd, by omega, hm⟩
      · have n : x ≠ d := fun z => hh (by rw [z]; exact hd)
        rw [upd_ne n]
        exact hb
      · by_cases n : b = d
        · subst n
          rw [upd_same] at e
          cases e
        · rw [upd_ne n] at e
          exact z b qs e
end
end Nd
namespace Nd
set_option autoImplicit false
open PySem PySem.Spec PySem.W PyProof.Rows L2 My Evl
/-! ### xs[-2::-1] -/
theorem back2_bounds {n : Nat} (h : 1 ≤ n) : sliceBounds (some (-2)) none (some (-1)) n = ((n : Int) - 2, -1, -1) := by
  unfold sliceBounds
  have h1 : ¬ ((-1 : Int) > 0) := by decide
  simp only [Option.getD_some, h1, if_false]
  rw [if_pos (by decide)]
  congr 1
  omega
theorem back2_range {n : Nat} (h : 1 ≤ n) : sliceRange ((n : Int) - 2) (-1) (-1) = (List.range (n - 1)).map fun k => n - 1 - 1 - k := by
  unfold sliceRange
  have h1 : ¬ ((-1 : Int) > 0) := by decide
  by_cases h2 : (n : Int) - 2 > -1
  · have e : ((n : Int) - 2 - -1 - -1 - 1) / (- -1) = ((n - 1 : Nat) : Int) := by
      rw [show (- -1 : Int) = 1 by decide, Int.ediv_one]
      omega
    simp only [h1, if_false, h2, if_true, e, Int.toNat_natCast]
    apply List.map_congr_left
    intro k hk
    have := List.mem_range.mp hk
    omega
  · have e : n - 1 = 0 := by omega
    rw [e]
    simp only [h1, if_false, h2]
    rfl
theorem back2_pick (xs : List Value) (h : 1 ≤ xs.length) : slicePick xs.toArray (some (-2)) none (some (-1)) = xs.dropLast.reverse.toArray := by
  unfold slicePick
  rw [List.size_toArray, back2_bounds h]
  show ((sliceRange ((xs.length : Int) - 2) (-1) (-1)).filterMap (xs.toArray[·]?)).toArray = _
  rw [back2_range h, PySem.W.krv_range, List.filterMap_reverse]
  congr 2
  have e : (List.range (xs.length - 1)).filterMap (xs.toArray[·]?) = (List.range xs.dropLast.toArray.size).filterMap (xs.dropLast.toArray[·]?) := by
    rw [List.size_toArray, List.length_dropLast]
    refine Gd.fm_congr fun k hk => ?_
    have hk := List.mem_range.mp hk
    simp [List.getElem?_dropLast, hk]
  rw [e, PySem.W.krv_all]
def tBack2 (K : PySem.W.Frag) (te : TE) : TE := fun σ H Q => te σ H fun x H1 => ∃ a xs, x = .ref a ∧ SqL K H1 a xs ∧ 1 ≤ xs.length ∧ ∀ p, H1 p = none → Q (.ref p) (upd H1 p (.lst xs.dropLast.reverse))
theorem vals_dropLast : ∀ {xs : List V} {us : List Value}, Vals xs us → Vals xs.dropLast us.dropLast
  | [], [], .nil => .nil
  | [_], [_], .cons _ .nil => .nil
  | _ :: _ :: _, _ :: _ :: _, .cons r (.cons s t) => .cons r (vals_dropLast (.cons s t))
theorem pe_back2 {X : Cx} {e : Expr} {te : TE} {k k2 : Nat} {p1 p2 p3 p4 p5 pos : Pos} (he : PE X e te) : PE X (.Subscript e (.Slice (some (.UnaryOp .USub (.Constant (.int 2) k2 p4) p5)) none (some (.UnaryOp .USub (.Constant (.int 1) k p1) p2)) p3) pos) (tBack2 X.K te) := by
  refine ⟨fun pins s σ H Q I h => ?_⟩
  refine Subscript_ (thn (he.run pins s σ H _ I h) fun v s1 ⟨x, H1, I1, r1, q1⟩ => ?_)
  obtain ⟨a, xs, ex, hx, hl, q⟩ := q1
  subst ex
  cases r1
  have hst : PO X (some (.UnaryOp .USub (.Constant (.int 1) k p1) p2)) (tPart (tUn (rU fun i => .int (-i)) (tC (.int 1)))) := po_some (pe_un un_neg pe_int)
  have hsl : PO X (some (.UnaryOp .USub (.Constant (.int 2) k2 p4) p5)) (tPart (tUn (rU fun i => .int (-i)) (tC (.int 2)))) := po_some (pe_un un_neg pe_int)
  refine wpAny_Slice (thn (hsl.run pins s1 σ H1 (fun o H2 => o = some (-2) ∧ H2 = H1) I1 ⟨2, rfl, -2, rfl, rfl, rfl⟩) fun vl s2 ⟨l, H2, I2, pl, el, e2⟩ => ?_)
  subst el e2
  refine thn (po_none.run pins s2 σ H2 (fun o H3 => o = none ∧ H3 = H2) I2 ⟨rfl, rfl⟩) fun vu s3 ⟨u, H3, I3, pu, eu, e3⟩ => ?_
  subst eu e3
  refine thn (hst.run pins s3 σ H3 (fun o H4 => o = some (-1) ∧ H4 = H3) I3 ⟨1, rfl, -1, rfl, rfl, rfl⟩) fun vs s4 ⟨o, H4, I4, ps, eo, e4⟩ => ?_
  subst eo e4
  have I5 : Inv X pins σ H4 { s4 with heap := s4.heap.push { cls := .type "slice", data := .fields #[vl, vu, vs] } } := I4.kept (t' := s4.toks) fun b ob q => Heap.get?_push_of_some _ q
  obtain ⟨its, r, ht, hz⟩ := I5.list hx
  have hlen := r.length
  show wpAny (model X.prog X.w) X.A (subscriptTail e (.Slice (some (.UnaryOp .USub (.Constant (.int 2) k2 p4) p5)) none (some (.UnaryOp .USub (.Constant (.int 1) k p1) p2)) p3) (.ref a) (.ref s4.heap.objs.size)) (EP X pins σ Q) X.xe { s4 with heap := s4.heap.push { cls := .type "slice", data := .fields #[vl, vu, vs] } }
  refine tail_any (ops := [.ref a, .ref s4.heap.objs.size]) ht.isList.typeIs (PySem.slot_list_getitem.lookup) ?_ (by with_unfolding_all rfl)
  refine wpAny_getItem_list_slice ht.isList (Heap.IsSliceOf.new _ vl vu vs) pl pu ps (by decide) ?_ (by rw [List.size_toArray]; omega)
  rw [back2_pick its (by omega)]
  refine ⟨.ref _, _, I5.laid (t' := s4.toks) (o := .lst xs.dropLast.reverse) (fun b ob q => Heap.get?_push_of_some _ q) (Nat.le_refl _) ?_, rfl, q _ (I5.hok.fresh (Nat.le_refl _))⟩
  exact ⟨by rw [List.length_reverse, List.length_dropLast]; omega, _, 0, (vals_dropLast r).reverse, Heap.get?_push_size _ rfl⟩
section
variable {te : TE} {σ : L2.St} {B : Hp} {K : PySem.W.Frag} {ps : List Pr}
theorem AllP.dropLast {H : Hp} : ∀ {ps : List Pr} {vs : List V}, AllP ps vs H → AllP ps.dropLast vs.dropLast H
  | [], [], _ => trivial
  | [_], [_], _ => trivial
  | _ :: _ :: _, _ :: _ :: _, h => ⟨h.1, AllP.dropLast h.2⟩
theorem AllP.rev {H : Hp} : ∀ {ps : List Pr} {vs : List V}, AllP ps vs H → AllP ps.reverse vs.reverse H
  | [], [], _ => trivial
  | _ :: _, _ :: _, h => by
    rw [List.reverse_cons, List.reverse_cons]
    exact (AllP.rev h.2).app ⟨h.1, trivial⟩
theorem p_back2 (h : EvP te σ B (LqP K ps)) (hl : 1 ≤ ps.length) : EvP (tBack2 K te) σ B (LsP ps.dropLast.reverse) := fun H1 a Q k =>
  h H1 a _ fun v B2 H2 g pv => by
    obtain ⟨p, xs, rfl, hx, al⟩ := pv
    have le := al.len
    refine ⟨p, xs, rfl, ex_l g.c hx, by omega, fun r hr => ?_⟩
    exact k _ _ _ (g.trans (Gr.new (.lst xs.dropLast.reverse) g.c hr)) ⟨r, _, rfl, upd_same, (AllP.rev (AllP.dropLast al)).m (Ex.new (fresh_back g.c hr))⟩
end
/-! ### raising by squares -/
def rsS (s : Pq × Pq × Nat) : Pq × Pq × Nat := (if s.2.2 % 2 = 1 then mulP s.1 s.2.1 else s.1, if 0 < s.2.2 / 2 then mulP s.2.1 s.2.1 else s.2.1, s.2.2 / 2)
def rsN (p : Pq) (n : Nat) : Nat → Pq × Pq × Nat
  | 0 => ([([], 1)], p, n)
  | k + 1 => rsS (rsN p n k)
theorem rsN_rest (p : Pq) (n : Nat) : ∀ k, (rsN p n k).2.2 = n / 2 ^ k
  | 0 => by rw [Nat.pow_zero, Nat.div_one]; rfl
  | k + 1 => by
    show (rsN p n k).2.2 / 2 = _
    rw [rsN_rest p n k, Nat.div_div_eq_div_mul, Nat.pow_succ]
theorem rsS_end {s : Pq × Pq × Nat} (h : s.2.2 = 0) : rsS s = s := by
  obtain ⟨a, b, c⟩ := s
  obtain rfl : c = 0 := h
  unfold rsS
  simp
theorem rsN_end {p : Pq} {n k : Nat} (h : (rsN p n k).2.2 = 0) : ∀ j, rsN p n (k + j) = rsN p n k
  | 0 => rfl
  | j + 1 => by
    show rsS (rsN p n (k + j)) = _
    rw [rsN_end h j]
    exact rsS_end h
def rsF (p : Pq) (n : Nat) : Pq := (rsN p n n).1
theorem rsF_at {p : Pq} {n k : Nat} (h : (rsN p n k).2.2 = 0) : rsF p n = (rsN p n k).1 := by
  have hn : (rsN p n n).2.2 = 0 := by
    rw [rsN_rest]
    exact Nat.div_eq_of_lt Nat.lt_two_pow_self
  unfold rsF
  rcases Nat.le_total k n with l | l
  · obtain ⟨j, rfl⟩ := Nat.exists_eq_add_of_le l
    rw [rsN_end h j]
  · obtain ⟨j, rfl⟩ := Nat.exists_eq_add_of_le l
    rw [rsN_end hn j]
theorem rsF_0 (p : Pq) : rsF p 0 = [([], 1)] := rfl
theorem rsF_1 {p : Pq} (h : PoC p) : rsF p 1 = p := one_mul h
theorem rsF_2 {p : Pq} (h : PoC p) : rsF p 2 = mulP p p := by
  have := one_mul (poc_mul h h)
  simpa [rsF, rsN, rsS] using this
/-- a power of a derivative -/
def mon (u : Dv) (k : Nat) : Pq := [(if k = 0 then [] else [(u, (k : Int))], 1)]
theorem mm_pow (u : Dv) (a b : Nat) (ha : 0 < a) (hb : 0 < b) : mm [(u, (a : Int))] [(u, (b : Int))] = [(u, ((a + b : Nat) : Int))] := by
  symm
  refine cf_eq ⟨List.pairwise_singleton _ _, fun z hz => ?_⟩ fun k => ?_
  · rw [List.mem_singleton.mp hz]
    show ((a + b : Nat) : Int) ≠ 0
    omega
  · show co [(u, ((a + b : Nat) : Int))] k = co [(u, (a : Int)), (u, (b : Int))] k
    rw [co_cons, co_cons, co_cons, co_nil]
    dsimp only
    split <;> omega
theorem mon_moc (u : Dv) (k : Nat) : MoC (if k = 0 then [] else [(u, (k : Int))]) := by
  split
  · exact moc_nil
  · exact ⟨⟨List.pairwise_singleton _ _, fun z hz => by rw [List.mem_singleton.mp hz]; show (k : Int) ≠ 0; omega⟩, fun z hz => by rw [List.mem_singleton.mp hz]; show 0 < (k : Int); omega⟩
theorem mon_mul (u : Dv) (a b : Nat) : mulP (mon u a) (mon u b) = mon u (a + b) := by
  have e : mm (if a = 0 then [] else [(u, (a : Int))]) (if b = 0 then [] else [(u, (b : Int))]) = if a + b = 0 then [] else [(u, ((a + b : Nat) : Int))] := by
    by_cases ha : a = 0
    · rw [if_pos ha, mm_nil (mon_moc u b), ha, Nat.zero_add]
    · by_cases hb : b = 0
      · rw [if_pos hb, mm_nil' (mon_moc u a), hb, Nat.add_zero]
      · rw [if_neg ha, if_neg hb, mm_pow u a b (by omega) (by omega), if_neg (by omega)]
  have h1 : mulR (mon u a) (mon u b) = mon u (a + b) := by
    show [(mm (if a = 0 then [] else [(u, (a : Int))]) (if b = 0 then [] else [(u, (b : Int))]), (1 : Rat) * 1)] = _
    rw [e, Rat.one_mul]
    rfl
  unfold mulP
  rw [h1]
  refine cf_cn ⟨List.pairwise_singleton _ _, fun z hz => ?_⟩
  rw [List.mem_singleton.mp hz]
  show (1 : Rat) ≠ 0
  decide
theorem rsN_mon (u : Dv) (n : Nat) : ∀ k, ∃ a s r, rsN (mon u 1) n k = (mon u a, mon u s, r) ∧ a + s * r = n ∧ (s ≤ 1 ∨ s ≤ n)
  | 0 => ⟨0, 1, n, rfl, by omega, .inl (Nat.le_refl _)⟩
  | k + 1 => by
    obtain ⟨a, s, r, h, e, b⟩ := rsN_mon u n k
    have h1 : rsN (mon u 1) n (k + 1) = rsS (rsN (mon u 1) n k) := rfl
    rw [h1, h]
    unfold rsS
    dsimp only
    have hr : r = 2 * (r / 2) + r % 2 := by omega
    by_cases o : r % 2 = 1
    · rw [if_pos o, mon_mul]
      by_cases z : 0 < r / 2
      · rw [if_pos z, mon_mul]
        have e2 : s * r = s * (2 * (r / 2)) + s := by
          conv => lhs; rw [hr, o]
          rw [Nat.mul_add, Nat.mul_one]
        refine ⟨a + s, s + s, r / 2, rfl, ?_, .inr ?_⟩
        · have : (s + s) * (r / 2) = s * (2 * (r / 2)) := by rw [Nat.add_mul, Nat.two_mul, Nat.mul_add]
          omega
        · have : s + s ≤ s * (2 * (r / 2)) := by
            rw [← Nat.mul_assoc, Nat.mul_comm s 2, Nat.two_mul]
            exact Nat.le_mul_of_pos_right _ z
          omega
      · rw [if_neg z]
        have : r / 2 = 0 := by omega
        refine ⟨a + s, s, r / 2, rfl, ?_, b⟩
        rw [this] at hr ⊢
        have : r = 1 := by omega
        rw [this, Nat.mul_one] at e
        omega
    · rw [if_neg o]
      have o : r % 2 = 0 := by omega
      by_cases z : 0 < r / 2
      · rw [if_pos z, mon_mul]
        have e2 : s * r = s * (2 * (r / 2)) := by
          conv => lhs; rw [hr, o]
          rfl
        refine ⟨a, s + s, r / 2, rfl, ?_, .inr ?_⟩
        · have : (s + s) * (r / 2) = s * (2 * (r / 2)) := by rw [Nat.add_mul, Nat.two_mul, Nat.mul_add]
          omega
        · have : s + s ≤ s * (2 * (r / 2)) := by
            rw [← Nat.mul_assoc, Nat.mul_comm s 2, Nat.two_mul]
            exact Nat.le_mul_of_pos_right _ z
          omega
      · rw [if_neg z]
        have : r / 2 = 0 := by omega
        refine ⟨a, s, r / 2, rfl, ?_, b⟩
        have : r = 0 := by omega
        rw [this] at e ⊢
        exact e
theorem rsF_mon (u : Dv) (n : Nat) : rsF (mon u 1) n = mon u n := by
  obtain ⟨a, s, r, h, e, _⟩ := rsN_mon u n n
  have h2 := rsN_rest (mon u 1) n n
  rw [h] at h2
  have h2 : r = n / 2 ^ n := h2
  rw [Nat.div_eq_of_lt Nat.lt_two_pow_self] at h2
  unfold rsF
  rw [h]
  rw [h2, Nat.mul_zero, Nat.add_zero] at e
  rw [e]
def Rless (K : PySem.W.Frag) : List Pr → Pr → Prop := fun ps z => ∃ (D N : Nat) (p q : Pq), LimB D N ∧ Lim D N (p ++ q) ∧ (p.map (·.1)).Nodup ∧ p.length + q.length ≤ 90000 ∧ ps = [poP K (toPo p), poP K (toPo q)] ∧ z = poP K (toPo (addP p (scP q (-1))))
def Rraise (K : PySem.W.Frag) : List Pr → Pr → Prop := fun ps z => ∃ (p : Pq) (n : Nat), n ≤ 1000 ∧ (∀ k, 0 < n / 2 ^ k → (n / 2 ^ k % 2 = 1 → Rtimes K [poP K (toPo (rsN p n k).1), poP K (toPo (rsN p n k).2.1)] (poP K (toPo (mulP (rsN p n k).1 (rsN p n k).2.1)))) ∧
  (0 < n / 2 ^ k / 2 → Rtimes K [poP K (toPo (rsN p n k).2.1), poP K (toPo (rsN p n k).2.1)] (poP K (toPo (mulP (rsN p n k).2.1 (rsN p n k).2.1))))) ∧ ps = [poP K (toPo p), IsV (.int (n : Nat))] ∧ z = poP K (toPo (rsF p n))
section
variable {te tb : TE} {σ : L2.St} {B : Hp} {n : Nat}
theorem ev_odd (h : Ev te σ B (.int (n : Nat))) : Ev (tOp (fun x y H Q => ∃ n : Nat, x = .int (n : Int) ∧ y = .int 1 ∧ Q (.int ((n % 2 : Nat) : Int)) H) te (tC (.int 1))) σ B (.int ((n % 2 : Nat) : Int)) := fun H1 a Q k =>
  h H1 a _ fun H2 e2 => ⟨n, rfl, rfl, k H2 e2⟩
theorem ev_half (h : Ev te σ B (.int (n : Nat))) : Ev (tOp (fun x y H Q => ∃ n : Nat, x = .int (n : Int) ∧ y = .int 1 ∧ Q (.int ((n / 2 : Nat) : Int)) H) te (tC (.int 1))) σ B (.int ((n / 2 : Nat) : Int)) := fun H1 a Q k =>
  h H1 a _ fun H2 e2 => ⟨n, rfl, rfl, k H2 e2⟩
theorem et_truI {i : Int} {K : PySem.W.Frag} (h : Ev te σ B (.int i)) : EvT (fun σ H Q => te σ H fun x H' => ∃ k, TruV K x H' k ∧ Q k H') σ B (i != 0) := fun H1 a Q q =>
  h H1 a _ fun H2 e2 => ⟨i != 0, rfl, q H2 e2⟩
end
end Nd
namespace Nd
set_option autoImplicit false
open PySem PySem.W L2 My Evl
/-- the value of a polynomial in one derivative, by Horner -/
def hnP (u : Dv) (p o : Pq) : Nat → Pq
  | 0 => cofP u (nPw u p - 1) p
  | k + 1 => addP (mulP (hnP u p o k) o) (cofP u (nPw u p - 2 - k) p)
def Rputi (K : PySem.W.Frag) : List Pr → Pr → Prop := fun ps z => ∃ (p : Pq) (u : Dv) (o : Pq), PoC p ∧ (∀ t ∈ p, dg t.1 ≤ 1000 ∧ t.1.length ≤ 1000 ∧ ∀ y ∈ t.1, SeqAt.shaped y.1.D = true) ∧ SeqAt.shaped u.D = true ∧ p.length ≤ 90000 ∧
  (∀ k, k + 1 < nPw u p → Rtimes K [poP K (toPo (hnP u p o k)), poP K (toPo o)] (poP K (toPo (mulP (hnP u p o k) o))) ∧ Rplus K [poP K (toPo (mulP (hnP u p o k) o)), poP K (toPo (cofP u (nPw u p - 2 - k) p))] (poP K (toPo (hnP u p o (k + 1))))) ∧
  ps = [poP K (toPo p), DvP u, poP K (toPo o)] ∧ z = poP K (toPo (hnP u p o (nPw u p - 1)))
theorem wt_neg {D : Nat} : ∀ {q : Pq}, (∀ t ∈ q, Wh D t.2) → wt D (scP q (-1)) = wt D q
  | [], _ => rfl
  | s :: q, hw => by
    show wt D ((s.1, s.2 * (-1)) :: scP q (-1)) = _
    rw [wt_cons, wt_cons, wt_neg fun t ht => hw t (List.mem_cons_of_mem _ ht)]
    dsimp only
    rw [Rat.mul_neg, Rat.mul_one, (wh_neg (hw s List.mem_cons_self)).2]
theorem lim_neg {D N : Nat} {p q : Pq} (hl : Lim D N (p ++ q)) : Lim D N (p ++ scP q (-1)) := by
  refine ⟨fun t ht => ?_, ?_⟩
  · rcases List.mem_append.mp ht with a | a
    · exact hl.l.w t a
    · obtain ⟨s, hs, rfl⟩ := List.mem_map.mp a
      show Wh D (s.2 * (-1))
      rw [Rat.mul_neg, Rat.mul_one]
      exact (wh_neg (hl.r.w s hs)).1
  · have := hl.s
    rw [wt_app] at this ⊢
    rw [wt_neg hl.r.w]
    exact this
theorem dec_pos {m : Nat} (h : 0 < m) : decide ((0 : Int) < (m : Nat)) = true := _root_.decide_eq_true (by omega)
theorem dec_nul {m : Nat} (h : ¬ 0 < m) : decide ((0 : Int) < (m : Nat)) = false := decide_eq_false (by omega)
theorem atI_end {α : Type} {xs : List α} {v : α} (h : xs[xs.length - 1]? = some v) : atI xs (-1) = some v := by
  have hl := (List.getElem?_eq_some_iff.mp h).1
  have e : xs = xs.dropLast ++ [v] := by
    have hne : xs ≠ [] := fun z => by rw [z] at hl; simp at hl
    have h1 := List.dropLast_concat_getLast hne
    rw [List.getLast_eq_getElem, (List.getElem?_eq_some_iff.mp h).2] at h1
    exact h1.symm
  rw [e]
  exact atI_last _ _
theorem range_back {α : Type} (f : Nat → α) (n : Nat) : (((List.range n).map f).dropLast.reverse) = (List.range (n - 1)).map fun k => f (n - 2 - k) := by
  apply List.ext_getElem
  · simp
  · intro i h1 h2
    simp only [List.length_map, List.length_range] at h2
    rw [List.getElem_reverse, List.getElem_dropLast, List.getElem_map, List.getElem_map, List.getElem_range, List.getElem_range]
    congr 1
    simp only [List.length_dropLast, List.length_map, List.length_range]
    omega
end Nd
namespace K12
set_option autoImplicit false
open PySem PySem.W L2 Evl My Nd LamX NdefX
section
variable {P : Program} {w : World} {K : PySem.W.Frag} {mg : Str → Option Value} {base : Heap} {T : List (Addr × Str)}

/-- less -/
abbrev s_less : Stmt := topS 10
abbrev N_less : List Str := ["one", "other"]
theorem sc_less : FnScope N_less ["one", "other"] (defScope s_less) := ⟨rfl, rfl, rfl, by decide +kernel, rfl, by decide +kernel, by decide +kernel⟩
theorem ok_less {f : Addr} {fd : FuncData} (F : Fun K "less" "less" s_less f fd)  {f_plus : Addr} {d_plus : FuncData} (c_plus : Cal P w K mg base "plus" 4 ["one", "other"] (spP (Rplus K)) f_plus d_plus) {f_scaled : Addr} {d_scaled : FuncData} (c_scaled : Cal P w K mg base "scaled" 2 ["one", "number"] (spP (Rscaled K)) f_scaled d_scaled)   :
    FnOk P w K mg base CX0 5 f fd ["one", "other"] (spP (Rless K)) := by
  refine F.ok sc_less (spP_len (by rintro _ _ ⟨_, _, _, _, _, _, _, _, rfl, rfl⟩; rfl)) (fun cdv A outer s H vs Q E hr h => ?_)
  obtain ⟨B, ps, z, eB, hv, ⟨D, N, p, q, hb, hl, nd, hn, rfl, rfl⟩, k⟩ := h
  obtain ⟨v0, v1, rfl, h0, h1⟩ := all2 hv
  have hu := hu_of hr
  refine ⟨_, (pss_one (ps_ret (pe_call c_plus.G (hr.mono (by decide)) (by rfl) c_plus.m c_plus.k c_plus.b .nil pass0 (pa_cons (pv 0) (pa_cons (pe_call c_scaled.G (hr.mono (by decide)) (by rfl) c_scaled.m c_scaled.k c_scaled.b .nil pass0 (pa_cons (pv 1) (pa_cons (pe_tup (pa_cons (pe_un un_neg pe_int) (pa_cons pe_int pa_nil))) pa_nil))) pa_nil))))), ?_⟩
  have sm1 : Sm (-1 : Rat) := ⟨Nat.one_lt_two_pow (by decide), Nat.one_lt_two_pow (by decide)⟩
  have mone : EvP (tTup (tCons (tUn (rU fun i => .int (-i)) (tC (.int 1))) (tCons (tC (.int 1)) tNil))) [some v0, some v1] B (rtP K (-1)) := p_tup (K := K) (ps := [IsV (.int (-1)), IsV (.int 1)]) (q_cons (p_ev (ev_un ev_c ru_neg)) (q_cons p_c q_nil)) (by show 2 ≤ 100000; decide)
  have ls := lim_neg hl
  have sc := p_callP (R := Rscaled K) (t := tCons (tVar 1) (tCons (tTup (tCons (tUn (rU fun i => .int (-i)) (tC (.int 1))) (tCons (tC (.int 1)) tNil))) tNil)) (σ := [some v0, some v1]) (B := B) (ps := [poP K (toPo q), rtP K (-1)]) (p := poP K (toPo (scP q (-1)))) (q_cons (p_var rfl h1) (q_cons mone q_nil)) ⟨q, -1, fun t ht => hl.r.sm hb ht, sm1, by omega, rfl, by rw [if_neg (by decide)]⟩
  refine My.ps_ret eB (p_callP (ps := [poP K (toPo p), poP K (toPo (scP q (-1)))]) (q_cons (p_var rfl h0) (q_cons sc q_nil)) ⟨D, N, p, scP q (-1), hb, ls, nd, by unfold scP; rw [List.length_map]; exact hn, rfl, rfl⟩) fun v B1 H1 g hp => k v B1 H1 g hp

/-- raised -/
abbrev s_raised : Stmt := topS 13
abbrev N_raised : List Str := ["one", "power", "result", "square", "rest"]
theorem sc_raised : FnScope N_raised ["one", "power"] (defScope s_raised) := ⟨rfl, rfl, rfl, by decide +kernel, rfl, by decide +kernel, by decide +kernel⟩
theorem ok_raised {f : Addr} {fd : FuncData} (F : Fun K "raised" "raised" s_raised f fd)  {f_constant : Addr} {d_constant : FuncData} (c_constant : Cal P w K mg base "constant" 1 ["number"] (spP (Rconst K)) f_constant d_constant) {f_times : Addr} {d_times : FuncData} (c_times : Cal P w K mg base "times" 3 ["one", "other"] (spP (Rtimes K)) f_times d_times)  {aO : Addr} (g_ONE : mg "ONE" = some (.ref aO)) (v_ONE : ∀ H, Dp K H (.ref aO) (.tuple [.int 1, .int 1])) :
    FnOk P w K mg base CX0 4 f fd ["one", "power"] (spP (Rraise K)) := by
  refine F.ok sc_raised (spP_len (by rintro _ _ ⟨_, _, _, _, rfl, rfl⟩; rfl)) (fun cdv A outer s H vs Q E hr h => ?_)
  obtain ⟨B, ps, z, eB, hv, ⟨p, n, hn, hs, rfl, rfl⟩, k⟩ := h
  obtain ⟨v0, v1, rfl, h0, h1⟩ := all2 hv
  obtain rfl : v1 = _ := h1
  have hu := hu_of hr
  refine ⟨_, (pss_cons (ps_set (i := 2) sc_raised.nd rfl (by first | exact .inl rfl | exact .inr rfl) (pe_call c_constant.G (hr.mono (by decide)) (by rfl) c_constant.m c_constant.k c_constant.b .nil pass0 (pa_cons (pe_glob (by rfl) (v := .ref aO) g_ONE rfl) pa_nil)))
    (pss_cons (ps_set (i := 3) sc_raised.nd rfl (by first | exact .inl rfl | exact .inr rfl) (pv 0))
    (pss_cons (ps_set (i := 4) sc_raised.nd rfl (by first | exact .inl rfl | exact .inr rfl) (pv 1))
    (pss_cons (ps_while PassesOwn.never (pt_cmpR op_gt (pv 4) pe_int (nomark _))
      (pss_cons (ps_if (pt_truth (pe_op op_odd (pv 4) pe_int) (by intro _; rfl)) (pss_one (ps_set (i := 2) sc_raised.nd rfl (by first | exact .inl rfl | exact .inr rfl) (pe_call c_times.G (hr.mono (by decide)) (by rfl) c_times.m c_times.k c_times.b .nil pass0 (pa_cons (pv 2) (pa_cons (pv 3) pa_nil))))) pss_nil)
    (pss_cons (ps_set (i := 4) sc_raised.nd rfl (by first | exact .inl rfl | exact .inr rfl) (pe_op op_halfN (pv 4) pe_int))
    (pss_one (ps_if (pt_cmpR op_gt (pv 4) pe_int (nomark _)) (pss_one (ps_set (i := 3) sc_raised.nd rfl (by first | exact .inl rfl | exact .inr rfl) (pe_call c_times.G (hr.mono (by decide)) (by rfl) c_times.m c_times.k c_times.b .nil pass0 (pa_cons (pv 3) (pa_cons (pv 3) pa_nil))))) pss_nil)))))
    (pss_one (ps_ret (pv 2))))))), ?_⟩
  have one : EvP (tCall (spP (Rconst K)) [] E0 (tCons (tC (.ref aO)) tNil)) [some v0, some (.int (n : Nat)), none, none, none] B (poP K (toPo [([], 1)])) := p_callP (ps := [rtP K 1]) (q_cons (p_one v_ONE) q_nil) ⟨1, rfl, by rw [if_neg (by decide)]⟩
  refine ps_asgN (fun v => [some v0, some (.int (n : Nat)), some v, none, none]) eB one (fun x B2 H2 g2 hx => ?_) (fun _ => rfl)
  dsimp only
  refine ps_asgN (fun v => [some v0, some (.int (n : Nat)), some x, some v, none]) g2.c (p_var rfl ((poP K (toPo p)).m g2.b h0)) (fun y B3 H3 g3 hy => ?_) (fun _ => rfl)
  dsimp only
  refine ps_asgN (fun v => [some v0, some (.int (n : Nat)), some x, some y, some v]) g3.c (p_var (p := IsV (.int (n : Nat))) rfl rfl) (fun r B4 H4 g4 hr => ?_) (fun _ => rfl)
  obtain rfl : r = _ := hr
  dsimp only
  refine ⟨fun m σ H5 => ∃ i B5 x y, m = n / 2 ^ i ∧ σ = [some v0, some (.int (n : Nat)), some x, some y, some (.int (n / 2 ^ i : Nat))] ∧ Gr B H B5 H5 ∧ (poP K (toPo (rsN p n i).1)).P x B5 ∧ (poP K (toPo (rsN p n i).2.1)).P y B5, ⟨_, 0, B4, x, y, rfl, by rw [Nat.pow_zero, Nat.div_one], (g2.trans g3).trans g4, (poP K _).m (g3.b.trans g4.b) hx, (poP K _).m g4.b hy⟩, fun m σ H5 hw => ?_⟩
  obtain ⟨i, B5, x, y, rfl, rfl, g5, hx, hy⟩ := hw
  refine et_test (ev_op (r := rI0 fun i j => .bl (decide (j < i))) (ev_var (i := 4) (v := .int (n / 2 ^ i : Nat)) rfl) (ev_c (v := .int 0)) rv_I0) H5 (Ex.refl H5) _ fun H6 e6 => ?_
  have g6 : Gr B H B5 H6 := g5.trans (Gr.wide g5.c e6)
  by_cases c : n / 2 ^ i = 0
  · rw [if_neg (by rw [dec_nul (by omega)]; exact Bool.false_ne_true)]
    dsimp only
    refine My.ps_ret g6.c (p_var rfl hx) fun v B7 H7 g7 hp => k v B7 H7 (g6.trans g7) ?_
    rw [rsF_at (by rw [rsN_rest]; exact c)]
    exact hp
  · have c : 0 < n / 2 ^ i := Nat.pos_of_ne_zero c
    rw [if_pos (dec_pos c)]
    obtain ⟨q1, q2⟩ := hs i c
    have er := rsN_rest p n i
    have e1 : (rsN p n (i + 1)).1 = if n / 2 ^ i % 2 = 1 then mulP (rsN p n i).1 (rsN p n i).2.1 else (rsN p n i).1 := by
      show (rsS _).1 = _
      unfold rsS
      rw [er]
    have e2 : (rsN p n (i + 1)).2.1 = if 0 < n / 2 ^ i / 2 then mulP (rsN p n i).2.1 (rsN p n i).2.1 else (rsN p n i).2.1 := by
      show (rsS _).2.1 = _
      unfold rsS
      rw [er]
    have e3 : n / 2 ^ (i + 1) = n / 2 ^ i / 2 := by rw [Nat.div_div_eq_div_mul, Nat.pow_succ]
    have lt : n / 2 ^ i / 2 < n / 2 ^ i := Nat.div_lt_self c (by decide)
    -- what comes behind the first if
    have rest : ∀ x' B7 H7, Gr B H B7 H7 → Ex B5 B7 → (poP K (toPo (rsN p n (i + 1)).1)).P x' B7 → ∀ D : Ends, (∀ σ' H', (∃ B8 x y, σ' = [some v0, some (.int (n : Nat)), some x, some y, some (.int (n / 2 ^ (i + 1) : Nat))] ∧ Gr B H B8 H' ∧ (poP K (toPo (rsN p n (i + 1)).1)).P x B8 ∧ (poP K (toPo (rsN p n (i + 1)).2.1)).P y B8) → D.nx σ' H') →
        tSeq (tAsg (tOp (fun x y H Q => ∃ n : Nat, x = .int (n : Int) ∧ y = .int 1 ∧ Q (.int ((n / 2 : Nat) : Int)) H) (tVar 4) (tC (.int 1))) (gName 4)) (tIfS (tTest (tOp (rI0 fun i j => .bl (decide (j < i))) (tVar 4) (tC (.int 0)))) (tAsg (tCall (spP (Rtimes K)) [] E0 (tCons (tVar 3) (tCons (tVar 3) tNil))) (gName 3)) tNext) D [some v0, some (.int (n : Nat)), some x', some y, some (.int (n / 2 ^ i : Nat))] H7 := by
      intro x' B7 H7 g7 e57 hx' D hD
      refine ps_asgN (fun v => [some v0, some (.int (n : Nat)), some x', some y, some v]) g7.c (p_ev (ev_half (ev_var rfl))) (fun r B8 H8 g8 hr => ?_) (fun _ => rfl)
      obtain rfl : r = _ := hr
      have hy8 := (poP K _).m (e57.trans g8.b) hy
      have hx8 := (poP K _).m g8.b hx'
      have tst := et_test (σ := [some v0, some (.int (n : Nat)), some x', some y, some (.int (n / 2 ^ i / 2 : Nat))]) (H := B8) (ev_op (r := rI0 fun i j => .bl (decide (j < i))) (ev_var (i := 4) (v := .int (n / 2 ^ i / 2 : Nat)) rfl) (ev_c (v := .int 0)) rv_I0)
      by_cases c2 : 0 < n / 2 ^ i / 2
      · refine My.ps_ifT g8.c (et_is tst (dec_pos c2)) fun H9 e9 => ?_
        refine ps_asgN (fun v => [some v0, some (.int (n : Nat)), some x', some v, some (.int (n / 2 ^ i / 2 : Nat))]) (g8.c.trans e9) (p_callP (q_cons (p_var rfl hy8) (q_cons (p_var rfl hy8) q_nil)) (q2 c2)) (fun y' B10 H10 g10 hy' => ?_) (fun _ => rfl)
        refine hD _ _ ⟨B10, x', y', by rw [e3], ((g7.trans g8).trans (Gr.wide g8.c e9)).trans g10, (poP K _).m g10.b hx8, ?_⟩
        rw [e2, if_pos c2]
        exact hy'
      · refine ps_ifN g8.c (et_is tst (dec_nul c2)) fun H9 e9 => ?_
        refine hD _ _ ⟨B8, x', y, by rw [e3], (g7.trans g8).trans (Gr.wide g8.c e9), hx8, ?_⟩
        rw [e2, if_neg c2]
        exact hy8
    refine ⟨fun σ H' => ∃ B8 x y, σ = [some v0, some (.int (n : Nat)), some x, some y, some (.int (n / 2 ^ (i + 1) : Nat))] ∧ Gr B H B8 H' ∧ (poP K (toPo (rsN p n (i + 1)).1)).P x B8 ∧ (poP K (toPo (rsN p n (i + 1)).2.1)).P y B8, fun σ H' ⟨B8, x, y, h1, h2, h3, h4⟩ => ⟨n / 2 ^ (i + 1), by rw [e3]; exact lt, i + 1, B8, x, y, rfl, h1, h2, h3, h4⟩, ?_⟩
    have tst := et_truI (K := K) (ev_odd (ev_var (i := 4) (σ := [some v0, some (.int (n : Nat)), some x, some y, some (.int (n / 2 ^ i : Nat))]) (H := B5) (v := .int (n / 2 ^ i : Nat)) rfl))
    by_cases c2 : n / 2 ^ i % 2 = 1
    · refine My.ps_ifT g6.c (et_is tst (by rw [c2]; rfl)) fun H7 e7 => ?_
      refine ps_asgN (fun v => [some v0, some (.int (n : Nat)), some v, some y, some (.int (n / 2 ^ i : Nat))]) (g6.c.trans e7) (p_callP (q_cons (p_var rfl hx) (q_cons (p_var rfl hy) q_nil)) (q1 c2)) (fun x' B8 H8 g8 hx' => ?_) (fun _ => rfl)
      refine rest x' B8 H8 ((g6.trans (Gr.wide g6.c e7)).trans g8) g8.b ?_ _ fun σ' H' h => h
      rw [e1, if_pos c2]
      exact hx'
    · refine ps_ifN g6.c (et_is tst (by have : n / 2 ^ i % 2 = 0 := by omega
                                        rw [this]; rfl)) fun H7 e7 => ?_
      refine rest x B5 H7 (g6.trans (Gr.wide g6.c e7)) (Ex.refl B5) ?_ _ fun σ' H' h => h
      rw [e1, if_neg c2]
      exact hx

/-- put_into -/
abbrev s_put_into : Stmt := topS 17
abbrev N_put_into : List Str := ["one", "derivative", "other", "parts", "result", "part"]
theorem sc_put_into : FnScope N_put_into ["one", "derivative", "other"] (defScope s_put_into) := ⟨rfl, rfl, rfl, by decide +kernel, rfl, by decide +kernel, by decide +kernel⟩
theorem ok_put_into {f : Addr} {fd : FuncData} (F : Fun K "put_into" "put_into" s_put_into f fd)  {f_by_powers : Addr} {d_by_powers : FuncData} (c_by_powers : Cal P w K mg base "by_powers" 2 ["one", "derivative"] (spP (Rbyp K)) f_by_powers d_by_powers) {f_times : Addr} {d_times : FuncData} (c_times : Cal P w K mg base "times" 3 ["one", "other"] (spP (Rtimes K)) f_times d_times) {f_plus : Addr} {d_plus : FuncData} (c_plus : Cal P w K mg base "plus" 4 ["one", "other"] (spP (Rplus K)) f_plus d_plus)   :
    FnOk P w K mg base CX0 5 f fd ["one", "derivative", "other"] (spP (Rputi K)) := by
  refine F.ok sc_put_into (spP_len (by rintro _ _ ⟨_, _, _, _, _, _, _, _, rfl, rfl⟩; rfl)) (fun cdv A outer s H vs Q E hr h => ?_)
  obtain ⟨B, ps, z, eB, hv, ⟨p, u, o, hp, hm, hu0, hn, hst, rfl, rfl⟩, k⟩ := h
  obtain ⟨v0, v1, v2, rfl, h0, h1, h2⟩ := all3 hv
  have hu := hu_of hr
  refine ⟨_, (pss_cons (ps_set (i := 3) sc_put_into.nd rfl (by first | exact .inl rfl | exact .inr rfl) (pe_call c_by_powers.G (hr.mono (by decide)) (by rfl) c_by_powers.m c_by_powers.k c_by_powers.b .nil pass0 (pa_cons (pv 0) (pa_cons (pv 1) pa_nil))))
    (pss_cons (ps_set (i := 4) sc_put_into.nd rfl (by first | exact .inl rfl | exact .inr rfl) (pe_ix ix_list (pv 3) (pe_un un_neg pe_int) (fun _ _ => rfl)))
    (pss_cons (ps_for PassesOwn.never rfl (pi_list (pe_back2 (pv 3))) (pg_name (i := 5) sc_put_into.nd rfl (by first | exact .inl rfl | exact .inr rfl))
      (pss_one (ps_set (i := 4) sc_put_into.nd rfl (by first | exact .inl rfl | exact .inr rfl) (pe_call c_plus.G (hr.mono (by decide)) (by rfl) c_plus.m c_plus.k c_plus.b .nil pass0 (pa_cons (pe_call c_times.G (hr.mono (by decide)) (by rfl) c_times.m c_times.k c_times.b .nil pass0 (pa_cons (pv 4) (pa_cons (pv 2) pa_nil))) (pa_cons (pv 5) pa_nil))))))
    (pss_one (ps_ret (pv 4)))))), ?_⟩
  have n1 := nPw_ge u p
  refine ps_asgN (fun v => [some v0, some v1, some v2, some v, none, none]) eB (p_callP (R := Rbyp K) (ps := [poP K (toPo p), DvP u]) (q_cons (p_var rfl h0) (q_cons (p_var rfl h1) q_nil)) ⟨p, u, hp, hm, hu0, hn, rfl, rfl⟩) (fun x B2 H2 g2 hx => ?_) (fun _ => rfl)
  dsimp only
  have last : atI ((List.range (nPw u p)).map fun k => poP K (toPo (cofP u k p))) (-1) = some (poP K (toPo (cofP u (nPw u p - 1) p))) := by
    refine atI_end ?_
    rw [List.length_map, List.length_range, List.getElem?_map, List.getElem?_range (by omega)]
    rfl
  refine ps_asgN (fun v => [some v0, some v1, some v2, some x, some v, none]) g2.c (p_ix (K := K) (p_lq (p_var rfl hx)) (p_ev (ev_un ev_c ru_neg)) last) (fun y B3 H3 g3 hy => ?_) (fun _ => rfl)
  dsimp only
  refine ps_forS g3.c (src_lq (p_lq (K := K) (p_back2 (K := K) (p_lq (p_var rfl ((LsP _).m g3.b hx))) (by rw [List.length_map, List.length_range]; exact n1)))) fun B4 H4 g4 => ?_
  rw [range_back, List.length_map, List.length_range]
  refine ⟨fun i σ H5 => ∃ B5, Gr B4 H4 B5 H5 ∧ ∃ y z, σ = [some v0, some v1, some v2, some x, some y, z] ∧ (poP K (toPo (hnP u p o i))).P y B5, ⟨B4, Gr.refl g4.c, y, none, rfl, (poP K _).m g4.b hy⟩, fun i σ H5 _ h => ?_, fun i v σ H5 hi pv px => ?_, fun σ H5 pv => ?_⟩
  · obtain ⟨B5, g5, _⟩ := h
    exact g5.b.trans g5.c
  · obtain ⟨B5, g5, y, z, rfl, hy⟩ := pv
    rw [List.getD_eq_getElem?_getD, List.getElem?_map, List.getElem?_range hi] at px
    have px : (poP K (toPo (cofP u (nPw u p - 2 - i) p))).P v B4 := px
    obtain ⟨q1, q2⟩ := hst i (by omega)
    show tAsg _ _ _ [some v0, some v1, some v2, some x, some y, some v] H5
    refine ps_asgN (fun y => [some v0, some v1, some v2, some x, some y, some v]) g5.c (p_callP (ps := [poP K (toPo (mulP (hnP u p o i) o)), poP K (toPo (cofP u (nPw u p - 2 - i) p))]) (q_cons (p_callP (q_cons (p_var rfl hy) (q_cons (p_var rfl ((poP K (toPo o)).m (g2.b.trans (g3.b.trans (g4.b.trans g5.b))) h2)) q_nil)) q1) (q_cons (p_var rfl ((poP K _).m g5.b px)) q_nil)) q2) (fun y' B6 H6 g6 hy' => ?_) (fun _ => rfl)
    exact ⟨B6, g5.trans g6, y', _, rfl, hy'⟩
  · obtain ⟨B5, g5, y, z, rfl, hy⟩ := pv
    dsimp only
    exact My.ps_ret g5.c (p_var rfl hy) fun v B6 H6 g6 hp => k v B6 H6 ((((g2.trans g3).trans g4).trans g5).trans g6) hp

end
end K12
namespace Nd
set_option autoImplicit false
open PySem PySem.Spec PySem.W PyProof.Rows L2 My Evl
/-! ### max(.., default=..) -/
def maxL (d : Int) : List Int → Int
  | [] => d
  | n :: ns => ns.foldl max n
theorem reads_ints {h : Heap} : ∀ {vs : List Value} {ns : List Int}, IntsAre vs ns → ∃ as, ReadsAll h vs (ns.map .int) as
  | [], [], .nil => ⟨_, .nil⟩
  | _ :: _, _ :: _, .cons i t r => by
    obtain ⟨as, q⟩ := reads_ints r
    exact ⟨_, .cons (.int i t) q⟩
theorem depth_ints : ∀ ns : List Int, PyData.depthAll (ns.map .int) = 0
  | [] => rfl
  | n :: ns => by
    rw [List.map_cons]
    simp [PyData.depthAll, PyData.depth, depth_ints ns]
def rMaxDf (K : PySem.W.Frag) : List V → List V → Hp → VK → Prop := fun vs zs H Q => ∃ (a : Addr) (ns : List Int) (d : Int), vs = [.ref a] ∧ zs = [.int d] ∧ SqL K H a (ns.map V.int) ∧ Q (.int (maxL d ns)) H
theorem cr_maxDf {X : Cx} (hc : X.calm = true) (hu : X.A.units + 9 < cLine) : CallRK X (.builtin "max") [Str.ofString "default"] (rMaxDf X.K) := by
  intro pins s σ H vs zs us ws Q I r rz h
  obtain ⟨a, ns, d, rfl, rfl, hs, q⟩ := h
  obtain rfl := Vals.ref1 r
  obtain ⟨w1, rfl, e1⟩ := vals1 rz
  obtain ⟨t, rfl⟩ : ∃ t, w1 = Value.int d t := e1
  obtain ⟨its, rv, hl, _⟩ := I.list hs
  obtain ⟨as, rs⟩ := reads_ints (h := s.heap) rv.ints
  refine PySem.W.max_list_default (vs := its.toArray) (xs := ns.map .int) (as := as) (I.ok.hd hc) hl.isList rs ⟨fun x hx y hy => ?_, fun x hx => ?_⟩ (by rw [depth_ints]; omega) (fun e h' tk hk => ?_) fun y ys i v h' tk bs e hi rd hk => ?_
  · obtain ⟨i, _, rfl⟩ := List.mem_map.mp hx
    obtain ⟨j, _, rfl⟩ := List.mem_map.mp hy
    rfl
  · obtain ⟨i, _, rfl⟩ := List.mem_map.mp hx
    exact fun z => nomatch z
  · obtain rfl : ns = [] := List.map_eq_nil_iff.mp e
    exact ⟨.int d, H, I.kept hk, ⟨_, rfl⟩, q⟩
  · cases ns with
    | nil => cases e
    | cons n ns =>
      rw [List.map_cons] at e
      injection e with e1 e2
      subst e1 e2
      rw [maxD_ints] at rd
      cases rd with
      | int _ t' => exact ⟨.int _, H, I.kept hk, ⟨_, rfl⟩, q⟩
section
variable {te ta : TE} {σ : L2.St} {B : Hp} {K : PySem.W.Frag} {ns : List Int}
theorem ev_maxDf {d : Int} (h : EvP te σ B (IsD K (.list (ns.map .int)))) (hd : Ev ta σ B (.int d)) : Ev (tCKw (rMaxDf K) (tCons te tNil) (tCons ta tNil)) σ B (.int (maxL d ns)) := fun H1 a Q k => h H1 a _ fun v B2 H2 g y => by
  cases y with
  | @lst a2 ds xs y1 y2 =>
    rw [dps_ints y2] at y1
    refine (hd H2 (g.b.trans g.c) _ fun H3 e3 => ?_)
    exact ⟨a2, ns, d, rfl, rfl, ex_l e3 (ex_l g.c y1), k H3 (g.a.trans e3)⟩
theorem ev_sumI (h : EvP te σ B (IsD K (.list (ns.map .int)))) : Ev (tCB (rSum K) (tCons te tNil)) σ B (.int ns.sum) := fun H1 a Q k => h H1 a _ fun v B2 H2 g y => by
  cases y with
  | @lst a2 ds xs y1 y2 =>
    rw [dps_ints y2] at y1
    exact ⟨a2, ns, rfl, ex_l g.c y1, k H2 g.a⟩
end
/-! ### powers of a fraction -/
def rp (r : Rat) : Nat → Rat
  | 0 => 1
  | k + 1 => rp r k * r
theorem rp_add (r : Rat) (a : Nat) : ∀ b, rp r (a + b) = rp r a * rp r b
  | 0 => (Rat.mul_one _).symm
  | b + 1 => by
    show rp r (a + b) * r = rp r a * (rp r b * r)
    rw [rp_add r a b, Rat.mul_assoc]
def Rpow (K : PySem.W.Frag) : List Pr → Pr → Prop := fun ps z => ∃ (r : Rat) (n : Nat), n ≤ 1000 ∧ (∀ k ≤ n, Sm (rp r k)) ∧ ps = [rtP K r, IsV (.int (n : Nat))] ∧ z = rtP K (rp r n)
def ShP (p : Pq) : Prop := ∀ t ∈ p, ∀ y ∈ t.1, SeqAt.shaped y.1.D = true
def Risn (K : PySem.W.Frag) : List Pr → Pr → Prop := fun ps z => ∃ p : Pq, ShP p ∧ p.length ≤ 90000 ∧ ps = [poP K (toPo p)] ∧ z = IsV (.bl (p.all fun t => decide (t.1 = [])))
def numP (p : Pq) : Rat := match p with
  | [] => 0
  | t :: _ => if t.1 = [] then t.2 else 0
def Rnin (K : PySem.W.Frag) : List Pr → Pr → Prop := fun ps z => ∃ p : Pq, ShP p ∧ ps = [poP K (toPo p)] ∧ z = rtP K (numP p)
def degM (m : Mo) : Int := (m.map (·.2)).sum
def Rmdeg (K : PySem.W.Frag) : List Pr → Pr → Prop := fun ps z => ∃ m : Mo, m.length ≤ 90000 ∧ ps = [moP K m] ∧ z = IsV (.int (degM m))
def Rdeg (K : PySem.W.Frag) : List Pr → Pr → Prop := fun ps z => ∃ p : Pq, p.length ≤ 90000 ∧ (∀ t ∈ p, t.1.length ≤ 90000) ∧ ps = [poP K (toPo p)] ∧ z = IsV (.int (maxL 0 (p.map fun t => degM t.1)))
def Rord (K : PySem.W.Frag) : List Pr → Pr → Prop := fun ps z => ∃ p : Pq, (dvs (toPo p)).length ≤ 1000 ∧ ps = [poP K (toPo p)] ∧ z = IsV (.int (maxL 0 ((dvsIn (toPo p)).map fun u => u.i + u.j)))
theorem po_getD {K : PySem.W.Frag} {p : Pq} {i : Nat} (hi : i < p.length) : ((toPo p).map (tmP K)).getD i (IsV .non) = TuP K [moP K p[i].1, rtP K p[i].2] := by
  unfold toPo
  rw [List.map_map, List.getD_eq_getElem?_getD, List.getElem?_map, List.getElem?_eq_getElem hi]
  rfl
theorem p_nul {aO : Addr} {σ : L2.St} {B : Hp} {K : PySem.W.Frag} (h : ∀ H, Dp K H (.ref aO) (.tuple [.int 0, .int 1])) : EvP (tC (.ref aO)) σ B (rtP K 0) := fun H1 a _ k => k _ B H1 (Gr.refl a) (fr_of_d (f := (0, 1)) (h B))
theorem sh_moR {m : Mo} (h : ∀ y ∈ m, SeqAt.shaped y.1.D = true) : SeqAt.shaped (moD m) = true := by
  have c : ∀ l : Mo, (∀ y ∈ l, SeqAt.shaped y.1.D = true) → PyData.canLayAll0 (l.map pwD) = true := by
    intro l hl
    induction l with
    | nil => rfl
    | cons y l ih =>
      have h1 := hl y List.mem_cons_self
      have h2 := ih fun x hx => hl x (List.mem_cons_of_mem _ hx)
      have h3 := (Bool.and_eq_true_iff.mp h1).1
      rw [List.map_cons]
      simp [PyData.canLayAll0, pwD, PyData.canLay0, h2, h3]
  have d := deep_mo m
  unfold SeqAt.shaped moD at *
  rw [Bool.and_eq_true]
  refine ⟨by rw [PyData.canLay0]; exact c m h, ?_⟩
  exact _root_.decide_eq_true (by omega)
theorem ev_eqM {te tb : TE} {σ : L2.St} {B : Hp} {K : PySem.W.Frag} {m n : Mo} (h : EvP te σ B (moP K m)) (k : EvP tb σ B (moP K n)) (hm : ∀ y ∈ m, SeqAt.shaped y.1.D = true) (hn : ∀ y ∈ n, SeqAt.shaped y.1.D = true) : Ev (tOp (rEqD K) te tb) σ B (.bl (decide (m = n))) := by
  have := ev_eqD (p_to h (to_mo m)) (p_to k (to_mo n)) (sh_moR hm) (sh_moR hn)
  rw [eqv_mo] at this
  exact this
theorem p_mo0 {σ : L2.St} {B : Hp} {K : PySem.W.Frag} : EvP (tTup tNil) σ B (moP K []) := p_tup (K := K) q_nil (by show 0 ≤ 100000; decide)
end Nd
namespace K12
set_option autoImplicit false
open PySem PySem.W L2 Evl My Nd LamX NdefX
section
variable {P : Program} {w : World} {K : PySem.W.Frag} {mg : Str → Option Value} {base : Heap} {T : List (Addr × Str)}

/-- _power_of -/
abbrev s__power_of : Stmt := topS 20
abbrev N__power_of : List Str := ["number", "power", "result", "square", "rest"]
theorem sc__power_of : FnScope N__power_of ["number", "power"] (defScope s__power_of) := ⟨rfl, rfl, rfl, by decide +kernel, rfl, by decide +kernel, by decide +kernel⟩
theorem ok__power_of {f : Addr} {fd : FuncData} (F : Fun K "_power_of" "_power_of" s__power_of f fd)  {f_product : Addr} {d_product : FuncData} (c_product : Cal P w K mg base "product" 1 ["one", "other"] (spP (Rprod K)) f_product d_product)  {aO : Addr} (g_ONE : mg "ONE" = some (.ref aO)) (v_ONE : ∀ H, Dp K H (.ref aO) (.tuple [.int 1, .int 1])) :
    FnOk P w K mg base CX0 2 f fd ["number", "power"] (spP (Rpow K)) := by
  refine F.ok sc__power_of (spP_len (by rintro _ _ ⟨_, _, _, _, rfl, rfl⟩; rfl)) (fun cdv A outer s H vs Q E hr h => ?_)
  obtain ⟨B, ps, z, eB, hv, ⟨p, n, hn, hs, rfl, rfl⟩, k⟩ := h
  obtain ⟨v0, v1, rfl, h0, h1⟩ := all2 hv
  obtain rfl : v1 = _ := h1
  have hu := hu_of hr
  refine ⟨_, (pss_cons (ps_set (i := 2) sc__power_of.nd rfl (by first | exact .inl rfl | exact .inr rfl) (pe_glob (by rfl) (v := .ref aO) g_ONE rfl))
    (pss_cons (ps_set (i := 3) sc__power_of.nd rfl (by first | exact .inl rfl | exact .inr rfl) (pv 0))
    (pss_cons (ps_set (i := 4) sc__power_of.nd rfl (by first | exact .inl rfl | exact .inr rfl) (pv 1))
    (pss_cons (ps_while PassesOwn.never (pt_cmpR op_gt (pv 4) pe_int (nomark _))
      (pss_cons (ps_if (pt_truth (pe_op op_odd (pv 4) pe_int) (by intro _; rfl)) (pss_one (ps_set (i := 2) sc__power_of.nd rfl (by first | exact .inl rfl | exact .inr rfl) (pe_call c_product.G (hr.mono (by decide)) (by rfl) c_product.m c_product.k c_product.b .nil pass0 (pa_cons (pv 2) (pa_cons (pv 3) pa_nil))))) pss_nil)
    (pss_cons (ps_set (i := 4) sc__power_of.nd rfl (by first | exact .inl rfl | exact .inr rfl) (pe_op op_halfN (pv 4) pe_int))
    (pss_one (ps_if (pt_cmpR op_gt (pv 4) pe_int (nomark _)) (pss_one (ps_set (i := 3) sc__power_of.nd rfl (by first | exact .inl rfl | exact .inr rfl) (pe_call c_product.G (hr.mono (by decide)) (by rfl) c_product.m c_product.k c_product.b .nil pass0 (pa_cons (pv 3) (pa_cons (pv 3) pa_nil))))) pss_nil)))))
    (pss_one (ps_ret (pv 2))))))), ?_⟩
  refine ps_asgN (fun v => [some v0, some (.int (n : Nat)), some v, none, none]) eB (p_one v_ONE) (fun x B2 H2 g2 hx => ?_) (fun _ => rfl)
  dsimp only
  refine ps_asgN (fun v => [some v0, some (.int (n : Nat)), some x, some v, none]) g2.c (p_var rfl ((rtP K p).m g2.b h0)) (fun y B3 H3 g3 hy => ?_) (fun _ => rfl)
  dsimp only
  refine ps_asgN (fun v => [some v0, some (.int (n : Nat)), some x, some y, some v]) g3.c (p_var (p := IsV (.int (n : Nat))) rfl rfl) (fun r B4 H4 g4 hr => ?_) (fun _ => rfl)
  obtain rfl : r = _ := hr
  dsimp only
  have e1 : rp p 1 = p := Rat.one_mul p
  refine ⟨fun m σ H5 => ∃ a s B5 x y, a + s * m = n ∧ 1 ≤ s ∧ σ = [some v0, some (.int (n : Nat)), some x, some y, some (.int (m : Nat))] ∧ Gr B H B5 H5 ∧ (rtP K (rp p a)).P x B5 ∧ (rtP K (rp p s)).P y B5, ⟨n, 0, 1, B4, x, y, by omega, Nat.le_refl _, rfl, (g2.trans g3).trans g4, (rtP K _).m (g3.b.trans g4.b) hx, by rw [e1]; exact (rtP K _).m g4.b hy⟩, fun m σ H5 hw => ?_⟩
  obtain ⟨a, s, B5, x, y, ha, hs1, rfl, g5, hx, hy⟩ := hw
  refine et_test (ev_op (r := rI0 fun i j => .bl (decide (j < i))) (ev_var (i := 4) (v := .int (m : Nat)) rfl) (ev_c (v := .int 0)) rv_I0) H5 (Ex.refl H5) _ fun H6 e6 => ?_
  have g6 : Gr B H B5 H6 := g5.trans (Gr.wide g5.c e6)
  by_cases c : m = 0
  · rw [if_neg (by simp [c])]
    dsimp only
    refine My.ps_ret g6.c (p_var rfl hx) fun v B7 H7 g7 hp => k v B7 H7 (g6.trans g7) ?_
    rw [c, Nat.mul_zero, Nat.add_zero] at ha
    rw [← ha]
    exact hp
  · rw [if_pos (by simp; omega)]
    have hm : m = 2 * (m / 2) + m % 2 := by omega
    have lt : m / 2 < m := by omega
    have sm : s ≤ s * m := Nat.le_mul_of_pos_right _ (by omega)
    have spl : s * m = s * (2 * (m / 2)) + s * (m % 2) := by
      conv => lhs; rw [hm]
      rw [Nat.mul_add]
    have dbl : s * (2 * (m / 2)) = (s + s) * (m / 2) := by rw [Nat.add_mul, Nat.two_mul, Nat.mul_add]
    -- what comes behind the first if
    have rest : ∀ a' x' B7 H7, a' = a + s * (m % 2) → Gr B H B7 H7 → Ex B5 B7 → (rtP K (rp p a')).P x' B7 → ∀ D : Ends, (∀ σ' H', (∃ a s B8 x y, a + s * (m / 2) = n ∧ 1 ≤ s ∧ σ' = [some v0, some (.int (n : Nat)), some x, some y, some (.int (m / 2 : Nat))] ∧ Gr B H B8 H' ∧ (rtP K (rp p a)).P x B8 ∧ (rtP K (rp p s)).P y B8) → D.nx σ' H') →
        tSeq (tAsg (tOp (fun x y H Q => ∃ n : Nat, x = .int (n : Int) ∧ y = .int 1 ∧ Q (.int ((n / 2 : Nat) : Int)) H) (tVar 4) (tC (.int 1))) (gName 4)) (tIfS (tTest (tOp (rI0 fun i j => .bl (decide (j < i))) (tVar 4) (tC (.int 0)))) (tAsg (tCall (spP (Rprod K)) [] E0 (tCons (tVar 3) (tCons (tVar 3) tNil))) (gName 3)) tNext) D [some v0, some (.int (n : Nat)), some x', some y, some (.int (m : Nat))] H7 := by
      intro a' x' B7 H7 ea g7 e57 hx' D hD
      refine ps_asgN (fun v => [some v0, some (.int (n : Nat)), some x', some y, some v]) g7.c (p_ev (ev_half (ev_var rfl))) (fun r B8 H8 g8 hr => ?_) (fun _ => rfl)
      obtain rfl : r = _ := hr
      have hy8 := (rtP K _).m (e57.trans g8.b) hy
      have hx8 := (rtP K _).m g8.b hx'
      have tst := et_test (σ := [some v0, some (.int (n : Nat)), some x', some y, some (.int (m / 2 : Nat))]) (H := B8) (ev_op (r := rI0 fun i j => .bl (decide (j < i))) (ev_var (i := 4) (v := .int (m / 2 : Nat)) rfl) (ev_c (v := .int 0)) rv_I0)
      by_cases c2 : 0 < m / 2
      · have s2 : s + s ≤ (s + s) * (m / 2) := Nat.le_mul_of_pos_right _ c2
        refine My.ps_ifT g8.c (et_is tst (dec_pos c2)) fun H9 e9 => ?_
        refine ps_asgN (fun v => [some v0, some (.int (n : Nat)), some x', some v, some (.int (m / 2 : Nat))]) (g8.c.trans e9) (p_callP (q_cons (p_var rfl hy8) (q_cons (p_var rfl hy8) q_nil)) ⟨_, _, hs s (by omega), hs s (by omega), rfl, rfl⟩) (fun y' B10 H10 g10 hy' => ?_) (fun _ => rfl)
        refine hD _ _ ⟨a', s + s, B10, x', y', by omega, by omega, rfl, ((g7.trans g8).trans (Gr.wide g8.c e9)).trans g10, (rtP K _).m g10.b hx8, ?_⟩
        rw [rp_add]
        exact hy'
      · refine ps_ifN g8.c (et_is tst (dec_nul c2)) fun H9 e9 => ?_
        have z : m / 2 = 0 := by omega
        refine hD _ _ ⟨a', s, B8, x', y, ?_, hs1, rfl, (g7.trans g8).trans (Gr.wide g8.c e9), hx8, hy8⟩
        have z2 : s * (2 * (m / 2)) = 0 := by rw [z]; rfl
        rw [z, Nat.mul_zero]
        omega
    refine ⟨fun σ H' => ∃ a s B8 x y, a + s * (m / 2) = n ∧ 1 ≤ s ∧ σ = [some v0, some (.int (n : Nat)), some x, some y, some (.int (m / 2 : Nat))] ∧ Gr B H B8 H' ∧ (rtP K (rp p a)).P x B8 ∧ (rtP K (rp p s)).P y B8, fun σ H' h => ⟨m / 2, lt, h⟩, ?_⟩
    have tst := et_truI (K := K) (ev_odd (ev_var (i := 4) (σ := [some v0, some (.int (n : Nat)), some x, some y, some (.int (m : Nat))]) (H := B5) (v := .int (m : Nat)) rfl))
    by_cases c2 : m % 2 = 1
    · rw [c2, Nat.mul_one] at spl
      refine My.ps_ifT g6.c (et_is tst (by rw [c2]; rfl)) fun H7 e7 => ?_
      refine ps_asgN (fun v => [some v0, some (.int (n : Nat)), some v, some y, some (.int (m : Nat))]) (g6.c.trans e7) (p_callP (q_cons (p_var rfl hx) (q_cons (p_var rfl hy) q_nil)) ⟨_, _, hs a (by omega), hs s (by omega), rfl, rfl⟩) (fun x' B8 H8 g8 hx' => ?_) (fun _ => rfl)
      refine rest (a + s) x' B8 H8 (by rw [c2, Nat.mul_one]) ((g6.trans (Gr.wide g6.c e7)).trans g8) g8.b ?_ _ fun σ' H' h => h
      rw [rp_add]
      exact hx'
    · have c3 : m % 2 = 0 := by omega
      refine ps_ifN g6.c (et_is tst (by rw [c3]; rfl)) fun H7 e7 => ?_
      exact rest a x B5 H7 (by rw [c3, Nat.mul_zero, Nat.add_zero]) (g6.trans (Gr.wide g6.c e7)) (Ex.refl B5) hx _ fun σ' H' h => h

/-- is_number -/
abbrev s_is_number : Stmt := topS 21
abbrev N_is_number : List Str := ["one", "monomial", "_"]
theorem sc_is_number : FnScope N_is_number ["one"] (defScope s_is_number) := ⟨rfl, rfl, rfl, by decide +kernel, rfl, by decide +kernel, by decide +kernel⟩
theorem ok_is_number {f : Addr} {fd : FuncData} (F : Fun K "is_number" "is_number" s_is_number f fd)   (n_all : mg "all" = none)  :
    FnOk P w K mg base CX0 1 f fd ["one"] (spP (Risn K)) := by
  refine F.ok sc_is_number (spP_len (by rintro _ _ ⟨_, _, _, rfl, rfl⟩; rfl)) (fun cdv A outer s H vs Q E hr h => ?_)
  obtain ⟨B, ps, p, eB, hv, ⟨p, sh, hn, rfl, rfl⟩, q⟩ := h
  obtain ⟨v0, rfl, h0⟩ := all1 hv
  have hu := hu_of hr
  refine ⟨_, (pss_one (ps_ret (pe_callB (cr_all rfl) (by rfl) n_all (by decide +kernel) (pa_cons (pe_lc (own := [("monomial", 1), ("_", 2)]) (g := (gTup K 2 (gCons (gName 1) (gCons (gName 2) gNil)))) rfl sc_is_number.nd (pi_tup (pv 0)) (blkOk_by (N := N_is_number) (sc := defScope s_is_number) (by decide +kernel)) (fun _ _ _ _ _ => (pg_tup (by rfl) (pgs_cons (pg_name (i := 1) sc_is_number.nd rfl (Or.inl rfl)) (pgs_cons (pg_name (i := 2) sc_is_number.nd rfl (Or.inl rfl)) pgs_nil)))) (fun _ _ _ _ _ => pts_nil) (fun _ _ _ _ _ => (pe_cmpR (show OpR _ (compareOp .Eq) (rEqD K) from op_eqD hr.units) (pv 1) (pe_tup pa_nil) (nomark _)))) pa_nil)))), ?_⟩
  refine My.ps_ret eB (p_ev (ev_allL (K := K) (bs := p.map fun t => decide (t.1 = [])) ?_)) fun v B1 H1 g hp => q v B1 H1 g ?_
  · rw [List.map_map]
    have main := p_lcA (K := K) (g := gTup K 2 (gCons (gName 1) (gCons (gName 2) gNil))) (te := tOp (rEqD K) (tVar 1) (tTup tNil)) (vs := [1, 2]) (src_tu (p_var (i := 0) (σ := [some v0, none, none]) rfl h0)) (by rw [po_len]; omega) (fun i => ((p[i]?).map fun t => PyData.bool (decide (t.1 = []))).getD .none) fun i v B1 hi e pv => ?_
    · rw [po_len, range_all] at main
      exact main
    · rw [po_len] at hi
      rw [po_getD hi] at pv
      obtain ⟨a, y1, y2, rfl, hq, m1, m2⟩ := tup2 pv (Ex.refl B1)
      refine ⟨[some v0, some y1, some y2], rfl, fun H2 Q e q => ⟨a, _, rfl, ex_t e hq, rfl, _, _, rfl, _, _, rfl, rfl, q⟩, ?_⟩
      rw [List.getElem?_eq_getElem hi]
      exact ed_bl (ev_eqM (p_var rfl m1) p_mo0 (sh _ (List.getElem_mem hi)) (fun y hy => absurd hy List.not_mem_nil))
  · rw [List.all_map] at hp
    exact hp

/-- number_in -/
abbrev s_number_in : Stmt := topS 22
abbrev N_number_in : List Str := ["one"]
theorem sc_number_in : FnScope N_number_in ["one"] (defScope s_number_in) := ⟨rfl, rfl, rfl, by decide +kernel, rfl, by decide +kernel, by decide +kernel⟩
theorem ok_number_in {f : Addr} {fd : FuncData} (F : Fun K "number_in" "number_in" s_number_in f fd)    {aN : Addr} (g_NOUGHT : mg "NOUGHT" = some (.ref aN)) (v_NOUGHT : ∀ H, Dp K H (.ref aN) (.tuple [.int 0, .int 1])) :
    FnOk P w K mg base CX0 1 f fd ["one"] (spP (Rnin K)) := by
  refine F.ok sc_number_in (spP_len (by rintro _ _ ⟨_, _, rfl, rfl⟩; rfl)) (fun cdv A outer s H vs Q E hr h => ?_)
  obtain ⟨B, ps, p, eB, hv, ⟨p, sh, rfl, rfl⟩, q⟩ := h
  obtain ⟨v0, rfl, h0⟩ := all1 hv
  have hu := hu_of hr
  refine ⟨_, (pss_cons (ps_if (PW.pt (pw_and (pt_truth (pv 0) (by intro _; rfl)) (pw_and1 (pt_cmpR (op_eqD hr.units) (pe_ix ix_tup (pe_ix ix_tup (pv 0) pe_int (fun _ _ => rfl)) pe_int (fun _ _ => rfl)) (pe_tup pa_nil) (nomark _))))) (pss_one (ps_ret (pe_ix ix_tup (pe_ix ix_tup (pv 0) pe_int (fun _ _ => rfl)) pe_int (fun _ _ => rfl)))) pss_nil)
    (pss_one (ps_ret (pe_glob (by rfl) (v := .ref aN) g_NOUGHT rfl)))), ?_⟩
  have t0 := et_truT (σ := [some v0]) (p_var (i := 0) rfl h0)
  cases p with
  | nil =>
    refine ps_ifN eB (et_is (et_and (b := true) (et_is t0 rfl) fun h => absurd h Bool.false_ne_true) rfl) fun H1 e1 => ?_
    dsimp only
    exact My.ps_ret (eB.trans e1) (p_nul v_NOUGHT) fun v B1 H2 g hp => q v B1 H2 ((Gr.wide eB e1).trans g) hp
  | cons t p =>
    have i0 : EvP (tOp (rIxT K) (tVar 0) (tC (.int 0))) [some v0] B (TuP K [moP K t.1, rtP K t.2]) := p_ixT (p_var (i := 0) rfl h0) p_c (atI_nat (j := 0) rfl)
    have i00 : EvP (tOp (rIxT K) (tOp (rIxT K) (tVar 0) (tC (.int 0))) (tC (.int 0))) [some v0] B (moP K t.1) := p_ixT i0 p_c rfl
    have tst := et_and (et_is t0 rfl) fun _ => et_test (ev_eqM i00 p_mo0 (sh t List.mem_cons_self) (fun y hy => absurd hy List.not_mem_nil))
    by_cases c : t.1 = []
    · refine My.ps_ifT eB (et_is tst (by rw [_root_.decide_eq_true c]; rfl)) fun H1 e1 => ?_
      refine My.ps_ret (eB.trans e1) (p_ixT i0 p_c rfl) fun v B1 H2 g hp => q v B1 H2 ((Gr.wide eB e1).trans g) ?_
      show (rtP K (if t.1 = [] then t.2 else 0)).P v B1
      rw [if_pos c]
      exact hp
    · refine ps_ifN eB (et_is tst (by rw [decide_eq_false c]; rfl)) fun H1 e1 => ?_
      dsimp only
      refine My.ps_ret (eB.trans e1) (p_nul v_NOUGHT) fun v B1 H2 g hp => q v B1 H2 ((Gr.wide eB e1).trans g) ?_
      show (rtP K (if t.1 = [] then t.2 else 0)).P v B1
      rw [if_neg c]
      exact hp

/-- monomial_degree -/
abbrev s_monomial_degree : Stmt := topS 24
abbrev N_monomial_degree : List Str := ["monomial", "_", "power"]
theorem sc_monomial_degree : FnScope N_monomial_degree ["monomial"] (defScope s_monomial_degree) := ⟨rfl, rfl, rfl, by decide +kernel, rfl, by decide +kernel, by decide +kernel⟩
theorem ok_monomial_degree {f : Addr} {fd : FuncData} (F : Fun K "monomial_degree" "monomial_degree" s_monomial_degree f fd)   (n_sum : mg "sum" = none)  :
    FnOk P w K mg base CX0 1 f fd ["monomial"] (spP (Rmdeg K)) := by
  refine F.ok sc_monomial_degree (spP_len (by rintro _ _ ⟨_, _, rfl, rfl⟩; rfl)) (fun cdv A outer s H vs Q E hr h => ?_)
  obtain ⟨B, ps, p, eB, hv, ⟨m, hn, rfl, rfl⟩, q⟩ := h
  obtain ⟨v0, rfl, h0⟩ := all1 hv
  have hu := hu_of hr
  refine ⟨_, (pss_one (ps_ret (pe_callB (cr_sum rfl) (by rfl) n_sum (by decide +kernel) (pa_cons (pe_lc (own := [("_", 1), ("power", 2)]) (g := (gTup K 2 (gCons (gName 1) (gCons (gName 2) gNil)))) rfl sc_monomial_degree.nd (pi_tup (pv 0)) (blkOk_by (N := N_monomial_degree) (sc := defScope s_monomial_degree) (by decide +kernel)) (fun _ _ _ _ _ => (pg_tup (by rfl) (pgs_cons (pg_name (i := 1) sc_monomial_degree.nd rfl (Or.inl rfl)) (pgs_cons (pg_name (i := 2) sc_monomial_degree.nd rfl (Or.inl rfl)) pgs_nil)))) (fun _ _ _ _ _ => pts_nil) (fun _ _ _ _ _ => (pv 2))) pa_nil)))), ?_⟩
  refine My.ps_ret eB (p_ev (ev_sumI (K := K) (ns := List.map (fun y : Dv × Int => y.2) m) ?_)) fun v B1 H1 g hp => q v B1 H1 g hp
  rw [List.map_map]
  have main := p_lcA (K := K) (g := gTup K 2 (gCons (gName 1) (gCons (gName 2) gNil))) (te := tVar 2) (vs := [1, 2]) (src_tu (p_var (i := 0) (σ := [some v0, none, none]) rfl h0)) (by rw [List.length_map]; omega) (fun i => ((m[i]?).map fun y => PyData.int y.2).getD .none) fun i v B1 hi e pv => ?_
  · rw [List.length_map, range_all] at main
    exact main
  · rw [List.length_map] at hi
    rw [getD_map hi] at pv
    obtain ⟨a, y1, y2, rfl, hq, m1, m2⟩ := tup2 pv (Ex.refl B1)
    obtain rfl : y2 = _ := m2
    refine ⟨[some v0, some y1, some (.int m[i].2)], rfl, fun H2 Q e q => ⟨a, _, rfl, ex_t e hq, rfl, _, _, rfl, _, _, rfl, rfl, q⟩, ?_⟩
    rw [List.getElem?_eq_getElem hi]
    exact ed_in (ev_var rfl)

/-- degree_of -/
abbrev s_degree_of : Stmt := topS 23
abbrev N_degree_of : List Str := ["one", "monomial", "_"]
theorem sc_degree_of : FnScope N_degree_of ["one"] (defScope s_degree_of) := ⟨rfl, rfl, rfl, by decide +kernel, rfl, by decide +kernel, by decide +kernel⟩
theorem ok_degree_of {f : Addr} {fd : FuncData} (F : Fun K "degree_of" "degree_of" s_degree_of f fd)  {f_monomial_degree : Addr} {d_monomial_degree : FuncData} (c_monomial_degree : Cal P w K mg base "monomial_degree" 1 ["monomial"] (spP (Rmdeg K)) f_monomial_degree d_monomial_degree) (n_max : mg "max" = none)  :
    FnOk P w K mg base CX0 2 f fd ["one"] (spP (Rdeg K)) := by
  refine F.ok sc_degree_of (spP_len (by rintro _ _ ⟨_, _, _, rfl, rfl⟩; rfl)) (fun cdv A outer s H vs Q E hr h => ?_)
  obtain ⟨B, ps, p, eB, hv, ⟨p, hn, hm, rfl, rfl⟩, q⟩ := h
  obtain ⟨v0, rfl, h0⟩ := all1 hv
  have hu := hu_of hr
  refine ⟨_, (pss_one (ps_ret (pe_callBK (cr_maxDf rfl (by have h := hr.un; show (A.deeper _).units + 9 < cLine; omega)) (by rfl) n_max (by rfl) (pa_cons (pe_lc (own := [("monomial", 1), ("_", 2)]) (g := (gTup K 2 (gCons (gName 1) (gCons (gName 2) gNil)))) rfl sc_degree_of.nd (pi_tup (pv 0)) (blkOk_by (N := N_degree_of) (sc := defScope s_degree_of) (by decide +kernel)) (fun _ _ _ _ _ => (pg_tup (by rfl) (pgs_cons (pg_name (i := 1) sc_degree_of.nd rfl (Or.inl rfl)) (pgs_cons (pg_name (i := 2) sc_degree_of.nd rfl (Or.inl rfl)) pgs_nil)))) (fun _ _ _ _ _ => pts_nil) (fun _ _ _ _ _ => (pe_call c_monomial_degree.G (hr.mono (by decide)) (by rfl) c_monomial_degree.m c_monomial_degree.k c_monomial_degree.b .nil pass0 (pa_cons (pv 1) pa_nil)))) pa_nil) (pk_cons pe_int pk_nil)))), ?_⟩
  refine My.ps_ret eB (p_ev (ev_maxDf (K := K) (ns := p.map fun t => degM t.1) ?_ ev_c)) fun v B1 H1 g hp => q v B1 H1 g hp
  rw [List.map_map]
  have main := p_lcA (K := K) (g := gTup K 2 (gCons (gName 1) (gCons (gName 2) gNil))) (te := tCall (spP (Rmdeg K)) [] E0 (tCons (tVar 1) tNil)) (vs := [1, 2]) (src_tu (p_var (i := 0) (σ := [some v0, none, none]) rfl h0)) (by rw [po_len]; omega) (fun i => ((p[i]?).map fun t => PyData.int (degM t.1)).getD .none) fun i v B1 hi e pv => ?_
  · rw [po_len, range_all] at main
    exact main
  · rw [po_len] at hi
    rw [po_getD hi] at pv
    obtain ⟨a, y1, y2, rfl, hq, m1, m2⟩ := tup2 pv (Ex.refl B1)
    refine ⟨[some v0, some y1, some y2], rfl, fun H2 Q e q => ⟨a, _, rfl, ex_t e hq, rfl, _, _, rfl, _, _, rfl, rfl, q⟩, ?_⟩
    rw [List.getElem?_eq_getElem hi]
    exact d_int (p_callP (q_cons (p_var rfl m1) q_nil) ⟨_, hm _ (List.getElem_mem hi), rfl, rfl⟩)

/-- order_of -/
abbrev s_order_of : Stmt := topS 25
abbrev N_order_of : List Str := ["one", "_", "by_x", "by_y"]
theorem sc_order_of : FnScope N_order_of ["one"] (defScope s_order_of) := ⟨rfl, rfl, rfl, by decide +kernel, rfl, by decide +kernel, by decide +kernel⟩
theorem ok_order_of {f : Addr} {fd : FuncData} (F : Fun K "order_of" "order_of" s_order_of f fd)  {f_derivatives_in : Addr} {d_derivatives_in : FuncData} (c_derivatives_in : Cal P w K mg base "derivatives_in" 1 ["one"] (spP (Rdin K)) f_derivatives_in d_derivatives_in) (n_max : mg "max" = none)  :
    FnOk P w K mg base CX0 2 f fd ["one"] (spP (Rord K)) := by
  refine F.ok sc_order_of (spP_len (by rintro _ _ ⟨_, _, rfl, rfl⟩; rfl)) (fun cdv A outer s H vs Q E hr h => ?_)
  obtain ⟨B, ps, p, eB, hv, ⟨p, hn, rfl, rfl⟩, q⟩ := h
  obtain ⟨v0, rfl, h0⟩ := all1 hv
  have hu := hu_of hr
  refine ⟨_, (pss_one (ps_ret (pe_callBK (cr_maxDf rfl (by have h := hr.un; show (A.deeper _).units + 9 < cLine; omega)) (by rfl) n_max (by rfl) (pa_cons (pe_lc (own := [("_", 1), ("by_x", 2), ("by_y", 3)]) (g := (gTup K 3 (gCons (gName 1) (gCons (gName 2) (gCons (gName 3) gNil))))) rfl sc_order_of.nd (pi_tup (pe_call c_derivatives_in.G (hr.mono (by decide)) (by rfl) c_derivatives_in.m c_derivatives_in.k c_derivatives_in.b .nil pass0 (pa_cons (pv 0) pa_nil))) (blkOk_by (N := N_order_of) (sc := defScope s_order_of) (by decide +kernel)) (fun _ _ _ _ _ => (pg_tup (by rfl) (pgs_cons (pg_name (i := 1) sc_order_of.nd rfl (Or.inl rfl)) (pgs_cons (pg_name (i := 2) sc_order_of.nd rfl (Or.inl rfl)) (pgs_cons (pg_name (i := 3) sc_order_of.nd rfl (Or.inl rfl)) pgs_nil))))) (fun _ _ _ _ _ => pts_nil) (fun _ _ _ _ _ => (pe_op op_add (pv 2) (pv 3)))) pa_nil) (pk_cons pe_int pk_nil)))), ?_⟩
  refine My.ps_ret eB (p_ev (ev_maxDf (K := K) (ns := (dvsIn (toPo p)).map fun u => u.i + u.j) ?_ ev_c)) fun v B1 H1 g hp => q v B1 H1 g hp
  rw [List.map_map]
  have main := p_lcA (K := K) (g := gTup K 3 (gCons (gName 1) (gCons (gName 2) (gCons (gName 3) gNil)))) (te := tOp (rI0 fun i j => .int (i + j)) (tVar 2) (tVar 3)) (vs := [1, 2, 3]) (src_tu (p_callP (R := Rdin K) (ps := [poP K (toPo p)]) (t := tCons (tVar 0) tNil) (σ := [some v0, none, none, none]) (q_cons (p_var rfl h0) q_nil) ⟨toPo p, hn, rfl, rfl⟩)) (by have := in_len hn; rw [List.length_map]; omega) (fun i => (((dvsIn (toPo p))[i]?).map fun u => PyData.int (u.i + u.j)).getD .none) fun i v B1 hi e pv => ?_
  · rw [List.length_map, range_all] at main
    exact main
  · rw [List.length_map] at hi
    rw [getD_map hi] at pv
    obtain ⟨a, rfl, ha⟩ := pv
    refine ⟨[some v0, some (.str (dvsIn (toPo p))[i].n), some (.int (dvsIn (toPo p))[i].i), some (.int (dvsIn (toPo p))[i].j)], rfl, fun H2 Q e q => ⟨a, _, rfl, st_of (e _ _ ha), rfl, _, _, rfl, _, _, rfl, _, _, rfl, rfl, q⟩, ?_⟩
    rw [List.getElem?_eq_getElem hi]
    exact ed_in (ev_op (ev_var rfl) (ev_var rfl) rv_I0)

end
end K12
namespace Nd
set_option autoImplicit false
open PySem PySem.W L2 My Evl
section
variable {κ β : Type} [DecidableEq κ] {P : Program} {w : World} {K : PySem.W.Frag} {ky : Ky K κ} {vp : β → Pr} {σ : L2.St} {B : Hp} {zs : List (κ × β)} {i : Nat} {v : V} {k : κ} {f0 : β} {ty tx : TE}
/-- d.get(k, x), d as it is known -/
theorem p_get2P (hi : σ[i]? = some (some v)) (hv : (DcP P w ky vp zs).P v B) (hk : EvP ty σ B (ky.kp k)) (hf : EvP tx σ B (vp f0)) : EvP (tDGet2N P w K (tVar i) ty tx) σ B (vp ((valG zs k).getD f0)) := fun H a Q q => by
  obtain ⟨d, xs, B0, rfl, hd, n0, e0, al⟩ := hv
  refine ⟨.ref d, hi, d, rfl, ⟨xs, a _ _ hd⟩, hk H a _ fun y B2 H2 g py => ?_⟩
  obtain ⟨b, rfl⟩ := ky.rf py
  refine (hf.mono g.b) H2 g.c _ fun z B3 H3 g3 pz => ?_
  have g13 := g.trans g3
  have al2 := al.m (e0.trans g13.b)
  refine ⟨b, xs, _, rfl, g13.a _ _ (a _ _ hd), al2.ok g13.c, ky.at_ ((ky.kp k).m (g3.b.trans g13.c) py), ?_⟩
  rcases al.look k with ⟨h1, h2⟩ | ⟨f', u, h1, h2, h3⟩
  · rw [h2]
    refine q z B3 H3 g13 ?_
    rw [h1]
    exact pz
  · rw [h2]
    refine q u B3 H3 g13 ?_
    rw [h1]
    exact (vp f').m (e0.trans g13.b) h3
end
/-! ### values -/
def fOf (zs : List (Dv × Rat)) (u : Dv) : Rat := (valG zs u).getD 0
def mvl (f : Dv → Rat) (c : Rat) (m : Mo) : Rat := m.foldl (fun c y => c * rp (f y.1) y.2.toNat) c
def pvl (f : Dv → Rat) (p : Pq) : Rat := p.foldl (fun v t => v + mvl f t.2 t.1) 0
theorem mvl_snoc (f : Dv → Rat) (c : Rat) (m : Mo) (y : Dv × Int) : mvl f c (m ++ [y]) = mvl f c m * rp (f y.1) y.2.toNat := List.foldl_append
theorem pvl_snoc (f : Dv → Rat) (p : Pq) (t : Mo × Rat) : pvl f (p ++ [t]) = pvl f p + mvl f t.2 t.1 := List.foldl_append
def Rval (P : Program) (w : World) (K : PySem.W.Frag) : List Pr → Pr → Prop := fun ps z => ∃ (p : Pq) (zs : List (Dv × Rat)), (∀ t ∈ p, ∀ j, Sm (mvl (fOf zs) t.2 (t.1.take j))) ∧ (∀ t ∈ p, ∀ y ∈ t.1, 0 ≤ y.2 ∧ y.2 ≤ 1000 ∧ ∀ k ≤ y.2.toNat, Sm (rp (fOf zs y.1) k)) ∧ (∀ i, Sm (pvl (fOf zs) (p.take i))) ∧
  ps = [poP K (toPo p), DcP P w (kyD K) (rtP K) zs] ∧ z = rtP K (pvl (fOf zs) p)
end Nd
namespace K12
set_option autoImplicit false
open PySem PySem.W L2 Evl My Nd LamX NdefX
section
variable {P : Program} {w : World} {K : PySem.W.Frag} {mg : Str → Option Value} {base : Heap} {T : List (Addr × Str)}

/-- value_of -/
abbrev s_value_of : Stmt := topS 19
abbrev N_value_of : List Str := ["one", "numbers", "value", "monomial", "number", "part", "derivative", "power"]
theorem sc_value_of : FnScope N_value_of ["one", "numbers"] (defScope s_value_of) := ⟨rfl, rfl, rfl, by decide +kernel, rfl, by decide +kernel, by decide +kernel⟩
theorem ok_value_of {f : Addr} {fd : FuncData} (F : Fun K "value_of" "value_of" s_value_of f fd)  {f_product : Addr} {d_product : FuncData} (c_product : Cal P w K mg base "product" 1 ["one", "other"] (spP (Rprod K)) f_product d_product) {f__power_of : Addr} {d__power_of : FuncData} (c__power_of : Cal P w K mg base "_power_of" 2 ["number", "power"] (spP (Rpow K)) f__power_of d__power_of) {f_sum_of : Addr} {d_sum_of : FuncData} (c_sum_of : Cal P w K mg base "sum_of" 1 ["one", "other"] (spP (Rsum K)) f_sum_of d_sum_of)  {aN : Addr} (g_NOUGHT : mg "NOUGHT" = some (.ref aN)) (v_NOUGHT : ∀ H, Dp K H (.ref aN) (.tuple [.int 0, .int 1])) :
    FnOk P w K mg base CX0 3 f fd ["one", "numbers"] (spP (Rval P w K)) := by
  refine F.ok sc_value_of (spP_len (by rintro _ _ ⟨_, _, _, _, _, rfl, rfl⟩; rfl)) (fun cdv A outer s H vs Q E hr h => ?_)
  obtain ⟨B, ps, z, eB, hv, ⟨p, zs, s1, s2, s3, rfl, rfl⟩, k⟩ := h
  obtain ⟨v0, v1, rfl, h0, h1⟩ := all2 hv
  have hu := hu_of hr
  refine ⟨_, (pss_cons (ps_set (i := 2) sc_value_of.nd rfl (by first | exact .inl rfl | exact .inr rfl) (pe_glob (by rfl) (v := .ref aN) g_NOUGHT rfl))
    (pss_cons (ps_for PassesOwn.never rfl (pi_tup (pv 0)) (pg_tup (by rfl) (pgs_cons (pg_name (i := 3) sc_value_of.nd rfl (by first | exact .inl rfl | exact .inr rfl)) (pgs_cons (pg_name (i := 4) sc_value_of.nd rfl (by first | exact .inl rfl | exact .inr rfl)) pgs_nil)))
      (pss_cons (ps_set (i := 5) sc_value_of.nd rfl (by first | exact .inl rfl | exact .inr rfl) (pv 4))
    (pss_cons (ps_for PassesOwn.never rfl (pi_tup (pv 3)) (pg_tup (by rfl) (pgs_cons (pg_name (i := 6) sc_value_of.nd rfl (by first | exact .inl rfl | exact .inr rfl)) (pgs_cons (pg_name (i := 7) sc_value_of.nd rfl (by first | exact .inl rfl | exact .inr rfl)) pgs_nil)))
      (pss_one (ps_set (i := 5) sc_value_of.nd rfl (by first | exact .inl rfl | exact .inr rfl) (pe_call c_product.G (hr.mono (by decide)) (by rfl) c_product.m c_product.k c_product.b .nil pass0 (pa_cons (pv 5) (pa_cons (pe_call c__power_of.G (hr.mono (by decide)) (by rfl) c__power_of.m c__power_of.k c__power_of.b .nil pass0 (pa_cons (pe_dget2N (by have h := hr.un; show (A.deeper _).units + 9 < cLine; omega) (pv 1) (pv 6) (pe_glob (by rfl) (v := .ref aN) g_NOUGHT rfl) (by exact ⟨rfl, rfl, rfl, rfl⟩)) (pa_cons (pv 7) pa_nil))) pa_nil))))))
    (pss_one (ps_set (i := 2) sc_value_of.nd rfl (by first | exact .inl rfl | exact .inr rfl) (pe_call c_sum_of.G (hr.mono (by decide)) (by rfl) c_sum_of.m c_sum_of.k c_sum_of.b .nil pass0 (pa_cons (pv 2) (pa_cons (pv 5) pa_nil))))))))
    (pss_one (ps_ret (pv 2))))), ?_⟩
  refine ps_asgN (fun v => [some v0, some v1, some v, none, none, none, none, none]) eB (p_nul v_NOUGHT) (fun x B2 H2 g2 hx => ?_) (fun _ => rfl)
  dsimp only
  refine ps_forX (fun i σ B' H' => ∃ v a b c d e, σ = [some v0, some v1, some v, a, b, c, d, e] ∧ Gr B H B' H' ∧ (rtP K (pvl (fOf zs) (p.take i))).P v B') (fun i σ B' H' h => by obtain ⟨_, _, _, _, _, _, _, g, _⟩ := h; exact g.c) ⟨x, _, _, _, _, _, rfl, g2, hx⟩ rfl ((poP K (toPo p)).m g2.b h0) (fun i z v' σ' B' H' hi e' hs pv F hF => ?_) fun σ' B' H' e' hs => ?_
  · obtain ⟨v, a, b, c, d, e, rfl, g, hx⟩ := hs
    obtain ⟨t, ht, rfl⟩ := po_at hi
    obtain ⟨w0, y1, y2, rfl, hq, n1, n2⟩ := tup2 pv g.c
    refine ⟨w0, _, rfl, hq, rfl, _, _, rfl, _, _, rfl, rfl, ?_⟩
    have htm := List.mem_of_getElem? ht
    refine ps_asgN (fun u => [some v0, some v1, some v, some y1, some y2, some u, d, e]) g.c (p_var rfl n2) (fun u B3 H3 g3 hu => ?_) (fun _ => rfl)
    dsimp only
    refine ps_forX (fun j σ B4 H4 => ∃ u d e, σ = [some v0, some v1, some v, some y1, some y2, some u, d, e] ∧ Gr B' H' B4 H4 ∧ (rtP K (mvl (fOf zs) t.2 (t.1.take j))).P u B4) (fun i σ B' H' h => by obtain ⟨_, _, _, _, g, _⟩ := h; exact g.c) ⟨u, d, e, rfl, g3, hu⟩ rfl ((moP K t.1).m g3.b n1) (fun j z v' σ' B4 H4 hj e4 hs pv F2 hF2 => ?_) fun σ' B4 H4 e4 hs => ?_
    · obtain ⟨u, d, e, rfl, g4, hu⟩ := hs
      obtain ⟨y, hy, rfl⟩ := mo_ix hj
      obtain ⟨w1, x1, x2, rfl, hq2, r1, r2⟩ := tup2 pv g4.c
      obtain rfl : x2 = _ := r2
      refine ⟨w1, _, rfl, hq2, rfl, _, _, rfl, _, _, rfl, rfl, ?_⟩
      obtain ⟨q0, q1, q2⟩ := s2 t htm y (List.mem_of_getElem? hy)
      have get : EvP (tDGet2N P w K (tVar 1) (tVar 6) (tC (.ref aN))) [some v0, some v1, some v, some y1, some y2, some u, some x1, some (.int y.2)] B4 (rtP K (fOf zs y.1)) := p_get2P (ky := kyD K) (vp := rtP K) rfl ((DcP P w (kyD K) (rtP K) zs).m (g.b.trans g4.b) h1) (p_var rfl r1) (p_nul v_NOUGHT)
      have pw : EvP (tCall (spP (Rpow K)) [] E0 (tCons (tDGet2N P w K (tVar 1) (tVar 6) (tC (.ref aN))) (tCons (tVar 7) tNil))) [some v0, some v1, some v, some y1, some y2, some u, some x1, some (.int y.2)] B4 (rtP K (rp (fOf zs y.1) y.2.toNat)) := p_callP (ps := [rtP K (fOf zs y.1), IsV (.int (y.2.toNat : Nat))]) (q_cons get (q_cons (p_var (p := IsV (.int (y.2.toNat : Nat))) rfl (by show V.int y.2 = _; rw [Int.toNat_of_nonneg q0])) q_nil)) ⟨_, _, by omega, q2, rfl, rfl⟩
      have sn : mvl (fOf zs) t.2 (t.1.take (j + 1)) = mvl (fOf zs) t.2 (t.1.take j) * rp (fOf zs y.1) y.2.toNat := by
        rw [take_snoc hy, mvl_snoc]
      refine ps_asgN (fun u => [some v0, some v1, some v, some y1, some y2, some u, some x1, some (.int y.2)]) g4.c (p_callP (R := Rprod K) (ps := [rtP K (mvl (fOf zs) t.2 (t.1.take j)), rtP K (rp (fOf zs y.1) y.2.toNat)]) (q_cons (p_var rfl hu) (q_cons pw q_nil)) ⟨_, _, s1 t htm j, q2 _ (Nat.le_refl _), rfl, rfl⟩) (fun u' B5 H5 g5 hu' => ?_) (fun _ => rfl)
      refine hF2 _ B5 H5 g5.b ⟨u', _, _, rfl, g4.trans g5, ?_⟩
      rw [sn]
      exact hu'
    · obtain ⟨u, d, e, rfl, g4, hu⟩ := hs
      rw [List.length_map, List.take_length] at hu
      dsimp only
      refine ps_asgN (fun v => [some v0, some v1, some v, some y1, some y2, some u, d, e]) g4.c (p_callP (R := Rsum K) (ps := [rtP K (pvl (fOf zs) (p.take i)), rtP K (mvl (fOf zs) t.2 t.1)]) (q_cons (p_var rfl ((rtP K _).m g4.b hx)) (q_cons (p_var rfl hu) q_nil)) ⟨_, _, s3 i, by have := s1 t htm t.1.length; rw [List.take_length] at this; exact this, rfl, rfl⟩) (fun v' B5 H5 g5 hv' => ?_) (fun _ => rfl)
      refine hF _ B5 H5 (g4.b.trans g5.b) ⟨v', _, _, _, _, _, rfl, (g.trans g4).trans g5, ?_⟩
      rw [take_snoc ht, pvl_snoc]
      exact hv'
  · obtain ⟨v, a, b, c, d, e, rfl, g, hx⟩ := hs
    rw [po_len, List.take_length] at hx
    dsimp only
    exact My.ps_ret g.c (p_var rfl hx) fun u B6 H6 g6 hp => k u B6 H6 (g.trans g6) hp

end
end K12
namespace Nd
set_option autoImplicit false
open PySem PySem.W L2 My Evl
section
variable {K : PySem.W.Frag}
theorem p_dvN {te : TE} {σ : L2.St} {B : Hp} {u : Dv} (h : EvP te σ B (DvP u)) : EvP (tOp (rIxT K) te (tC (.int 0))) σ B (IsV (.str u.n)) := fun H1 a Q k => h H1 a _ fun v B2 H2 g x => by
  obtain ⟨p, rfl, h2⟩ := x
  exact ⟨p, _, 0, _, rfl, rfl, st_of (g.c _ _ h2), rfl, k _ B2 H2 g rfl⟩
theorem p_dvI {te : TE} {σ : L2.St} {B : Hp} {u : Dv} (h : EvP te σ B (DvP u)) : EvP (tOp (rIxT K) te (tC (.int 1))) σ B (IsV (.int u.i)) := fun H1 a Q k => h H1 a _ fun v B2 H2 g x => by
  obtain ⟨p, rfl, h2⟩ := x
  exact ⟨p, _, 1, _, rfl, rfl, st_of (g.c _ _ h2), rfl, k _ B2 H2 g rfl⟩
theorem p_dvJ {te : TE} {σ : L2.St} {B : Hp} {u : Dv} (h : EvP te σ B (DvP u)) : EvP (tOp (rIxT K) te (tC (.int 2))) σ B (IsV (.int u.j)) := fun H1 a Q k => h H1 a _ fun v B2 H2 g x => by
  obtain ⟨p, rfl, h2⟩ := x
  exact ⟨p, _, 2, _, rfl, rfl, st_of (g.c _ _ h2), rfl, k _ B2 H2 g rfl⟩
end
def namS (us : List Dv) : List Str := srtN (dedS (us.map fun u => u.n))
def Rnmi (K : PySem.W.Frag) : List Pr → Pr → Prop := fun ps z => ∃ p : Pq, (dvs (toPo p)).length ≤ 1000 ∧ ps = [poP K (toPo p)] ∧ z = TuP K ((namS (dvsIn (toPo p))).map fun x => IsV (.str x))
end Nd
namespace K12
set_option autoImplicit false
open PySem PySem.W L2 Evl My Nd LamX NdefX
section
variable {P : Program} {w : World} {K : PySem.W.Frag} {mg : Str → Option Value} {base : Heap} {T : List (Addr × Str)}

/-- names_in -/
abbrev s_names_in : Stmt := topS 27
abbrev N_names_in : List Str := ["one", "derivative"]
theorem sc_names_in : FnScope N_names_in ["one"] (defScope s_names_in) := ⟨rfl, rfl, rfl, by decide +kernel, rfl, by decide +kernel, by decide +kernel⟩
theorem ok_names_in {f : Addr} {fd : FuncData} (F : Fun K "names_in" "names_in" s_names_in f fd)  {f_derivatives_in : Addr} {d_derivatives_in : FuncData} (c_derivatives_in : Cal P w K mg base "derivatives_in" 1 ["one"] (spP (Rdin K)) f_derivatives_in d_derivatives_in) (n_tuple : mg "tuple" = none) (n_sorted : mg "sorted" = none)  :
    FnOk P w K mg base CX0 2 f fd ["one"] (spP (Rnmi K)) := by
  refine F.ok sc_names_in (spP_len (by rintro _ _ ⟨_, _, rfl, rfl⟩; rfl)) (fun cdv A outer s H vs Q E hr h => ?_)
  obtain ⟨B, ps, p, eB, hv, ⟨p, hn, rfl, rfl⟩, q⟩ := h
  obtain ⟨v0, rfl, h0⟩ := all1 hv
  have hu := hu_of hr
  refine ⟨_, (pss_one (ps_ret (pe_callTy call_tuple_of (by rfl) n_tuple (by decide +kernel) (pa_cons (pe_callB (cr_sortST hr) (by rfl) n_sorted (by decide +kernel) (pa_cons (pe_scT (own := [("derivative", 1)]) (g := (gName 1)) rfl sc_names_in.nd (pi_tup (pe_call c_derivatives_in.G (hr.mono (by decide)) (by rfl) c_derivatives_in.m c_derivatives_in.k c_derivatives_in.b .nil pass0 (pa_cons (pv 0) pa_nil))) (blkOk_by (N := N_names_in) (sc := defScope s_names_in) (by decide +kernel)) (fun _ _ _ _ _ => (pg_name (i := 1) sc_names_in.nd rfl (Or.inl rfl))) (fun _ _ _ _ _ => pts_nil) (fun _ _ _ _ _ => (pe_ix (show IxR _ (rIxT K) from ix_tup) (pv 1) pe_int (fun _ _ => rfl)))) pa_nil)) pa_nil)))), ?_⟩
  have main := p_scT (P := P) (w := w) (K := K) (g := gName 1) (tk := tOp (rIxT K) (tVar 1) (tC (.int 0))) (vs := [1]) (p_callP (R := Rdin K) (ps := [poP K (toPo p)]) (t := tCons (tVar 0) tNil) (σ := [some v0, none]) (q_cons (p_var rfl h0) q_nil) ⟨toPo p, hn, rfl, rfl⟩) (by have := in_len hn; rw [List.length_map]; omega) (fun i => (((dvsIn (toPo p))[i]?).map fun u => u.n).getD "") fun i z v B1 hi e pv => ?_
  · rw [List.length_map, range_all] at main
    exact My.ps_ret eB (p_tupOf (p_lq (p_sortST main))) fun v B1 H1 g hp => q v B1 H1 g hp
  · rw [List.getElem?_map] at hi
    obtain ⟨u, hu, rfl⟩ := Option.map_eq_some_iff.mp hi
    refine ⟨[some v0, some v], rfl, fun H2 Q e q => q, ?_⟩
    rw [hu]
    exact ev_p (p_dvN (p_var rfl pv))

end
end K12
namespace Nd
set_option autoImplicit false
open PySem PySem.W L2 My Evl
/-! ### bounds, all at once -/
structure Bd (D N g l : Nat) (p : Pq) : Prop where
  c : PoC p
  lm : Lim D N p
  dg : ∀ t ∈ p, Nd.dg t.1 ≤ g
  ln : p.length ≤ l
  sh : ShP p
theorem Bd.le {D N M g g' l l' : Nat} {p : Pq} (h : Bd D N g l p) (a : N ≤ M) (b : g ≤ g') (c : l ≤ l') : Bd D M g' l' p := ⟨h.c, h.lm.le a, fun t ht => Nat.le_trans (h.dg t ht) b, Nat.le_trans h.ln c, h.sh⟩
theorem Bd.up {D N g l : Nat} {p : Pq} (h : Bd D N g l p) (c : Nat) : Bd (D * c) (N * c) g l p := ⟨h.c, h.lm.up c, h.dg, h.ln, h.sh⟩
theorem dg_mm (m n : Mo) : Nd.dg (mm m n) ≤ Nd.dg m + Nd.dg n := by
  have := dg_cf (m ++ n)
  rw [dg_app] at this
  exact this
theorem sh_mm {m n : Mo} (h : ∀ y ∈ m, SeqAt.shaped y.1.D = true) (k : ∀ y ∈ n, SeqAt.shaped y.1.D = true) : ∀ y ∈ mm m n, SeqAt.shaped y.1.D = true := fun y hy => by
  obtain ⟨x, hx, e⟩ := List.mem_map.mp (cf_key hy)
  rw [← e]
  rcases List.mem_append.mp hx with a | a
  · exact h x a
  · exact k x a
theorem key_mul {p q : Pq} {t : Mo × Rat} (h : t ∈ mulP p q) : ∃ a ∈ p, ∃ b ∈ q, t.1 = mm a.1 b.1 := by
  obtain ⟨z, hz, e⟩ := List.mem_map.mp (cf_key h)
  obtain ⟨a, ha, hz⟩ := List.mem_flatMap.mp hz
  obtain ⟨b, hb, e2⟩ := mem_row hz
  exact ⟨a, ha, b, hb, e.symm.trans e2⟩
theorem key_add {p q : Pq} {t : Mo × Rat} (h : t ∈ addP p q) : ∃ a, (a ∈ p ∨ a ∈ q) ∧ t.1 = a.1 := by
  obtain ⟨z, hz, e⟩ := List.mem_map.mp (cf_key h)
  exact ⟨z, List.mem_append.mp hz, e.symm⟩
theorem Bd.mul {D N g l E M g' l' : Nat} {p q : Pq} (h : Bd D N g l p) (k : Bd E M g' l' q) : Bd (D * E) (N * M) (g + g') (l * l') (mulP p q) := by
  refine ⟨poc_mul h.c k.c, (lim_mul h.lm k.lm).cf, fun t ht => ?_, Nat.le_trans (mulP_len p q) (Nat.mul_le_mul h.ln k.ln), fun t ht => ?_⟩
  · obtain ⟨a, ha, b, hb, e⟩ := key_mul ht
    rw [e]
    have := dg_mm a.1 b.1
    have := h.dg a ha
    have := k.dg b hb
    omega
  · obtain ⟨a, ha, b, hb, e⟩ := key_mul ht
    rw [e]
    exact sh_mm (h.sh a ha) (k.sh b hb)
theorem Bd.add {D N M g l l' : Nat} {p q : Pq} (h : Bd D N g l p) (k : Bd D M g l' q) : Bd D (N + M) g (l + l') (addP p q) := by
  refine ⟨poc_add h.c k.c, (h.lm.app k.lm).cf, fun t ht => ?_, Nat.le_trans (addP_len p q) (Nat.add_le_add h.ln k.ln), fun t ht => ?_⟩
  · obtain ⟨a, ha, e⟩ := key_add ht
    rw [e]
    exact ha.elim (h.dg a) (k.dg a)
  · obtain ⟨a, ha, e⟩ := key_add ht
    rw [e]
    exact ha.elim (h.sh a) (k.sh a)
theorem Bd.len {D N g l : Nat} {p : Pq} (h : Bd D N g l p) {t : Mo × Rat} (ht : t ∈ p) : t.1.length ≤ g := Nat.le_trans (mo_len (h.c.m t ht)) (h.dg t ht)
theorem Bd.nd {D N g l : Nat} {p : Pq} (h : Bd D N g l p) : (p.map (·.1)).Nodup := h.c.c.nd
/-! ### one derivative taken out -/
theorem dg_rs (u : Dv) (m : Mo) : Nd.dg (rsU u m) ≤ Nd.dg m := by
  induction m with
  | nil => exact Nat.le_refl _
  | cons y m ih =>
    unfold rsU at *
    rw [List.filter_cons, dg_cons]
    split
    · rw [dg_cons]
      omega
    · omega
theorem rs_sub {u : Dv} {m : Mo} {y : Dv × Int} (h : y ∈ rsU u m) : y ∈ m := (List.mem_filter.mp h).1
theorem moc_rs {u : Dv} {m : Mo} (h : MoC m) : MoC (rsU u m) := ⟨⟨h.c.up.sublist List.filter_sublist, fun z hz => h.c.nz z (rs_sub hz)⟩, fun z hz => h.p z (rs_sub hz)⟩
theorem Bd.one {D N g l : Nat} {p : Pq} (h : Bd D N g l p) {t : Mo × Rat} (ht : t ∈ p) (u : Dv) : Bd D N g 1 [(rsU u t.1, t.2)] := by
  refine ⟨⟨⟨List.pairwise_singleton _ _, fun z hz => by rw [List.mem_singleton.mp hz]; exact h.c.c.nz t ht⟩, fun z hz => by rw [List.mem_singleton.mp hz]; exact moc_rs (h.c.m t ht)⟩, ⟨fun z hz => ?_, ?_⟩, fun z hz => ?_, Nat.le_refl _, fun z hz y hy => ?_⟩
  · rw [List.mem_singleton.mp hz]
    exact (h.lm.at ht).1
  · rw [wt_cons]
    show ab D t.2 + 0 ≤ N
    exact (h.lm.at ht).2
  · rw [List.mem_singleton.mp hz]
    exact Nat.le_trans (dg_rs u t.1) (h.dg t ht)
  · rw [List.mem_singleton.mp hz] at hy
    exact h.sh t ht y (rs_sub hy)
theorem cofR_sub {u : Dv} {k : Nat} {p : Pq} {t : Mo × Rat} (h : t ∈ cofR u k p) : ∃ s ∈ p, t = (rsU u s.1, s.2) := by
  obtain ⟨s, hs, e⟩ := List.mem_map.mp h
  exact ⟨s, (List.mem_filter.mp hs).1, e.symm⟩
theorem Bd.cof {D N g l : Nat} {p : Pq} (h : Bd D N g l p) (u : Dv) (k : Nat) : Bd D N g l (cofP u k p) := by
  have key : ∀ t ∈ cofP u k p, ∃ s ∈ p, t.1 = rsU u s.1 := fun t ht => by
    obtain ⟨z, hz, e⟩ := List.mem_map.mp (cf_key ht)
    obtain ⟨s, hs, rfl⟩ := cofR_sub hz
    exact ⟨s, hs, e.symm⟩
  have lim : Lim D N (cofR u k p) := by
    have := (h.lm.filter fun t => decide (co t.1 u = (k : Int))).map (E := D) (f := fun t : Mo × Rat => (rsU u t.1, t.2)) (c := 1) fun t _ ht => ⟨ht, by rw [Nat.mul_one]; exact Nat.le_refl _⟩
    rw [Nat.mul_one] at this
    exact this
  refine ⟨poc_cf fun t ht => ?_, lim.cf, fun t ht => ?_, Nat.le_trans (Nat.le_trans (cf_len _) (cofR_len u k p)) h.ln, fun t ht y hy => ?_⟩
  · obtain ⟨s, hs, rfl⟩ := cofR_sub ht
    exact moc_rs (h.c.m s hs)
  · obtain ⟨s, hs, e⟩ := key t ht
    rw [e]
    exact Nat.le_trans (dg_rs u s.1) (h.dg s hs)
  · obtain ⟨s, hs, e⟩ := key t ht
    rw [e] at hy
    exact h.sh s hs y (rs_sub hy)
/-! ### Horner, and term by term -/
def mulN (o : Pq) : Nat → Pq → Pq
  | 0, x => x
  | k + 1, x => mulP (mulN o k x) o
def tmU (u : Dv) (o : Pq) (d : Nat) (t : Mo × Rat) : Pq := if d ≤ (co t.1 u).toNat then mulN o ((co t.1 u).toNat - d) [(rsU u t.1, t.2)] else []
def putP (u : Dv) (p o : Pq) : Pq := cf (p.flatMap fun t => mulN o (co t.1 u).toNat [(rsU u t.1, t.2)])
theorem horner_step (u : Dv) (o : Pq) (d : Nat) (m : Mo) : ∀ p : Pq, (∀ t ∈ p, 0 ≤ co t.1 u) → co (mulR (p.flatMap (tmU u o (d + 1))) o) m + co (cofR u d p) m = co (p.flatMap (tmU u o d)) m
  | [], _ => Rat.zero_add 0
  | t :: p, h => by
    have ih := horner_step u o d m p fun s hs => h s (List.mem_cons_of_mem _ hs)
    have h0 := h t List.mem_cons_self
    rw [List.flatMap_cons, List.flatMap_cons, mulR_app, co_app, co_app]
    have ec : cofR u d (t :: p) = (if co t.1 u = (d : Int) then [(rsU u t.1, t.2)] else []) ++ cofR u d p := by
      unfold cofR
      rw [List.filter_cons]
      by_cases e : co t.1 u = (d : Int)
      · simp [e]
      · simp [e]
    rw [ec, co_app, ← ih]
    have one : co (mulR (tmU u o (d + 1) t) o) m + co (if co t.1 u = (d : Int) then [(rsU u t.1, t.2)] else []) m = co (tmU u o d t) m := by
      unfold tmU
      by_cases c1 : d + 1 ≤ (co t.1 u).toNat
      · rw [if_pos c1, if_neg (show ¬ co t.1 u = (d : Int) by omega), if_pos (show d ≤ (co t.1 u).toNat by omega), co_nil]
        have e : (co t.1 u).toNat - d = ((co t.1 u).toNat - (d + 1)) + 1 := by omega
        rw [e]
        show _ = co (mulP (mulN o ((co t.1 u).toNat - (d + 1)) [(rsU u t.1, t.2)]) o) m
        unfold mulP
        rw [co_cf]
        exact Rat.add_zero _
      · rw [if_neg c1]
        by_cases c2 : d ≤ (co t.1 u).toNat
        · rw [if_pos (show co t.1 u = (d : Int) by omega), if_pos c2, show (co t.1 u).toNat - d = 0 by omega]
          exact Rat.zero_add _
        · rw [if_neg (show ¬ co t.1 u = (d : Int) by omega), if_neg c2]
          exact Rat.zero_add _
    rw [← one]
    grind
theorem hn_co (u : Dv) (p o : Pq) (h : ∀ t ∈ p, 0 ≤ co t.1 u) (m : Mo) : ∀ k, k + 1 ≤ nPw u p → co (hnP u p o k) m = co (p.flatMap (tmU u o (nPw u p - 1 - k))) m
  | 0, _ => by
    show co (cf (cofR u (nPw u p - 1) p)) m = _
    rw [co_cf, Nat.sub_zero, ← horner_step u o (nPw u p - 1) m p h]
    have : p.flatMap (tmU u o (nPw u p - 1 + 1)) = [] := by
      rw [List.flatMap_eq_nil_iff]
      intro t ht
      unfold tmU
      have := nPw_at (u := u) ht
      rw [if_neg (by omega)]
    rw [this]
    exact (Rat.zero_add _).symm
  | k + 1, hk => by
    show co (cf (mulP (hnP u p o k) o ++ cofP u (nPw u p - 2 - k) p)) m = _
    rw [co_cf, co_app]
    have e1 : nPw u p - 1 - (k + 1) = nPw u p - 2 - k := by omega
    have e2 : nPw u p - 1 - k = nPw u p - 2 - k + 1 := by omega
    rw [e1, ← horner_step u o (nPw u p - 2 - k) m p h]
    unfold mulP cofP
    rw [co_cf, co_cf]
    congr 1
    rw [← e2]
    exact mul_l o (fun m => hn_co u p o h m k (by omega)) m
theorem hn_cn (u : Dv) (p o : Pq) : ∀ k, Cn (hnP u p o k)
  | 0 => cn_cf _
  | _ + 1 => cn_cf _
theorem put_eq {u : Dv} {p o : Pq} (h : ∀ t ∈ p, 0 ≤ co t.1 u) : hnP u p o (nPw u p - 1) = putP u p o := by
  refine cn_ext (hn_cn u p o _) (cn_cf _) fun m => ?_
  have n1 := nPw_ge u p
  rw [hn_co u p o h m _ (by omega), Nat.sub_self]
  unfold putP
  rw [co_cf]
  congr 1
/-- the law's sizes -/
def LB (p : Pq) : Prop := Bd 6 120 3 4 p
theorem pow_up {a b k : Nat} (h : a ≤ b) : a ^ k ≤ b ^ k := Nat.pow_le_pow_left h k
theorem hn_bd {u : Dv} {p o : Pq} (hp : LB p) (ho : LB o) : ∀ k, Bd (6 ^ (k + 1)) (240 ^ (k + 1)) (3 * (k + 1)) (5 ^ (k + 1)) (hnP u p o k)
  | 0 => (hp.cof u _).le (by decide) (by decide) (by decide)
  | k + 1 => by
    have h1 := (hn_bd (u := u) hp ho k).mul ho
    have h2 := (hp.cof u (nPw u p - 2 - k)).up (6 ^ (k + 1))
    rw [Nat.mul_comm 6 (6 ^ (k + 1)), ← Nat.pow_succ] at h2
    rw [← Nat.pow_succ] at h1
    have h3 := (h1.le (Nat.le_refl _) (show 3 * (k + 1) + 3 ≤ 3 * (k + 1 + 1) by omega) (Nat.le_refl _)).add (h2.le (Nat.le_refl _) (show 3 ≤ 3 * (k + 1 + 1) by omega) (Nat.le_refl _))
    refine h3.le ?_ (Nat.le_refl _) ?_
    · have : 6 ^ (k + 1) ≤ 240 ^ (k + 1) := pow_up (by decide)
      rw [Nat.pow_succ 240 (k + 1)]
      omega
    · have : 0 < 5 ^ k := Nat.pow_pos (by decide)
      rw [Nat.pow_succ 5 (k + 1), Nat.pow_succ 5 k]
      omega
theorem mulN_bd {o : Pq} (ho : LB o) {x : Pq} (hx : Bd 6 120 3 1 x) : ∀ k, Bd (6 ^ (k + 1)) (120 ^ (k + 1)) (3 * (k + 1)) (4 ^ k) (mulN o k x)
  | 0 => hx
  | k + 1 => by
    have h1 := (mulN_bd ho hx k).mul ho
    rw [← Nat.pow_succ, ← Nat.pow_succ, ← Nat.pow_succ] at h1
    exact h1
end Nd
namespace Nd
set_option autoImplicit false
open PySem PySem.W L2 My Evl
theorem ev_sumP {te : TE} {σ : L2.St} {B : Hp} {K : PySem.W.Frag} {ns : List Int} (h : EvP te σ B (LsP (ns.map fun n => IsV (.int n)))) : Ev (tCB (rSum K) (tCons te tNil)) σ B (.int ns.sum) :=
  ev_sumI (p_to h (to_lst (toAll_map ns fun n => to_int)))
theorem sum_at (u : Dv) : ∀ m : Mo, ((m.filter fun y => decide (y.1 = u)).map (·.2)).sum = co m u
  | [] => rfl
  | y :: m => by
    have ih := sum_at u m
    rw [List.filter_cons, co_cons]
    by_cases e : y.1 = u
    · rw [if_pos (by simp [e]), if_pos e, List.map_cons, List.sum_cons, ih]
    · rw [if_neg (by simp [e]), if_neg e, ih, z_add]
theorem num4 {a b k : Nat} (h : k ≤ 4) (hb : b ^ 4 < 2 ^ 1000) (hab : a ≤ b) (h1 : 1 ≤ b) : a ^ k < 2 ^ 1000 :=
  Nat.lt_of_le_of_lt (Nat.le_trans (Nat.pow_le_pow_left hab k) (Nat.pow_le_pow_right h1 h)) hb
theorem p6 {k : Nat} (h : k ≤ 4) : 6 ^ k < 2 ^ 1000 := num4 (b := 6) h (by decide +kernel) (Nat.le_refl _) (by decide)
theorem p120 {k : Nat} (h : k ≤ 4) : 120 ^ k < 2 ^ 1000 := num4 (b := 120) h (by decide +kernel) (Nat.le_refl _) (by decide)
theorem row_lim {o : Pq} (ho : LB o) {x : Pq} (hx : Bd 6 120 3 1 x) {k : Nat} (hk : k ≤ 3) : Lim (6 ^ 4) (120 ^ 4) (mulN o k x) := by
  have h1 := ((mulN_bd ho hx k).up (6 ^ (3 - k))).lm
  rw [← Nat.pow_add, show k + 1 + (3 - k) = 4 by omega] at h1
  refine h1.le ?_
  have : 6 ^ (3 - k) ≤ 120 ^ (3 - k) := pow_up (by decide)
  have e : 120 ^ (k + 1) * 120 ^ (3 - k) = 120 ^ 4 := by rw [← Nat.pow_add, show k + 1 + (3 - k) = 4 by omega]
  rw [← e]
  exact Nat.mul_le_mul_left _ this
theorem lim_flat {α : Type} {D X : Nat} {f : α → Pq} : ∀ {l : List α}, (∀ a ∈ l, Lim D X (f a)) → Lim D (l.length * X) (l.flatMap f)
  | [], _ => Lim.nil
  | a :: l, h => by
    rw [List.flatMap_cons, List.length_cons, Nat.add_mul, Nat.one_mul, Nat.add_comm]
    exact (h a List.mem_cons_self).app (lim_flat fun b hb => h b (List.mem_cons_of_mem _ hb))
theorem len_flat {α : Type} {n : Nat} {f : α → Pq} : ∀ {l : List α}, (∀ a ∈ l, (f a).length ≤ n) → (l.flatMap f).length ≤ l.length * n
  | [], _ => Nat.zero_le _
  | a :: l, h => by
    rw [List.flatMap_cons, List.length_append, List.length_cons, Nat.add_mul, Nat.one_mul, Nat.add_comm]
    exact Nat.add_le_add (len_flat fun b hb => h b (List.mem_cons_of_mem _ hb)) (h a List.mem_cons_self)
def rowU (u : Dv) (o : Pq) (t : Mo × Rat) : Pq := mulN o (co t.1 u).toNat [(rsU u t.1, t.2)]
theorem co_bd {p : Pq} {D N g l : Nat} (h : Bd D N g l p) {t : Mo × Rat} (ht : t ∈ p) (u : Dv) : 0 ≤ co t.1 u ∧ (co t.1 u).toNat ≤ g := by
  have h1 := co_nn (fun x hx => Int.le_of_lt ((h.c.m t ht).p x hx)) u
  have h2 := co_le_dg t.1 u
  have h3 := h.dg t ht
  exact ⟨h1, by omega⟩
theorem rowU_lim {u : Dv} {p o : Pq} (hp : LB p) (ho : LB o) {t : Mo × Rat} (ht : t ∈ p) : Lim (6 ^ 4) (120 ^ 4) (rowU u o t) ∧ (rowU u o t).length ≤ 64 ∧ ∀ s ∈ rowU u o t, Sm1 s.2 := by
  have hx : Bd 6 120 3 1 [(rsU u t.1, t.2)] := hp.one ht u
  obtain ⟨_, h3⟩ := co_bd hp ht u
  have l := row_lim ho hx h3
  refine ⟨l, Nat.le_trans (mulN_bd ho hx _).ln (Nat.pow_le_pow_right (by decide) h3), fun s hs => ?_⟩
  exact sm1_of (by decide) (p6 (by decide)) (p120 (by decide)) (l.at hs)
def Rlput (K : PySem.W.Frag) : List Pr → Pr → Prop := fun ps z => ∃ (p : Pq) (u : Dv) (o : Pq), LB p ∧ LB o ∧ SeqAt.shaped u.D = true ∧ ps = [poP K (toPo p), DvP u, poP K (toPo o)] ∧ z = fpP K (putP u p o)
theorem sc_one (q : Pq) : scP q 1 = q := by
  unfold scP
  conv => rhs; rw [← List.map_id q]
  refine List.map_congr_left fun t _ => ?_
  show (t.1, t.2 * 1) = t
  rw [Rat.mul_one]
theorem po_pq {K : PySem.W.Frag} (q : Pq) : poP K (toPo q) = TuP K (pqL K q) := by
  unfold poP toPo pqL
  rw [List.map_map]
  rfl
end Nd
namespace K12
set_option autoImplicit false
open PySem PySem.W L2 Evl My Nd LamX NdefX
section
variable {P : Program} {w : World} {K : PySem.W.Frag} {mg : Str → Option Value} {base : Heap} {T : List (Addr × Str)}

/-- _law_put -/
abbrev s_Lput : Stmt := topS 44
abbrev N_Lput : List Str := ["_law_one", "_law_derivative_here", "_law_other", "_law_found", "_law_monomial_here", "_law_number_here", "_law_wide", "_law_spot", "_law_own", "_law_row", "_law_pair", "_law_turn"]
theorem sc_Lput : FnScope N_Lput ["_law_one", "_law_derivative_here", "_law_other"] (defScope s_Lput) := ⟨rfl, rfl, rfl, by decide +kernel, rfl, by decide +kernel, by decide +kernel⟩
theorem ok_Lput {f : Addr} {fd : FuncData} (F : Fun K "_law_put" "_law_put" s_Lput f fd) {f_LaddedT : Addr} {d_LaddedT : FuncData} (c_LaddedT : Cal P w K mg base "_law_added" 2 ["_law_one", "_law_other", "_law_number_here"] (spP (RaddT K)) f_LaddedT d_LaddedT) {f_Ltimes : Addr} {d_Ltimes : FuncData} (c_Ltimes : Cal P w K mg base "_law_times" 3 ["_law_one", "_law_other"] (spP (Rltimes K)) f_Ltimes d_Ltimes) (n_sum : mg "sum" = none) (n_tuple : mg "tuple" = none) (n_range : mg "range" = none)  :
    FnOk P w K mg base CX0 4 f fd ["_law_one", "_law_derivative_here", "_law_other"] (spP (Rlput K)) := by
  refine F.ok sc_Lput (spP_len (by rintro _ _ ⟨_, _, _, _, _, _, rfl, rfl⟩; rfl)) (fun cdv A outer s H vs Q E hr h => ?_)
  obtain ⟨B, ps, z, eB, hv, ⟨p, u, o, hp, ho, hu0, rfl, rfl⟩, k⟩ := h
  obtain ⟨v0, v1, v2, rfl, h0, h1, h2⟩ := all3 hv
  have hu := hu_of hr
  refine ⟨_, (pss_cons (ps_set (i := 3) sc_Lput.nd rfl (by first | exact .inl rfl | exact .inr rfl) (pe_tupF pa_nil))
    (pss_cons (ps_for PassesOwn.never rfl (pi_tup (pv 0)) (pg_tup (by rfl) (pgs_cons (pg_name (i := 4) sc_Lput.nd rfl (by first | exact .inl rfl | exact .inr rfl)) (pgs_cons (pg_name (i := 5) sc_Lput.nd rfl (by first | exact .inl rfl | exact .inr rfl)) pgs_nil)))
      (pss_cons (ps_set (i := 6) sc_Lput.nd rfl (by first | exact .inl rfl | exact .inr rfl) (pe_callB (cr_sum rfl) (by rfl) n_sum (by decide +kernel) (pa_cons (pe_lc (own := [("_law_spot", 7), ("_law_own", 8)]) (g := (gTup K 2 (gCons (gName 7) (gCons (gName 8) gNil)))) rfl sc_Lput.nd (pi_tup (pv 4)) (blkOk_by (N := N_Lput) (sc := defScope s_Lput) (by decide +kernel)) (fun _ _ _ _ _ => (pg_tup (by rfl) (pgs_cons (pg_name (i := 7) sc_Lput.nd rfl (Or.inl rfl)) (pgs_cons (pg_name (i := 8) sc_Lput.nd rfl (Or.inl rfl)) pgs_nil)))) (fun _ _ _ _ _ => (pts_one (pt_cmpR (show OpR _ (compareOp .Eq) (rEqD K) from op_eqD hr.units) (pv 7) (pv 1) (nomark _)))) (fun _ _ _ _ _ => (pv 8))) pa_nil)))
    (pss_cons (ps_set (i := 9) sc_Lput.nd rfl (by first | exact .inl rfl | exact .inr rfl) (pe_tup (pa_cons (pe_tup (pa_cons (pe_callTy call_tuple_of (by rfl) n_tuple (by decide +kernel) (pa_cons (pe_lc (own := [("_law_pair", 10)]) rfl sc_Lput.nd (pi_tup (pv 4)) (blkOk_by (N := N_Lput) (sc := defScope s_Lput) (by decide +kernel)) (fun _ _ _ _ _ => (pg_name (i := 10) sc_Lput.nd rfl (Or.inl rfl))) (fun _ _ _ _ _ => (pts_one (pt_cmpR (show OpR _ (compareOp .NotEq) (rNeD K) from op_neD hr.units) (pe_ix (show IxR _ (rIxT K) from ix_tup) (pv 10) pe_int (fun _ _ => rfl)) (pv 1) (nomark _)))) (fun _ _ _ _ _ => (pv 10))) pa_nil)) (pa_cons (pv 5) pa_nil))) pa_nil)))
    (pss_cons (ps_for PassesOwn.never rfl (pi_range1 (by rfl) n_range (pa_cons (pv 6) pa_nil)) (pg_name (i := 11) sc_Lput.nd rfl (by first | exact .inl rfl | exact .inr rfl))
      (pss_one (ps_set (i := 9) sc_Lput.nd rfl (by first | exact .inl rfl | exact .inr rfl) (pe_call c_Ltimes.G (hr.mono (by decide)) (by rfl) c_Ltimes.m c_Ltimes.k c_Ltimes.b .nil pass0 (pa_cons (pv 9) (pa_cons (pv 2) pa_nil))))))
    (pss_one (ps_set (i := 3) sc_Lput.nd rfl (by first | exact .inl rfl | exact .inr rfl) (pe_call c_LaddedT.G (hr.mono (by decide)) (by rfl) c_LaddedT.m c_LaddedT.k c_LaddedT.b .nil pass0 (pa_cons (pv 3) (pa_cons (pv 9) (pa_cons (pe_tup (pa_cons pe_int (pa_cons pe_int pa_nil))) pa_nil))))))))))
    (pss_one (ps_ret (pv 3))))), ?_⟩
  refine My.ps_asg eB (p_tupFu q_nil (by show 0 ≤ 100000; decide)) fun v3 B2 H2 g2 h3 => ?_
  dsimp only
  refine ps_forX (fun j σ' B' H' => Gr B H B' H' ∧ Ex B2 B' ∧ ∃ vf a4 a5 a6 a9 a11, σ' = [some v0, some v1, some v2, some vf, a4, a5, a6, none, none, a9, none, a11] ∧ (fpP K (cf ((p.take j).flatMap (rowU u o)))).P vf B') (fun j σ' B' H' h => h.1.c) ⟨g2, Ex.refl B2, v3, none, none, none, none, none, rfl, h3⟩ (i := 0) rfl ((poP K (toPo p)).m g2.b h0) (fun i z v' σ' B' H' hi e' hs pv F hF => ?_) fun σ' B' H' e' hs => ?_
  · obtain ⟨g, e2, vf, a4, a5, a6, a9, a11, rfl, hf⟩ := hs
    obtain ⟨t, ht, rfl⟩ := po_at hi
    obtain ⟨w0, y1, y2, rfl, hq, n1, n2⟩ := tup2 pv g.c
    refine ⟨w0, _, rfl, hq, rfl, _, _, rfl, _, _, rfl, rfl, ?_⟩
    have htm := List.mem_of_getElem? ht
    have sht := hp.sh t htm
    obtain ⟨c0, c3⟩ := co_bd hp htm u
    have h1' := (DvP u).m (g2.b.trans e2) h1
    -- how often
    have wide : EvP (tCB (rSum K) (tCons (tLc (iTup K (tVar 4)) (gTup K 2 (gCons (gName 7) (gCons (gName 8) gNil))) (tTest (tOp (rEqD K) (tVar 7) (tVar 1))) (tVar 8) [7, 8]) tNil)) [some v0, some v1, some v2, some vf, some y1, some y2, a6, none, none, a9, none, a11] B' (IsV (.int ((co t.1 u).toNat : Nat))) := by
      refine p_ev (ev_is (ev_sumP (K := K) (ns := ((t.1.filter fun y => decide (y.1 = u)).map fun y => y.2)) ?_) (by rw [sum_at, Int.toNat_of_nonneg c0]))
      have main := p_lcS (g := gTup K 2 (gCons (gName 7) (gCons (gName 8) gNil))) (tt := tTest (tOp (rEqD K) (tVar 7) (tVar 1))) (te := tVar 8) (vs := [7, 8]) (src_tu (p_var (i := 4) (σ := [some v0, some v1, some v2, some vf, some y1, some y2, a6, none, none, a9, none, a11]) rfl n1)) (by rw [List.length_map]; have := hp.len htm; omega) (fun i => ((t.1[i]?).map fun y => decide (y.1 = u)).getD false) (fun i => ((t.1[i]?).map fun y => IsV (.int y.2)).getD (IsV .non)) fun i v B1 hi e pv => ?_
      · rw [List.length_map, range_pick] at main
        rw [List.map_map]
        exact main
      · rw [List.length_map] at hi
        rw [getD_map hi] at pv
        obtain ⟨a1, x1, x2, rfl, hq2, r1, r2⟩ := tup2 pv (Ex.refl B1)
        obtain rfl : x2 = _ := r2
        refine ⟨[some v0, some v1, some v2, some vf, some y1, some y2, a6, some x1, some (.int t.1[i].2), a9, none, a11], rfl, fun H2 Q e q => ⟨a1, _, rfl, ex_t e hq2, rfl, _, _, rfl, _, _, rfl, rfl, q⟩, ?_, fun _ => ?_⟩
        · rw [List.getElem?_eq_getElem hi]
          have tst := et_test (ev_eqD (K := K) (ed_dv (p_var (i := 7) (σ := [some v0, some v1, some v2, some vf, some y1, some y2, a6, some x1, some (.int t.1[i].2), a9, none, a11]) rfl r1)) (ed_dv (p_var (i := 1) rfl ((DvP u).m e h1'))) (sht _ (List.getElem_mem hi)) hu0)
          rw [eqv_dv0] at tst
          exact tst
        · rw [List.getElem?_eq_getElem hi]
          exact p_varV rfl
    refine My.ps_asg g.c wide fun v6 B3 H3 g3 h6 => ?_
    obtain rfl : v6 = _ := h6
    dsimp only
    have n1' := (moP K t.1).m g3.b n1
    have n2' := (rtP K t.2).m g3.b n2
    -- the row's start
    have start : EvP (tTup (tCons (tTup (tCons (tCB (fun xs H Q => ∃ p ys, xs = [.ref p] ∧ ((SqL K H p ys ∧ ∀ l, H l = none → Q (.ref l) (upd H l (.tup ys))) ∨ SqT K H p ys ∧ Q (.ref p) H)) (tCons (tLc (iTup K (tVar 4)) (gName 10) (tTest (tOp (rNeD K) (tOp (rIxT K) (tVar 10) (tC (.int 0))) (tVar 1))) (tVar 10) [10]) tNil)) (tCons (tVar 5) tNil))) tNil)) [some v0, some v1, some v2, some vf, some y1, some y2, some (.int ((co t.1 u).toNat : Nat)), none, none, a9, none, a11] B3 (poP K (toPo [(rsU u t.1, t.2)])) := by
      have main := p_lcS (g := gName 10) (tt := tTest (tOp (rNeD K) (tOp (rIxT K) (tVar 10) (tC (.int 0))) (tVar 1))) (te := tVar 10) (vs := [10]) (src_tu (p_var (i := 4) (σ := [some v0, some v1, some v2, some vf, some y1, some y2, some (.int ((co t.1 u).toNat : Nat)), none, none, a9, none, a11]) rfl n1')) (by rw [List.length_map]; have := hp.len htm; omega) (fun i => ((t.1[i]?).map fun y => decide (y.1 ≠ u)).getD false) (fun i => ((t.1[i]?).map (pwP K)).getD (IsV .non)) fun i v B1 hi e pv => ?_
      · rw [List.length_map, range_pick] at main
        exact p_tup (K := K) (q_cons (p_tup (K := K) (q_cons (p_tupOf (p_lq main)) (q_cons (p_var rfl n2') q_nil)) (by show 2 ≤ 100000; decide)) q_nil) (by show 1 ≤ 100000; decide)
      · rw [List.length_map] at hi
        rw [getD_map hi] at pv
        refine ⟨[some v0, some v1, some v2, some vf, some y1, some y2, some (.int ((co t.1 u).toNat : Nat)), none, none, a9, some v, a11], rfl, fun H2 Q e q => q, ?_, fun _ => ?_⟩
        · rw [List.getElem?_eq_getElem hi]
          have tst := et_test (ev_neD (K := K) (ed_dv (p_ixT (K := K) (p := DvP t.1[i].1) (p_var (i := 10) (σ := [some v0, some v1, some v2, some vf, some y1, some y2, some (.int ((co t.1 u).toNat : Nat)), none, none, a9, some v, a11]) rfl pv) (p_c (v := .int 0)) rfl)) (ed_dv (p_var (i := 1) rfl ((DvP u).m (g3.b.trans e) h1'))) (sht _ (List.getElem_mem hi)) hu0)
          rw [eqv_dv0] at tst
          exact et_is tst (by show (!decide (t.1[i].1 = u)) = decide (t.1[i].1 ≠ u); simp)
        · rw [List.getElem?_eq_getElem hi]
          exact p_var rfl pv
    refine My.ps_asg g3.c start fun v9 B4 H4 g4 h9 => ?_
    dsimp only
    have hx : Bd 6 120 3 1 [(rsU u t.1, t.2)] := hp.one htm u
    refine ps_forS g4.c (src_rng (j := (co t.1 u).toNat) (q_cons (p_varV rfl) q_nil) (by omega)) fun B5 H5 g5 => ?_
    refine ⟨fun j σ H6 => ∃ B6, Gr B5 H5 B6 H6 ∧ ∃ v9 a11, σ = [some v0, some v1, some v2, some vf, some y1, some y2, some (.int ((co t.1 u).toNat : Nat)), none, none, some v9, none, a11] ∧ (poP K (toPo (mulN o j [(rsU u t.1, t.2)]))).P v9 B6, ⟨B5, Gr.refl g5.c, v9, a11, rfl, (poP K _).m g5.b h9⟩, fun i σ H4 _ h => ?_, fun j v σ H6 hj pv px => ?_, fun σ H6 pv => ?_⟩
    · obtain ⟨B6, g6, _⟩ := h
      exact g6.b.trans g6.c
    · obtain ⟨B6, g6, v9, a11, rfl, h9⟩ := pv
      show tAsg _ _ _ [some v0, some v1, some v2, some vf, some y1, some y2, some (.int ((co t.1 u).toNat : Nat)), none, none, some v9, none, some v] H6
      have bd := mulN_bd ho hx j
      have b4 := Nat.pow_le_pow_right (n := 4) (by decide) (show j ≤ 2 by omega)
      refine My.ps_asg g6.c (p_callP (R := Rltimes K) (ps := [poP K (toPo (mulN o j [(rsU u t.1, t.2)])), poP K (toPo o)]) (q_cons (p_var rfl h9) (q_cons (p_var rfl ((poP K (toPo o)).m (g2.b.trans (e2.trans (g3.b.trans (g4.b.trans (g5.b.trans g6.b))))) h2)) q_nil))
        ⟨6 ^ (j + 1), 6, 120 ^ (j + 1), 120, mulN o j [(rsU u t.1, t.2)], o, Nat.pow_pos (by decide), by decide, p6 (by omega), p6 (k := 1) (by decide), p120 (by omega), p120 (k := 1) (by decide), by rw [← Nat.pow_succ]; exact p6 (by omega), by rw [← Nat.pow_succ]; exact p120 (by omega), bd.lm, ho.lm, fun s hs => ⟨bd.c.m s hs, by have := bd.len hs; omega⟩, fun s hs => ⟨ho.c.m s hs, by have := ho.len hs; omega⟩, ?_, by have := ho.ln; omega, rfl, rfl⟩) fun v' B7 H7 g7 hv' => ?_
      · have h1 := Nat.mul_le_mul bd.ln ho.ln
        have h2 : 4 ^ j * 4 ≤ 16 * 4 := Nat.mul_le_mul_right 4 b4
        omega
      · exact ⟨B7, g6.trans g7, v', _, rfl, fp_po hv'⟩
    · obtain ⟨B6, g6, v9, a11, rfl, h9⟩ := pv
      obtain ⟨rl, rn, rs⟩ := rowU_lim (u := u) hp ho htm
      have g36 := (g3.trans g4).trans (g5.trans g6)
      have fl : Lim (6 ^ 4) (4 * 120 ^ 4) (cf ((p.take i).flatMap (rowU u o))) := by
        refine ((lim_flat (l := p.take i) fun s hs => (rowU_lim hp ho (List.mem_of_mem_take hs)).1).cf).le (Nat.mul_le_mul_right _ ?_)
        have := hp.ln
        rw [List.length_take]
        omega
      have fn : (cf ((p.take i).flatMap (rowU u o))).length ≤ 4 * 64 := by
        refine Nat.le_trans (cf_len _) (Nat.le_trans (len_flat fun s hs => (rowU_lim hp ho (List.mem_of_mem_take hs)).2.1) (Nat.mul_le_mul_right _ ?_))
        have := hp.ln
        rw [List.length_take]
        omega
      have hadd : RaddT K [fpP K (cf ((p.take i).flatMap (rowU u o))), TuP K (pqL K (rowU u o t)), rtP K 1] (fpP K (cf ((p.take (i + 1)).flatMap (rowU u o)))) := by
        refine ⟨6 ^ 4, 5 * 120 ^ 4, cf ((p.take i).flatMap (rowU u o)), rowU u o t, 1, by decide, p6 (by decide), by decide +kernel, ?_, rs, ⟨Nat.one_lt_two_pow (by decide), Nat.one_lt_two_pow (by decide)⟩, (cn_cf _).nd, by omega, rfl, ?_⟩
        · rw [sc_one]
          exact (fl.app rl).le (by omega)
        · rw [sc_one, take_snoc ht, List.flatMap_append, List.flatMap_singleton]
          unfold addP
          rw [cf_app]
      have one : EvP (tTup (tCons (tC (.int 1)) (tCons (tC (.int 1)) tNil))) [some v0, some v1, some v2, some vf, some y1, some y2, some (.int ((co t.1 u).toNat : Nat)), none, none, some v9, none, a11] B6 (rtP K 1) := p_tup (K := K) (ps := [IsV (.int 1), IsV (.int 1)]) (q_cons p_c (q_cons p_c q_nil)) (by show 2 ≤ 100000; decide)
      rw [po_pq] at h9
      refine My.ps_asg (g.trans g36).c (p_callP (ps := [fpP K (cf ((p.take i).flatMap (rowU u o))), TuP K (pqL K (rowU u o t)), rtP K 1]) (q_cons (p_var rfl ((fpP K _).m g36.b hf)) (q_cons (p_var rfl h9) (q_cons one q_nil))) hadd) fun v' B7 H7 g7 hv' => ?_
      exact hF _ B7 H7 (g36.b.trans g7.b) ⟨(g.trans g36).trans g7, (e2.trans g36.b).trans g7.b, v', _, _, _, _, _, rfl, hv'⟩
  · obtain ⟨g, e2, vf, a4, a5, a6, a9, a11, rfl, hf⟩ := hs
    rw [po_len, List.take_length] at hf
    dsimp only
    exact My.ps_ret g.c (p_var rfl hf) fun v B6 H6 g6 hp => k v B6 H6 (g.trans g6) hp

end
end K12
namespace Nd
set_option autoImplicit false
open PySem PySem.W L2 My Evl
/-! ### how great values are -/
def Qw (c : Nat) (r : Rat) : Prop := Wh (6 ^ c) r ∧ ab (6 ^ c) r ≤ 120 ^ c
theorem Qw.mul {a b : Nat} {r s : Rat} (h : Qw a r) (k : Qw b s) : Qw (a + b) (r * s) := by
  obtain ⟨h1, h2⟩ := wh_mul h.1 k.1
  unfold Qw
  rw [Nat.pow_add, Nat.pow_add]
  exact ⟨h1, by rw [h2]; exact Nat.mul_le_mul h.2 k.2⟩
theorem qw_one : Qw 0 1 := ⟨(wh_c (c := 1)).1, by rw [show 6 ^ 0 = 1 from rfl, (wh_c (c := 1)).2]; decide⟩
theorem Qw.up {a b : Nat} {r : Rat} (h : Qw a r) (l : a ≤ b) : Qw b r := by
  obtain ⟨h1, h2⟩ := wh_up (6 ^ (b - a)) h.1
  have e : 6 ^ a * 6 ^ (b - a) = 6 ^ b := by rw [← Nat.pow_add, Nat.add_sub_cancel' l]
  have e2 : 120 ^ a * 120 ^ (b - a) = 120 ^ b := by rw [← Nat.pow_add, Nat.add_sub_cancel' l]
  rw [e] at h1 h2
  refine ⟨h1, ?_⟩
  rw [h2, ← e2]
  exact Nat.mul_le_mul h.2 (pow_up (by decide))
theorem qw_num {r : Rat} (h : NumOk r) : Qw 1 r := ⟨by rw [Nat.pow_one]; exact h.2.1, by rw [Nat.pow_one]; have := h.2.2; omega⟩
theorem qw_nul {c : Nat} : Qw c 0 := ⟨wh_nul, by rw [ab_nul]; exact Nat.zero_le _⟩
theorem Qw.rp {r : Rat} (h : Qw 1 r) : ∀ k, Qw k (rp r k)
  | 0 => qw_one
  | k + 1 => (Qw.rp h k).mul h
theorem sm_le {r : Rat} {D N : Nat} (hD : 0 < D) (hD2 : D < 2 ^ 1000) (hN : N < 2 ^ 1000) (h : Wh D r) (k : ab D r ≤ N) : Sm r := sm_of h k hD (Nat.lt_trans hD2 (Nat.pow_lt_pow_right (by decide) (by decide))) (Nat.lt_trans hN (Nat.pow_lt_pow_right (by decide) (by decide)))
theorem Qw.sm {c : Nat} {r : Rat} (h : Qw c r) (hc : c ≤ 4) : Sm r := sm_le (Nat.pow_pos (by decide)) (p6 hc) (p120 hc) h.1 h.2
theorem valG_at {κ β : Type} [DecidableEq κ] {zs : List (κ × β)} {k : κ} {f : β} (h : valG zs k = some f) : ∃ z ∈ zs, z.2 = f := by
  unfold valG at h
  obtain ⟨z, hz, e⟩ := Option.map_eq_some_iff.mp h
  exact ⟨z, List.mem_of_find?_eq_some hz, e⟩
theorem qw_f {zs : List (Dv × Rat)} (h : ∀ z ∈ zs, NumOk z.2) (u : Dv) : Qw 1 (fOf zs u) := by
  unfold fOf
  cases e : valG zs u with
  | none => exact qw_nul
  | some f =>
    obtain ⟨z, hz, rfl⟩ := valG_at e
    exact qw_num (h z hz)
theorem qw_co {p : Pq} (h : LB p) {t : Mo × Rat} (ht : t ∈ p) : Qw 1 t.2 := by
  obtain ⟨a, b⟩ := h.lm.at ht
  exact ⟨by rw [Nat.pow_one]; exact a, by rw [Nat.pow_one]; exact b⟩
theorem qw_mvl {f : Dv → Rat} (hf : ∀ u, Qw 1 (f u)) : ∀ (m : Mo) (c : Rat) (n : Nat), (∀ y ∈ m, 0 ≤ y.2) → Qw n c → Qw (n + dg m) (mvl f c m)
  | [], c, n, _, h => h
  | y :: m, c, n, hp, h => by
    have h1 := qw_mvl hf m (c * rp (f y.1) y.2.toNat) (n + y.2.toNat) (fun x hx => hp x (List.mem_cons_of_mem _ hx)) (h.mul ((hf y.1).rp _))
    have h0 := hp y List.mem_cons_self
    rw [dg_cons]
    have e : n + (y.2.natAbs + dg m) = n + y.2.toNat + dg m := by omega
    rw [e]
    exact h1
theorem dg_take (m : Mo) (j : Nat) : dg (m.take j) ≤ dg m := by
  have := dg_app (m.take j) (m.drop j)
  rw [List.take_append_drop] at this
  omega
theorem qw_term {zs : List (Dv × Rat)} (hz : ∀ z ∈ zs, NumOk z.2) {p : Pq} (h : LB p) {t : Mo × Rat} (ht : t ∈ p) (j : Nat) : Qw 4 (mvl (fOf zs) t.2 (t.1.take j)) := by
  have h1 := qw_mvl (qw_f hz) (t.1.take j) t.2 1 (fun y hy => Int.le_of_lt ((h.c.m t ht).p y (List.mem_of_mem_take hy))) (qw_co h ht)
  have h2 := dg_take t.1 j
  have h3 := h.dg t ht
  exact h1.up (by omega)
theorem wh_pvl {f : Dv → Rat} {D N : Nat} : ∀ (p : Pq), (∀ t ∈ p, Wh D (mvl f t.2 t.1) ∧ ab D (mvl f t.2 t.1) ≤ N) → ∀ i, Wh D (pvl f (p.take i)) ∧ ab D (pvl f (p.take i)) ≤ i * N
  | p, h, 0 => ⟨wh_nul, by rw [List.take_zero]; show ab D 0 ≤ _; rw [ab_nul]; exact Nat.zero_le _⟩
  | p, h, i + 1 => by
    obtain ⟨h1, h2⟩ := wh_pvl p h i
    cases e : p[i]? with
    | none =>
      have l := List.getElem?_eq_none_iff.mp e
      rw [List.take_of_length_le (by omega)]
      rw [List.take_of_length_le (by omega)] at h1 h2
      exact ⟨h1, Nat.le_trans h2 (Nat.mul_le_mul_right _ (Nat.le_succ i))⟩
    | some t =>
      obtain ⟨k1, k2⟩ := h t (List.mem_of_getElem? e)
      rw [take_snoc e, pvl_snoc, Nat.add_mul, Nat.one_mul]
      obtain ⟨a, b⟩ := wh_add h1 k1
      exact ⟨a, by omega⟩
theorem wh_sum {zs : List (Dv × Rat)} (hz : ∀ z ∈ zs, NumOk z.2) {p : Pq} (h : LB p) (i : Nat) : Wh (6 ^ 4) (pvl (fOf zs) (p.take i)) ∧ ab (6 ^ 4) (pvl (fOf zs) (p.take i)) ≤ 4 * 120 ^ 4 := by
  have ht : ∀ t ∈ p, Wh (6 ^ 4) (mvl (fOf zs) t.2 t.1) ∧ ab (6 ^ 4) (mvl (fOf zs) t.2 t.1) ≤ 120 ^ 4 := fun t ht => by
    have := qw_term hz h ht t.1.length
    rw [List.take_length] at this
    exact this
  have key := wh_pvl p ht
  by_cases c : i ≤ 4
  · exact ⟨(key i).1, Nat.le_trans (key i).2 (Nat.mul_le_mul_right _ c)⟩
  · have e : p.take i = p.take 4 := by
      have := h.ln
      rw [List.take_of_length_le (by omega), List.take_of_length_le (by omega)]
    rw [e]
    exact key 4
theorem sum_sm {zs : List (Dv × Rat)} (hz : ∀ z ∈ zs, NumOk z.2) {p : Pq} (h : LB p) (i : Nat) : Sm (pvl (fOf zs) (p.take i)) := by
  obtain ⟨a, b⟩ := wh_sum hz h i
  exact sm_le (by decide) (p6 (by decide)) (by decide +kernel) a b
/-- what the program's value_of wants -/
theorem val_ok {P : Program} {w : World} {K : PySem.W.Frag} {zs : List (Dv × Rat)} (hz : ∀ z ∈ zs, NumOk z.2) {p : Pq} (h : LB p) : Rval P w K [poP K (toPo p), DcP P w (kyD K) (rtP K) zs] (rtP K (pvl (fOf zs) p)) := by
  refine ⟨p, zs, fun t ht j => (qw_term hz h ht j).sm (by decide), fun t ht y hy => ?_, fun i => sum_sm hz h i, rfl, rfl⟩
  have h1 := (h.c.m t ht).p y hy
  have h2 := dg_at hy
  have h3 := h.dg t ht
  exact ⟨by omega, by omega, fun k hk => ((qw_f hz y.1).rp k).sm (by omega)⟩
def Rlval (P : Program) (w : World) (K : PySem.W.Frag) : List Pr → Pr → Prop := fun ps z => ∃ (p : Pq) (zs : List (Dv × Rat)), LB p ∧ (∀ z ∈ zs, NumOk z.2) ∧ ps = [poP K (toPo p), DcP P w (kyD K) (rtP K) zs] ∧ z = rtP K (pvl (fOf zs) p)
theorem qw_parts {r : Rat} (h : Qw 1 r) : (fr r).1.natAbs ≤ 120 ∧ (fr r).2.natAbs ≤ 6 := by
  rw [Qw, Nat.pow_one, Nat.pow_one] at h
  obtain ⟨a, b⟩ := ab_small (by decide) h.1
  exact ⟨Nat.le_trans a h.2, b⟩
theorem divInt_step {a b : Int} {r s : Rat} (h : Rat.divInt a b = r) : Rat.divInt (a * (fr s).1) (b * (fr s).2) = r * s := by
  rw [← Rat.divInt_mul_divInt, h, fr_val]
end Nd
namespace K12
set_option autoImplicit false
open PySem PySem.W L2 Evl My Nd LamX NdefX
section
variable {P : Program} {w : World} {K : PySem.W.Frag} {mg : Str → Option Value} {base : Heap} {T : List (Addr × Str)}

/-- _law_value -/
abbrev s_Lvalue : Stmt := topS 45
abbrev N_Lvalue : List Str := ["_law_one", "_law_numbers", "_law_found", "_law_monomial_here", "_law_top", "_law_bottom", "_law_derivative_here", "_law_wide", "_law_own", "_law_turn"]
theorem sc_Lvalue : FnScope N_Lvalue ["_law_one", "_law_numbers"] (defScope s_Lvalue) := ⟨rfl, rfl, rfl, by decide +kernel, rfl, by decide +kernel, by decide +kernel⟩
theorem ok_Lvalue {f : Addr} {fd : FuncData} (F : Fun K "_law_value" "_law_value" s_Lvalue f fd)  {f_Llowest : Addr} {d_Llowest : FuncData} (c_Llowest : Cal P w K mg base "_law_lowest" 1 ["_law_top", "_law_bottom"] (spP (Rlow2 K)) f_Llowest d_Llowest) (n_range : mg "range" = none)  :
    FnOk P w K mg base CX0 2 f fd ["_law_one", "_law_numbers"] (spP (Rlval P w K)) := by
  refine F.ok sc_Lvalue (spP_len (by rintro _ _ ⟨_, _, _, _, rfl, rfl⟩; rfl)) (fun cdv A outer s H vs Q E hr h => ?_)
  obtain ⟨B, ps, z, eB, hv, ⟨p, zs, hp, hz, rfl, rfl⟩, k⟩ := h
  obtain ⟨v0, v1, rfl, h0, h1⟩ := all2 hv
  have hu := hu_of hr
  refine ⟨_, (pss_cons (ps_set (i := 2) sc_Lvalue.nd rfl (by first | exact .inl rfl | exact .inr rfl) (pe_tup (pa_cons pe_int (pa_cons pe_int pa_nil))))
    (pss_cons (ps_for PassesOwn.never rfl (pi_tup (pv 0)) (pg_tup (by rfl) (pgs_cons (pg_name (i := 3) sc_Lvalue.nd rfl (by first | exact .inl rfl | exact .inr rfl)) (pgs_cons (pg_tup (by rfl) (pgs_cons (pg_name (i := 4) sc_Lvalue.nd rfl (by first | exact .inl rfl | exact .inr rfl)) (pgs_cons (pg_name (i := 5) sc_Lvalue.nd rfl (by first | exact .inl rfl | exact .inr rfl)) pgs_nil))) pgs_nil)))
      (pss_cons (ps_for PassesOwn.never rfl (pi_tup (pv 3)) (pg_tup (by rfl) (pgs_cons (pg_name (i := 6) sc_Lvalue.nd rfl (by first | exact .inl rfl | exact .inr rfl)) (pgs_cons (pg_name (i := 7) sc_Lvalue.nd rfl (by first | exact .inl rfl | exact .inr rfl)) pgs_nil)))
      (pss_cons (ps_set (i := 8) sc_Lvalue.nd rfl (by first | exact .inl rfl | exact .inr rfl) (pe_dget2N (by have h := hr.un; show (A.deeper _).units + 9 < cLine; omega) (pv 1) (pv 6) (pe_tup (pa_cons pe_int (pa_cons pe_int pa_nil))) (by exact ⟨rfl, rfl, rfl, rfl⟩)))
    (pss_one (ps_for PassesOwn.never rfl (pi_range1 (by rfl) n_range (pa_cons (pv 7) pa_nil)) (pg_name (i := 9) sc_Lvalue.nd rfl (by first | exact .inl rfl | exact .inr rfl))
      (pss_one (ps_par (i := 4) (j := 5) rfl sc_Lvalue.nd rfl rfl (by decide) rfl rfl (pa_cons (pe_op op_mulW (pv 4) (pe_ix ix_tup (pv 8) pe_int (fun _ _ => rfl))) (pa_cons (pe_op op_mulW (pv 5) (pe_ix ix_tup (pv 8) pe_int (fun _ _ => rfl))) pa_nil)) (by rfl)))))))
    (pss_one (ps_set (i := 2) sc_Lvalue.nd rfl (by first | exact .inl rfl | exact .inr rfl) (pe_call c_Llowest.G (hr.mono (by decide)) (by rfl) c_Llowest.m c_Llowest.k c_Llowest.b .nil pass0 (pa_cons (pe_op op_add (pe_op op_mulW (pe_ix ix_tup (pv 2) pe_int (fun _ _ => rfl)) (pv 5)) (pe_op op_mulW (pv 4) (pe_ix ix_tup (pv 2) pe_int (fun _ _ => rfl)))) (pa_cons (pe_op op_mulW (pe_ix ix_tup (pv 2) pe_int (fun _ _ => rfl)) (pv 5)) pa_nil)))))))
    (pss_one (ps_ret (pv 2))))), ?_⟩
  refine My.ps_asg eB (p_tup (K := K) (ps := [IsV (.int 0), IsV (.int 1)]) (q_cons p_c (q_cons p_c q_nil)) (by show 2 ≤ 100000; decide)) fun v2 B2 H2 g2 h2 => ?_
  have h2 : (rtP K 0).P v2 B2 := h2
  dsimp only
  refine ps_forX (fun j σ' B' H' => Gr B H B' H' ∧ Ex B2 B' ∧ ∃ vf a3 a4 a5 a6 a7 a8 a9, σ' = [some v0, some v1, some vf, a3, a4, a5, a6, a7, a8, a9] ∧ (rtP K (pvl (fOf zs) (p.take j))).P vf B') (fun j σ' B' H' h => h.1.c) ⟨g2, Ex.refl B2, v2, none, none, none, none, none, none, none, rfl, h2⟩ (i := 0) rfl ((poP K (toPo p)).m g2.b h0) (fun i z v' σ' B' H' hi e' hs pv F hF => ?_) fun σ' B' H' e' hs => ?_
  · obtain ⟨g, e2, vf, a3, a4, a5, a6, a7, a8, a9, rfl, hf⟩ := hs
    obtain ⟨t, ht, rfl⟩ := po_at hi
    obtain ⟨w0, y1, y2, rfl, hq, n1, n2⟩ := tup2 pv g.c
    obtain ⟨w1, z1, z2, rfl, hq1, m1, m2⟩ := tup2 n2 g.c
    obtain rfl : z1 = _ := m1
    obtain rfl : z2 = _ := m2
    refine ⟨w0, _, rfl, hq, rfl, _, _, rfl, _, _, rfl, w1, _, rfl, hq1, rfl, _, _, rfl, _, _, rfl, rfl, rfl, ?_⟩
    have htm := List.mem_of_getElem? ht
    have hmo := hp.c.m t htm
    have hd3 := hp.dg t htm
    have q0 := qw_parts (qw_co hp htm)
    have fp0 := fr_pos t.2
    have z0 : mvl (fOf zs) t.2 (t.1.take 0) = t.2 := by rw [List.take_zero]; rfl
    have d0 : dg (t.1.take 0) = 0 := by rw [List.take_zero]; rfl
    refine ps_forX (fun j σ' B3 H3 => Gr B' H' B3 H3 ∧ ∃ (a b : Int) (a6 a7 a8 a9 : Option V), σ' = [some v0, some v1, some vf, some y1, some (.int a), some (.int b), a6, a7, a8, a9] ∧ 0 < b ∧ Rat.divInt a b = mvl (fOf zs) t.2 (t.1.take j) ∧ a.natAbs ≤ 120 ^ (1 + dg (t.1.take j)) ∧ b.natAbs ≤ 6 ^ (1 + dg (t.1.take j))) (fun j σ' B' H' h => h.1.c) ⟨Gr.refl g.c, (fr t.2).1, (fr t.2).2, _, _, _, _, rfl, fp0, by rw [z0, fr_val], by rw [d0]; omega, by rw [d0]; omega⟩ (i := 3) rfl n1 (fun j z v' σ' B3 H3 hj e3 hs pv F2 hF2 => ?_) fun σ' B3 H3 e3 hs => ?_
    · obtain ⟨g3, a, b, a6, a7, a8, a9, rfl, hb, hab, ha1, hb1⟩ := hs
      obtain ⟨y, hy, rfl⟩ := mo_ix hj
      obtain ⟨w2, x1, x2, rfl, hq2, r1, r2⟩ := tup2 pv g3.c
      obtain rfl : x2 = _ := r2
      refine ⟨w2, _, rfl, hq2, rfl, _, _, rfl, _, _, rfl, rfl, ?_⟩
      have hym := List.mem_of_getElem? hy
      have hyp := hmo.p y hym
      have dsn : dg (t.1.take (j + 1)) = dg (t.1.take j) + y.2.natAbs := by
        rw [take_snoc hy, dg_app, dg_cons]
        rfl
      have dle := dg_take t.1 (j + 1)
      have get : EvP (tDGet2N P w K (tVar 1) (tVar 6) (tTup (tCons (tC (.int 0)) (tCons (tC (.int 1)) tNil)))) [some v0, some v1, some vf, some y1, some (.int a), some (.int b), some x1, some (.int y.2), a8, a9] B3 (rtP K (fOf zs y.1)) := p_get2P (ky := kyD K) (vp := rtP K) (f0 := 0) rfl ((DcP P w (kyD K) (rtP K) zs).m (g2.b.trans (e2.trans g3.b)) h1) (p_var rfl r1) (p_tup (K := K) (ps := [IsV (.int 0), IsV (.int 1)]) (q_cons p_c (q_cons p_c q_nil)) (by show 2 ≤ 100000; decide))
      refine My.ps_asg g3.c get fun v8 B4 H4 g4 h8 => ?_
      dsimp only
      refine ps_forS g4.c (src_rng (j := y.2.toNat) (q_cons (p_var (p := IsV (.int (y.2.toNat : Nat))) rfl (by show V.int y.2 = _; rw [Int.toNat_of_nonneg (by omega)])) q_nil) (by omega)) fun B5 H5 g5 => ?_
      obtain ⟨o1, o2⟩ := qw_parts (qw_f hz y.1)
      have op := fr_pos (fOf zs y.1)
      refine ⟨fun i σ H6 => ∃ B6, Gr B5 H5 B6 H6 ∧ ∃ (a b : Int) (a9 : Option V), σ = [some v0, some v1, some vf, some y1, some (.int a), some (.int b), some x1, some (.int y.2), some v8, a9] ∧ 0 < b ∧ Rat.divInt a b = mvl (fOf zs) t.2 (t.1.take j) * rp (fOf zs y.1) i ∧ a.natAbs ≤ 120 ^ (1 + dg (t.1.take j) + i) ∧ b.natAbs ≤ 6 ^ (1 + dg (t.1.take j) + i), ⟨B5, Gr.refl g5.c, a, b, a9, rfl, hb, by rw [hab]; exact (Rat.mul_one _).symm, ha1, hb1⟩, fun i σ H4 _ h => ?_, fun i v σ H6 hi pv px => ?_, fun σ H6 pv => ?_⟩
      · obtain ⟨B6, g6, _⟩ := h
        exact g6.b.trans g6.c
      · obtain ⟨B6, g6, a, b, a9, rfl, hb, hab, ha1, hb1⟩ := pv
        have h8' := (rtP K (fOf zs y.1)).m (g5.b.trans g6.b) h8
        have la : a.natAbs < 2 ^ 1000 := Nat.lt_of_le_of_lt ha1 (p120 (by omega))
        have lb : b.natAbs < 2 ^ 1000 := Nat.lt_of_le_of_lt hb1 (p6 (by omega))
        have l1 : (fr (fOf zs y.1)).1.natAbs < 2 ^ 1000 := Nat.lt_of_le_of_lt o1 (p120 (k := 1) (by decide))
        have l2 : (fr (fOf zs y.1)).2.natAbs < 2 ^ 1000 := Nat.lt_of_le_of_lt o2 (p6 (k := 1) (by decide))
        dsimp only [gName, List.set_cons_succ, List.set_cons_zero]
        refine (q_cons (p_ev (ev_mulW (k := 1000) (ev_var (i := 4) (σ := [some v0, some v1, some vf, some y1, some (.int a), some (.int b), some x1, some (.int y.2), some v8, some v]) rfl) (ev_top (K := K) (p_var (i := 8) rfl h8')) (lg la) (lg l1))) (q_cons (p_ev (ev_mulW (k := 1000) (ev_var (i := 5) rfl) (ev_bot (K := K) (p_var (i := 8) rfl h8')) (lg lb) (lg l2))) q_nil)) H6 g6.c _ fun vs B7 H7 g7 al => ?_
        obtain ⟨u1, u2, rfl, k1, k2⟩ := all2 al
        obtain rfl : u1 = _ := k1
        obtain rfl : u2 = _ := k2
        refine ⟨_, _, rfl, B7, g6.trans g7, a * (fr (fOf zs y.1)).1, b * (fr (fOf zs y.1)).2, _, rfl, Int.mul_pos hb op, ?_, ?_, ?_⟩
        · rw [divInt_step hab, Rat.mul_assoc]
          rfl
        · rw [Int.natAbs_mul, ← Nat.add_assoc, Nat.pow_succ]
          exact Nat.mul_le_mul ha1 o1
        · rw [Int.natAbs_mul, ← Nat.add_assoc, Nat.pow_succ]
          exact Nat.mul_le_mul hb1 o2
      · obtain ⟨B6, g6, a, b, a9, rfl, hb, hab, ha1, hb1⟩ := pv
        refine hF2 _ B6 H6 (g4.b.trans (g5.b.trans g6.b)) ⟨g3.trans (g4.trans (g5.trans g6)), a, b, _, _, _, _, rfl, hb, ?_, ?_, ?_⟩
        · rw [hab, take_snoc hy, mvl_snoc]
        · rw [dsn, show 1 + (dg (t.1.take j) + y.2.natAbs) = 1 + dg (t.1.take j) + y.2.toNat by omega]
          exact ha1
        · rw [dsn, show 1 + (dg (t.1.take j) + y.2.natAbs) = 1 + dg (t.1.take j) + y.2.toNat by omega]
          exact hb1
    · obtain ⟨g3, a, b, a6, a7, a8, a9, rfl, hb, hab, ha1, hb1⟩ := hs
      rw [List.length_map, List.take_length] at hab ha1 hb1
      have hf3 := (rtP K (pvl (fOf zs) (p.take i))).m g3.b hf
      obtain ⟨s1, s2⟩ := wh_sum hz hp i
      obtain ⟨c1, c2⟩ := ab_small (show 0 < 6 ^ 4 by decide) s1
      have fpos := fr_pos (pvl (fOf zs) (p.take i))
      have l1 : (fr (pvl (fOf zs) (p.take i))).1.natAbs < 2 ^ 1000 := Nat.lt_of_le_of_lt (Nat.le_trans c1 s2) (by decide +kernel)
      have l2 : (fr (pvl (fOf zs) (p.take i))).2.natAbs < 2 ^ 1000 := Nat.lt_of_le_of_lt c2 (p6 (by decide))
      have la : a.natAbs < 2 ^ 1000 := Nat.lt_of_le_of_lt ha1 (p120 (by omega))
      have lb : b.natAbs < 2 ^ 1000 := Nat.lt_of_le_of_lt hb1 (p6 (by omega))
      dsimp only
      have hne : (fr (pvl (fOf zs) (p.take i))).2 * b ≠ 0 := Int.mul_ne_zero (by omega) (by omega)
      refine My.ps_asg g3.c (p_callP (R := Rlow2 K) (ps := [IsV (.int ((fr (pvl (fOf zs) (p.take i))).1 * b + a * (fr (pvl (fOf zs) (p.take i))).2)), IsV (.int ((fr (pvl (fOf zs) (p.take i))).2 * b))]) (p := rtP K (pvl (fOf zs) (p.take (i + 1)))) (q_cons (p_ev (ev_addI (ev_mulW (k := 1000) (ev_top (K := K) (p_var (i := 2) rfl hf3)) (ev_var (i := 5) rfl) (lg l1) (lg lb)) (ev_mulW (k := 1000) (ev_var (i := 4) rfl) (ev_bot (K := K) (p_var (i := 2) rfl hf3)) (lg la) (lg l2)))) (q_cons (p_ev (ev_mulW (k := 1000) (ev_bot (K := K) (p_var (i := 2) rfl hf3)) (ev_var (i := 5) rfl) (lg l2) (lg lb))) q_nil)) ⟨_, _, hne, ?_, rfl, ?_⟩) fun v' B4 H4 g4 hv' => ?_
      · exact Nat.lt_of_lt_of_le (mul_lg l2 lb) (Nat.pow_le_pow_right (by decide) (by decide))
      · rw [take_snoc ht, pvl_snoc, ← hab, ← Rat.divInt_add_divInt _ _ (by omega) (by omega), fr_val]
      · exact hF _ B4 H4 (g3.b.trans g4.b) ⟨g.trans (g3.trans g4), e2.trans (g3.b.trans g4.b), v', _, _, _, _, _, _, _, rfl, hv'⟩
  · obtain ⟨g, e2, vf, a3, a4, a5, a6, a7, a8, a9, rfl, hf⟩ := hs
    rw [po_len, List.take_length] at hf
    dsimp only
    exact My.ps_ret g.c (p_var rfl hf) fun v B6 H6 g6 hp => k v B6 H6 (g.trans g6) hp

end
end K12
namespace Nd
set_option autoImplicit false
open PySem PySem.W L2 My Evl
theorem show_bl (b : Bool) : (PyData.bool b).showable = true ∧ (PyData.bool b).depth ≤ 60 ∧ (PyData.bool b).shown.length ≤ 1000000 := by
  cases b <;> exact ⟨by simp [PyData.showable], by simp [PyData.depth], by simp [PyData.shown]; decide +kernel⟩
theorem ev_repB {K : PySem.W.Frag} {te : TE} {σ : L2.St} {B : Hp} {b : Bool} (h : Ev te σ B (.bl b)) : Ev (tCB (Gd.rRepr K) (tCons te tNil)) σ B (.str (PyData.bool b).shown) := Gd.ev_repr (d := .bool b) (ed_bl h) (show_bl b).1 (show_bl b).2.1 (show_bl b).2.2
section
variable {te ta tb : TE} {σ : L2.St} {B : Hp} {K : PySem.W.Frag} {ps : List Pr}
/-- list(t) of a tuple -/
theorem p_listT (h : EvP te σ B (TuP K ps)) : EvP (tCB (fun xs H Q => ∃ p ys, xs = [.ref p] ∧ (SqL K H p ys ∨ SqT K H p ys) ∧ ∀ l, H l = none → Q (.ref l) (upd H l (.lst ys))) (tCons te tNil)) σ B (LsP ps) := fun H1 e Q k =>
  h H1 e _ fun v B2 H2 g b => by
    obtain ⟨p, xs, rfl, hx, al⟩ := b
    exact ⟨p, xs, rfl, .inr (ex_t g.c hx), fun l hl => k _ _ _ (g.trans (Gr.new _ g.c hl)) ⟨l, xs, rfl, upd_same, al.m (Ex.new (fresh_back g.c hl))⟩⟩
theorem maxI_fold : ∀ (xs : List Int) (m : Int), maxI m xs = xs.foldl max m
  | [], _ => rfl
  | y :: xs, m => by
    show maxI (if m ≤ y then y else m) xs = xs.foldl max (max m y)
    rw [maxI_fold xs, Int.max_def]
theorem fold_ge : ∀ (xs : List Int) (m : Int), m ≤ xs.foldl max m
  | [], _ => Int.le_refl _
  | y :: xs, m => Int.le_trans (Int.le_max_left m y) (fold_ge xs (max m y))
/-- max(ns + [0]) -/
theorem ev_max0 {ns : List Int} (h : EvP te σ B (LsP ((ns ++ [0]).map fun n => IsV (.int n)))) (h0 : ∀ n ∈ ns, 0 ≤ n) : Ev (tCB (rMax K) (tCons te tNil)) σ B (.int (maxL 0 ns)) := by
  have h2 : EvP te σ B (IsD K (.list ((ns ++ [0]).map .int))) := p_to h (to_lst (toAll_map _ fun n => to_int))
  cases ns with
  | nil => exact ev_max (x := 0) (xs := []) h2
  | cons n ns =>
    have := ev_max (x := n) (xs := ns ++ [0]) h2
    rw [maxI_fold, List.foldl_append] at this
    have e : (ns ++ [0]).foldl max n = maxL 0 (n :: ns) := by
      rw [List.foldl_append]
      show max (ns.foldl max n) 0 = ns.foldl max n
      have h1 := fold_ge ns n
      have h3 := h0 n List.mem_cons_self
      omega
    rw [List.foldl_append] at e
    rw [e] at this
    exact this
/-! ### data that may be compared -/
theorem sh_of {d : PyData} (h : d.canLay0 = true) (k : d.depth ≤ 60) : SeqAt.shaped d = true := by
  unfold SeqAt.shaped
  rw [Bool.and_eq_true]
  exact ⟨h, _root_.decide_eq_true (by omega)⟩
theorem can_sh {d : PyData} (h : SeqAt.shaped d = true) : d.canLay0 = true := (Bool.and_eq_true_iff.mp h).1
theorem can_all {α : Type} {f : α → PyData} : ∀ {l : List α}, (∀ x ∈ l, (f x).canLay0 = true) → PyData.canLayAll0 (l.map f) = true
  | [], _ => rfl
  | x :: l, h => by
    rw [List.map_cons, PyData.canLayAll0, h x List.mem_cons_self, can_all fun y hy => h y (List.mem_cons_of_mem _ hy)]
    rfl
theorem can_pw {y : Dv × Int} (h : SeqAt.shaped y.1.D = true) : (pwD y).canLay0 = true := by
  have h3 := can_sh h
  simp [PyData.canLayAll0, pwD, PyData.canLay0, h3]
theorem can_tm {t : Mo × Rat} (h : ∀ y ∈ t.1, SeqAt.shaped y.1.D = true) : (tmD (tq t)).canLay0 = true := by
  have h3 := can_sh (sh_moR h)
  show PyData.canLay0 (.tuple [moD t.1, .tuple [.int (fr t.2).1, .int (fr t.2).2]]) = true
  simp [PyData.canLayAll0, PyData.canLay0, h3]
theorem sh_poR {p : Pq} (h : ShP p) : SeqAt.shaped (poD (toPo p)) = true := by
  refine sh_of ?_ ?_
  · unfold poD toPo
    rw [List.map_map, PyData.canLay0]
    exact can_all (f := tmD ∘ tq) fun t ht => can_tm (h t ht)
  · unfold poD
    rw [PyData.depth]
    have := deep_map (f := tmD) (n := 5) deep_tm (toPo p)
    omega
theorem sh_frR (r : Rat) : SeqAt.shaped (frD (fr r)) = true := sh_of (by simp [frD, PyData.canLay0, PyData.canLayAll0]) (by simp [frD, PyData.depth, PyData.depthAll])
theorem sh_strT {xs : List Str} (h : ∀ x ∈ xs, (PyData.str x).canLay0 = true) : SeqAt.shaped (.tuple (xs.map PyData.str)) = true := by
  refine sh_of ?_ ?_
  · rw [PyData.canLay0]
    exact can_all h
  · rw [PyData.depth]
    have := deep_map (f := PyData.str) (n := 0) (fun x => by simp [PyData.depth]) xs
    omega
/-! ### the number in a polynomial -/
theorem lt_mo0 (m : Mo) : Od.lt m ([] : Mo) = false := by
  cases m with
  | nil => exact Od.irr _
  | cons y m => rfl
theorem plain_num {p : Pq} (h : PoC p) : ((p.filter fun t => decide (t.1 = [])).map (·.2) ++ [0])[0]? = some (numP p) := by
  cases p with
  | nil => rfl
  | cons t p =>
    have hup := List.pairwise_cons.mp h.c.up
    have none_ : p.filter (fun t => decide (t.1 = [])) = [] := by
      rw [List.filter_eq_nil_iff]
      intro s hs
      have := hup.1 s hs
      intro e
      rw [of_decide_eq_true e, lt_mo0] at this
      cases this
    rw [List.filter_cons, none_]
    by_cases e : t.1 = []
    · rw [if_pos (by simp [e])]
      show some t.2 = some (if t.1 = [] then t.2 else 0)
      rw [if_pos e]
    · rw [if_neg (by simp [e])]
      show some 0 = some (if t.1 = [] then t.2 else 0)
      rw [if_neg e]
theorem degM_nn {m : Mo} (h : MoC m) : 0 ≤ degM m := by
  have : ∀ l : List Int, (∀ x ∈ l, 0 < x) → 0 ≤ l.sum := by
    intro l
    induction l with
    | nil => exact fun _ => Int.le_refl _
    | cons x l ih =>
      intro h
      have h1 := h x List.mem_cons_self
      have h2 := ih fun y hy => h y (List.mem_cons_of_mem _ hy)
      rw [List.sum_cons]
      omega
  exact this _ fun x hx => by
    obtain ⟨y, hy, rfl⟩ := List.mem_map.mp hx
    exact h.p y hy
def prs (p : Pq) : List (Dv × Int) := p.flatMap (·.1)
theorem prs_dvs (p : Pq) : (prs p).map (·.1) = dvs (toPo p) := by
  unfold prs dvs toPo
  rw [List.map_flatMap, List.flatMap_map]
  rfl
theorem prs_emp : ∀ p : Pq, (p.all fun t => decide (t.1 = [])) = (prs p).isEmpty
  | [] => rfl
  | t :: p => by
    have ih := prs_emp p
    unfold prs at *
    rw [List.all_cons, ih, List.flatMap_cons]
    cases t.1 <;> simp
def Rtold (K : PySem.W.Frag) : List Pr → Pr → Prop := fun ps z => ∃ p : Pq, PoC p ∧ ShP p ∧ (∀ t ∈ p, ∀ y ∈ t.1, 0 ≤ y.1.i + y.1.j) ∧ (dvs (toPo p)).length ≤ 60 ∧ p.length ≤ 1000 ∧ ps = [poP K (toPo p)] ∧ z = IsV (.bl true)
theorem le_sum : ∀ {l : List Nat} {n : Nat}, n ∈ l → n ≤ l.sum
  | m :: l, n, h => by
    rw [List.sum_cons]
    rcases List.mem_cons.mp h with rfl | h
    · omega
    · have := le_sum h
      omega
theorem can_nm {u : Dv} (h : u.D.canLay0 = true) : (PyData.str u.n).canLay0 = true := by
  unfold Dv.D at h
  simp [PyData.canLay0, PyData.canLayAll0] at h
  rw [PyData.canLay0]
  exact h
theorem nam_can {us : List Dv} (h : ∀ u ∈ us, u.D.canLay0 = true) : ∀ x ∈ namS us, (PyData.str x).canLay0 = true := fun x hx => by
  have := (List.mergeSort_perm _ _).mem_iff.mp hx
  obtain ⟨u, hu, rfl⟩ := List.mem_map.mp (dedS_mem.mp this)
  exact can_nm (h u hu)
theorem len_prs {p : Pq} {t : Mo × Rat} (h : t ∈ p) : t.1.length ≤ (prs p).length := by
  unfold prs
  rw [List.length_flatMap]
  exact le_sum (List.mem_map.mpr ⟨t, h, rfl⟩)
end
end Nd
namespace K12
set_option autoImplicit false
open PySem PySem.W L2 Evl My Nd LamX NdefX
section
variable {P : Program} {w : World} {K : PySem.W.Frag} {mg : Str → Option Value} {base : Heap} {T : List (Addr × Str)}

/-- _law_told_right -/
abbrev s_Ltold_right : Stmt := topS 46
abbrev N_Ltold_right : List Str := ["_law_one", "_law_pairs", "_law_monomial_here", "_law_number_here", "_law_spots", "_law_spot", "_law_wide", "_law_plain", "_law_degrees", "_law_orders"]
theorem sc_Ltold_right : FnScope N_Ltold_right ["_law_one"] (defScope s_Ltold_right) := ⟨rfl, rfl, rfl, by decide +kernel, rfl, by decide +kernel, by decide +kernel⟩
theorem ok_Ltold_right {f : Addr} {fd : FuncData} (F : Fun K "_law_told_right" "_law_told_right" s_Ltold_right f fd)  {f_is_number : Addr} {d_is_number : FuncData} (c_is_number : Cal P w K mg base "is_number" 1 ["one"] (spP (Risn K)) f_is_number d_is_number) {f_number_in : Addr} {d_number_in : FuncData} (c_number_in : Cal P w K mg base "number_in" 1 ["one"] (spP (Rnin K)) f_number_in d_number_in) {f_degree_of : Addr} {d_degree_of : FuncData} (c_degree_of : Cal P w K mg base "degree_of" 2 ["one"] (spP (Rdeg K)) f_degree_of d_degree_of) {f_order_of : Addr} {d_order_of : FuncData} (c_order_of : Cal P w K mg base "order_of" 2 ["one"] (spP (Rord K)) f_order_of d_order_of) {f_derivatives_in : Addr} {d_derivatives_in : FuncData} (c_derivatives_in : Cal P w K mg base "derivatives_in" 1 ["one"] (spP (Rdin K)) f_derivatives_in d_derivatives_in) {f_names_in : Addr} {d_names_in : FuncData} (c_names_in : Cal P w K mg base "names_in" 2 ["one"] (spP (Rnmi K)) f_names_in d_names_in) (n_repr : mg "repr" = none) (n_list : mg "list" = none) (n_set : mg "set" = none) (n_sorted : mg "sorted" = none) (n_sum : mg "sum" = none) (n_max : mg "max" = none) (n_tuple : mg "tuple" = none)  :
    Gd.FnG P w K mg base 3 f fd ["_law_one"] (spP (Rtold K)) := by
  refine Gd.okG F sc_Ltold_right (spP_len (by rintro _ _ ⟨_, _, _, _, _, _, rfl, rfl⟩; rfl)) (fun cdv A outer s H vs Q E hr hG h => ?_)
  obtain ⟨B, ps, p, eB, hv, ⟨p, hp, sh, hij, hn, hl, rfl, rfl⟩, q⟩ := h
  obtain ⟨v0, rfl, h0⟩ := all1 hv
  have hu := hu_of hr
  refine ⟨_, (pss_cons (ps_set (i := 1) sc_Ltold_right.nd rfl (by first | exact .inl rfl | exact .inr rfl) (pe_lst pa_nil))
    (pss_cons (ps_for PassesOwn.never rfl (pi_tup (pv 0)) (pg_tup (by rfl) (pgs_cons (pg_name (i := 2) sc_Ltold_right.nd rfl (by first | exact .inl rfl | exact .inr rfl)) (pgs_cons (pg_name (i := 3) sc_Ltold_right.nd rfl (by first | exact .inl rfl | exact .inr rfl)) pgs_nil)))
      (pss_one (ps_set (i := 1) sc_Ltold_right.nd rfl (by first | exact .inl rfl | exact .inr rfl) (pe_op op_cat (pv 1) (pe_callTy call_list_of (by rfl) n_list (by decide +kernel) (pa_cons (pv 2) pa_nil))))))
    (pss_cons (ps_set (i := 4) sc_Ltold_right.nd rfl (by first | exact .inl rfl | exact .inr rfl) (pe_callB (cr_sortSN hr) (by rfl) n_sorted (by decide +kernel) (pa_cons (pe_callTy (cr_setN hr) (by rfl) n_set (by decide +kernel) (pa_cons (pe_lc (own := [("_law_spot", 5), ("_law_wide", 6)]) (g := (gTup K 2 (gCons (gName 5) (gCons (gName 6) gNil)))) rfl sc_Ltold_right.nd (pi_list (pv 1)) (blkOk_by (N := N_Ltold_right) (sc := defScope s_Ltold_right) (by decide +kernel)) (fun _ _ _ _ _ => (pg_tup (by rfl) (pgs_cons (pg_name (i := 5) sc_Ltold_right.nd rfl (Or.inl rfl)) (pgs_cons (pg_name (i := 6) sc_Ltold_right.nd rfl (Or.inl rfl)) pgs_nil)))) (fun _ _ _ _ _ => pts_nil) (fun _ _ _ _ _ => (pv 5))) pa_nil)) pa_nil)))
    (pss_cons (ps_setLc (i := 7) (own := [("_law_monomial_here", 2), ("_law_number_here", 3)]) (g := (gTup K 2 (gCons (gName 2) (gCons (gName 3) gNil)))) rfl sc_Ltold_right.nd rfl rfl (sw_true rfl rfl rfl (by decide +kernel)) (pi_tup (pv 0)) (blkOk_by (N := N_Ltold_right) (sc := defScope s_Ltold_right) (by decide +kernel)) (fun _ _ _ _ _ => (pg_tup (by rfl) (pgs_cons (pg_name (i := 2) sc_Ltold_right.nd rfl (Or.inl rfl)) (pgs_cons (pg_name (i := 3) sc_Ltold_right.nd rfl (Or.inl rfl)) pgs_nil)))) (fun _ _ _ _ _ => (pts_one (pt_cmpR (show OpR _ (compareOp .Eq) (rEqD K) from op_eqD hr.units) (pv 2) (pe_tup pa_nil) (nomark _)))) (fun _ _ _ _ _ => (pv 3)))
    (pss_cons (ps_if (PW.pt (pw_or (pt_cmpR op_ne (pe_callB (Gd.call_reprG hG hr.units) (by rfl) n_repr (by decide +kernel) (pa_cons (pe_call c_is_number.G (hr.mono (by decide)) (by rfl) c_is_number.m c_is_number.k c_is_number.b .nil pass0 (pa_cons (pv 0) pa_nil)) pa_nil)) (pe_callB (Gd.call_reprG hG hr.units) (by rfl) n_repr (by decide +kernel) (pa_cons (pe_cmpR (show OpR _ (compareOp .Eq) (rEqD K) from op_eqD hr.units) (pv 1) (pe_lst pa_nil) (nomark _)) pa_nil)) (nomark _)) (pw_or1 (pt_cmpR (show OpR _ (compareOp .NotEq) (rNeD K) from op_neD hr.units) (pe_call c_number_in.G (hr.mono (by decide)) (by rfl) c_number_in.m c_number_in.k c_number_in.b .nil pass0 (pa_cons (pv 0) pa_nil)) (pe_ix ix_list (pe_op op_cat (pv 7) (pe_lst (pa_cons (pe_tup (pa_cons pe_int (pa_cons pe_int pa_nil))) pa_nil))) pe_int (fun _ _ => rfl)) (nomark _))))) (pss_one (ps_ret pe_bl)) pss_nil)
    (pss_cons (ps_setLc (i := 8) (te := tCB (rSum K) (tCons (tLc (iTup K (tVar 2)) (gTup K 2 (gCons (gName 5) (gCons (gName 6) gNil))) tYes (tVar 6) [5, 6]) tNil)) (own := [("_law_monomial_here", 2), ("_law_number_here", 3)]) (g := (gTup K 2 (gCons (gName 2) (gCons (gName 3) gNil)))) rfl sc_Ltold_right.nd rfl rfl (sw_true rfl rfl rfl (by decide +kernel)) (pi_tup (pv 0)) (blkOk_by (N := N_Ltold_right) (sc := defScope s_Ltold_right) (by decide +kernel)) (fun _ _ _ _ _ => (pg_tup (by rfl) (pgs_cons (pg_name (i := 2) sc_Ltold_right.nd rfl (Or.inl rfl)) (pgs_cons (pg_name (i := 3) sc_Ltold_right.nd rfl (Or.inl rfl)) pgs_nil)))) (fun _ _ _ _ _ => pts_nil) (fun _ _ _ _ _ => (pe_callB (cr_sum rfl) (by rfl) n_sum (by decide +kernel) (pa_cons (pe_lc (own := [("_law_spot", 5), ("_law_wide", 6)]) (g := (gTup K 2 (gCons (gName 5) (gCons (gName 6) gNil)))) rfl sc_Ltold_right.nd (pi_tup (pv 2)) (blkOk_by (by rfl)) (fun _ _ _ _ _ => (pg_tup (by rfl) (pgs_cons (pg_name (i := 5) sc_Ltold_right.nd rfl (Or.inl rfl)) (pgs_cons (pg_name (i := 6) sc_Ltold_right.nd rfl (Or.inl rfl)) pgs_nil)))) (fun _ _ _ _ _ => pts_nil) (fun _ _ _ _ _ => (pv 6))) pa_nil))))
    (pss_cons (ps_setLc (i := 9) (own := [("_law_spot", 5)]) rfl sc_Ltold_right.nd rfl rfl (sw_true rfl rfl rfl (by decide +kernel)) (pi_list (pv 4)) (blkOk_by (N := N_Ltold_right) (sc := defScope s_Ltold_right) (by decide +kernel)) (fun _ _ _ _ _ => (pg_name (i := 5) sc_Ltold_right.nd rfl (Or.inl rfl))) (fun _ _ _ _ _ => pts_nil) (fun _ _ _ _ _ => (pe_op op_add (pe_ix (show IxR _ (rIxT K) from ix_tup) (pv 5) pe_int (fun _ _ => rfl)) (pe_ix (show IxR _ (rIxT K) from ix_tup) (pv 5) pe_int (fun _ _ => rfl)))))
    (pss_cons (ps_if (PW.pt (pw_or (pt_cmpR op_ne (pe_call c_degree_of.G (hr.mono (by decide)) (by rfl) c_degree_of.m c_degree_of.k c_degree_of.b .nil pass0 (pa_cons (pv 0) pa_nil)) (pe_callB (cr_max rfl) (by rfl) n_max (by decide +kernel) (pa_cons (pe_op op_cat (pv 8) (pe_lst (pa_cons pe_int pa_nil))) pa_nil)) (nomark _)) (pw_or1 (pt_cmpR op_ne (pe_call c_order_of.G (hr.mono (by decide)) (by rfl) c_order_of.m c_order_of.k c_order_of.b .nil pass0 (pa_cons (pv 0) pa_nil)) (pe_callB (cr_max rfl) (by rfl) n_max (by decide +kernel) (pa_cons (pe_op op_cat (pv 9) (pe_lst (pa_cons pe_int pa_nil))) pa_nil)) (nomark _))))) (pss_one (ps_ret pe_bl)) pss_nil)
    (pss_one (ps_ret (pe_and (pe_cmpR (show OpR _ (compareOp .Eq) (rEqD K) from op_eqD hr.units) (pe_call c_derivatives_in.G (hr.mono (by decide)) (by rfl) c_derivatives_in.m c_derivatives_in.k c_derivatives_in.b .nil pass0 (pa_cons (pv 0) pa_nil)) (pe_callTy call_tuple_of (by rfl) n_tuple (by decide +kernel) (pa_cons (pv 4) pa_nil)) (nomark _)) (pe_one (pe_cmpR (show OpR _ (compareOp .Eq) (rEqD K) from op_eqD hr.units) (pe_call c_names_in.G (hr.mono (by decide)) (by rfl) c_names_in.m c_names_in.k c_names_in.b .nil pass0 (pa_cons (pv 0) pa_nil)) (pe_callTy call_tuple_of (by rfl) n_tuple (by decide +kernel) (pa_cons (pe_callB (cr_sortST hr) (by rfl) n_sorted (by decide +kernel) (pa_cons (pe_callTy (cr_setT hr) (by rfl) n_set (by decide +kernel) (pa_cons (pe_lc (own := [("_law_spot", 5)]) rfl sc_Ltold_right.nd (pi_list (pv 4)) (blkOk_by (N := N_Ltold_right) (sc := defScope s_Ltold_right) (by decide +kernel)) (fun _ _ _ _ _ => (pg_name (i := 5) sc_Ltold_right.nd rfl (Or.inl rfl))) (fun _ _ _ _ _ => pts_nil) (fun _ _ _ _ _ => (pe_ix (show IxR _ (rIxT K) from ix_tup) (pv 5) pe_int (fun _ _ => rfl)))) pa_nil)) pa_nil)) pa_nil)) (nomark _)))))))))))))), ?_⟩
  have plen : (prs p).length ≤ 60 := by
    have := congrArg List.length (prs_dvs p)
    rw [List.length_map] at this
    omega
  have hp0 : ∀ {v : V} {H1 H2 : Hp}, Ex H1 H2 → (poP K (toPo p)).P v H1 → (poP K (toPo p)).P v H2 := fun e h => (poP K (toPo p)).m e h
  refine ps_asgN (fun v => [some v0, some v, none, none, none, none, none, none, none, none]) eB (p_lst q_nil (by show 0 ≤ 100000; decide)) (fun w1 B1 H1 g1 hw1 => ?_) (fun _ => rfl)
  dsimp only
  refine ps_forX (fun j σ' B' H' => ∃ w1 a2 a3, σ' = [some v0, some w1, a2, a3, none, none, none, none, none, none] ∧ Gr B H B' H' ∧ Ex B1 B' ∧ (LsP ((prs (p.take j)).map (pwP K))).P w1 B') (fun j σ' B' H' h => by obtain ⟨_, _, _, _, g, _⟩ := h; exact g.c) ⟨w1, none, none, rfl, g1, Ex.refl _, hw1⟩ rfl (hp0 g1.b h0) (fun j z v' σ' B' H' hj e' hs pv F hF => ?_) fun σ' B' H' e' hs => ?_
  · obtain ⟨w1, a2, a3, rfl, g, e1, hw⟩ := hs
    obtain ⟨t, ht, rfl⟩ := po_at hj
    obtain ⟨w0, y1, y2, rfl, hq, n1, n2⟩ := tup2 pv g.c
    refine ⟨w0, _, rfl, hq, rfl, _, _, rfl, _, _, rfl, rfl, ?_⟩
    have sn : prs (p.take (j + 1)) = prs (p.take j) ++ t.1 := by
      rw [take_snoc ht]
      unfold prs
      rw [List.flatMap_append, List.flatMap_singleton]
    have l1 : ((prs (p.take j)) ++ t.1).length ≤ 60 := by
      rw [← sn]
      have e2 := congrArg prs (List.take_append_drop (j + 1) p)
      have e3 : prs (p.take (j + 1) ++ p.drop (j + 1)) = prs (p.take (j + 1)) ++ prs (p.drop (j + 1)) := List.flatMap_append
      rw [e3] at e2
      have := congrArg List.length e2
      rw [List.length_append] at this
      omega
    refine ps_asgN (fun v => [some v0, some v, some y1, some y2, none, none, none, none, none, none]) g.c (p_cat (p_var (i := 1) rfl hw) (p_listT (K := K) (p_var (p := moP K t.1) (i := 2) rfl n1)) (by rw [List.length_append] at l1; rw [List.length_map, List.length_map]; omega)) (fun w2 B3 H3 g3 hw2 => ?_) (fun _ => rfl)
    refine hF _ B3 H3 g3.b ⟨w2, _, _, rfl, g.trans g3, e1.trans g3.b, ?_⟩
    rw [sn, List.map_append]
    exact hw2
  obtain ⟨w1, a2, a3, rfl, g, e1, hw⟩ := hs
  rw [po_len, List.take_length] at hw
  clear e' hw1 g1
  dsimp only
  -- which derivatives
  have spots : EvP (tCB (rSortSN K w) (tCons (tCB (rSetN K w) (tCons (tLc (iList K (tVar 1)) (gTup K 2 (gCons (gName 5) (gCons (gName 6) gNil))) tYes (tVar 5) [5, 6]) tNil)) tNil)) [some v0, some w1, a2, a3, none, none, none, none, none, none] B' (LsP ((dvsIn (toPo p)).map DvP)) := by
    refine p_sortSN (us := dvs (toPo p)) (p_setN (p_lq ?_) (by have := ded_len (dvs (toPo p)); omega))
    rw [← prs_dvs, List.map_map]
    have main := p_lcSM (g := gTup K 2 (gCons (gName 5) (gCons (gName 6) gNil))) (te := tVar 5) (vs := [5, 6]) (src_lq (K := K) (p_lq (p_var (i := 1) (σ := [some v0, some w1, a2, a3, none, none, none, none, none, none]) rfl hw))) (by rw [List.length_map]; omega) (fun i => (((prs p)[i]?).map fun y => DvP y.1).getD (IsV .non)) fun i v B1 hi e pv => ?_
    · rw [List.length_map, range_all] at main
      exact main
    · rw [List.length_map] at hi
      rw [getD_map hi] at pv
      obtain ⟨a, y1, y2, rfl, hq, m1, m2⟩ := tup2 pv (Ex.refl B1)
      refine ⟨[some v0, some w1, a2, a3, none, some y1, some y2, none, none, none], rfl, fun H2 Q e q => ⟨a, _, rfl, ex_t e hq, rfl, _, _, rfl, _, _, rfl, rfl, q⟩, ?_⟩
      rw [List.getElem?_eq_getElem hi]
      exact p_var rfl m1
  refine ps_asgN (fun v => [some v0, some w1, a2, a3, some v, none, none, none, none, none]) g.c spots (fun w4 B4 H4 g4 hw4 => ?_) (fun _ => rfl)
  have h04 := hp0 (g.b.trans g4.b) h0
  have hw1 := (LsP _).m g4.b hw
  clear spots hw
  dsimp only
  -- plain numbers
  have plain : EvP (tLc (iTup K (tVar 0)) (gTup K 2 (gCons (gName 2) (gCons (gName 3) gNil))) (tTest (tOp (rEqD K) (tVar 2) (tTup tNil))) (tVar 3) [2, 3]) [some v0, some w1, a2, a3, some w4, none, none, none, none, none] B4 (LsP ((((p.filter fun t => decide (t.1 = [])).map (·.2)).map (rtP K)))) := by
    have main := p_lcS (g := gTup K 2 (gCons (gName 2) (gCons (gName 3) gNil))) (tt := tTest (tOp (rEqD K) (tVar 2) (tTup tNil))) (te := tVar 3) (vs := [2, 3]) (src_tu (p_var (i := 0) (σ := [some v0, some w1, a2, a3, some w4, none, none, none, none, none]) rfl h04)) (by rw [po_len]; omega) (fun i => ((p[i]?).map fun t => decide (t.1 = [])).getD false) (fun i => ((p[i]?).map fun t => rtP K t.2).getD (IsV .non)) fun i v B1 hi e pv => ?_
    · rw [po_len, range_pick] at main
      rw [List.map_map]
      exact main
    · rw [po_len] at hi
      rw [po_getD hi] at pv
      obtain ⟨a, y1, y2, rfl, hq, m1, m2⟩ := tup2 pv (Ex.refl B1)
      refine ⟨[some v0, some w1, some y1, some y2, some w4, none, none, none, none, none], rfl, fun H2 Q e q => ⟨a, _, rfl, ex_t e hq, rfl, _, _, rfl, _, _, rfl, rfl, q⟩, ?_, fun _ => ?_⟩
      · rw [List.getElem?_eq_getElem hi]
        exact et_test (ev_eqM (p_var rfl m1) p_mo0 (sh _ (List.getElem_mem hi)) (fun y hy => absurd hy List.not_mem_nil))
      · rw [List.getElem?_eq_getElem hi]
        exact p_var rfl m2
  refine ps_asgN (fun v => [some v0, some w1, a2, a3, some w4, none, none, some v, none, none]) g4.c plain (fun w7 B5 H5 g5 hw7 => ?_) (fun _ => rfl)
  have h05 := hp0 g5.b h04
  have hw15 := (LsP _).m g5.b hw1
  have hw45 := (LsP _).m g5.b hw4
  clear plain hw1 hw4 h04
  dsimp only
  have isn : Ev (tCall (spP (Risn K)) [] E0 (tCons (tVar 0) tNil)) [some v0, some w1, a2, a3, some w4, none, none, some w7, none, none] B5 (.bl (prs p).isEmpty) := by
    rw [← prs_emp]
    exact ev_p (p_callP (R := Risn K) (ps := [poP K (toPo p)]) (q_cons (p_var rfl h05) q_nil) ⟨p, sh, by omega, rfl, rfl⟩)
  have emp : Ev (tOp (rEqD K) (tVar 1) (tLst tNil)) [some v0, some w1, a2, a3, some w4, none, none, some w7, none, none] B5 (.bl (prs p).isEmpty) := by
    have := ev_eqD (K := K) (ta := tVar 1) (tb := tLst tNil) (d := .list ((prs p).map pwD)) (e := .list []) (p_to (p_var (i := 1) (σ := [some v0, some w1, a2, a3, some w4, none, none, some w7, none, none]) rfl hw15) (to_lst (toAll_map _ fun y => to_pw y))) (ed_lst (K := K) q_nil (by show 0 ≤ 100000; decide)) (sh_of ?_ ?_) (by decide +kernel)
    · rw [eqv_nil] at this
      exact ev_is this (by rw [List.isEmpty_map])
    · rw [PyData.canLay0]
      exact can_all fun y hy => by
        obtain ⟨t, ht, hy⟩ := List.mem_flatMap.mp hy
        exact can_pw (sh t ht y hy)
    · rw [PyData.depth]
      have := deep_map (f := pwD) (n := 2) (fun x => Nat.le_of_eq (deep_pw x)) (prs p)
      omega
  have nin : EvP (tCall (spP (Rnin K)) [] E0 (tCons (tVar 0) tNil)) [some v0, some w1, a2, a3, some w4, none, none, some w7, none, none] B5 (rtP K (numP p)) := p_callP (R := Rnin K) (ps := [poP K (toPo p)]) (q_cons (p_var rfl h05) q_nil) ⟨p, sh, rfl, rfl⟩
  have fst : EvP (tOp (rIxL K) (tOp rCat (tVar 7) (tLst (tCons (tTup (tCons (tC (.int 0)) (tCons (tC (.int 1)) tNil))) tNil))) (tC (.int 0))) [some v0, some w1, a2, a3, some w4, none, none, some w7, none, none] B5 (rtP K (numP p)) := by
    refine p_ix (K := K) (p_lq (p_cat (qs := [rtP K 0]) (p_var (i := 7) rfl hw7) (p_lst (q_cons (p_tup (K := K) (ps := [IsV (.int 0), IsV (.int 1)]) (q_cons p_c (q_cons p_c q_nil)) (by show 2 ≤ 100000; decide)) q_nil) (by show 1 ≤ 100000; decide)) (by
      rw [List.length_map, List.length_map]
      have := List.length_filter_le (fun t : Mo × Rat => decide (t.1 = [])) p
      show _ + 1 ≤ _
      omega))) p_c (atI_nat (j := 0) ?_)
    have := congrArg (Option.map (rtP K)) (plain_num hp)
    rw [← List.getElem?_map, List.map_append] at this
    exact this
  refine ps_ifN g5.c (et_is (et_or (a := false) (b := false) (et_is (et_test (ev_op (ev_repB isn) (ev_repB emp) (rv_ne rfl))) (by simp)) fun _ => et_ne (d := frD (fr (numP p))) (p_to nin (to_fr _)) (p_to fst (to_fr _)) (sh_frR _)) rfl) fun H6 e6 => ?_
  have g6 := g5.trans (Gr.wide g5.c e6)
  clear isn emp nin fst
  dsimp only
  -- degrees
  have degs : EvP (tLc (iTup K (tVar 0)) (gTup K 2 (gCons (gName 2) (gCons (gName 3) gNil))) tYes (tCB (rSum K) (tCons (tLc (iTup K (tVar 2)) (gTup K 2 (gCons (gName 5) (gCons (gName 6) gNil))) tYes (tVar 6) [5, 6]) tNil)) [2, 3]) [some v0, some w1, a2, a3, some w4, none, none, some w7, none, none] B5 (LsP ((p.map fun t => degM t.1).map fun n => IsV (.int n))) := by
    have main := p_lcSM (g := gTup K 2 (gCons (gName 2) (gCons (gName 3) gNil))) (te := tCB (rSum K) (tCons (tLc (iTup K (tVar 2)) (gTup K 2 (gCons (gName 5) (gCons (gName 6) gNil))) tYes (tVar 6) [5, 6]) tNil)) (vs := [2, 3]) (src_tu (p_var (i := 0) (σ := [some v0, some w1, a2, a3, some w4, none, none, some w7, none, none]) rfl h05)) (by rw [po_len]; omega) (fun i => ((p[i]?).map fun t => IsV (.int (degM t.1))).getD (IsV .non)) fun i v B1 hi e pv => ?_
    · rw [po_len, range_all] at main
      rw [List.map_map]
      exact main
    · rw [po_len] at hi
      rw [po_getD hi] at pv
      obtain ⟨a, y1, y2, rfl, hq, m1, m2⟩ := tup2 pv (Ex.refl B1)
      refine ⟨[some v0, some w1, some y1, some y2, some w4, none, none, some w7, none, none], rfl, fun H2 Q e q => ⟨a, _, rfl, ex_t e hq, rfl, _, _, rfl, _, _, rfl, rfl, q⟩, ?_⟩
      have hm := len_prs (List.getElem_mem hi)
      rw [List.getElem?_eq_getElem hi]
      refine p_ev (ev_sumP (K := K) (ns := p[i].1.map (·.2)) ?_)
      rw [List.map_map]
      have main := p_lcSM (g := gTup K 2 (gCons (gName 5) (gCons (gName 6) gNil))) (te := tVar 6) (vs := [5, 6]) (src_tu (p_var (p := moP K p[i].1) (i := 2) (σ := [some v0, some w1, some y1, some y2, some w4, none, none, some w7, none, none]) rfl m1)) (by rw [List.length_map]; omega) (fun k => ((p[i].1[k]?).map fun y => IsV (.int y.2)).getD (IsV .non)) fun k v B1 hk e pv => ?_
      · rw [List.length_map, range_all] at main
        exact main
      · rw [List.length_map] at hk
        rw [getD_map hk] at pv
        obtain ⟨a, x1, x2, rfl, hq, m1, m2⟩ := tup2 pv (Ex.refl B1)
        refine ⟨[some v0, some w1, some y1, some y2, some w4, some x1, some x2, some w7, none, none], rfl, fun H2 Q e q => ⟨a, _, rfl, ex_t e hq, rfl, _, _, rfl, _, _, rfl, rfl, q⟩, ?_⟩
        rw [List.getElem?_eq_getElem hk]
        exact p_var rfl m2
  refine ps_asgN (fun v => [some v0, some w1, a2, a3, some w4, none, none, some w7, some v, none]) g6.c degs (fun w8 B7 H7 g7 hw8 => ?_) (fun _ => rfl)
  have h07 := hp0 g7.b h05
  have hw47 := (LsP _).m g7.b hw45
  clear degs hw45 hw15 h05 hw7
  dsimp only
  -- orders
  have ords : EvP (tLc (iList K (tVar 4)) (gName 5) tYes (tOp (rI0 fun i j => .int (i + j)) (tOp (rIxT K) (tVar 5) (tC (.int 1))) (tOp (rIxT K) (tVar 5) (tC (.int 2)))) [5]) [some v0, some w1, a2, a3, some w4, none, none, some w7, some w8, none] B7 (LsP (((dvsIn (toPo p)).map fun u => u.i + u.j).map fun n => IsV (.int n))) := by
    have main := p_lcSM (g := gName 5) (te := tOp (rI0 fun i j => .int (i + j)) (tOp (rIxT K) (tVar 5) (tC (.int 1))) (tOp (rIxT K) (tVar 5) (tC (.int 2)))) (vs := [5]) (src_lq (K := K) (p_lq (p_var (i := 4) (σ := [some v0, some w1, a2, a3, some w4, none, none, some w7, some w8, none]) rfl hw47))) (by have := in_len (c := toPo p) (show (dvs (toPo p)).length ≤ 1000 by omega); rw [List.length_map]; omega) (fun i => (((dvsIn (toPo p))[i]?).map fun u => IsV (.int (u.i + u.j))).getD (IsV .non)) fun i v B1 hi e pv => ?_
    · rw [List.length_map, range_all] at main
      rw [List.map_map]
      exact main
    · rw [List.length_map] at hi
      rw [getD_map hi] at pv
      refine ⟨[some v0, some w1, a2, a3, some w4, some v, none, some w7, some w8, none], rfl, fun H2 Q e q => q, ?_⟩
      rw [List.getElem?_eq_getElem hi]
      exact p_ev (ev_op (ev_p (p_dvI (p_var rfl pv))) (ev_p (p_dvJ (p_var rfl pv))) rv_I0)
  refine ps_asgN (fun v => [some v0, some w1, a2, a3, some w4, none, none, some w7, some w8, some v]) g7.c ords (fun w9 B8 H8 g8 hw9 => ?_) (fun _ => rfl)
  have h08 := hp0 g8.b h07
  have hw48 := (LsP _).m g8.b hw47
  have hw88 := (LsP _).m g8.b hw8
  clear ords hw47 h07 hw8
  dsimp only
  have inl : (dvsIn (toPo p)).length ≤ 60 := by
    unfold dvsIn srtD
    rw [List.length_mergeSort]
    have := ded_len (dvs (toPo p))
    omega
  have t1 : EvT (tTest (tOp rNe (tCall (spP (Rdeg K)) [] E0 (tCons (tVar 0) tNil)) (tCB (rMax K) (tCons (tOp rCat (tVar 8) (tLst (tCons (tC (.int 0)) tNil))) tNil)))) [some v0, some w1, a2, a3, some w4, none, none, some w7, some w8, some w9] B8 false := by
    refine et_is (et_test (ev_op (ev_p (p_callP (R := Rdeg K) (ps := [poP K (toPo p)]) (q_cons (p_var rfl h08) q_nil) ⟨p, by omega, fun t ht => by have := len_prs ht; omega, rfl, rfl⟩)) (ev_max0 (K := K) (ns := p.map fun t => degM t.1) ?_ fun n hn => ?_) (rv_ne rfl))) (by simp)
    · rw [List.map_append]
      exact p_cat (qs := [IsV (.int 0)]) (p_var (i := 8) rfl hw88) (p_lst (q_cons p_c q_nil) (by show 1 ≤ 100000; decide)) (by rw [List.length_map, List.length_map]; show _ + 1 ≤ _; omega)
    · obtain ⟨t, ht, rfl⟩ := List.mem_map.mp hn
      exact degM_nn (hp.m t ht)
  have t2 : EvT (tTest (tOp rNe (tCall (spP (Rord K)) [] E0 (tCons (tVar 0) tNil)) (tCB (rMax K) (tCons (tOp rCat (tVar 9) (tLst (tCons (tC (.int 0)) tNil))) tNil)))) [some v0, some w1, a2, a3, some w4, none, none, some w7, some w8, some w9] B8 false := by
    refine et_is (et_test (ev_op (ev_p (p_callP (R := Rord K) (ps := [poP K (toPo p)]) (q_cons (p_var rfl h08) q_nil) ⟨p, by omega, rfl, rfl⟩)) (ev_max0 (K := K) (ns := (dvsIn (toPo p)).map fun u => u.i + u.j) ?_ fun n hn => ?_) (rv_ne rfl))) (by simp)
    · rw [List.map_append]
      exact p_cat (qs := [IsV (.int 0)]) (p_var (i := 9) rfl hw9) (p_lst (q_cons p_c q_nil) (by show 1 ≤ 100000; decide)) (by rw [List.length_map, List.length_map]; show _ + 1 ≤ _; omega)
    · obtain ⟨u, hu, rfl⟩ := List.mem_map.mp hn
      have := mem_in.mp hu
      rw [← prs_dvs] at this
      obtain ⟨y, hy, rfl⟩ := List.mem_map.mp this
      obtain ⟨t, ht, hy⟩ := List.mem_flatMap.mp hy
      exact hij t ht y hy
  refine ps_ifN g8.c (et_is (et_or (a := false) (b := false) t1 fun _ => t2) rfl) fun H9 e9 => ?_
  have g9 := g8.trans (Gr.wide g8.c e9)
  clear t1 t2
  dsimp only
  have dcan : ∀ u ∈ dvsIn (toPo p), u.D.canLay0 = true := fun u hu => by
    have := mem_in.mp hu
    rw [← prs_dvs] at this
    obtain ⟨y, hy, rfl⟩ := List.mem_map.mp this
    obtain ⟨t, ht, hy⟩ := List.mem_flatMap.mp hy
    exact can_sh (sh t ht y hy)
  have din : EvP (tCall (spP (Rdin K)) [] E0 (tCons (tVar 0) tNil)) [some v0, some w1, a2, a3, some w4, none, none, some w7, some w8, some w9] B8 (TuP K ((dvsIn (toPo p)).map DvP)) := p_callP (R := Rdin K) (ps := [poP K (toPo p)]) (q_cons (p_var rfl h08) q_nil) ⟨toPo p, by omega, rfl, rfl⟩
  have q1 := ev_eqD (K := K) (d := .tuple ((dvsIn (toPo p)).map Dv.D)) (p_to din (to_tup (toAll_map _ fun u => to_dv u))) (p_to (p_tupOf (K := K) (p_lq (p_var (i := 4) (σ := [some v0, some w1, a2, a3, some w4, none, none, some w7, some w8, some w9]) rfl hw48))) (to_tup (toAll_map _ fun u => to_dv u))) (sh_of (by rw [PyData.canLay0]; exact can_all dcan) (by
    rw [PyData.depth]
    have := deep_map (f := Dv.D) (n := 1) (fun x => by rw [deep_dv]; exact Nat.le_refl _) (dvsIn (toPo p))
    omega)) (sh_of (by rw [PyData.canLay0]; exact can_all dcan) (by
    rw [PyData.depth]
    have := deep_map (f := Dv.D) (n := 1) (fun x => by rw [deep_dv]; exact Nat.le_refl _) (dvsIn (toPo p))
    omega))
  rw [SeqAt.eqv_refl _ (by rw [PyData.canLay0]; exact can_all dcan)] at q1
  have nms : EvP (tCB (fun xs H Q => ∃ p ys, xs = [V.ref p] ∧ ((SqL K H p ys ∧ ∀ l, H l = none → Q (.ref l) (upd H l (.tup ys))) ∨ SqT K H p ys ∧ Q (.ref p) H)) (tCons (tCB (rSortST P w) (tCons (tCB (rSetT K P w) (tCons (tLc (iList K (tVar 4)) (gName 5) tYes (tOp (rIxT K) (tVar 5) (tC (.int 0))) [5]) tNil)) tNil)) tNil)) [some v0, some w1, a2, a3, some w4, none, none, some w7, some w8, some w9] B8 (TuP K ((namS (dvsIn (toPo p))).map fun x => IsV (.str x))) := by
    refine p_tupOf (p_lq (p_sortST (xs := (dvsIn (toPo p)).map fun u => u.n) (p_setT (p_lq ?_) (by rw [List.length_map]; omega))))
    have main := p_lcSM (g := gName 5) (te := tOp (rIxT K) (tVar 5) (tC (.int 0))) (vs := [5]) (src_lq (K := K) (p_lq (p_var (i := 4) (σ := [some v0, some w1, a2, a3, some w4, none, none, some w7, some w8, some w9]) rfl hw48))) (by rw [List.length_map]; omega) (fun i => (((dvsIn (toPo p))[i]?).map fun u => IsV (.str u.n)).getD (IsV .non)) fun i v B1 hi e pv => ?_
    · rw [List.length_map, range_all] at main
      rw [List.map_map]
      exact main
    · rw [List.length_map] at hi
      rw [getD_map hi] at pv
      refine ⟨[some v0, some w1, a2, a3, some w4, some v, none, some w7, some w8, some w9], rfl, fun H2 Q e q => q, ?_⟩
      rw [List.getElem?_eq_getElem hi]
      exact p_dvN (p_var rfl pv)
  have q2 := ev_eqD (K := K) (d := .tuple ((namS (dvsIn (toPo p))).map PyData.str)) (p_to (p_callP (R := Rnmi K) (ps := [poP K (toPo p)]) (q_cons (p_var (i := 0) (σ := [some v0, some w1, a2, a3, some w4, none, none, some w7, some w8, some w9]) rfl h08) q_nil) ⟨p, by omega, rfl, rfl⟩) (to_tup (toAll_map _ fun x => to_str))) (p_to nms (to_tup (toAll_map _ fun x => to_str))) (sh_strT (nam_can dcan)) (sh_strT (nam_can dcan))
  rw [SeqAt.eqv_refl _ (can_sh (sh_strT (nam_can dcan)))] at q2
  exact My.ps_ret g9.c (p_ev (ev_is (ev_andV (a := true) (b := true) q1 fun _ => q2) rfl)) fun v B10 H10 g10 hp => q v B10 H10 ((g.trans g4).trans (g6.trans (g7.trans (g9.trans g10)))) hp

end
end K12
namespace Nd
set_option autoImplicit false
open PySem PySem.W L2 My Evl
section
variable {te ta tb : TE} {σ : L2.St} {B : Hp} {K : PySem.W.Frag} {ps qs : List Pr} {p : Pr}
theorem p_callN {R : List Pr → Pr → Prop} {t tk : TA} {n m : Nat} (h : EvPs t σ B ps) (hk : EvPs tk σ B qs) (hn : ps.length = n) (hm : qs.length = m) (hr : R (ps ++ qs) p) : EvP (tCallN n m (spP R) Gd.gKs E0 t tk) σ B p := fun H1 a Q k =>
  h H1 a _ fun vs B2 H2 g b => hk H2 (g.b.trans g.c) _ fun zs B3 H3 g3 b3 => ⟨by rw [b.len]; exact hn, by rw [b3.len]; exact hm, both B2 B3, _, p, (g.join g3).c, (b.m both_l).app (b3.m (both_r (g.c.trans g3.a) g3.c)), hr, fun v B4 H4 g4 x => k v B4 H4 ((g.join g3).trans g4) x⟩
theorem p_callV {R : List Pr → Pr → Prop} {ts : TA} {dv : V} (h : EvPs ts σ B ps) (hr : R (ps ++ [IsV dv]) p) : EvP (tCall (spP R) [dv] E0 ts) σ B p := fun H1 a Q k =>
  h H1 a _ fun vs B2 H2 g b => ⟨B2, ps ++ [IsV dv], p, g.c, b.app ⟨rfl, trivial⟩, hr, fun v B3 H3 g3 c => k v B3 H3 (g.trans g3) c⟩
theorem et_neP {p : Pq} (ha : EvP ta σ B (poP K (toPo p))) (hb : EvP tb σ B (poP K (toPo p))) (h : ShP p) : EvT (tTest (tOp (rNeD K) ta tb)) σ B false := et_ne (p_to ha (to_po _)) (p_to hb (to_po _)) (sh_poR h)
theorem ev_eqP {p : Pq} (ha : EvP ta σ B (poP K (toPo p))) (hb : EvP tb σ B (poP K (toPo p))) (h : ShP p) : Ev (tOp (rEqD K) ta tb) σ B (.bl true) :=
  ev_is (ev_eqD (p_to ha (to_po _)) (p_to hb (to_po _)) (sh_poR h) (sh_poR h)) (by rw [SeqAt.eqv_refl _ (can_sh (sh_poR h))])
theorem p_po0 : EvP (tTup tNil) σ B (poP K (toPo [])) := p_tup (K := K) q_nil (by show 0 ≤ 100000; decide)
theorem p_fr {a b : Int} {r : Rat} (e : fr r = (a, b)) (ha : Ev ta σ B (.int a)) (hb : Ev tb σ B (.int b)) : EvP (tTup (tCons ta (tCons tb tNil))) σ B (rtP K r) := by
  have := p_tup (K := K) (ps := [IsV (.int a), IsV (.int b)]) (q_cons (p_ev ha) (q_cons (p_ev hb) q_nil)) (by show 2 ≤ 100000; decide)
  unfold rtP
  rw [e]
  exact this
/-- ((m, r),) -/
theorem p_po1 {m : Mo} {r : Rat} (ha : EvP ta σ B (moP K m)) (hb : EvP tb σ B (rtP K r)) : EvP (tTup (tCons (tTup (tCons ta (tCons tb tNil))) tNil)) σ B (poP K (toPo [(m, r)])) := p_tup (K := K) (q_cons (p_tup (K := K) (ps := [moP K m, rtP K r]) (q_cons ha (q_cons hb q_nil)) (by show 2 ≤ 100000; decide)) q_nil) (by show 1 ≤ 100000; decide)
theorem p_mo1 {u : Dv} {i : Int} (ha : EvP ta σ B (DvP u)) (hb : Ev tb σ B (.int i)) : EvP (tTup (tCons (tTup (tCons ta (tCons tb tNil))) tNil)) σ B (moP K [(u, i)]) := p_tup (K := K) (q_cons (p_tup (K := K) (ps := [DvP u, IsV (.int i)]) (q_cons ha (q_cons (p_ev hb) q_nil)) (by show 2 ≤ 100000; decide)) q_nil) (by show 1 ≤ 100000; decide)
end
/-! ### the program's promises, of the law's sizes -/
theorem up4 {a : Nat} (h : a < 2 ^ 1000) : a < 2 ^ 4000 := Nat.lt_trans h (Nat.pow_lt_pow_right (by decide) (by decide))
theorem limB {D N : Nat} (h : 0 < D) (a : D < 2 ^ 1000) (b : N < 2 ^ 1000) : LimB D N := ⟨h, up4 a, up4 b⟩
theorem lt_k {a : Nat} (h : a < 2 ^ 100) : a < 2 ^ 1000 := Nat.lt_of_lt_of_le h (Nat.pow_le_pow_right (by decide) (by decide))
theorem Bd.mo {D N g l : Nat} {p : Pq} (h : Bd D N g l p) (hg : g ≤ 1000) : ∀ t ∈ p, MoC t.1 ∧ t.1.length ≤ 1000 := fun t ht => ⟨h.c.m t ht, Nat.le_trans (h.len ht) hg⟩
theorem rt_bd {K : PySem.W.Frag} {D N g l E M g' l' : Nat} {p q : Pq} (hp : Bd D N g l p) (hq : Bd E M g' l' q) (b1 : LimB D N) (b2 : LimB E M) (b3 : LimB (D * E) (N * M)) (h1 : g ≤ 1000) (h2 : g' ≤ 1000) (h3 : l * l' ≤ 90000) : Rtimes K [poP K (toPo p), poP K (toPo q)] (poP K (toPo (mulP p q))) :=
  ⟨D, E, N, M, p, q, b1, b2, b3, hp.lm, hq.lm, hp.mo h1, hq.mo h2, Nat.le_trans (Nat.mul_le_mul hp.ln hq.ln) h3, rfl, rfl⟩
theorem rlt_bd {K : PySem.W.Frag} {D N g l E M g' l' : Nat} {p q : Pq} (hp : Bd D N g l p) (hq : Bd E M g' l' q) (d : 0 < D) (e : 0 < E) (a1 : D < 2 ^ 1000) (a2 : E < 2 ^ 1000) (a3 : N < 2 ^ 1000) (a4 : M < 2 ^ 1000) (a5 : D * E < 2 ^ 1000) (a6 : N * M < 2 ^ 1000) (h1 : g ≤ 1000) (h2 : g' ≤ 1000) (h3 : l * l' ≤ 40000) (h4 : l' ≤ 40000) : Rltimes K [poP K (toPo p), poP K (toPo q)] (fpP K (mulP p q)) :=
  ⟨D, E, N, M, p, q, d, e, a1, a2, a3, a4, a5, a6, hp.lm, hq.lm, hp.mo h1, hq.mo h2, Nat.le_trans (Nat.mul_le_mul hp.ln hq.ln) h3, Nat.le_trans hq.ln h4, rfl, rfl⟩
theorem bd_one : Bd 1 1 0 1 [([], 1)] := by
  refine ⟨⟨⟨List.pairwise_singleton _ _, fun z hz => ?_⟩, fun z hz => ?_⟩, ⟨fun z hz => ?_, ?_⟩, fun z hz => ?_, Nat.le_refl _, fun z hz y hy => ?_⟩
  · rw [List.mem_singleton.mp hz]
    decide
  · rw [List.mem_singleton.mp hz]
    exact moc_nil
  · rw [List.mem_singleton.mp hz]
    exact (wh_c (c := 1)).1
  · rw [wt_cons]
    show ab 1 1 + 0 ≤ 1
    rw [(wh_c (c := 1)).2]
    exact Nat.le_refl _
  · rw [List.mem_singleton.mp hz]
    exact Nat.le_refl _
  · rw [List.mem_singleton.mp hz] at hy
    exact absurd hy List.not_mem_nil
theorem bd_num {r : Rat} (h : NumOk r) : Bd 6 30 0 1 [([], r)] := by
  refine ⟨⟨⟨List.pairwise_singleton _ _, fun z hz => ?_⟩, fun z hz => ?_⟩, ⟨fun z hz => ?_, ?_⟩, fun z hz => ?_, Nat.le_refl _, fun z hz y hy => ?_⟩
  · rw [List.mem_singleton.mp hz]
    exact h.1
  · rw [List.mem_singleton.mp hz]
    exact moc_nil
  · rw [List.mem_singleton.mp hz]
    exact h.2.1
  · rw [wt_cons]
    show ab 6 r + 0 ≤ 30
    exact h.2.2
  · rw [List.mem_singleton.mp hz]
    exact Nat.le_refl _
  · rw [List.mem_singleton.mp hz] at hy
    exact absurd hy List.not_mem_nil
theorem bd_mon {u : Dv} (hu : SeqAt.shaped u.D = true) (k : Nat) : Bd 1 1 k 1 (mon u k) := by
  refine ⟨⟨⟨List.pairwise_singleton _ _, fun z hz => ?_⟩, fun z hz => ?_⟩, ⟨fun z hz => ?_, ?_⟩, fun z hz => ?_, Nat.le_refl _, fun z hz y hy => ?_⟩
  · rw [List.mem_singleton.mp hz]
    show (1 : Rat) ≠ 0
    decide
  · rw [List.mem_singleton.mp hz]
    exact mon_moc u k
  · rw [List.mem_singleton.mp hz]
    exact (wh_c (c := 1)).1
  · rw [mon, wt_cons]
    show ab 1 1 + 0 ≤ 1
    rw [(wh_c (c := 1)).2]
    exact Nat.le_refl _
  · rw [List.mem_singleton.mp hz]
    dsimp only
    split
    · exact Nat.zero_le _
    · show dg [(u, (k : Int))] ≤ k
      rw [dg_cons]
      show (k : Int).natAbs + 0 ≤ k
      omega
  · rw [List.mem_singleton.mp hz] at hy
    dsimp only at hy
    split at hy
    · exact absurd hy List.not_mem_nil
    · rw [List.mem_singleton.mp hy]
      exact hu
theorem pw_nul {n k : Nat} (h : n < 2 ^ k) : ¬ 0 < n / 2 ^ k := by
  rw [Nat.div_eq_of_lt h]
  exact Nat.lt_irrefl 0
theorem raise_0 {K : PySem.W.Frag} (p : Pq) : Rraise K [poP K (toPo p), IsV (.int (0 : Nat))] (poP K (toPo [([], 1)])) :=
  ⟨p, 0, by decide, fun k h => absurd h (by rw [Nat.zero_div]; decide), rfl, by rw [rsF_0]⟩
theorem raise_1 {K : PySem.W.Frag} {p : Pq} (h : LB p) : Rraise K [poP K (toPo p), IsV (.int (1 : Nat))] (poP K (toPo p)) := by
  refine ⟨p, 1, by decide, fun k hk => ?_, rfl, by rw [rsF_1 h.c]⟩
  cases k with
  | zero => exact ⟨fun _ => rt_bd bd_one h (limB (by decide) (lt_k (by decide)) (lt_k (by decide))) (limB (by decide) (lt_k (by decide)) (lt_k (by decide))) (limB (by decide) (lt_k (by decide)) (lt_k (by decide))) (by decide) (by decide) (by decide), fun z => absurd z (by decide)⟩
  | succ k => exact absurd hk (pw_nul (by rw [Nat.pow_succ]; have := Nat.pow_pos (n := k) (show 0 < 2 by decide); omega))
theorem rsN_21 (p : Pq) : rsN p 2 1 = ([([], 1)], mulP p p, 1) := by simp [rsN, rsS]
theorem raise_2 {K : PySem.W.Frag} {p : Pq} (h : LB p) : Rraise K [poP K (toPo p), IsV (.int (2 : Nat))] (poP K (toPo (mulP p p))) := by
  refine ⟨p, 2, by decide, fun k hk => ?_, rfl, by rw [rsF_2 h.c]⟩
  cases k with
  | zero => exact ⟨fun z => absurd z (by decide), fun _ => rt_bd h h (limB (by decide) (lt_k (by decide)) (lt_k (by decide))) (limB (by decide) (lt_k (by decide)) (lt_k (by decide))) (limB (by decide) (lt_k (by decide)) (lt_k (by decide))) (by decide) (by decide) (by decide)⟩
  | succ k =>
    cases k with
    | zero =>
      rw [show 0 + 1 = 1 from rfl, rsN_21]
      exact ⟨fun _ => rt_bd bd_one (h.mul h) (limB (by decide) (lt_k (by decide)) (lt_k (by decide))) (limB (by decide) (lt_k (by decide)) (lt_k (by decide))) (limB (by decide) (lt_k (by decide)) (lt_k (by decide))) (by decide) (by decide) (by decide), fun z => absurd z (by decide)⟩
    | succ k => exact absurd hk (pw_nul (by rw [Nat.pow_succ, Nat.pow_succ]; have := Nat.pow_pos (n := k) (show 0 < 2 by decide); omega))
theorem raise_mon {K : PySem.W.Frag} {u : Dv} (hu : SeqAt.shaped u.D = true) {n : Nat} (hn : n ≤ 20) : Rraise K [poP K (toPo (mon u 1)), IsV (.int (n : Nat))] (poP K (toPo (mon u n))) := by
  refine ⟨mon u 1, n, by omega, fun k hk => ?_, rfl, by rw [rsF_mon]⟩
  obtain ⟨a, s, r, e, e2, b⟩ := rsN_mon u n k
  rw [e]
  have l1 : LimB 1 1 := limB (by decide) (Nat.one_lt_two_pow (by decide)) (Nat.one_lt_two_pow (by decide))
  have hs : s ≤ 1000 := by omega
  have ha : a ≤ 1000 := by omega
  exact ⟨fun _ => rt_bd (bd_mon hu a) (bd_mon hu s) l1 l1 l1 ha hs (by decide), fun _ => rt_bd (bd_mon hu s) (bd_mon hu s) l1 l1 l1 hs hs (by decide)⟩
theorem pow_k {a k : Nat} (ha : a ≤ 240) (hk : k ≤ 6) : a ^ k < 2 ^ 1000 := Nat.lt_of_le_of_lt (Nat.le_trans (Nat.pow_le_pow_left ha k) (Nat.pow_le_pow_right (by decide) hk)) (lt_k (by decide))
theorem nPw_lb {p : Pq} (h : LB p) (u : Dv) : nPw u p ≤ 4 := by
  rcases nPw_is u p with q | ⟨s, hs, q⟩
  · omega
  · have h1 := co_le_dg s.1 u
    have h2 := h.dg s hs
    omega
theorem puti_ok {K : PySem.W.Frag} {u : Dv} {p o : Pq} (hp : LB p) (ho : LB o) (hu : SeqAt.shaped u.D = true) : Rputi K [poP K (toPo p), DvP u, poP K (toPo o)] (poP K (toPo (putP u p o))) := by
  have n4 := nPw_lb hp u
  refine ⟨p, u, o, hp.c, fun t ht => ⟨Nat.le_trans (hp.dg t ht) (by decide), Nat.le_trans (hp.len ht) (by decide), hp.sh t ht⟩, hu, Nat.le_trans hp.ln (by decide), fun k hk => ?_, rfl, by rw [put_eq fun t ht => (co_bd hp ht u).1]⟩
  have b1 := hn_bd (u := u) hp ho k
  have c6 : 6 ^ (k + 1) < 2 ^ 1000 := pow_k (by decide) (by omega)
  have c240 : 240 ^ (k + 1) < 2 ^ 1000 := pow_k (by decide) (by omega)
  have d6 : 6 ^ (k + 1) * 6 < 2 ^ 1000 := by rw [← Nat.pow_succ]; exact pow_k (by decide) (by omega)
  have d240 : 240 ^ (k + 1) * 120 < 2 ^ 1000 := Nat.lt_of_le_of_lt (Nat.mul_le_mul_left _ (show 120 ≤ 240 by decide)) (by rw [← Nat.pow_succ]; exact pow_k (by decide) (by omega))
  have l5 : 5 ^ (k + 1) ≤ 5 ^ 3 := Nat.pow_le_pow_right (by decide) (by omega)
  refine ⟨rt_bd b1 ho (limB (Nat.pow_pos (by decide)) c6 c240) (limB (by decide) (lt_k (by decide)) (lt_k (by decide))) (limB (Nat.mul_pos (Nat.pow_pos (by decide)) (by decide)) d6 d240) (by omega) (by decide) (by omega), ?_⟩
  have m1 := b1.mul ho
  have m2 := (hp.cof u (nPw u p - 2 - k)).up (6 ^ (k + 1))
  rw [Nat.mul_comm 6] at m2
  refine ⟨6 ^ (k + 1) * 6, 240 ^ (k + 1) * 120 + 120 * 6 ^ (k + 1), _, _, limB (Nat.mul_pos (Nat.pow_pos (by decide)) (by decide)) d6 ?_, m1.lm.app m2.lm, m1.nd, ?_, rfl, rfl⟩
  · have e : 6 ^ (k + 1) ≤ 240 ^ (k + 1) := pow_up (by decide)
    have : 240 ^ (k + 1) * 120 + 120 * 6 ^ (k + 1) ≤ 240 ^ (k + 1) * 240 := by omega
    exact Nat.lt_of_le_of_lt this (by rw [← Nat.pow_succ]; exact pow_k (by decide) (by omega))
  · have h1 := m1.ln
    have h2 := m2.ln
    omega
def Rplain (K : PySem.W.Frag) : List Pr → Pr → Prop := fun ps z => ∃ p q : Pq, LB p ∧ LB q ∧ ps = [poP K (toPo p), poP K (toPo q)] ∧ z = IsV (.bl true)
def Rmade (K : PySem.W.Frag) : List Pr → Pr → Prop := fun ps z => ∃ (u : Dv) (r : Rat) (n : Nat), SeqAt.shaped u.D = true ∧ NumOk r ∧ 1 ≤ n ∧ n ≤ 4 ∧ ps = [DvP u, rtP K r, IsV (.int (n : Nat))] ∧ z = IsV (.bl true)
theorem fr_0 : fr 0 = (0, 1) := rfl
theorem fr_1 : fr 1 = (1, 1) := rfl
end Nd
namespace K12
set_option autoImplicit false
open PySem PySem.W L2 Evl My Nd LamX NdefX
section
variable {P : Program} {w : World} {K : PySem.W.Frag} {mg : Str → Option Value} {base : Heap} {T : List (Addr × Str)}

/-- _law_plain_right -/
abbrev s_Lplain_right : Stmt := topS 47
abbrev N_Lplain_right : List Str := ["_law_one", "_law_other"]
theorem sc_Lplain_right : FnScope N_Lplain_right ["_law_one", "_law_other"] (defScope s_Lplain_right) := ⟨rfl, rfl, rfl, by decide +kernel, rfl, by decide +kernel, by decide +kernel⟩
theorem ok_Lplain_right {f : Addr} {fd : FuncData} (F : Fun K "_law_plain_right" "_law_plain_right" s_Lplain_right f fd)  {f_scaled : Addr} {d_scaled : FuncData} (c_scaled : Cal P w K mg base "scaled" 2 ["one", "number"] (spP (Rscaled K)) f_scaled d_scaled) {f_less : Addr} {d_less : FuncData} (c_less : Cal P w K mg base "less" 5 ["one", "other"] (spP (Rless K)) f_less d_less) {f_raised : Addr} {d_raised : FuncData} (c_raised : Cal P w K mg base "raised" 4 ["one", "power"] (spP (Rraise K)) f_raised d_raised) {f_Ltimes : Addr} {d_Ltimes : FuncData} (c_Ltimes : Cal P w K mg base "_law_times" 3 ["_law_one", "_law_other"] (spP (Rltimes K)) f_Ltimes d_Ltimes) {f_times : Addr} {d_times : FuncData} (c_times : Cal P w K mg base "times" 3 ["one", "other"] (spP (Rtimes K)) f_times d_times)   :
    FnOk P w K mg base CX0 6 f fd ["_law_one", "_law_other"] (spP (Rplain K)) := by
  refine F.ok sc_Lplain_right (spP_len (by rintro _ _ ⟨_, _, _, _, rfl, rfl⟩; rfl)) (fun cdv A outer s H vs Q E hr h => ?_)
  obtain ⟨B, ps, z, eB, hv, ⟨p, q, hp, hq, rfl, rfl⟩, k⟩ := h
  obtain ⟨v0, v1, rfl, h0, h1⟩ := all2 hv
  have hu := hu_of hr
  refine ⟨_, (pss_cons (ps_if (PW.pt (pw_or (pt_cmpR (show OpR _ (compareOp .NotEq) (rNeD K) from op_neD hr.units) (pe_call c_scaled.G (hr.mono (by decide)) (by rfl) c_scaled.m c_scaled.k c_scaled.b .nil pass0 (pa_cons (pv 0) (pa_cons (pe_tup (pa_cons pe_int (pa_cons pe_int pa_nil))) pa_nil))) (pe_tup pa_nil) (nomark _)) (pw_or (pt_cmpR (show OpR _ (compareOp .NotEq) (rNeD K) from op_neD hr.units) (pe_call c_less.G (hr.mono (by decide)) (by rfl) c_less.m c_less.k c_less.b .nil pass0 (pa_cons (pv 0) (pa_cons (pv 0) pa_nil))) (pe_tup pa_nil) (nomark _)) (pw_or1 (pt_cmpR (show OpR _ (compareOp .NotEq) (rNeD K) from op_neD hr.units) (pe_call c_raised.G (hr.mono (by decide)) (by rfl) c_raised.m c_raised.k c_raised.b .nil pass0 (pa_cons (pv 0) (pa_cons pe_int pa_nil))) (pe_tup (pa_cons (pe_tup (pa_cons (pe_tup pa_nil) (pa_cons (pe_tup (pa_cons pe_int (pa_cons pe_int pa_nil))) pa_nil))) pa_nil)) (nomark _)))))) (pss_one (ps_ret pe_bl)) pss_nil)
    (pss_one (ps_ret (pe_and (pe_cmpR (show OpR _ (compareOp .Eq) (rEqD K) from op_eqD hr.units) (pe_call c_raised.G (hr.mono (by decide)) (by rfl) c_raised.m c_raised.k c_raised.b .nil pass0 (pa_cons (pv 1) (pa_cons pe_int pa_nil))) (pe_call c_Ltimes.G (hr.mono (by decide)) (by rfl) c_Ltimes.m c_Ltimes.k c_Ltimes.b .nil pass0 (pa_cons (pv 1) (pa_cons (pv 1) pa_nil))) (nomark _)) (pe_and (pe_cmpR (show OpR _ (compareOp .Eq) (rEqD K) from op_eqD hr.units) (pe_call c_raised.G (hr.mono (by decide)) (by rfl) c_raised.m c_raised.k c_raised.b .nil pass0 (pa_cons (pv 0) (pa_cons pe_int pa_nil))) (pv 0) (nomark _)) (pe_one (pe_cmpR (show OpR _ (compareOp .Eq) (rEqD K) from op_eqD hr.units) (pe_call c_times.G (hr.mono (by decide)) (by rfl) c_times.m c_times.k c_times.b .nil pass0 (pa_cons (pv 0) (pa_cons (pe_tup pa_nil) pa_nil))) (pe_tup pa_nil) (nomark _)))))))), ?_⟩
  have a0 : EvP (tVar 0) [some v0, some v1] B (poP K (toPo p)) := p_var rfl h0
  have a1 : EvP (tVar 1) [some v0, some v1] B (poP K (toPo q)) := p_var rfl h1
  have lp := hp.ln
  have lq := hq.ln
  refine ps_ifN eB (et_is (et_or (a := false) (b := false) (et_neP (p := []) (p_callP (R := Rscaled K) (ps := [poP K (toPo p), rtP K 0]) (q_cons a0 (q_cons (p_fr fr_0 ev_c ev_c) q_nil)) ⟨p, 0, fun t ht => (qw_co hp ht).sm (by decide), qw_nul.sm (c := 0) (by decide), by omega, rfl, by rw [if_pos rfl]⟩) p_po0 (fun t ht => absurd ht List.not_mem_nil)) fun _ => et_is (et_or (a := false) (b := false) (et_neP (p := []) (p_callP (R := Rless K) (ps := [poP K (toPo p), poP K (toPo p)]) (q_cons a0 (q_cons a0 q_nil)) ⟨6, 240, p, p, limB (by decide) (lt_k (by decide)) (lt_k (by decide)), hp.lm.app hp.lm, hp.nd, by omega, rfl, by rw [add_neg]⟩) p_po0 (fun t ht => absurd ht List.not_mem_nil)) fun _ => et_neP (p := [([], 1)]) (p_callP (R := Rraise K) (ps := [poP K (toPo p), IsV (.int (0 : Nat))]) (q_cons a0 (q_cons p_c q_nil)) (raise_0 p)) (p_po1 p_mo0 (p_fr fr_1 ev_c ev_c)) bd_one.sh) rfl) rfl) fun H1 e1 => ?_
  dsimp only
  refine My.ps_ret (eB.trans e1) (p_ev (ev_is (ev_andV (a := true) (b := true) (ev_eqP (p := mulP q q) (p_callP (R := Rraise K) (ps := [poP K (toPo q), IsV (.int (2 : Nat))]) (q_cons a1 (q_cons p_c q_nil)) (raise_2 hq)) ((p_callP (R := Rltimes K) (ps := [poP K (toPo q), poP K (toPo q)]) (q_cons a1 (q_cons a1 q_nil)) (rlt_bd hq hq (by decide) (by decide) (lt_k (by decide)) (lt_k (by decide)) (lt_k (by decide)) (lt_k (by decide)) (lt_k (by decide)) (lt_k (by decide)) (by decide) (by decide) (by decide) (by decide))).imp fun _ _ _ x => fp_po x) (hq.mul hq).sh) fun _ =>
    ev_is (ev_andV (a := true) (b := true) (ev_eqP (p := p) (p_callP (R := Rraise K) (ps := [poP K (toPo p), IsV (.int (1 : Nat))]) (q_cons a0 (q_cons p_c q_nil)) (raise_1 hp)) a0 hp.sh) fun _ => ev_eqP (p := []) (p_callP (R := Rtimes K) (ps := [poP K (toPo p), poP K (toPo [])]) (q_cons a0 (q_cons p_po0 q_nil)) ⟨6, 1, 120, 0, p, [], limB (by decide) (lt_k (by decide)) (lt_k (by decide)), limB (by decide) (lt_k (by decide)) (lt_k (by decide)), limB (by decide) (lt_k (by decide)) (lt_k (by decide)), hp.lm, Lim.nil, hp.mo (by decide), (fun t ht => absurd ht List.not_mem_nil), by rw [List.length_nil, Nat.mul_zero]; exact Nat.zero_le _, rfl, by rw [mul_nul]⟩) p_po0 (fun t ht => absurd ht List.not_mem_nil)) rfl) rfl)) fun v B1 H2 g hv => k v B1 H2 ((Gr.wide eB e1).trans g) hv

/-- _law_made_right -/
abbrev s_Lmade_right : Stmt := topS 48
abbrev N_Lmade_right : List Str := ["_law_spot", "_law_number_here", "_law_wide", "_law_own", "_law_due"]
theorem sc_Lmade_right : FnScope N_Lmade_right ["_law_spot", "_law_number_here", "_law_wide"] (defScope s_Lmade_right) := ⟨rfl, rfl, rfl, by decide +kernel, rfl, by decide +kernel, by decide +kernel⟩
theorem ok_Lmade_right {f : Addr} {fd : FuncData} (F : Fun K "_law_made_right" "_law_made_right" s_Lmade_right f fd)  {f_constant : Addr} {d_constant : FuncData} (c_constant : Cal P w K mg base "constant" 1 ["number"] (spP (Rconst K)) f_constant d_constant) {f_raised : Addr} {d_raised : FuncData} (c_raised : Cal P w K mg base "raised" 4 ["one", "power"] (spP (Rraise K)) f_raised d_raised)  {f_Ltold_right : Addr} {d_Ltold_right : FuncData} (c_Ltold_right : Gd.CalG P w K mg base "_law_told_right" 3 ["_law_one"] (spP (Rtold K)) f_Ltold_right d_Ltold_right) {f_of_derivative : Addr} {d_of_derivative : FuncData} (G_of_derivative : FnOk P w K mg base CX0 2 f_of_derivative d_of_derivative ["derivative", "power"] (spP (Rofd K))) (m_of_derivative : mg "of_derivative" = some (.ref f_of_derivative)) (k_of_derivative : PySem.W.keepIn K (.ref f_of_derivative) = true) {ds_of_derivative : List Value} (b_of_derivative : Binds K d_of_derivative ["derivative", "power"] ds_of_derivative) (v_of_derivative : Vals [V.int 1] ds_of_derivative) (kb_ofd : KBn K d_of_derivative ["derivative", "power"] 1 ["power"] Gd.gKu Gd.gKs) :
    Gd.FnG P w K mg base 5 f fd ["_law_spot", "_law_number_here", "_law_wide"] (spP (Rmade K)) := by
  refine Gd.okG F sc_Lmade_right (spP_len (by rintro _ _ ⟨_, _, _, _, _, _, _, rfl, rfl⟩; rfl)) (fun cdv A outer s H vs Q E hr hG h => ?_)
  obtain ⟨B, ps, z, eB, hv, ⟨u, r, n, hsu, hr0, n1, n4, rfl, rfl⟩, k⟩ := h
  obtain ⟨v0, v1, v2, rfl, h0, h1, h2⟩ := all3 hv
  obtain rfl : v2 = _ := h2
  have hu := hu_of hr
  refine ⟨_, (pss_cons (ps_if (PW.pt (pw_or (pt_cmpR (show OpR _ (compareOp .NotEq) (rNeD K) from op_neD hr.units) (pe_call c_constant.G (hr.mono (by decide)) (by rfl) c_constant.m c_constant.k c_constant.b .nil pass0 (pa_cons (pv 1) pa_nil)) (pe_tup (pa_cons (pe_tup (pa_cons (pe_tup pa_nil) (pa_cons (pv 1) pa_nil))) pa_nil)) (nomark _)) (pw_or (pt_cmpR (show OpR _ (compareOp .NotEq) (rNeD K) from op_neD hr.units) (pe_call c_constant.G (hr.mono (by decide)) (by rfl) c_constant.m c_constant.k c_constant.b .nil pass0 (pa_cons (pe_tup (pa_cons pe_int (pa_cons pe_int pa_nil))) pa_nil)) (pe_tup pa_nil) (nomark _)) (pw_or1 (pt_not (pt_val (Gd.pe_callG c_Ltold_right.G (hr.mono (by decide)) hG (by rfl) c_Ltold_right.m c_Ltold_right.k c_Ltold_right.b .nil pass0 (pa_cons (pe_call c_constant.G (hr.mono (by decide)) (by rfl) c_constant.m c_constant.k c_constant.b .nil pass0 (pa_cons (pv 1) pa_nil)) pa_nil)))))))) (pss_one (ps_ret pe_bl)) pss_nil)
    (pss_cons (ps_set (i := 3) sc_Lmade_right.nd rfl (by first | exact .inl rfl | exact .inr rfl) (pe_call G_of_derivative (hr.mono (by decide)) (by rfl) m_of_derivative k_of_derivative b_of_derivative v_of_derivative pass0 (pa_cons (pv 0) pa_nil)))
    (pss_cons (ps_set (i := 4) sc_Lmade_right.nd rfl (by first | exact .inl rfl | exact .inr rfl) (pe_tup (pa_cons (pe_tup (pa_cons (pe_tup (pa_cons (pe_tup (pa_cons (pv 0) (pa_cons (pe_op op_add pe_int (pv 2)) pa_nil))) pa_nil)) (pa_cons (pe_tup (pa_cons pe_int (pa_cons pe_int pa_nil))) pa_nil))) pa_nil)))
    (pss_cons (ps_if (PW.pt (pw_or (pt_cmpR (show OpR _ (compareOp .NotEq) (rNeD K) from op_neD hr.units) (pe_call c_raised.G (hr.mono (by decide)) (by rfl) c_raised.m c_raised.k c_raised.b .nil pass0 (pa_cons (pv 3) (pa_cons (pe_op op_add pe_int (pv 2)) pa_nil))) (pv 4) (nomark _)) (pw_or1 (pt_cmpR (show OpR _ (compareOp .NotEq) (rNeD K) from op_neD hr.units) (pe_callN G_of_derivative (hr.mono (by decide)) (by rfl) m_of_derivative k_of_derivative kb_ofd pass0 (pa_cons (pv 0) pa_nil) (pk_cons (pe_op op_add pe_int (pv 2)) pk_nil)) (pv 4) (nomark _))))) (pss_one (ps_ret pe_bl)) pss_nil)
    (pss_one (ps_ret (pe_and (pe_cmpR (show OpR _ (compareOp .Eq) (rEqD K) from op_eqD hr.units) (pv 3) (pe_tup (pa_cons (pe_tup (pa_cons (pe_tup (pa_cons (pe_tup (pa_cons (pv 0) (pa_cons pe_int pa_nil))) pa_nil)) (pa_cons (pe_tup (pa_cons pe_int (pa_cons pe_int pa_nil))) pa_nil))) pa_nil)) (nomark _)) (pe_one (pe_cmpR (show OpR _ (compareOp .Eq) (rEqD K) from op_eqD hr.units) (pe_callN G_of_derivative (hr.mono (by decide)) (by rfl) m_of_derivative k_of_derivative kb_ofd pass0 (pa_cons (pv 0) pa_nil) (pk_cons (pv 2) pk_nil)) (pe_call c_raised.G (hr.mono (by decide)) (by rfl) c_raised.m c_raised.k c_raised.b .nil pass0 (pa_cons (pv 3) (pa_cons (pv 2) pa_nil))) (nomark _)))))))))), ?_⟩
  have a1 : EvP (tVar 1) [some v0, some v1, some (.int (n : Nat)), none, none] B (rtP K r) := p_var rfl h1
  have con : EvP (tCall (spP (Rconst K)) [] E0 (tCons (tVar 1) tNil)) [some v0, some v1, some (.int (n : Nat)), none, none] B (poP K (toPo [([], r)])) := p_callP (ps := [rtP K r]) (q_cons a1 q_nil) ⟨r, rfl, by rw [if_neg hr0.1]⟩
  have bn := bd_num hr0
  refine ps_ifN eB (et_is (et_or (a := false) (b := false) (et_neP (p := [([], r)]) con (p_po1 p_mo0 a1) bn.sh) fun _ => et_is (et_or (a := false) (b := false) (et_neP (p := []) (p_callP (R := Rconst K) (ps := [rtP K 0]) (q_cons (p_fr fr_0 ev_c ev_c) q_nil) ⟨0, rfl, by rw [if_pos rfl]⟩) p_po0 (fun t ht => absurd ht List.not_mem_nil)) fun _ => et_is (et_not (a := true) (et_B (ev_p (p_callP (R := Rtold K) (ps := [poP K (toPo [([], r)])]) (q_cons con q_nil) ⟨_, bn.c, bn.sh, fun t ht y hy => ?_, Nat.zero_le _, Nat.le_trans bn.ln (by decide), rfl, rfl⟩)))) rfl) rfl) rfl) fun H1 e1 => ?_
  · rw [List.mem_singleton.mp ht] at hy
    exact absurd hy List.not_mem_nil
  have g1 := Gr.wide eB e1
  dsimp only
  have own : ∀ v3 v4 : Option V, EvP (tCall (spP (Rofd K)) [.int 1] E0 (tCons (tVar 0) tNil)) [some v0, some v1, some (.int (n : Nat)), v3, v4] B (poP K (toPo (mon u 1))) := fun _ _ => p_callV (ps := [DvP u]) (q_cons (p_var rfl h0) q_nil) ⟨u, 1, rfl, rfl⟩
  refine ps_asgN (fun v => [some v0, some v1, some (.int (n : Nat)), some v, none]) g1.c (own none none) (fun v3 B2 H2 g2 h3 => ?_) (fun _ => rfl)
  have h0 := (DvP u).m g2.b h0
  dsimp only
  have en : (9 : Int) + (n : Nat) = ((9 + n : Nat) : Int) := by omega
  have e9 : mon u (9 + n) = [([(u, ((9 + n : Nat) : Int))], 1)] := by
    unfold mon
    rw [if_neg (by omega)]
  have wide : ∀ v3 v4 : Option V, Ev (tOp (rI0 fun i j => .int (i + j)) (tC (.int 9)) (tVar 2)) [some v0, some v1, some (.int (n : Nat)), v3, v4] B2 (.int ((9 + n : Nat) : Int)) := fun _ _ => ev_is (ev_op ev_c (ev_var rfl) rv_I0) (by rw [en])
  refine ps_asgN (fun v => [some v0, some v1, some (.int (n : Nat)), some v3, some v]) g2.c (p_po1 (K := K) (p_mo1 (p_var rfl h0) (wide _ _)) (p_fr fr_1 ev_c ev_c)) (fun v4 B3 H3 g3 h4 => ?_) (fun _ => rfl)
  rw [← e9] at h4
  have h0 := (DvP u).m g3.b h0
  have h3 := (poP K (toPo (mon u 1))).m g3.b h3
  have b9 := bd_mon hsu (9 + n)
  have wide3 : Ev (tOp (rI0 fun i j => .int (i + j)) (tC (.int 9)) (tVar 2)) [some v0, some v1, some (.int (n : Nat)), some v3, some v4] B3 (.int ((9 + n : Nat) : Int)) := ev_is (ev_op ev_c (ev_var rfl) rv_I0) (by rw [en])
  dsimp only
  refine ps_ifN g3.c (et_is (et_or (a := false) (b := false) (et_neP (p := mon u (9 + n)) (p_callP (R := Rraise K) (ps := [poP K (toPo (mon u 1)), IsV (.int ((9 + n : Nat) : Int))]) (q_cons (p_var rfl h3) (q_cons (p_ev wide3) q_nil)) (raise_mon hsu (by omega))) (p_var rfl h4) b9.sh) fun _ => et_neP (p := mon u (9 + n)) (p_callN (ps := [DvP u]) (qs := [IsV (.int ((9 + n : Nat) : Int))]) (q_cons (p_var rfl h0) q_nil) (q_cons (p_ev wide3) q_nil) rfl rfl ⟨u, ((9 + n : Nat) : Int), rfl, by rw [e9, if_neg (by omega)]⟩) (p_var rfl h4) b9.sh) rfl) fun H4 e4 => ?_
  have g4 := Gr.wide g3.c e4
  dsimp only
  have en2 : mon u n = [([(u, (n : Int))], 1)] := by
    unfold mon
    rw [if_neg (by omega)]
  refine My.ps_ret g4.c (p_ev (ev_is (ev_andV (a := true) (b := true) (ev_eqP (p := mon u 1) (p_var rfl h3) (p_po1 (K := K) (p_mo1 (p_var rfl h0) ev_c) (p_fr fr_1 ev_c ev_c)) (bd_mon hsu 1).sh) fun _ =>
    ev_eqP (p := mon u n) (p_callN (ps := [DvP u]) (qs := [IsV (.int (n : Nat))]) (q_cons (p_var rfl h0) q_nil) (q_cons (p_varV rfl) q_nil) rfl rfl ⟨u, (n : Int), rfl, by rw [en2, if_neg (by omega)]⟩) (p_callP (R := Rraise K) (ps := [poP K (toPo (mon u 1)), IsV (.int (n : Nat))]) (q_cons (p_var rfl h3) (q_cons (p_varV rfl) q_nil)) (raise_mon hsu (by omega))) (bd_mon hsu n).sh) rfl)) fun v B5 H5 g5 hv => k v B5 H5 ((g1.trans g2).trans (g3.trans (g4.trans g5))) hv

end
end K12
namespace Nd
set_option autoImplicit false
open PySem PySem.Spec PySem.W PyProof.Rows L2 My Evl LamX NdefX
/-! ### data with dicts, for repr -/
mutual
inductive Dx (P : Program) (w : World) (K : PySem.W.Frag) (H : Hp) : V → PyData → Prop
  | dp {v : V} {d : PyData} : Dp K H v d → keyish d = true → Dx P w K H v d
  | lst {a : Addr} {xs : List V} {ds : List PyData} : a ≠ sysModules → H a = some (.lst xs) → DxAll P w K H xs ds → Dx P w K H (.ref a) (.list ds)
  | tup {a : Addr} {xs : List V} {ds : List PyData} : SqT K H a xs → DxAll P w K H xs ds → Dx P w K H (.ref a) (.tuple ds)
  | dict {a : Addr} {xs : List NV} {ks ds : List PyData} : H a = some (DN P w a xs) → DpAll K H (xs.map fun x => V.ref x.2.1) ks → keyishAll ks = true → DxAll P w K H (xs.map (·.2.2)) ds → Dx P w K H (.ref a) (.dict (ks.zip ds))
inductive DxAll (P : Program) (w : World) (K : PySem.W.Frag) (H : Hp) : List V → List PyData → Prop
  | nil : DxAll P w K H [] []
  | cons {v : V} {vs : List V} {d : PyData} {ds : List PyData} : Dx P w K H v d → DxAll P w K H vs ds → DxAll P w K H (v :: vs) (d :: ds)
end
mutual
theorem reads_key {h : Heap} : ∀ {u : Value} {d : PyData} {as : List Addr}, Reads h u d as → keyish d = true → as = []
  | _, _, _, .none, _ => rfl
  | _, _, _, .bool _, _ => rfl
  | _, _, _, .int _ _, _ => rfl
  | _, _, _, .str _ _, _ => rfl
  | _, _, _, .list _ _ _ _, h => by simp [keyish] at h
  | _, _, _, .tuple _ _ _ r, h => reads_keys r (by simpa [keyish] using h)
  | _, _, _, .dict _ _ _ _ _, h => by simp [keyish] at h
theorem reads_keys {h : Heap} : ∀ {us : List Value} {ds : List PyData} {as : List Addr}, ReadsAll h us ds as → keyishAll ds = true → as = []
  | _, _, _, .nil, _ => rfl
  | _, _, _, .cons r rs, h => by
    simp only [keyishAll, Bool.and_eq_true] at h
    rw [reads_key r h.1, reads_keys rs h.2]
    rfl
end
theorem dps_len {K : PySem.W.Frag} {H : Hp} : ∀ {vs : List V} {ds : List PyData}, DpAll K H vs ds → vs.length = ds.length
  | _, _, .nil => rfl
  | _, _, .cons _ r => congrArg Nat.succ (dps_len r)
theorem dxs_len {P : Program} {w : World} {K : PySem.W.Frag} {H : Hp} : ∀ {vs : List V} {ds : List PyData}, DxAll P w K H vs ds → vs.length = ds.length
  | _, _, .nil => rfl
  | _, _, .cons _ r => congrArg Nat.succ (dxs_len r)
theorem vals_refs : ∀ as : List Addr, Vals (as.map V.ref) (as.map Value.ref)
  | [] => .nil
  | _ :: as => .cons rfl (vals_refs as)
theorem lay_val {P : Program} {w : World} : ∀ {xs : List NV} {us : List Value}, xs.length = us.length → ((lay xs us).map (entryOfKey (nestedKind P w))).map (·.val) = us
  | [], [], _ => rfl
  | _ :: _, _ :: _, h => congrArg (_ :: ·) (lay_val (by simpa using h))
section
variable {X : Cx} {pins : List (Addr × Obj)} {σ : L2.St} {H : Hp} {s : Shared}
mutual
theorem Dx.reads (I : Inv X pins σ H s) : ∀ {v : V} {d : PyData} {u : Value}, Dx X.prog X.w X.K H v d → RelV v u → ∃ as, Reads s.heap u d as ∧ sysModules ∉ as
  | _, _, _, .dp h k, r => by
    obtain ⟨as, ra⟩ := Dp.reads I _ _ _ h r
    obtain rfl := reads_key ra k
    exact ⟨_, ra, List.not_mem_nil⟩
  | _, _, _, .lst n h al, r => by
    cases r
    obtain ⟨its, rv, ⟨o, m, ho, hc, _, hd⟩, _⟩ := I.list (sq_of h)
    obtain ⟨as, hr, hn⟩ := Dx.readsAll I al rv
    exact ⟨_, Reads.list ho hc hd hr, fun hm => (List.mem_cons.mp hm).elim (fun e => n e.symm) hn⟩
  | _, _, _, .tup h al, r => by
    cases r
    obtain ⟨its, rv, ⟨o, ho, hc, m, hd⟩, _⟩ := I.tuple h
    obtain ⟨as, hr, hn⟩ := Dx.readsAll I al rv
    exact ⟨_, Reads.tuple ho hc hd hr, hn⟩
  | _, _, _, .dict (a := a) (xs := xs) (ks := ks) (ds := ds) h hk kk al, r => by
    cases r
    obtain ⟨z1, z2, us, o, es, ep, rv, h1, h2, h3, h4, h5⟩ := (I.hok _ _ h).1
    have hl := vlen rv
    obtain ⟨as, ra⟩ := Dp.readsAll I _ _ _ hk (by rw [show (xs.map fun x => V.ref x.2.1) = (xs.map (·.2.1)).map V.ref by rw [List.map_map]; rfl]; exact vals_refs _)
    obtain ⟨bs, rb, hn⟩ := Dx.readsAll I al rv
    have l1 := dps_len hk
    have l2 := dxs_len al
    rw [List.length_map] at l1 l2
    have k1 : (ks.zip ds).map (·.1) = ks := List.map_fst_zip (by omega)
    have k2 : (ks.zip ds).map (·.2) = ds := List.map_snd_zip (by omega)
    have r1 : ReadsAll s.heap (es.toList.map (·.key)) ((ks.zip ds).map (·.1)) as := by
      rw [h4, lay_ref hl, k1]
      exact ra
    have r2 : ReadsAll s.heap (es.toList.map (·.val)) ((ks.zip ds).map (·.2)) bs := by
      rw [h4, lay_val hl, k2]
      exact rb
    have e0 := reads_keys ra kk
    subst e0
    refine ⟨_, Reads.dict h1 h2.1 h3 r1 r2, fun hm => ?_⟩
    rcases List.mem_append.mp hm with hm | hm
    · rw [List.mem_singleton.mp hm] at z1
      exact absurd rfl (beq_eq_false_iff_ne.mp z1)
    · exact hn hm
theorem Dx.readsAll (I : Inv X pins σ H s) : ∀ {vs : List V} {ds : List PyData} {us : List Value}, DxAll X.prog X.w X.K H vs ds → Vals vs us → ∃ as, ReadsAll s.heap us ds as ∧ sysModules ∉ as
  | _, _, _, .nil, r => by
    cases r
    exact ⟨_, ReadsAll.nil, List.not_mem_nil⟩
  | _, _, _, .cons h hs, r => by
    cases r with
    | cons r1 r2 =>
      obtain ⟨as, q1, n1⟩ := Dx.reads I h r1
      obtain ⟨bs, q2, n2⟩ := Dx.readsAll I hs r2
      exact ⟨_, ReadsAll.cons q1 q2, fun hm => (List.mem_append.mp hm).elim n1 n2⟩
end
end
def rReprX (P : Program) (w : World) (K : PySem.W.Frag) : List V → Hp → VK → Prop := fun xs H Q => ∃ a d, xs = [.ref a] ∧ Dx P w K H (.ref a) d ∧ d.showable = true ∧ d.depth ≤ 60 ∧ d.shown.length ≤ 1000000 ∧ Q (.str d.shown) H
theorem call_reprX {X : Cx} (hG : X.A.guards = some []) (hu : X.A.units + 64 < cLine) : CallR X (.builtin "repr") (rReprX X.prog X.w X.K) := by
  intro pins s σ H xs us Q I r ⟨a, d, e, hd, hs, hp, hz, q⟩
  subst e
  obtain ⟨u, rfl, rx⟩ := vals1 r
  obtain rfl : u = Value.ref a := rx
  obtain ⟨as, ra, hn⟩ := Dx.reads I hd rfl
  exact repr_of_reads' ra hs (fun _ => hn) hG (by omega) (fun _ _ e => e) (fun h' u tk hk => ⟨.str d.shown, H, I.kept (t' := tk) hk, ⟨u, rfl⟩, q⟩) (Nat.le_trans hz (by decide))
/-- a list literal, its place not the modules' -/
def tLstS (t : TA) : TE := fun σ H Q => t σ H fun xs H1 => xs.length ≤ sizeLine ∧ ∀ p, H1 p = none → p ≠ sysModules → Q (.ref p) (upd H1 p (.lst xs))
theorem pe_lstS {X : Cx} {es : List Expr} {t : TA} {pos : Pos} (h : PA X es t) : PE X (.List es pos) (tLstS t) := by
  refine ⟨fun pins s σ H Q I hq => ?_⟩
  refine wpAny_List_spliced (thn (h.run pos pins s σ H _ I hq) fun us s1 ⟨xs, H1, I1, r, z, q⟩ => ⟨by rw [← r.length]; exact z, ?_⟩)
  have hf : H1 s1.heap.objs.size = none := I1.hok.fresh (Nat.le_refl _)
  refine ⟨.ref s1.heap.objs.size, upd H1 s1.heap.objs.size (.lst xs), I1.laid (t' := s1.toks) (fun b u e => Heap.get?_push_of_some _ e) (Nat.le_refl _) ?_, rfl, q _ hf (Nat.ne_of_gt I1.big)⟩
  exact ⟨z, us, 0, r, Heap.get?_push_size _ rfl⟩
/-! ### a dict as it is known -/
section
variable {κ β : Type} [DecidableEq κ] {P : Program} {w : World} {K : PySem.W.Frag} {ky : Ky K κ} {vp : β → Pr} {vd : β → PyData} {B H : Hp} {zs : List (κ × β)} {v : V}
def dcD (ky : Ky K κ) (vd : β → PyData) (zs : List (κ × β)) : PyData := .dict ((zs.map fun z => ky.kd z.1).zip (zs.map fun z => vd z.2))
theorem kg_dps (tv : ∀ f, To K (vp f) (vd f)) (kv : ∀ f, keyish (vd f) = true) : ∀ {zs : List (κ × β)} {xs : List NV}, KG ky vp zs xs B → DpAll K B (xs.map fun x => V.ref x.2.1) (zs.map fun z => ky.kd z.1) ∧ DxAll P w K B (xs.map (·.2.2)) (zs.map fun z => vd z.2) ∧ keyishAll (zs.map fun z => ky.kd z.1) = true
  | [], [], _ => ⟨.nil, .nil, rfl⟩
  | z :: zs, x :: xs, h => by
    obtain ⟨h1, h2, h3⟩ := kg_dps tv kv h.2
    refine ⟨.cons (ky.to _ _ _ h.1.2.1) h1, .cons (.dp (tv _ _ _ h.1.2.2) (kv _)) h2, ?_⟩
    show (keyish (ky.kd z.1) && keyishAll _) = true
    rw [ky.ks, h3]
    rfl
theorem dc_dx (tv : ∀ f, To K (vp f) (vd f)) (kv : ∀ f, keyish (vd f) = true) (h : (DcP P w ky vp zs).P v B) (e : Ex B H) : Dx P w K H v (dcD ky vd zs) := by
  obtain ⟨d, xs, B0, rfl, h1, _, h2, h3⟩ := h
  obtain ⟨a, b, c⟩ := kg_dps (P := P) (w := w) tv kv (h3.m (h2.trans e))
  exact .dict (e _ _ h1) a c b
end
structure Shw (d : PyData) (n : Nat) (k : Nat) : Prop where
  s : d.showable = true
  l : d.shown.length ≤ n
  d : d.depth ≤ k
theorem depthAll_le {k : Nat} : ∀ {ds : List PyData}, (∀ d ∈ ds, d.depth ≤ k) → PyData.depthAll ds ≤ k
  | [], _ => by simp [PyData.depthAll]
  | d :: ds, h => by
    simp only [PyData.depthAll]
    have := h d List.mem_cons_self
    have := depthAll_le (k := k) (ds := ds) fun e he => h e (List.mem_cons_of_mem _ he)
    omega
theorem shw_tup {ds : List PyData} {n k : Nat} (h : ∀ d ∈ ds, Shw d n k) : Shw (.tuple ds) (ds.length * (n + 2) + 3) (k + 1) := by
  refine ⟨?_, Gd.shown_tup fun d hd => (h d hd).l, ?_⟩
  · simp only [PyData.showable]
    exact PySem.Spec.showableAll_of fun d hd => (h d hd).s
  · have := depthAll_le (k := k) fun d hd => (h d hd).d
    simp only [PyData.depth]
    omega
theorem Shw.le {d : PyData} {n k m j : Nat} (h : Shw d n k) (a : n ≤ m) (b : k ≤ j) : Shw d m j := ⟨h.s, Nat.le_trans h.l a, Nat.le_trans h.d b⟩
theorem shw_dv {r : Rk} {u : Dv} (hr : r.Ok) (h : u.Of r) (hi : u.i ≤ 20) (hj : u.j ≤ 20) : Shw u.D 300 1 := by
  obtain ⟨h1, h2⟩ := Gd.show_dv hr h hi hj
  exact ⟨h2, h1, by rw [deep_dv]; exact Nat.le_refl _⟩
theorem shw_int {i : Int} {k : Nat} (hk : 0 < k) (hk2 : k < 500) (h : i.natAbs < 10 ^ k) : Shw (.int i) (k + 1) 0 := by
  refine ⟨?_, ?_, by simp [PyData.depth]⟩
  · simp only [PyData.showable, decide_eq_true_eq]
    by_cases h0 : i.natAbs = 0
    · rw [h0]
      decide
    · rw [Nat.log2_lt h0]
      refine Nat.lt_of_lt_of_le h (Nat.le_trans (Nat.pow_le_pow_right (by decide) (Nat.le_of_lt hk2)) ?_)
      decide +kernel
  · simp only [PyData.shown]
    rw [show ((toString i : String) : Str) = Str.ofString (toString i) from rfl, PySem.ofString_length]
    exact int_text_length_le10 hk h
/-- as great as the law's polynomials get -/
structure PS (r : Rk) (p : Pq) : Prop where
  c : PoC p
  of : ∀ t ∈ p, ∀ y ∈ t.1, y.1.Of r
  od : ∀ t ∈ p, ∀ y ∈ t.1, y.1.i + y.1.j ≤ 10
  dg : ∀ t ∈ p, Nd.dg t.1 ≤ 10
  ln : p.length ≤ 60
  lm : Lim 36 100000 p
theorem shw_lst {ds : List PyData} {n k : Nat} (h : ∀ d ∈ ds, Shw d n k) : Shw (.list ds) (ds.length * (n + 2) + 3) (k + 1) := by
  refine ⟨?_, Gd.shown_lst fun d hd => (h d hd).l, ?_⟩
  · simp only [PyData.showable]
    exact PySem.Spec.showableAll_of fun d hd => (h d hd).s
  · have := depthAll_le (k := k) fun d hd => (h d hd).d
    simp only [PyData.depth]
    omega
theorem shw_dict {kvs : List (PyData × PyData)} {n k : Nat} (h : ∀ z ∈ kvs, Shw z.1 n k ∧ Shw z.2 n k) : Shw (.dict kvs) (kvs.length * (2 * n + 4) + 3) (k + 1) := by
  have key : ∀ {kvs : List (PyData × PyData)}, (∀ z ∈ kvs, Shw z.1 n k ∧ Shw z.2 n k) → PyData.showableKv kvs = true ∧ PyData.depthKv kvs ≤ k ∧ ((PyData.shownKv kvs).map (·.length)).sum ≤ kvs.length * (2 * n + 2) ∧ (PyData.shownKv kvs).length = kvs.length := by
    intro kvs
    induction kvs with
    | nil => exact fun _ => ⟨by simp [PyData.showableKv], by simp [PyData.depthKv], by simp [PyData.shownKv], by simp [PyData.shownKv]⟩
    | cons z kvs ih =>
      intro h
      obtain ⟨x, y⟩ := z
      obtain ⟨i1, i2, i3, i4⟩ := ih fun z hz => h z (List.mem_cons_of_mem _ hz)
      obtain ⟨a, b⟩ := h (x, y) List.mem_cons_self
      have as := a.s
      have bs := b.s
      have al := a.l
      have bl := b.l
      have ad := a.d
      have bd := b.d
      dsimp only at as bs al bl ad bd
      refine ⟨by simp [PyData.showableKv, as, bs, i1], ?_, ?_, by simp [PyData.shownKv, i4]⟩
      · simp only [PyData.depthKv]
        omega
      · simp only [PyData.shownKv, List.map_cons, List.sum_cons, List.length_cons, strLen_append]
        have : (": " : Str).length = 2 := rfl
        rw [this, Nat.add_mul]
        omega
  obtain ⟨i1, i2, i3, i4⟩ := key h
  refine ⟨by simp only [PyData.showable]; exact i1, ?_, by simp only [PyData.depth]; omega⟩
  simp only [PyData.shown]
  have h1 := dictText_len_le (PyData.shownKv kvs)
  rw [i4] at h1
  have : kvs.length * (2 * n + 4) = kvs.length * (2 * n + 2) + 2 * kvs.length := by rw [show 2 * n + 4 = (2 * n + 2) + 2 by omega, Nat.mul_add kvs.length, Nat.mul_comm kvs.length 2]
  omega
theorem shw_fr {r : Rat} (h1 : (fr r).1.natAbs < 1000) (h2 : (fr r).2.natAbs < 1000) : Shw (frD (fr r)) 15 1 := by
  have := shw_tup (ds := [.int (fr r).1, .int (fr r).2]) (n := 4) (k := 0) fun d hd => by
    simp only [List.mem_cons, List.not_mem_nil, or_false] at hd
    rcases hd with rfl | rfl
    · exact shw_int (k := 3) (by decide) (by decide) h1
    · exact shw_int (k := 3) (by decide) (by decide) h2
  exact this
/-! ### a dict under way, beside what is known -/
section
open K12
variable {κ β : Type} [DecidableEq κ] {P : Program} {w : World} {K : PySem.W.Frag} {ky : Ky K κ} {vp : β → Pr} {d l : Addr} {n : Nat} {B H B' H' : Hp} {zs : List (κ × β)} {k : κ} {f : β}
structure Dl (P : Program) (w : World) {K : PySem.W.Frag} (ky : Ky K κ) (vp : β → Pr) (d : Addr) (B H : Hp) (l : Addr) (zs : List (κ × β)) : Prop where
  h : ∃ xs, H l = some (DN P w l xs) ∧ KG ky vp zs xs B
  b : B l = none
  n : l ≠ d
theorem dn_tbl {xs : List NV} {ps : _} : DN P w l xs ≠ .tbl ps := fun z => by
  unfold DN at z
  cases z
theorem Dl.new (k : Kx [] d n B H) (hl : H l = none) : Dl P w ky vp d B (upd H l (DN P w l [])) l [] := ⟨⟨[], upd_same, trivial⟩, fresh_back k.e hl, fun e => k.s.ne0 (e ▸ hl)⟩
theorem Dl.gx (t : Dl P w ky vp d B H l zs) (g : GX d B H B' H') : Dl P w ky vp d B' H' l zs := by
  obtain ⟨⟨xs, h1, h2⟩, h3, h4⟩ := t
  exact ⟨⟨xs, g.a l _ h4 h1 (fun _ => dn_tbl), h2.m g.b⟩, g.f l _ h4 h3 h1 (fun _ => dn_tbl), h4⟩
theorem kx_dn {xs ys : List NV} (k : Kx [] d n B H) (h1 : H l = some (DN P w l xs)) (h3 : B l = none) (h4 : l ≠ d) : Kx [] d n B (upd H l (DN P w l ys)) := by
  refine ⟨fun b o e => ?_, k.nt, (fun q hq => absurd hq List.not_mem_nil), k.z, k.s.upd h4.symm⟩
  rw [upd_ne (fun z => by subst z; rw [h3] at e; cases e)]
  exact k.e b o e
theorem Dl.put {xs : List NV} {a : Addr} {v : V} (t : Dl P w ky vp d B H l zs) (k' : Kx [] d n B H) (hx : H l = some (DN P w l xs)) (al : KG ky vp zs xs B) (ha : (ky.kp k).P (.ref a) B) (hf : (vp f).P v B) :
    Kx [] d n B (upd H l (DN P w l (putN xs (nk (ky.kd k)) a v))) ∧ Dl P w ky vp d B (upd H l (DN P w l (putN xs (nk (ky.kd k)) a v))) l (putG zs k f) :=
  ⟨kx_dn k' hx t.b t.n, ⟨⟨_, upd_same, al.put ha hf⟩, t.b, t.n⟩⟩
theorem Dl.fin (t : Dl P w ky vp d B H l zs) (k : Kx [] d n B H) : ∃ B', Kx [] d n B' H ∧ Ex B B' ∧ (DcP P w ky vp zs).P (.ref l) B' := by
  obtain ⟨⟨xs, h1, h2⟩, h3, h4⟩ := t
  have e : Ex B (L2.upd B l (DN P w l xs)) := Ex.new h3
  refine ⟨_, ⟨fun b o eb => ?_, nt_upd k.nt (fun _ => dn_tbl), k.t, by rw [upd_ne h4.symm]; exact k.z, k.s⟩, e, l, xs, B, rfl, upd_same, h3, e, h2⟩
  by_cases z : b = l
  · subst z
    rw [upd_same] at eb
    rw [← eb]
    exact h1
  · rw [upd_ne z] at eb
    exact k.e b o eb
end
end Nd
namespace Nd
set_option autoImplicit false
open PySem PySem.Spec PySem.W PyProof.Rows L2 My Evl LamX NdefX
theorem LP.lb {r : Rk} {p : Pq} (hok : r.Ok) (h : LP r 4 p) : LB p := ⟨h.c, h.lm, h.dg, h.ln, fun t ht y hy => Gd.shp_dv hok (h.of t ht y hy)⟩
theorem LP.psz {r : Rk} {p : Pq} (h : LP r 4 p) : PS r p := ⟨h.c, h.of, fun t ht y hy => by have := h.o t ht y hy; omega, fun t ht => Nat.le_trans (h.dg t ht) (by decide), Nat.le_trans h.ln (by decide), (h.lm.up 6).le (by decide)⟩
theorem shw_p4 {r : Rk} {p : Pq} (hr : r.Ok) (h : PS r p) (hl4 : p.length ≤ 4) : Shw (poD (toPo p)) 50000 10 := by
  have tm : ∀ t ∈ p, Shw (tmD (tq t)) 12193 4 := fun t ht => by
    have dgt := h.dg t ht
    have mo : Shw (moD t.1) 6093 3 := by
      have pw : ∀ d ∈ t.1.map pwD, Shw d 607 2 := fun d hd => by
        obtain ⟨y, hy, rfl⟩ := List.mem_map.mp hd
        have ofy := h.of t ht y hy
        have ody := h.od t ht y hy
        have i0 := ofy.i
        have j0 := ofy.j
        have := dg_at hy
        have a1 : Shw y.1.D 300 1 := shw_dv hr ofy (by omega) (by omega)
        have a2 : Shw (.int y.2) 300 1 := (shw_int (i := y.2) (k := 2) (by decide) (by decide) (by omega)).le (by decide) (by decide)
        have := shw_tup (ds := [y.1.D, .int y.2]) (n := 300) (k := 1) fun d hd => by
          simp only [List.mem_cons, List.not_mem_nil, or_false] at hd
          rcases hd with rfl | rfl
          · exact a1
          · exact a2
        exact this
      have := shw_tup pw
      rw [List.length_map] at this
      have hl : t.1.length ≤ 10 := Nat.le_trans (mo_len (h.c.m t ht)) dgt
      have l2 : t.1.length * (607 + 2) ≤ 10 * (607 + 2) := Nat.mul_le_mul_right _ hl
      exact this.le (by omega) (Nat.le_refl _)
    have fr2 : Shw (frD (fr t.2)) 6093 3 := by
      obtain ⟨w1, w2⟩ := h.lm.at ht
      obtain ⟨s1, s2⟩ := ab_small (by decide) w1
      have b1 : Shw (.int (fr t.2).1) 11 0 := shw_int (k := 10) (by decide) (by decide) (by show t.2.num.natAbs < _; omega)
      have b2 : Shw (.int (fr t.2).2) 11 0 := shw_int (k := 10) (by decide) (by decide) (by show t.2.den < _; omega)
      have := shw_tup (ds := [.int (fr t.2).1, .int (fr t.2).2]) (n := 11) (k := 0) fun d hd => by
        simp only [List.mem_cons, List.not_mem_nil, or_false] at hd
        rcases hd with rfl | rfl
        · exact b1
        · exact b2
      exact this.le (by show 2 * (11 + 2) + 3 ≤ 6093; decide) (by decide)
    have := shw_tup (ds := [moD t.1, frD (fr t.2)]) (n := 6093) (k := 3) fun d hd => by
      simp only [List.mem_cons, List.not_mem_nil, or_false] at hd
      rcases hd with rfl | rfl
      · exact mo
      · exact fr2
    exact this
  have all := shw_tup (ds := (toPo p).map tmD) (n := 12193) (k := 4) fun d hd => by
    obtain ⟨s, hs, rfl⟩ := List.mem_map.mp hd
    obtain ⟨t, ht, rfl⟩ := List.mem_map.mp hs
    exact tm t ht
  rw [List.length_map] at all
  unfold toPo at all
  rw [List.length_map] at all
  have l2 : p.length * (12193 + 2) ≤ 4 * (12193 + 2) := Nat.mul_le_mul_right _ hl4
  exact all.le (by omega) (by decide)

/-- the names and the axes of a draw -/
def rkA (a n : Nat) : Rk := ⟨false, (["u", "v", "w"] : List Str).take n, if a = 1 then 0 else 1⟩
theorem nm_uvw : ∀ x ∈ (["u", "v", "w"] : List Str), IsNm x := by
  intro x hx
  simp only [List.mem_cons, List.not_mem_nil, or_false] at hx
  unfold IsNm
  rcases hx with rfl | rfl | rfl <;> decide +kernel
theorem rkA_ok {a n : Nat} (h : 1 ≤ n) (k : n ≤ 3) : (rkA a n).Ok := by
  refine ⟨?_, ?_, ?_, fun x hx => nm_uvw x (List.mem_of_mem_take hx)⟩
  · show 1 ≤ ((["u", "v", "w"] : List Str).take n).length
    rw [List.length_take]
    show 1 ≤ min n 3
    omega
  · show ((["u", "v", "w"] : List Str).take n).length ≤ 3
    rw [List.length_take]
    exact Nat.min_le_right _ _
  · exact List.Nodup.sublist (List.take_sublist _ _) (by decide +kernel)
theorem rkA_ax {a n : Nat} (h : 1 ≤ a) (k : a ≤ 2) : (rkA a n).axs.length = a := by
  rcases (by omega : a = 1 ∨ a = 2) with rfl | rfl <;> rfl
/-! ### derived -/
theorem sh_upD {u : Dv} (h : SeqAt.shaped u.D = true) (x : Bool) : SeqAt.shaped (upD u x).D = true := by
  have h1 := can_nm (can_sh h)
  rw [PyData.canLay0] at h1
  unfold Dv.D SeqAt.shaped
  have e : (upD u x).n = u.n := by cases x <;> rfl
  rw [e]
  simp [PyData.canLay0, PyData.canLayAll0, PyData.depth, PyData.depthAll, h1]
theorem der_key {p : Pq} {x : Bool} {s : Mo × Rat} (h : s ∈ derR p x) : ∃ t ∈ p, ∃ y ∈ t.1, s.1 = dMo t.1 y.1 x := by
  obtain ⟨t, ht, hs⟩ := List.mem_flatMap.mp h
  obtain ⟨y, hy, rfl⟩ := List.mem_map.mp hs
  exact ⟨t, ht, y, hy, rfl⟩
theorem derP_key {p : Pq} {x : Bool} {s : Mo × Rat} (h : s ∈ derP p x) : ∃ t ∈ p, ∃ y ∈ t.1, s.1 = dMo t.1 y.1 x := by
  obtain ⟨z, hz, e⟩ := List.mem_map.mp (cf_key h)
  obtain ⟨t, ht, y, hy, e2⟩ := der_key hz
  exact ⟨t, ht, y, hy, by rw [← e2]; exact e.symm⟩
theorem dMo_key {m : Mo} {u : Dv} {x : Bool} {z : Dv × Int} (h : z ∈ dMo m u x) : (∃ y ∈ m, y.1 = z.1) ∨ z.1 = u ∨ z.1 = upD u x := by
  obtain ⟨y, hy, e⟩ := List.mem_map.mp (cf_key h)
  rcases List.mem_append.mp hy with hy | hy
  · exact .inl ⟨y, hy, e⟩
  · simp only [List.mem_cons, List.not_mem_nil, or_false] at hy
    rcases hy with rfl | rfl
    · exact .inr (.inl e.symm)
    · exact .inr (.inr e.symm)
theorem Bd.der {D N g l : Nat} {p : Pq} (h : Bd D N g l p) (x : Bool) : Bd D (N * g) (g + 2) (l * g) (derP p x) := by
  refine ⟨poc_der h.c x, (lim_derR h.lm x h.dg).cf, fun s hs => ?_, ?_, fun s hs z hz => ?_⟩
  · obtain ⟨t, ht, y, hy, e⟩ := derP_key hs
    rw [e]
    have h1 := dg_cf (t.1 ++ [(y.1, -1), (upD y.1 x, 1)])
    rw [dg_app, dg_cons, dg_cons] at h1
    have h2 := h.dg t ht
    have h3 : Nd.dg ([] : Mo) = 0 := rfl
    show Nd.dg (cf _) ≤ _
    have h4 : ((y.1, (-1 : Int)) : Dv × Int).2.natAbs = 1 := rfl
    have h5 : ((upD y.1 x, (1 : Int)) : Dv × Int).2.natAbs = 1 := rfl
    omega
  · refine Nat.le_trans (cf_len _) (Nat.le_trans (len_flat (n := g) fun t ht => ?_) (Nat.mul_le_mul_right g h.ln))
    unfold derT
    rw [List.length_map]
    exact h.len ht
  · obtain ⟨t, ht, y, hy, e⟩ := derP_key hs
    rw [e] at hz
    rcases dMo_key hz with ⟨v, hv, e2⟩ | e2 | e2
    · rw [← e2]
      exact h.sh t ht v hv
    · rw [e2]
      exact h.sh t ht y hy
    · rw [e2]
      exact sh_upD (h.sh t ht y hy) x
def NnP (p : Pq) : Prop := ∀ t ∈ p, ∀ y ∈ t.1, 0 ≤ y.1.i + y.1.j
theorem NnP.der {p : Pq} (h : NnP p) (x : Bool) : NnP (derP p x) := fun s hs z hz => by
  obtain ⟨t, ht, y, hy, e⟩ := derP_key hs
  rw [e] at hz
  rcases dMo_key hz with ⟨v, hv, e2⟩ | e2 | e2
  · rw [← e2]
    exact h t ht v hv
  · rw [e2]
    exact h t ht y hy
  · rw [e2]
    have := h t ht y hy
    cases x
    · show 0 ≤ y.1.i + (y.1.j + 1)
      omega
    · show 0 ≤ y.1.i + 1 + y.1.j
      omega
theorem LP.nn {r : Rk} {p : Pq} {n : Nat} (h : LP r n p) : NnP p := fun t ht y hy => by
  have := h.of t ht y hy
  have := this.i
  have := (h.of t ht y hy).j
  omega
theorem derR_bd {D N g l : Nat} {p : Pq} (h : Bd D N g l p) (x : Bool) : (derR p x).length ≤ l * g := by
  refine Nat.le_trans (len_flat (n := g) fun t ht => ?_) (Nat.mul_le_mul_right g h.ln)
  unfold derT
  rw [List.length_map]
  exact h.len ht
theorem rd_bd {K : PySem.W.Frag} {D N g l : Nat} {p : Pq} (h : Bd D N g l p) (x : Bool) (b1 : LimB D N) (b2 : LimB D (N * g)) (hg : g ≤ 1000) (hl : l * g ≤ 90000) : Rder1 K [poP K (toPo p), IsV (.str (axS x))] (poP K (toPo (derP p x))) :=
  ⟨D, N, g, p, x, b1, b2, h.lm, fun t ht => ⟨h.c.m t ht, h.dg t ht, Nat.le_trans (h.len ht) hg⟩, by omega, Nat.le_trans (derR_bd h x) hl, rfl, rfl⟩
theorem rld_bd {K : PySem.W.Frag} {D N g l : Nat} {p : Pq} (h : Bd D N g l p) (x : Bool) (d : 0 < D) (a1 : D < 2 ^ 1000) (a2 : N < 2 ^ 1000) (a3 : N * g < 2 ^ 1000) (hg : g ≤ 1000) (hl : l * g ≤ 40000) : Rlder K [poP K (toPo p), IsV (.str (axS x))] (fpP K (derP p x)) :=
  ⟨D, N, g, p, x, d, a1, a2, a3, hg, h.lm, fun t ht => ⟨h.c.m t ht, h.dg t ht, Nat.le_trans (h.len ht) hg⟩, Nat.le_trans (derR_bd h x) hl, rfl, rfl⟩
theorem len_flatA {α β : Type} {n : Nat} {f : α → List β} : ∀ {l : List α}, (∀ a ∈ l, (f a).length ≤ n) → (l.flatMap f).length ≤ l.length * n
  | [], _ => Nat.zero_le _
  | a :: l, h => by
    rw [List.flatMap_cons, List.length_append, List.length_cons, Nat.add_mul, Nat.one_mul, Nat.add_comm]
    exact Nat.add_le_add (len_flatA fun b hb => h b (List.mem_cons_of_mem _ hb)) (h a List.mem_cons_self)
theorem dvs_bd {D N g l : Nat} {p : Pq} (h : Bd D N g l p) : (dvs (toPo p)).length ≤ l * g := by
  rw [← prs_dvs, List.length_map]
  unfold prs
  exact Nat.le_trans (len_flatA (n := g) fun t ht => h.len ht) (Nat.mul_le_mul_right g h.ln)
theorem told_ok {K : PySem.W.Frag} {D N g l : Nat} {p : Pq} (h : Bd D N g l p) (hn : NnP p) (hl : l * g ≤ 60) (hl2 : l ≤ 1000) : Rtold K [poP K (toPo p)] (IsV (.bl true)) :=
  ⟨p, h.c, h.sh, hn, Nat.le_trans (dvs_bd h) hl, Nat.le_trans h.ln hl2, rfl, rfl⟩
/-! ### values where nothing is given -/
theorem rp_nul : ∀ {k : Nat}, 0 < k → rp 0 k = 0
  | k + 1, _ => Rat.mul_zero _
theorem mvl_nul {f : Dv → Rat} : ∀ (m : Mo), mvl f 0 m = 0
  | [] => rfl
  | y :: m => by
    show mvl f (0 * rp (f y.1) y.2.toNat) m = 0
    rw [Rat.zero_mul]
    exact mvl_nul m
theorem mvl_emp {m : Mo} (hm : MoC m) (c : Rat) : mvl (fOf []) c m = if m = [] then c else 0 := by
  cases m with
  | nil => rw [if_pos rfl]; rfl
  | cons y m =>
    rw [if_neg (by simp)]
    have := hm.p y List.mem_cons_self
    show mvl (fOf []) (c * rp 0 y.2.toNat) m = 0
    rw [rp_nul (by omega), Rat.mul_zero]
    exact mvl_nul m
theorem pvl_cons (f : Dv → Rat) (t : Mo × Rat) (p : Pq) : pvl f (t :: p) = mvl f t.2 t.1 + pvl f p := by
  have key : ∀ (p : Pq) (a : Rat), p.foldl (fun v t => v + mvl f t.2 t.1) a = a + pvl f p := by
    intro p
    induction p with
    | nil => exact fun a => (Rat.add_zero a).symm
    | cons s p ih =>
      intro a
      rw [List.foldl_cons, ih]
      show _ = a + p.foldl (fun v t => v + mvl f t.2 t.1) (0 + mvl f s.2 s.1)
      rw [ih, Rat.zero_add, Rat.add_assoc]
  show p.foldl (fun v t => v + mvl f t.2 t.1) (0 + mvl f t.2 t.1) = _
  rw [key, Rat.zero_add]
theorem pvl_emp {p : Pq} (h : PoC p) : pvl (fOf []) p = numP p := by
  cases p with
  | nil => rfl
  | cons t p =>
    have hup := List.pairwise_cons.mp h.c.up
    have rest : ∀ q : Pq, (∀ s ∈ q, MoC s.1 ∧ s.1 ≠ []) → pvl (fOf []) q = 0 := by
      intro q
      induction q with
      | nil => exact fun _ => rfl
      | cons s q ih =>
        intro hq
        obtain ⟨a, b⟩ := hq s List.mem_cons_self
        rw [pvl_cons, mvl_emp a, if_neg b, ih fun x hx => hq x (List.mem_cons_of_mem _ hx)]
        exact Rat.add_zero 0
    rw [pvl_cons, mvl_emp (h.m t List.mem_cons_self), rest p fun s hs => ⟨h.m s (List.mem_cons_of_mem _ hs), fun e => by
      have := hup.1 s hs
      rw [e, lt_mo0] at this
      cases this⟩]
    exact Rat.add_zero _
/-! ### sums and multiples, of the law's sizes -/
theorem radd_ok {K : PySem.W.Frag} {p q : Pq} {c : Rat} {f : List Pr → Pr} (hp : LB p) (hq : LB q) (hc : c = 1 ∨ c = -1) : Radd0 K f [fpP K p, f (pqL K q), rtP K c] (fpP K (addP p (scP q c))) := by
  have l1 : Lim 6 240 (p ++ scP q c) := by
    rcases hc with rfl | rfl
    · rw [sc_one]
      exact hp.lm.app hq.lm
    · exact lim_neg (hp.lm.app hq.lm)
  have lp := hp.ln
  have lq := hq.ln
  refine ⟨6, 240, p, q, c, by decide, lt_k (by decide), lt_k (by decide), l1, fun t ht => ?_, ?_, hp.nd, by omega, rfl, rfl⟩
  · exact sm1_of (by decide) (lt_k (by decide)) (lt_k (by decide)) (hq.lm.at ht)
  · rcases hc with rfl | rfl
    · exact ⟨Nat.one_lt_two_pow (by decide), Nat.one_lt_two_pow (by decide)⟩
    · exact ⟨Nat.one_lt_two_pow (by decide), Nat.one_lt_two_pow (by decide)⟩
theorem Bd.sc {D N g l : Nat} {p : Pq} (h : Bd D N g l p) {r : Rat} (hr : NumOk r) : Bd (D * 6) (N * 30) g l (scP p r) := by
  refine ⟨poc_sc h.c hr.1, (lim_sc h.lm hr.2.1).le (Nat.mul_le_mul_left _ hr.2.2), fun t ht => ?_, ?_, fun t ht y hy => ?_⟩
  · obtain ⟨s, hs, rfl⟩ := List.mem_map.mp ht
    exact h.dg s hs
  · unfold scP
    rw [List.length_map]
    exact h.ln
  · obtain ⟨s, hs, rfl⟩ := List.mem_map.mp ht
    exact h.sh s hs y hy
theorem sc_add {p : Pq} {r : Rat} (h : PoC p) (hr : r ≠ 0) : addP [] (scP p r) = scP p r := by
  unfold addP
  exact cf_cn (poc_sc h hr).c
theorem rsc_ok {K : PySem.W.Frag} {p : Pq} {r : Rat} (hp : LB p) (hr : NumOk r) : Rscaled K [poP K (toPo p), rtP K r] (poP K (toPo (scP p r))) :=
  ⟨p, r, fun t ht => (qw_co hp ht).sm (by decide), (qw_num hr).sm (by decide), Nat.le_trans hp.ln (by decide), rfl, by rw [if_neg hr.1]⟩
theorem rsca_ok {K : PySem.W.Frag} {p : Pq} {r : Rat} {f : List Pr → Pr} (hp : LB p) (hr : NumOk r) : Radd0 K f [fpP K [], f (pqL K p), rtP K r] (fpP K (scP p r)) := by
  have b := hp.sc hr
  refine ⟨6 * 6, 120 * 30, [], p, r, by decide, lt_k (by decide), lt_k (by decide), b.lm, fun t ht => ?_, ?_, List.nodup_nil, ?_, rfl, by rw [sc_add hp.c hr.1]⟩
  · exact sm1_of (by decide) (lt_k (by decide)) (lt_k (by decide)) (hp.lm.at ht)
  · exact sm1_of (D := 6) (N := 30) (by decide) (lt_k (by decide)) (lt_k (by decide)) ⟨hr.2.1, hr.2.2⟩
  · have := hp.ln
    show 0 + _ ≤ _
    omega
end Nd
namespace K12
set_option autoImplicit false
open PySem PySem.Spec PySem.W PyProof.Rows L2 Evl My Nd LamX NdefX
section
variable {T : List (Addr × Str)} {d : Addr} {n : Nat} {B H : Hp} {K : PySem.W.Frag} {Q : VK}
theorem x_pickP {ps : List Pr} {ta : TA} {σ : L2.St} {i : Nat} {z : Int} {Q : VK} (k : Kx T d n B H) (hl : EvPs ta σ B ps) (hi : σ[i]? = some (some (.ref d))) (hz : z = (ps.length : Nat)) (h0 : 0 < ps.length) (h1 : ps.length < 1000) (hn : n ≤ 2 ^ 38)
    (q : ∀ (j : Nat) p v B' H', ps[j]? = some p → Kx T d (n + 4) B' H' → GX d B H B' H' → p.P v B' → Q v H') : tOp (rIxL K) (tLst ta) (tCall spDigit [] E0 (tCons (tVar i) (tCons (tC (.int z)) tNil))) σ H Q := by
  subst hz
  refine p_lst hl (by omega) H k.e _ fun v B1 H1 g hv => ?_
  refine x_digit (k.gr g) hi ev_c (by omega) (by omega) (by omega) fun m H2 m0 m1 k2 g2 => ?_
  obtain ⟨l, xs, rfl, hx, al⟩ := hv
  obtain ⟨j, p, w, hj, rfl, hp, hat, hw⟩ := pick al m0 m1
  exact ⟨l, xs, _, _, rfl, rfl, sq_of (k2.e _ _ hx), hat, q j p w B1 H2 hp k2 ((GX.gr g).trans g2) hw⟩
theorem x_at {ps : List Pr} {v : V} {m : Int} (e : Ex B H) (hv : (LsP ps).P v B) (m0 : 0 ≤ m) (m1 : m < ps.length) (q : ∀ (j : Nat) p w, ps[j]? = some p → p.P w B → Q w H) : rIxL K v (.int m) H Q := by
  obtain ⟨l, xs, rfl, hx, al⟩ := hv
  obtain ⟨j, p, w, hj, rfl, hp, hat, hw⟩ := pick al m0 m1
  exact ⟨l, xs, _, _, rfl, rfl, sq_of (e _ _ hx), hat, q j p w hp hw⟩
end
theorem b_par {i j : Nat} {t : TA} {D : Ends} {σ : L2.St} {H : Hp} (h : t σ H fun vs H1 => ∃ v w, vs = [v, w] ∧ D.nx ((σ.set i (some v)).set j (some w)) H1) : tPar i j t D σ H := h
theorem c_call {sp : Sp} {t : TA} {σ : L2.St} {H : Hp} {Q : VK} (h : t σ H fun vs H1 => sp (vs ++ []) H1 Q E0) : tCall sp [] E0 t σ H Q := h
theorem b_c {v : V} {σ : L2.St} {H : Hp} {Q : VK} (h : Q v H) : tC v σ H Q := h
theorem b_nil {σ : L2.St} {H : Hp} {Q : List V → Hp → Prop} (h : Q [] H) : tNil σ H Q := h
theorem b_lst {tx : TA} {σ : L2.St} {H : Hp} {Q : VK} (h : tx σ H fun xs H1 => xs.length ≤ sizeLine ∧ ∀ p, H1 p = none → Q (.ref p) (upd H1 p (.lst xs))) : tLst tx σ H Q := h
theorem p_du0 {σ : L2.St} {B : Hp} : EvP (tTup (tCons (tC (.str "u")) (tCons (tC (.int 0)) (tCons (tC (.int 0)) tNil)))) σ B (DvP ⟨"u", 0, 0⟩) := fun H1 e Q k => by
  refine ⟨by show 3 ≤ sizeLine; decide, fun p hp => ?_⟩
  exact k _ _ _ (Gr.new (.tup [.str "u", .int 0, .int 0]) e hp) ⟨p, rfl, upd_same⟩
theorem b_ifNotB {te : TE} {t u : TS} {D : Ends} {σ : L2.St} {H : Hp} (h : te σ H fun v H1 => ∃ b, v = V.bl b ∧ (if (!b) = true then t D σ H1 else u D σ H1)) : tIfS (tNot (tB te)) t u D σ H := h
/-- {} as it is known -/
theorem p_dnew {κ β : Type} [DecidableEq κ] {P : Program} {w : World} {K : PySem.W.Frag} {ky : Ky K κ} {vp : β → Pr} {σ : L2.St} {B : Hp} : EvP (tDNewN P w) σ B (DcP P w ky vp []) := fun H1 e Q k p hp =>
  k _ _ _ (Gr.new (B := B) (DN P w p []) e hp (fun _ => dn_tbl)) ⟨p, [], B, rfl, upd_same, fresh_back e hp, Ex.new (fresh_back e hp), trivial⟩
theorem b_slc {r : V → Option Int → Option Int → Hp → VK → Prop} {te tb : TE} {σ : L2.St} {H : Hp} {Q : VK} (h : te σ H fun x H1 => tb σ H1 fun y H2 => ∃ i, y = .int i ∧ r x none (some i) H2 Q) : tSl r te tNoPart (tPart tb) σ H Q := h
theorem b_nput {P : Program} {w : World} {K : PySem.W.Frag} {td ty tv : TE} {D : Ends} {σ : L2.St} {H : Hp} (h : tv σ H fun v H1 => td σ H1 fun x H2 => ty σ H2 fun y H3 => ∃ (d a : Addr) (xs : List NV) (k : NestedKey), x = .ref d ∧ y = .ref a ∧ H3 d = some (DN P w d xs) ∧ KeysOk K H3 xs ∧ KeyAt K H3 a k ∧ xs.length < 100000 ∧ D.nx σ (upd H3 d (DN P w d (putN xs k a v)))) : sNPut P w K td ty tv D σ H := h
theorem key_poD (p : Po) : keyish (poD p) = true := by
  have all : ∀ {l : List PyData}, (∀ d ∈ l, keyish d = true) → keyishAll l = true := by
    intro l
    induction l with
    | nil => exact fun _ => rfl
    | cons d l ih =>
      intro h
      show (keyish d && keyishAll l) = true
      rw [h d List.mem_cons_self, ih fun e he => h e (List.mem_cons_of_mem _ he)]
      rfl
  show keyishAll (p.map tmD) = true
  refine all fun d hd => ?_
  obtain ⟨t, _, rfl⟩ := List.mem_map.mp hd
  show (keyish (moD t.1) && (keyish (frD t.2) && true)) = true
  rw [keyish_mo]
  rfl
def keptD (K : PySem.W.Frag) (p q : Pq) (zs : List (Dv × Rat)) : PyData := .list [poD (toPo p), poD (toPo q), dcD (kyD K) (fun r => frD (fr r)) zs]
theorem shw_kept {K : PySem.W.Frag} {r : Rk} {p q : Pq} {zs : List (Dv × Rat)} (hok : r.Ok) (hp : PS r p) (hq : PS r q) (lp : p.length ≤ 4) (lq : q.length ≤ 4) (hz : ∀ z ∈ zs, NumOk z.2 ∧ z.1.Of r ∧ z.1.i + z.1.j ≤ 3) (hl : zs.length ≤ 4) : Shw (keptD K p q zs) 1000000 60 := by
  have d3 : Shw (dcD (kyD K) (fun r => frD (fr r)) zs) 50000 10 := by
    have l0 : ((zs.map fun z => (kyD K).kd z.1).zip (zs.map fun z => frD (fr z.2))).length = zs.length := by
      rw [List.length_zip, List.length_map, List.length_map]
      exact Nat.min_self _
    have := shw_dict (kvs := (zs.map fun z => (kyD K).kd z.1).zip (zs.map fun z => frD (fr z.2))) (n := 300) (k := 1) fun y hy => by
      rw [List.zip_map', List.mem_map] at hy
      obtain ⟨z, h, rfl⟩ := hy
      obtain ⟨h1, h2, h3⟩ := hz z h
      have i0 := h2.i
      have j0 := h2.j
      obtain ⟨q1, q2⟩ := ab_small (by decide) h1.2.1
      have h30 := h1.2.2
      exact ⟨shw_dv hok h2 (by omega) (by omega), (shw_fr (show z.2.num.natAbs < 1000 by omega) (show z.2.den < 1000 by omega)).le (by decide) (by decide)⟩
    rw [l0] at this
    exact this.le (by omega) (by decide)
  have := shw_lst (ds := [poD (toPo p), poD (toPo q), dcD (kyD K) (fun r => frD (fr r)) zs]) (n := 50000) (k := 10) fun d hd => by
    simp only [List.mem_cons, List.not_mem_nil, or_false] at hd
    rcases hd with rfl | rfl | rfl
    · exact shw_p4 hok hp lp
    · exact shw_p4 hok hq lq
    · exact d3
  exact this.le (by show 3 * (50000 + 2) + 3 ≤ 1000000; decide) (by decide)
theorem ev_kept {P : Program} {w : World} {K : PySem.W.Frag} {σ : L2.St} {B : Hp} {v6 v7 v13 : V} {p q : Pq} {zs : List (Dv × Rat)} (h6 : σ[6]? = some (some v6)) (h7 : σ[7]? = some (some v7)) (h13 : σ[13]? = some (some v13)) (hp : (fpP K p).P v6 B) (hq : (fpP K q).P v7 B) (hz : (DcP P w (kyD K) (rtP K) zs).P v13 B) (s : Shw (keptD K p q zs) 1000000 60) :
    Ev (tCB (rReprX P w K) (tCons (tLstS (tCons (tVar 6) (tCons (tVar 7) (tCons (tVar 13) tNil)))) tNil)) σ B (.str (keptD K p q zs).shown) := fun H1 e Q k => by
  refine ⟨v6, h6, v7, h7, v13, h13, by show 3 ≤ sizeLine; decide, fun l hl n1 => ?_⟩
  have e2 : Ex H1 (upd H1 l (.lst [v6, v7, v13])) := Ex.new hl
  have eB := e.trans e2
  refine ⟨l, keptD K p q zs, rfl, .lst n1 upd_same (.cons (.dp (dp_m eB (to_po _ _ _ (fp_po hp))) (key_poD _)) (.cons (.dp (dp_m eB (to_po _ _ _ (fp_po hq))) (key_poD _)) (.cons (dc_dx (fun f => to_fr _) (fun f => rfl) hz eB) .nil))), s.s, s.d, s.l, k _ e2⟩
theorem der_n0 {K : PySem.W.Frag} {p : Pq} {x : Bool} : Rder K [poP K (toPo p), IsV (.str (axS x)), IsV (.int 0)] (poP K (toPo p)) := ⟨fun _ => poP K (toPo p), _, 0, by decide, rfl, fun i h => absurd h (Nat.not_lt_zero i), rfl⟩
theorem der_n1 {K : PySem.W.Frag} {p : Pq} {x : Bool} (h : Rder1 K [poP K (toPo p), IsV (.str (axS x))] (poP K (toPo (derP p x)))) : Rder K [poP K (toPo p), IsV (.str (axS x)), IsV (.int 1)] (poP K (toPo (derP p x))) :=
  ⟨fun i => if i = 0 then poP K (toPo p) else poP K (toPo (derP p x)), _, 1, by decide, rfl, fun i hi => by
    obtain rfl : i = 0 := by omega
    exact h, rfl⟩
theorem der_n2 {K : PySem.W.Frag} {p : Pq} {x : Bool} (h : Rder1 K [poP K (toPo p), IsV (.str (axS x))] (poP K (toPo (derP p x)))) (h2 : Rder1 K [poP K (toPo (derP p x)), IsV (.str (axS x))] (poP K (toPo (derP (derP p x) x)))) : Rder K [poP K (toPo p), IsV (.str (axS x)), IsV (.int 2)] (poP K (toPo (derP (derP p x) x))) :=
  ⟨fun i => if i = 0 then poP K (toPo p) else if i = 1 then poP K (toPo (derP p x)) else poP K (toPo (derP (derP p x) x)), _, 2, by decide, rfl, fun i hi => by
    rcases (by omega : i = 0 ∨ i = 1) with rfl | rfl
    · exact h
    · exact h2, rfl⟩
theorem put_sh {u : Dv} {p o : Pq} (hp : LB p) (ho : LB o) : ShP (putP u p o) := fun s hs => by
  obtain ⟨z, hz, e⟩ := List.mem_map.mp (cf_key hs)
  obtain ⟨t, ht, hz⟩ := List.mem_flatMap.mp hz
  rw [← e]
  exact (mulN_bd ho (hp.one ht u) _).sh z hz
def spLaw (K : PySem.W.Frag) (T : List (Addr × Str)) : Sp := fun vs H Q _ => ∃ (a : Addr) (ns : List Int), vs = [.ref a] ∧ SqL K H a (ns.map V.int) ∧ ns.length ≤ 63 ∧ Tabs T H ∧ ∀ H', Q (.bl true) H'
section
variable {P : Program} {w : World} {K : PySem.W.Frag} {mg : Str → Option Value} {base : Heap} {T : List (Addr × Str)}

/-- law -/
abbrev s_law : Stmt := topS 49
abbrev N_law : List Str := ["_law_script", "_law_k", "_law_cell", "_law_state", "_law_axes", "_law_names", "_law_one", "_law_other", "_law_number_here", "_law_axis", "_law_spot", "_law_far", "_law_spots", "_law_numbers", "_law_turn", "_law_kept"]
theorem sc_law : FnScope N_law ["_law_script"] (defScope s_law) := ⟨rfl, rfl, rfl, by decide +kernel, rfl, by decide +kernel, by decide +kernel⟩
theorem ok_law {f : Addr} {fd : FuncData} (F : Fun K "law" "law" s_law f fd) {f_LaddedT : Addr} {d_LaddedT : FuncData} (c_LaddedT : Cal P w K mg base "_law_added" 2 ["_law_one", "_law_other", "_law_number_here"] (spP (RaddT K)) f_LaddedT d_LaddedT) {f_Ldraw : Addr} {d_Ldraw : FuncData} (c_Ldraw : Cal P w K mg base "_law_draw" 1 ["_law_cell", "_law_k"] spDraw f_Ldraw d_Ldraw) {f_Ldigit : Addr} {d_Ldigit : FuncData} (c_Ldigit : Cal P w K mg base "_law_digit" 2 ["_law_state", "_law_size"] spDigit f_Ldigit d_Ldigit) {f_Lpoly : Addr} {d_Lpoly : FuncData} (c_Lpoly : Cal P w K mg base "_law_poly" 4 ["_law_state", "_law_names", "_law_axes", "_law_size", "_law_high"] (spPoly K []) f_Lpoly d_Lpoly) {f_Lnumber : Addr} {d_Lnumber : FuncData} (c_Lnumber : Cal P w K mg base "_law_number" 3 ["_law_state"] (spNum K []) f_Lnumber d_Lnumber) {f_Lderivative : Addr} {d_Lderivative : FuncData} (c_Lderivative : Cal P w K mg base "_law_derivative" 3 ["_law_state", "_law_names", "_law_axes", "_law_high"] spDer f_Lderivative d_Lderivative) {f_plus : Addr} {d_plus : FuncData} (c_plus : Cal P w K mg base "plus" 4 ["one", "other"] (spP (Rplus K)) f_plus d_plus) {f_less : Addr} {d_less : FuncData} (c_less : Cal P w K mg base "less" 5 ["one", "other"] (spP (Rless K)) f_less d_less) {f_times : Addr} {d_times : FuncData} (c_times : Cal P w K mg base "times" 3 ["one", "other"] (spP (Rtimes K)) f_times d_times) {f_Ltimes : Addr} {d_Ltimes : FuncData} (c_Ltimes : Cal P w K mg base "_law_times" 3 ["_law_one", "_law_other"] (spP (Rltimes K)) f_Ltimes d_Ltimes) {f_scaled : Addr} {d_scaled : FuncData} (c_scaled : Cal P w K mg base "scaled" 2 ["one", "number"] (spP (Rscaled K)) f_scaled d_scaled) {f_Lplain_right : Addr} {d_Lplain_right : FuncData} (c_Lplain_right : Cal P w K mg base "_law_plain_right" 6 ["_law_one", "_law_other"] (spP (Rplain K)) f_Lplain_right d_Lplain_right) {f_Lderived : Addr} {d_Lderived : FuncData} (c_Lderived : Cal P w K mg base "_law_derived" 3 ["_law_one", "_law_axis"] (spP (Rlder K)) f_Lderived d_Lderived) {f_derivatives_in : Addr} {d_derivatives_in : FuncData} (c_derivatives_in : Cal P w K mg base "derivatives_in" 1 ["one"] (spP (Rdin K)) f_derivatives_in d_derivatives_in) {f_put_into : Addr} {d_put_into : FuncData} (c_put_into : Cal P w K mg base "put_into" 5 ["one", "derivative", "other"] (spP (Rputi K)) f_put_into d_put_into) {f_Lput : Addr} {d_Lput : FuncData} (c_Lput : Cal P w K mg base "_law_put" 4 ["_law_one", "_law_derivative_here", "_law_other"] (spP (Rlput K)) f_Lput d_Lput) {f_value_of : Addr} {d_value_of : FuncData} (c_value_of : Cal P w K mg base "value_of" 3 ["one", "numbers"] (spP (Rval P w K)) f_value_of d_value_of) {f_Lvalue : Addr} {d_Lvalue : FuncData} (c_Lvalue : Cal P w K mg base "_law_value" 2 ["_law_one", "_law_numbers"] (spP (Rlval P w K)) f_Lvalue d_Lvalue) {f_number_in : Addr} {d_number_in : FuncData} (c_number_in : Cal P w K mg base "number_in" 1 ["one"] (spP (Rnin K)) f_number_in d_number_in) (n_enumerate : mg "enumerate" = none) (n_sum : mg "sum" = none) (n_repr : mg "repr" = none) (n_range : mg "range" = none) (n_list : mg "list" = none) (n_len : mg "len" = none) {f_Lmade_right : Addr} {d_Lmade_right : FuncData} (c_Lmade_right : Gd.CalG P w K mg base "_law_made_right" 5 ["_law_spot", "_law_number_here", "_law_wide"] (spP (Rmade K)) f_Lmade_right d_Lmade_right) {f_Ltold_right : Addr} {d_Ltold_right : FuncData} (c_Ltold_right : Gd.CalG P w K mg base "_law_told_right" 3 ["_law_one"] (spP (Rtold K)) f_Ltold_right d_Ltold_right) {f_of_derivative : Addr} {d_of_derivative : FuncData} (G_of_derivative : FnOk P w K mg base CX0 2 f_of_derivative d_of_derivative ["derivative", "power"] (spP (Rofd K))) (m_of_derivative : mg "of_derivative" = some (.ref f_of_derivative)) (k_of_derivative : PySem.W.keepIn K (.ref f_of_derivative) = true) {ds_of_derivative : List Value} (b_of_derivative : Binds K d_of_derivative ["derivative", "power"] ds_of_derivative) (v_of_derivative : Vals [V.int 1] ds_of_derivative) (kb_ofd : KBn K d_of_derivative ["derivative", "power"] 1 ["power"] Gd.gKu Gd.gKs) {f_derived : Addr} {d_derived : FuncData} (G_derived : FnOk P w K mg base CX0 4 f_derived d_derived ["one", "axis", "many"] (spP (Rder K))) (m_derived : mg "derived" = some (.ref f_derived)) (k_derived : PySem.W.keepIn K (.ref f_derived) = true) {ds_derived : List Value} (b_derived : Binds K d_derived ["one", "axis", "many"] ds_derived) (v_derived : Vals [V.int 1] ds_derived) (kb_der : KBn K d_derived ["one", "axis", "many"] 2 ["many"] Gd.gKu Gd.gKs) :
    Gd.FnG P w K mg base 8 f fd ["_law_script"] (spLaw K []) := by
  refine Gd.okG F sc_law (fun vs H Q E h => by obtain ⟨a, ns, rfl, _⟩ := h; rfl) (fun cdv A outer s H vs Q E hr hG h => ?_)
  obtain ⟨a, ns, rfl, hS, hlen, _, q⟩ := h
  have hu := hu_of hr
  refine ⟨_, (pss_cons (ps_for PassesOwn.never rfl (pi_enum (by rfl) n_enumerate (pa_cons (pe_op op_cat (pe_slice sl_list (pv 0) po_none (po_some pe_int)) (pe_lst (pa_cons (pe_callB (cr_sum rfl) (by rfl) n_sum (by decide +kernel) (pa_cons (pv 0) pa_nil)) pa_nil))) pa_nil)) (pg_tup (by rfl) (pgs_cons (pg_name (i := 1) sc_law.nd rfl (by first | exact .inl rfl | exact .inr rfl)) (pgs_cons (pg_name (i := 2) sc_law.nd rfl (by first | exact .inl rfl | exact .inr rfl)) pgs_nil)))
      (pss_cons (ps_set (i := 3) sc_law.nd rfl (by first | exact .inl rfl | exact .inr rfl) (pe_call c_Ldraw.G (hr.mono (by decide)) (by rfl) c_Ldraw.m c_Ldraw.k c_Ldraw.b .nil pass0 (pa_cons (pv 2) (pa_cons (pv 1) pa_nil))))
    (pss_cons (ps_par (i := 4) (j := 5) rfl sc_law.nd rfl rfl (by decide) rfl rfl (pa_cons (pe_op op_add pe_int (pe_call c_Ldigit.G (hr.mono (by decide)) (by rfl) c_Ldigit.m c_Ldigit.k c_Ldigit.b .nil pass0 (pa_cons (pv 3) (pa_cons pe_int pa_nil)))) (pa_cons (pe_slice sl_list (pe_lst (pa_cons pe_str (pa_cons pe_str (pa_cons pe_str pa_nil)))) po_none (po_some (pe_op op_add pe_int (pe_call c_Ldigit.G (hr.mono (by decide)) (by rfl) c_Ldigit.m c_Ldigit.k c_Ldigit.b .nil pass0 (pa_cons (pv 3) (pa_cons pe_int pa_nil)))))) pa_nil)) (by rfl))
    (pss_cons (ps_par (i := 6) (j := 7) rfl sc_law.nd rfl rfl (by decide) rfl rfl (pa_cons (pe_call c_Lpoly.G (hr.mono (by decide)) (by rfl) c_Lpoly.m c_Lpoly.k c_Lpoly.b .nil pass0 (pa_cons (pv 3) (pa_cons (pv 5) (pa_cons (pv 4) (pa_cons pe_int (pa_cons pe_int pa_nil)))))) (pa_cons (pe_call c_Lpoly.G (hr.mono (by decide)) (by rfl) c_Lpoly.m c_Lpoly.k c_Lpoly.b .nil pass0 (pa_cons (pv 3) (pa_cons (pv 5) (pa_cons (pv 4) (pa_cons pe_int (pa_cons pe_int pa_nil)))))) pa_nil)) (by rfl))
    (pss_cons (ps_par (i := 8) (j := 9) rfl sc_law.nd rfl rfl (by decide) rfl rfl (pa_cons (pe_call c_Lnumber.G (hr.mono (by decide)) (by rfl) c_Lnumber.m c_Lnumber.k c_Lnumber.b .nil pass0 (pa_cons (pv 3) pa_nil)) (pa_cons (pe_ix ix_list (pe_lst (pa_cons pe_str (pa_cons pe_str pa_nil))) (pe_call c_Ldigit.G (hr.mono (by decide)) (by rfl) c_Ldigit.m c_Ldigit.k c_Ldigit.b .nil pass0 (pa_cons (pv 3) (pa_cons pe_int pa_nil))) (fun _ _ => rfl)) pa_nil)) (by rfl))
    (pss_cons (ps_set (i := 10) sc_law.nd rfl (by first | exact .inl rfl | exact .inr rfl) (pe_call c_Lderivative.G (hr.mono (by decide)) (by rfl) c_Lderivative.m c_Lderivative.k c_Lderivative.b .nil pass0 (pa_cons (pv 3) (pa_cons (pv 5) (pa_cons (pv 4) (pa_cons pe_int pa_nil))))))
    (pss_cons (ps_if (pt_cmpR (show OpR _ (compareOp .NotEq) (rNeD K) from op_neD hr.units) (pe_call c_plus.G (hr.mono (by decide)) (by rfl) c_plus.m c_plus.k c_plus.b .nil pass0 (pa_cons (pv 6) (pa_cons (pv 7) pa_nil))) (pe_call c_LaddedT.G (hr.mono (by decide)) (by rfl) c_LaddedT.m c_LaddedT.k c_LaddedT.b .nil pass0 (pa_cons (pv 6) (pa_cons (pv 7) (pa_cons (pe_tup (pa_cons pe_int (pa_cons pe_int pa_nil))) pa_nil)))) (nomark _)) (pss_one (ps_ret pe_bl)) pss_nil)
    (pss_cons (ps_if (pt_cmpR (show OpR _ (compareOp .NotEq) (rNeD K) from op_neD hr.units) (pe_call c_less.G (hr.mono (by decide)) (by rfl) c_less.m c_less.k c_less.b .nil pass0 (pa_cons (pv 6) (pa_cons (pv 7) pa_nil))) (pe_call c_LaddedT.G (hr.mono (by decide)) (by rfl) c_LaddedT.m c_LaddedT.k c_LaddedT.b .nil pass0 (pa_cons (pv 6) (pa_cons (pv 7) (pa_cons (pe_tup (pa_cons (pe_un un_neg pe_int) (pa_cons pe_int pa_nil))) pa_nil)))) (nomark _)) (pss_one (ps_ret pe_bl)) pss_nil)
    (pss_cons (ps_if (PW.pt (pw_or (pt_cmpR (show OpR _ (compareOp .NotEq) (rNeD K) from op_neD hr.units) (pe_call c_times.G (hr.mono (by decide)) (by rfl) c_times.m c_times.k c_times.b .nil pass0 (pa_cons (pv 6) (pa_cons (pv 7) pa_nil))) (pe_call c_Ltimes.G (hr.mono (by decide)) (by rfl) c_Ltimes.m c_Ltimes.k c_Ltimes.b .nil pass0 (pa_cons (pv 6) (pa_cons (pv 7) pa_nil))) (nomark _)) (pw_or1 (pt_cmpR (show OpR _ (compareOp .NotEq) (rNeD K) from op_neD hr.units) (pe_call c_scaled.G (hr.mono (by decide)) (by rfl) c_scaled.m c_scaled.k c_scaled.b .nil pass0 (pa_cons (pv 6) (pa_cons (pv 8) pa_nil))) (pe_call c_LaddedT.G (hr.mono (by decide)) (by rfl) c_LaddedT.m c_LaddedT.k c_LaddedT.b .nil pass0 (pa_cons (pe_tupF pa_nil) (pa_cons (pv 6) (pa_cons (pv 8) pa_nil)))) (nomark _))))) (pss_one (ps_ret pe_bl)) pss_nil)
    (pss_cons (ps_if (pt_not (pt_val (pe_call c_Lplain_right.G (hr.mono (by decide)) (by rfl) c_Lplain_right.m c_Lplain_right.k c_Lplain_right.b .nil pass0 (pa_cons (pv 6) (pa_cons (pv 7) pa_nil))))) (pss_one (ps_ret pe_bl)) pss_nil)
    (pss_cons (ps_set (i := 11) sc_law.nd rfl (by first | exact .inl rfl | exact .inr rfl) (pe_call c_Lderived.G (hr.mono (by decide)) (by rfl) c_Lderived.m c_Lderived.k c_Lderived.b .nil pass0 (pa_cons (pv 6) (pa_cons (pv 9) pa_nil))))
    (pss_cons (ps_if (PW.pt (pw_or (pt_cmpR (show OpR _ (compareOp .NotEq) (rNeD K) from op_neD hr.units) (pe_call G_derived (hr.mono (by decide)) (by rfl) m_derived k_derived b_derived v_derived pass0 (pa_cons (pv 6) (pa_cons (pv 9) pa_nil))) (pv 11) (nomark _)) (pw_or1 (pt_cmpR (show OpR _ (compareOp .NotEq) (rNeD K) from op_neD hr.units) (pe_callN G_derived (hr.mono (by decide)) (by rfl) m_derived k_derived kb_der pass0 (pa_cons (pv 6) (pa_cons (pv 9) pa_nil)) (pk_cons pe_int pk_nil)) (pe_call c_Lderived.G (hr.mono (by decide)) (by rfl) c_Lderived.m c_Lderived.k c_Lderived.b .nil pass0 (pa_cons (pv 11) (pa_cons (pv 9) pa_nil))) (nomark _))))) (pss_one (ps_ret pe_bl)) pss_nil)
    (pss_cons (ps_set (i := 12) sc_law.nd rfl (by first | exact .inl rfl | exact .inr rfl) (pe_op op_cat (pe_lst (pa_cons (pv 10) pa_nil)) (pe_callTy call_list_of (by rfl) n_list (by decide +kernel) (pa_cons (pe_call c_derivatives_in.G (hr.mono (by decide)) (by rfl) c_derivatives_in.m c_derivatives_in.k c_derivatives_in.b .nil pass0 (pa_cons (pv 6) pa_nil)) pa_nil))))
    (pss_cons (ps_set (i := 10) sc_law.nd rfl (by first | exact .inl rfl | exact .inr rfl) (pe_ix ix_list (pv 12) (pe_call c_Ldigit.G (hr.mono (by decide)) (by rfl) c_Ldigit.m c_Ldigit.k c_Ldigit.b .nil pass0 (pa_cons (pv 3) (pa_cons (pe_callB call_len_seq (by rfl) n_len (by decide +kernel) (pa_cons (pv 12) pa_nil)) pa_nil))) (fun _ _ => rfl)))
    (pss_cons (ps_if (PW.pt (pw_or (pt_cmpR (show OpR _ (compareOp .NotEq) (rNeD K) from op_neD hr.units) (pe_callN G_derived (hr.mono (by decide)) (by rfl) m_derived k_derived kb_der pass0 (pa_cons (pv 6) (pa_cons (pv 9) pa_nil)) (pk_cons pe_int pk_nil)) (pv 6) (nomark _)) (pw_or1 (pt_cmpR (show OpR _ (compareOp .NotEq) (rNeD K) from op_neD hr.units) (pe_call c_put_into.G (hr.mono (by decide)) (by rfl) c_put_into.m c_put_into.k c_put_into.b .nil pass0 (pa_cons (pv 6) (pa_cons (pv 10) (pa_cons (pv 7) pa_nil)))) (pe_call c_Lput.G (hr.mono (by decide)) (by rfl) c_Lput.m c_Lput.k c_Lput.b .nil pass0 (pa_cons (pv 6) (pa_cons (pv 10) (pa_cons (pv 7) pa_nil)))) (nomark _))))) (pss_one (ps_ret pe_bl)) pss_nil)
    (pss_cons (ps_set (i := 13) sc_law.nd rfl (by first | exact .inl rfl | exact .inr rfl) pe_dnewN)
    (pss_cons (ps_for PassesOwn.never rfl (pi_range1 (by rfl) n_range (pa_cons pe_int pa_nil)) (pg_name (i := 14) sc_law.nd rfl (by first | exact .inl rfl | exact .inr rfl))
      (pss_one (ps_dputN (by have h := hr.un; show (A.deeper _).units + 9 < cLine; omega) (pv 13) (pe_ix ix_list (pv 12) (pe_call c_Ldigit.G (hr.mono (by decide)) (by rfl) c_Ldigit.m c_Ldigit.k c_Ldigit.b .nil pass0 (pa_cons (pv 3) (pa_cons (pe_callB call_len_seq (by rfl) n_len (by decide +kernel) (pa_cons (pv 12) pa_nil)) pa_nil))) (fun _ _ => rfl)) (pe_call c_Lnumber.G (hr.mono (by decide)) (by rfl) c_Lnumber.m c_Lnumber.k c_Lnumber.b .nil pass0 (pa_cons (pv 3) pa_nil)) rfl)))
    (pss_cons (ps_set (i := 15) sc_law.nd rfl (by first | exact .inl rfl | exact .inr rfl) (pe_callB (call_reprX hG hr.units) (by rfl) n_repr (by decide +kernel) (pa_cons (pe_lstS (pa_cons (pv 6) (pa_cons (pv 7) (pa_cons (pv 13) pa_nil)))) pa_nil)))
    (pss_cons (ps_if (PW.pt (pw_or (pt_cmpR (show OpR _ (compareOp .NotEq) (rNeD K) from op_neD hr.units) (pe_call c_value_of.G (hr.mono (by decide)) (by rfl) c_value_of.m c_value_of.k c_value_of.b .nil pass0 (pa_cons (pv 6) (pa_cons (pv 13) pa_nil))) (pe_call c_Lvalue.G (hr.mono (by decide)) (by rfl) c_Lvalue.m c_Lvalue.k c_Lvalue.b .nil pass0 (pa_cons (pv 6) (pa_cons (pv 13) pa_nil))) (nomark _)) (pw_or1 (pt_cmpR (show OpR _ (compareOp .NotEq) (rNeD K) from op_neD hr.units) (pe_call c_value_of.G (hr.mono (by decide)) (by rfl) c_value_of.m c_value_of.k c_value_of.b .nil pass0 (pa_cons (pv 6) (pa_cons pe_dnewN pa_nil))) (pe_call c_number_in.G (hr.mono (by decide)) (by rfl) c_number_in.m c_number_in.k c_number_in.b .nil pass0 (pa_cons (pv 6) pa_nil)) (nomark _))))) (pss_one (ps_ret pe_bl)) pss_nil)
    (pss_cons (ps_if (PW.pt (pw_or (pt_not (pt_val (Gd.pe_callG c_Ltold_right.G (hr.mono (by decide)) hG (by rfl) c_Ltold_right.m c_Ltold_right.k c_Ltold_right.b .nil pass0 (pa_cons (pv 6) pa_nil)))) (pw_or (pt_not (pt_val (Gd.pe_callG c_Ltold_right.G (hr.mono (by decide)) hG (by rfl) c_Ltold_right.m c_Ltold_right.k c_Ltold_right.b .nil pass0 (pa_cons (pv 11) pa_nil)))) (pw_or1 (pt_cmpR op_ne (pe_callB (call_reprX hG hr.units) (by rfl) n_repr (by decide +kernel) (pa_cons (pe_lstS (pa_cons (pv 6) (pa_cons (pv 7) (pa_cons (pv 13) pa_nil)))) pa_nil)) (pv 15) (nomark _)))))) (pss_one (ps_ret pe_bl)) pss_nil)
    (pss_one (ps_if (pt_not (pt_val (Gd.pe_callG c_Lmade_right.G (hr.mono (by decide)) hG (by rfl) c_Lmade_right.m c_Lmade_right.k c_Lmade_right.b .nil pass0 (pa_cons (pv 10) (pa_cons (pv 8) (pa_cons (pe_op op_add pe_int (pe_call c_Ldigit.G (hr.mono (by decide)) (by rfl) c_Ldigit.m c_Ldigit.k c_Ldigit.b .nil pass0 (pa_cons (pv 3) (pa_cons pe_int pa_nil)))) pa_nil)))))) (pss_one (ps_ret pe_bl)) pss_nil))))))))))))))))))))))
    (pss_one (ps_ret (pe_cmpR (show OpR _ (compareOp .Eq) (rEqD K) from op_eqD hr.units) (pe_callN G_of_derivative (hr.mono (by decide)) (by rfl) m_of_derivative k_of_derivative kb_ofd pass0 (pa_cons (pe_tup (pa_cons pe_str (pa_cons pe_int (pa_cons pe_int pa_nil)))) pa_nil) (pk_cons pe_int pk_nil)) (pe_tup (pa_cons (pe_tup (pa_cons (pe_tup pa_nil) (pa_cons (pe_tup (pa_cons pe_int (pa_cons pe_int pa_nil))) pa_nil))) pa_nil)) (nomark _))))), ?_⟩
  walk_at "go"
  refine ⟨a, _, rfl, hS, fun p1 hp1 => ?_⟩
  walk_at "go"
  refine ⟨a, ns, rfl, (Same.seq (My.new hp1) hS), ?_⟩
  refine ⟨by show 1 ≤ sizeLine; decide, fun p2 hp2 => ?_⟩
  have n12 : p1 ≠ p2 := ne_of_none upd_same hp2
  refine ⟨p1, p2, _, _, rfl, rfl, by rw [upd_ne n12]; exact upd_same, upd_same, ?_, fun p3 hp3 => ?_⟩
  · have := My.cutTo (ns.map V.int) 8
    rw [show (8 : Int) = ((8 : Nat) : Int) from rfl, this, List.length_take]
    exact sz_of (by simp only [List.length_singleton]; omega)
  rw [show (8 : Int) = ((8 : Nat) : Int) from rfl, My.cutTo, ← List.map_take, show [V.int ns.sum] = [ns.sum].map V.int from rfl, ← List.map_append] at *
  generalize hcs : ns.take 8 ++ [ns.sum] = cs
  have hcl : cs.length ≤ 9 := by
    rw [← hcs, List.length_append, List.length_take]
    simp only [List.length_singleton]
    omega
  refine ⟨p3, cs.map V.int, rfl, sq_of upd_same, for_it (walk_enum (K := K) (a := p3) (xs := cs.map V.int)) (fun i σ H' => H' p3 = some (.lst (cs.map V.int)) ∧ ∃ x1 x2 x3 x4 x5 x6 x7 x8 x9 x10 x11 x12 x13 x14 x15 : Option V, σ = [some (.ref a), x1, x2, x3, x4, x5, x6, x7, x8, x9, x10, x11, x12, x13, x14, x15])
    ⟨upd_same, none, none, none, none, none, none, none, none, none, none, none, none, none, none, none, rfl⟩ (fun i σ H' _ h => sq_of h.1) ?_ ?_⟩
  rotate_left
  · rintro σ H1 ⟨_, x1, x2, x3, x4, x5, x6, x7, x8, x9, x10, x11, x12, x13, x14, x15, rfl⟩
    dsimp only
    exact My.ps_ret (B := fun _ => none) (fun b o e => by cases e) (p_ev (ev_eqP (K := K) (p := [([], 1)]) (p_callN (ps := [DvP ⟨"u", 0, 0⟩]) (qs := [IsV (.int 0)]) (q_cons p_du0 q_nil) (q_cons p_c q_nil) rfl rfl ⟨_, 0, rfl, rfl⟩) (p_po1 p_mo0 (p_fr fr_1 ev_c ev_c)) bd_one.sh)) fun v B5 H5 g5 hp => by
      obtain rfl : v = .bl true := hp
      exact q H5
  rintro i v σ H1 H2 hi ⟨h3, x1, x2, x3, x4, x5, x6, x7, x8, x9, x10, x11, x12, x13, x14, x15, rfl⟩ ⟨t, x, y, rfl, ht, rfl, hx, hy⟩
  obtain rfl := Option.some.inj hx
  rw [List.length_map] at hi
  obtain ⟨z, rfl⟩ : ∃ z : Int, y = V.int z := by
    have hy' : (cs.map V.int)[i]? = some y := hy
    rw [List.getElem?_map, List.getElem?_eq_getElem hi] at hy'
    exact ⟨_, (Option.some.inj hy').symm⟩
  have h3' : upd H1 t (HO.tup [V.int (i : Nat), V.int z]) p3 = some (.lst (cs.map V.int)) := by
    rw [upd_ne (ne_of_none h3 ht)]
    exact h3
  refine ⟨t, _, rfl, st_of upd_same, rfl, _, _, rfl, _, _, rfl, rfl, ?_⟩
  generalize upd H1 t (HO.tup [V.int (i : Nat), V.int z]) = H2 at h3' ⊢
  walk_at "go"
  refine ⟨z, (i : Nat), rfl, by omega, by omega, fun d Hd hd0 hDS S => ?_⟩
  have hd3 := S _ _ h3'
  have nd3 : p3 ≠ d := ne_of_none h3' hd0
  dsimp only [gName, List.set_cons_succ, List.set_cons_zero]
  let C0 : Hp := upd (fun _ => none) p3 (.lst (cs.map V.int))
  have cp : C0 p3 = some (.lst (cs.map V.int)) := upd_same
  have k0 : Kx [] d 1000000 C0 Hd := by
    refine ⟨fun b o e => ?_, nt_upd (fun _ _ z => nomatch z) (fun _ z => nomatch z), fun q hq => absurd hq List.not_mem_nil, by show upd (fun _ => none) p3 _ d = none; rw [upd_ne nd3.symm], hDS⟩
    by_cases n : b = p3
    · subst n
      have e : C0 b = some o := e
      rw [cp] at e
      rw [← e]
      exact hd3
    · have e : upd (fun _ => none) p3 (.lst (cs.map V.int)) b = some o := e
      rw [upd_ne n] at e
      cases e
  clear hd0 hDS S
  -- axes, names
  refine b_seq (b_par (b_cons (b_op (b_c ?_))))
  refine x_digit (z := 2) k0 rfl ev_c (by decide) (by decide) (by decide) fun m1 H4 m10 m11 k1 g1 => ⟨_, _, rfl, rfl, ?_⟩
  refine b_cons (b_slc (b_lst (b_cons (b_c (b_cons (b_c (b_cons (b_c (b_nil ⟨by show 3 ≤ sizeLine; decide, fun pl hpl => b_op (b_c ?_)⟩))))))))) 
  have k2 := k1.ex (Ex.new (o := .lst [.str "u", .str "v", .str "w"]) hpl)
  have npl : pl ≠ d := fun e => k1.s.ne0 (e ▸ hpl)
  refine x_digit (z := 3) k2 rfl ev_c (by decide) (by decide) (by decide) fun m2 H5 m20 m21 k3 g3 => ⟨_, _, rfl, rfl, _, rfl, pl, [.str "u", .str "v", .str "w"], rfl, sq_of (g3.a pl _ npl upd_same (fun _ z => nomatch z)), fun pn hpn => b_nil ⟨_, _, rfl, ?_⟩⟩
  obtain ⟨ax, eax, ax1, ax2⟩ : ∃ ax : Nat, 1 + m1 = (ax : Int) ∧ 1 ≤ ax ∧ ax ≤ 2 := ⟨(1 + m1).toNat, by omega, by omega, by omega⟩
  obtain ⟨nn, enn, nn1, nn2⟩ : ∃ nn : Nat, 1 + m2 = (nn : Int) ∧ 1 ≤ nn ∧ nn ≤ 3 := ⟨(1 + m2).toNat, by omega, by omega, by omega⟩
  have hok : (rkA ax nn).Ok := rkA_ok nn1 nn2
  have eN : cutV [V.str "u", V.str "v", V.str "w"] none (some (1 + m2)) = (rkA ax nn).ns.map V.str := by
    rw [enn, My.cutTo]
    show [V.str "u", V.str "v", V.str "w"].take nn = ((["u", "v", "w"] : List Str).take nn).map V.str
    rw [List.map_take]
    rfl
  dsimp only [gName, List.set_cons_succ, List.set_cons_zero]
  rw [eN, show (1 + m1 : Int) = ((rkA ax nn).axs.length : Nat) by rw [rkA_ax ax1 ax2]; exact eax]
  have n1 := Gr.new (B := C0) (.lst ((rkA ax nn).ns.map V.str)) k3.e hpn
  have k4 := k3.gr n1
  have hN : (LstP (rkA ax nn).ns).P (.ref pn) (upd C0 pn (.lst ((rkA ax nn).ns.map V.str))) := ⟨pn, rfl, upd_same⟩
  have cp := n1.b _ _ cp
  generalize hR0 : rkA ax nn = r at *
  generalize upd C0 pn (.lst (r.ns.map V.str)) = B1 at k4 hN cp
  generalize upd H5 pn (.lst (r.ns.map V.str)) = H6 at k4 ⊢
  clear k1 k2 k3 n1 g1 g3 eN
  -- the polynomials
  refine b_seq (b_par (b_cons (c_call (b_cons ⟨_, rfl, b_cons ⟨_, rfl, b_cons ⟨_, rfl, b_cons (b_c (b_cons (b_c (b_nil ?_))))⟩⟩⟩))))
  refine ⟨B1, d, _, r, _, 3, rfl, by decide, hok, hN, k4, by decide, fun p vp B2 H7 hp k5 g5 hP => ?_⟩
  have hN := (LstP r.ns).m g5.b hN
  have cp := g5.b _ _ cp
  refine b_cons (c_call (b_cons ⟨_, rfl, b_cons ⟨_, rfl, b_cons ⟨_, rfl, b_cons (b_c (b_cons (b_c (b_nil ?_))))⟩⟩⟩))
  refine ⟨B2, d, _, r, _, 2, rfl, by decide, hok, hN, k5, by decide, fun q' vq B3 H8 hq k6 g6 hQ => b_nil ⟨_, _, rfl, ?_⟩⟩
  have hN := (LstP r.ns).m g6.b hN
  have hP := (fpP K p).m g6.b hP
  have cp := g6.b _ _ cp
  have lp := hp.lb hok
  have lq := hq.lb hok
  clear k4 k5 g5 g6
  dsimp only [gName, List.set_cons_succ, List.set_cons_zero]
  -- a number, an axis
  refine b_seq (b_par (b_cons (c_call (b_cons ⟨_, rfl, b_nil ?_⟩))))
  refine ⟨B3, d, _, rfl, k6, by decide, fun nr vr B4 H9 hnr k7 g7 hR => b_cons ?_⟩
  have hN := (LstP r.ns).m g7.b hN
  have hP := (fpP K p).m g7.b hP
  have hQ := (fpP K q').m g7.b hQ
  have cp := g7.b _ _ cp
  refine x_pickP (K := K) (ps := [IsV (.str "x"), IsV (.str "y")]) k7 (q_cons p_c (q_cons p_c q_nil)) rfl rfl (by decide) (by decide) (by decide) fun j pz va B5 H10 hj k8 g8 hva => b_nil ⟨_, _, rfl, ?_⟩
  obtain ⟨xb, rfl⟩ : ∃ xb : Bool, pz = IsV (.str (axS xb)) := by
    match j, hj with
    | 0, hj => exact ⟨true, (Option.some.inj hj).symm⟩
    | 1, hj => exact ⟨false, (Option.some.inj hj).symm⟩
    | j + 2, hj => cases hj
  obtain rfl : va = _ := hva
  have hN := (LstP r.ns).m g8.b hN
  have hP := (fpP K p).m g8.b hP
  have hQ := (fpP K q').m g8.b hQ
  have hR := (rtP K nr).m g8.b hR
  have cp := g8.b _ _ cp
  clear k6 k7 g7 g8 hj
  dsimp only [gName, List.set_cons_succ, List.set_cons_zero]
  -- a derivative
  refine b_seq (b_asg (c_call (b_cons ⟨_, rfl, b_cons ⟨_, rfl, b_cons ⟨_, rfl, b_cons (b_c (b_nil ?_))⟩⟩⟩)))
  refine ⟨B5, d, _, 3, r, _, rfl, by decide, hok, hN, k8.e, k8.z, k8.s, by decide, fun u B6 H11 vu hu hu3 gd9 hd9 hU => ?_⟩
  have k9 := k8.gd gd9 hd9
  have g9 := GX.gd gd9
  have hP := (fpP K p).m g9.b hP
  have hQ := (fpP K q').m g9.b hQ
  have hR := (rtP K nr).m g9.b hR
  have cp := g9.b _ _ cp
  clear k8 gd9 hd9 g9 hN
  dsimp only [gName, List.set_cons_succ, List.set_cons_zero]
  have lnp := lp.ln
  have lnq := lq.ln
  have L1 : LimB 6 120 := limB (by decide) (lt_k (by decide)) (lt_k (by decide))
  have P6 : ∀ {σ : L2.St} {B : Hp} {v : V} {i : Nat} {p : Pq}, σ[i]? = some (some v) → (fpP K p).P v B → EvP (tVar i) σ B (poP K (toPo p)) := fun h x => p_var h (fp_po x)
  have F6 : ∀ {σ : L2.St} {B : Hp} {v : V} {i : Nat} {p : Pq}, σ[i]? = some (some v) → (fpP K p).P v B → EvP (tVar i) σ B (fpP K p) := fun h x => p_var h x
  have T6 : ∀ {σ : L2.St} {B : Hp} {v : V} {i : Nat} {p : Pq}, σ[i]? = some (some v) → (fpP K p).P v B → EvP (tVar i) σ B (TuP K (pqL K p)) := fun h x => by
    rw [← po_pq]
    exact p_var h (fp_po x)
  have fpo : ∀ {te : TE} {σ : L2.St} {B : Hp} {p : Pq}, EvP te σ B (fpP K p) → EvP te σ B (poP K (toPo p)) := fun h => h.imp fun _ _ _ x => fp_po x
  -- added, taken away, times, scaled
  refine b_seq (ps_ifN k9.e (et_neP (p := addP p q') (p_callP (R := Rplus K) (ps := [poP K (toPo p), poP K (toPo q')]) (q_cons (P6 rfl hP) (q_cons (P6 rfl hQ) q_nil)) ⟨6, 240, p, q', limB (by decide) (lt_k (by decide)) (lt_k (by decide)), lp.lm.app lq.lm, lp.nd, by omega, rfl, rfl⟩) (fpo (p_callP (R := RaddT K) (ps := [fpP K p, TuP K (pqL K q'), rtP K 1]) (q_cons (F6 rfl hP) (q_cons (T6 rfl hQ) (q_cons (p_fr fr_1 ev_c ev_c) q_nil))) (by have := radd_ok (K := K) (f := TuP K) lp lq (.inl rfl); rw [sc_one] at this; exact this))) (lp.add lq).sh) fun H12 e12 => ?_)
  have k10 := k9.ex e12
  dsimp only
  have fm1 : fr (-1) = (-1, 1) := rfl
  have shm : ShP (addP p (scP q' (-1))) := fun t ht => by
    obtain ⟨s, hs, e⟩ := key_add ht
    rw [e]
    rcases hs with hs | hs
    · exact lp.sh s hs
    · obtain ⟨y, hy, rfl⟩ := List.mem_map.mp hs
      exact lq.sh y hy
  refine b_seq (ps_ifN k10.e (et_neP (p := addP p (scP q' (-1))) (p_callP (R := Rless K) (ps := [poP K (toPo p), poP K (toPo q')]) (q_cons (P6 rfl hP) (q_cons (P6 rfl hQ) q_nil)) ⟨6, 240, p, q', limB (by decide) (lt_k (by decide)) (lt_k (by decide)), lp.lm.app lq.lm, lp.nd, by omega, rfl, rfl⟩) (fpo (p_callP (R := RaddT K) (ps := [fpP K p, TuP K (pqL K q'), rtP K (-1)]) (q_cons (F6 rfl hP) (q_cons (T6 rfl hQ) (q_cons (p_fr fm1 (ev_un ev_c ru_neg) ev_c) q_nil))) (radd_ok (K := K) (f := TuP K) lp lq (.inr rfl)))) shm) fun H13 e13 => ?_)
  have k11 := k10.ex e13
  dsimp only
  refine b_seq (ps_ifN k11.e (et_is (et_or (a := false) (b := false) (et_neP (p := mulP p q') (p_callP (R := Rtimes K) (ps := [poP K (toPo p), poP K (toPo q')]) (q_cons (P6 rfl hP) (q_cons (P6 rfl hQ) q_nil)) (rt_bd lp lq L1 L1 (limB (by decide) (lt_k (by decide)) (lt_k (by decide))) (by decide) (by decide) (by decide))) (fpo (p_callP (R := Rltimes K) (ps := [poP K (toPo p), poP K (toPo q')]) (q_cons (P6 rfl hP) (q_cons (P6 rfl hQ) q_nil)) (rlt_bd lp lq (by decide) (by decide) (lt_k (by decide)) (lt_k (by decide)) (lt_k (by decide)) (lt_k (by decide)) (lt_k (by decide)) (lt_k (by decide)) (by decide) (by decide) (by decide) (by decide)))) (lp.mul lq).sh) fun _ =>
    et_neP (p := scP p nr) (p_callP (R := Rscaled K) (ps := [poP K (toPo p), rtP K nr]) (q_cons (P6 rfl hP) (q_cons (p_var rfl hR) q_nil)) (rsc_ok lp hnr)) (fpo (p_callP (R := RaddT K) (ps := [fpP K [], TuP K (pqL K p), rtP K nr]) (q_cons (p_tupFu q_nil (by show 0 ≤ 100000; decide)) (q_cons (T6 rfl hP) (q_cons (p_var rfl hR) q_nil))) (rsca_ok lp hnr))) (lp.sc hnr).sh) rfl) fun H14 e14 => ?_)
  have k12 := k11.ex e14
  dsimp only
  refine b_seq (ps_ifN k12.e (et_is (et_not (a := true) (et_B (ev_p (p_callP (R := Rplain K) (ps := [poP K (toPo p), poP K (toPo q')]) (q_cons (P6 rfl hP) (q_cons (P6 rfl hQ) q_nil)) ⟨p, q', lp, lq, rfl, rfl⟩)))) rfl) fun H15 e15 => ?_)
  have k13 := k12.ex e15
  clear k9 k10 k11 k12 e12 e13 e14 e15
  dsimp only
  -- derived
  have bd1 := lp.der xb
  have bd2 := bd1.der xb
  refine b_seq (ps_asgN (fun v => [some (.ref a), some (.int (i : Nat)), some (.int z), some (.ref d), some (.int (r.axs.length : Nat)), some (.ref pn), some vp, some vq, some vr, some (.str (axS xb)), some vu, some v, x12, x13, x14, x15]) k13.e (p_callP (R := Rlder K) (ps := [poP K (toPo p), IsV (.str (axS xb))]) (q_cons (P6 rfl hP) (q_cons (p_varV rfl) q_nil)) (rld_bd lp xb (by decide) (lt_k (by decide)) (lt_k (by decide)) (lt_k (by decide)) (by decide) (by decide))) (fun vf B7 H16 g16 hF => ?_) (fun _ => rfl))
  have k14 := k13.gr g16
  have hP := (fpP K p).m g16.b hP
  have hQ := (fpP K q').m g16.b hQ
  have hR := (rtP K nr).m g16.b hR
  have hU := (DvP u).m g16.b hU
  have cp := g16.b _ _ cp
  dsimp only
  refine b_seq (ps_ifN k14.e (et_is (et_or (a := false) (b := false) (et_neP (p := derP p xb) (p_callV (ps := [poP K (toPo p), IsV (.str (axS xb))]) (q_cons (P6 rfl hP) (q_cons (p_varV rfl) q_nil)) (der_n1 (rd_bd lp xb L1 (limB (by decide) (lt_k (by decide)) (lt_k (by decide))) (by decide) (by decide)))) (P6 rfl hF) bd1.sh) fun _ =>
    et_neP (p := derP (derP p xb) xb) (p_callN (ps := [poP K (toPo p), IsV (.str (axS xb))]) (qs := [IsV (.int 2)]) (q_cons (P6 rfl hP) (q_cons (p_varV rfl) q_nil)) (q_cons p_c q_nil) rfl rfl (der_n2 (rd_bd lp xb L1 (limB (by decide) (lt_k (by decide)) (lt_k (by decide))) (by decide) (by decide)) (rd_bd bd1 xb (limB (by decide) (lt_k (by decide)) (lt_k (by decide))) (limB (by decide) (lt_k (by decide)) (lt_k (by decide))) (by decide) (by decide)))) (fpo (p_callP (R := Rlder K) (ps := [poP K (toPo (derP p xb)), IsV (.str (axS xb))]) (q_cons (P6 rfl hF) (q_cons (p_varV rfl) q_nil)) (rld_bd bd1 xb (by decide) (lt_k (by decide)) (lt_k (by decide)) (lt_k (by decide)) (by decide) (by decide)))) bd2.sh) rfl) fun H17 e17 => ?_)
  have k15 := k14.ex e17
  clear k13 k14 g16 e17
  dsimp only
  -- the derivatives
  have dl := dvs_bd lp
  have inl : (dvsIn (toPo p)).length ≤ 12 := by
    unfold dvsIn srtD
    rw [List.length_mergeSort]
    have := ded_len (dvs (toPo p))
    omega
  refine b_seq (ps_asgN (fun v => [some (.ref a), some (.int (i : Nat)), some (.int z), some (.ref d), some (.int (r.axs.length : Nat)), some (.ref pn), some vp, some vq, some vr, some (.str (axS xb)), some vu, some vf, some v, x13, x14, x15]) k15.e (p_cat (ps := [DvP u]) (p_lst (q_cons (p_var rfl hU) q_nil) (by show 1 ≤ 100000; decide)) (p_listT (K := K) (p_callP (R := Rdin K) (ps := [poP K (toPo p)]) (q_cons (P6 rfl hP) q_nil) ⟨toPo p, by omega, rfl, rfl⟩)) (by rw [List.length_map]; show 1 + _ ≤ _; omega)) (fun vs B8 H18 g18 hSp => ?_) (fun _ => rfl))
  have k16 := k15.gr g18
  have hP := (fpP K p).m g18.b hP
  have hQ := (fpP K q').m g18.b hQ
  have hR := (rtP K nr).m g18.b hR
  have hF := (fpP K (derP p xb)).m g18.b hF
  have cp := g18.b _ _ cp
  have hSp : (LsP ((u :: dvsIn (toPo p)).map DvP)).P vs B8 := hSp
  have uok : ∀ v ∈ u :: dvsIn (toPo p), v.Of r ∧ v.i + v.j ≤ 3 := fun v hv => by
    rcases List.mem_cons.mp hv with rfl | hv
    · exact ⟨hu, hu3⟩
    · have := mem_in.mp hv
      rw [← prs_dvs] at this
      obtain ⟨y, hy, rfl⟩ := List.mem_map.mp this
      obtain ⟨t, ht, hy⟩ := List.mem_flatMap.mp hy
      exact ⟨hp.of t ht y hy, hp.o t ht y hy⟩
  have slen : ((u :: dvsIn (toPo p)).map DvP).length = (dvsIn (toPo p)).length + 1 := by rw [List.length_map, List.length_cons]
  clear k15 g18 hU
  dsimp only
  refine b_seq (b_asg (b_op ⟨_, rfl, ?_⟩))
  refine x_digit (z := (((u :: dvsIn (toPo p)).map DvP).length : Nat)) k16 rfl (ev_lenQ (K := K) (p_lq (p_var (i := 12) rfl hSp))) (by omega) (by omega) (by decide) fun m3 H19 m30 m31 k17 g17 => ?_
  refine x_at k17.e hSp m30 m31 fun j pz wu hj hw => ?_
  obtain ⟨u2, hu2, rfl⟩ : ∃ u2 ∈ u :: dvsIn (toPo p), pz = DvP u2 := by
    rw [List.getElem?_map] at hj
    obtain ⟨u2, h2, e⟩ := Option.map_eq_some_iff.mp hj
    exact ⟨u2, List.mem_of_getElem? h2, e.symm⟩
  obtain ⟨o2, o23⟩ := uok u2 hu2
  have su2 := Gd.shp_dv hok o2
  clear k16 g17 hj
  dsimp only [gName, List.set_cons_succ, List.set_cons_zero]
  refine b_seq (ps_ifN k17.e (et_is (et_or (a := false) (b := false) (et_neP (p := p) (p_callN (ps := [poP K (toPo p), IsV (.str (axS xb))]) (qs := [IsV (.int 0)]) (q_cons (P6 rfl hP) (q_cons (p_varV rfl) q_nil)) (q_cons p_c q_nil) rfl rfl der_n0) (P6 rfl hP) lp.sh) fun _ =>
    et_neP (p := putP u2 p q') (p_callP (R := Rputi K) (ps := [poP K (toPo p), DvP u2, poP K (toPo q')]) (q_cons (P6 rfl hP) (q_cons (p_var rfl hw) (q_cons (P6 rfl hQ) q_nil))) (puti_ok lp lq su2)) (fpo (p_callP (R := Rlput K) (ps := [poP K (toPo p), DvP u2, poP K (toPo q')]) (q_cons (P6 rfl hP) (q_cons (p_var rfl hw) (q_cons (P6 rfl hQ) q_nil))) ⟨p, u2, q', lp, lq, su2, rfl, rfl⟩)) (put_sh lp lq)) rfl) fun H20 e20 => ?_)
  have k18 := k17.ex e20
  clear k17 e20
  dsimp only
  -- numbers for them
  refine b_seq (b_asg (fun l hl => ?_))
  have d19 := Dl.new (P := P) (w := w) (ky := kyD K) (vp := rtP K) k18 hl
  have k19 := k18.ex (Ex.new (o := DN P w l []) hl)
  clear k18
  dsimp only [gName, List.set_cons_succ, List.set_cons_zero]
  refine b_seq (b_forD (b_c ⟨4, rfl, by decide, by decide, for_range (lo := 0) (n := 4) (fun t σ H' => ∃ (B' : Hp) (zs : List (Dv × Rat)) (x14 : Option V), Kx [] d ((1000000 + 4 + 4 + 400 + 400 + 8 + 4 + 20 + 4) + 12 * t) B' H' ∧ Ex B8 B' ∧ Dl P w (kyD K) (rtP K) d B' H' l zs ∧ (∀ z ∈ zs, NumOk z.2 ∧ z.1.Of r ∧ z.1.i + z.1.j ≤ 3) ∧ zs.length ≤ t ∧ σ = [some (.ref a), some (.int (i : Nat)), some (.int z), some (.ref d), some (.int (r.axs.length : Nat)), some (.ref pn), some vp, some vq, some vr, some (.str (axS xb)), some wu, some vf, some vs, some (.ref l), x14, x15])
    ⟨B8, [], x14, k19, Ex.refl _, d19, fun z hz => absurd hz List.not_mem_nil, Nat.le_refl _, rfl⟩ (fun t σ H' ht pv => ?_) (fun σ H' pv => ?_)⟩))
  · obtain ⟨B', zs, y14, k20, e20, d20, hz, hzl, rfl⟩ := pv
    have ht4 : t < 4 := by omega
    dsimp only [gName, List.set_cons_succ, List.set_cons_zero]
    refine b_nput (c_call (b_cons ⟨_, rfl, b_nil ?_⟩))
    refine ⟨B', d, _, rfl, k20, by omega, fun nr2 v2 B9 H22 hnr2 k21 g21 hv2 => ⟨_, rfl, b_op ⟨_, rfl, ?_⟩⟩⟩
    have d21 := d20.gx g21
    have hSp := (LsP ((u :: dvsIn (toPo p)).map DvP)).m (e20.trans g21.b) hSp
    refine x_digit (z := (((u :: dvsIn (toPo p)).map DvP).length : Nat)) k21 rfl (ev_lenQ (K := K) (p_lq (p_var (i := 12) rfl hSp))) (by omega) (by omega) (by omega) fun m4 H23 m40 m41 k22 g22 => ?_
    refine x_at k22.e hSp m40 m41 fun j pz wk hj hwk => ?_
    obtain ⟨u3, hu3', rfl⟩ : ∃ u2 ∈ u :: dvsIn (toPo p), pz = DvP u2 := by
      rw [List.getElem?_map] at hj
      obtain ⟨u2, h2, e⟩ := Option.map_eq_some_iff.mp hj
      exact ⟨u2, List.mem_of_getElem? h2, e.symm⟩
    have d22 := d21.gx g22
    obtain ⟨xs, hxs, al⟩ := d22.h
    obtain ⟨ad, rfl⟩ := (kyD K).rf hwk
    obtain ⟨k23, d23⟩ := d22.put k22 hxs al hwk hv2
    refine ⟨l, ad, xs, _, rfl, rfl, hxs, al.ok k22.e, (kyD K).at_ (((kyD K).kp u3).m k22.e hwk), by rw [al.len]; omega, ?_⟩
    refine ⟨B9, _, _, k23.le (by omega), e20.trans g21.b, d23, fun z hz' => ?_, Nat.le_trans putG_len (by omega), rfl⟩
    rcases putG_mem hz' with h | rfl
    · exact hz z h
    · exact ⟨hnr2, uok u3 hu3'⟩
  obtain ⟨B', zs, y14, k20, e20, d20, hz, hzl, rfl⟩ := pv
  obtain ⟨B9, k21, e21, hZ⟩ := d20.fin k20
  have eB := e20.trans e21
  have hP := (fpP K p).m eB hP
  have hQ := (fpP K q').m eB hQ
  have hR := (rtP K nr).m eB hR
  have hF := (fpP K (derP p xb)).m eB hF
  have hw := (DvP u2).m eB hw
  have cp := eB _ _ cp
  have hzn : ∀ z ∈ zs, NumOk z.2 := fun z h => (hz z h).1
  clear k19 d19 k20 d20 hSp e20 e21 eB
  dsimp only
  -- their text
  have shK := shw_kept (K := K) hok hp.psz hq.psz lnp lnq hz hzl
  refine b_seq (b_asg (ev_kept (P := P) (w := w) (K := K) (p := p) (q := q') (zs := zs) rfl rfl rfl hP hQ hZ shK H' k21.e _ fun H24 e24 => ?_))
  have k22 := k21.ex e24
  dsimp only [gName, List.set_cons_succ, List.set_cons_zero]
  refine b_seq (ps_ifN k22.e (et_is (et_or (a := false) (b := false) (et_ne (d := frD (fr (pvl (fOf zs) p))) (p_to (p_callP (R := Rval P w K) (ps := [poP K (toPo p), DcP P w (kyD K) (rtP K) zs]) (q_cons (P6 rfl hP) (q_cons (p_var rfl hZ) q_nil)) (val_ok hzn lp)) (to_fr _)) (p_to (p_callP (R := Rlval P w K) (ps := [poP K (toPo p), DcP P w (kyD K) (rtP K) zs]) (q_cons (P6 rfl hP) (q_cons (p_var rfl hZ) q_nil)) ⟨p, zs, lp, hzn, rfl, rfl⟩) (to_fr _)) (sh_frR _)) fun _ =>
    et_ne (d := frD (fr (numP p))) (p_to (p_callP (R := Rval P w K) (ps := [poP K (toPo p), DcP P w (kyD K) (rtP K) []]) (q_cons (P6 rfl hP) (q_cons p_dnew q_nil)) (by have := val_ok (P := P) (w := w) (K := K) (zs := []) (fun z h => absurd h List.not_mem_nil) lp; rw [pvl_emp lp.c] at this; exact this)) (to_fr _)) (p_to (p_callP (R := Rnin K) (ps := [poP K (toPo p)]) (q_cons (P6 rfl hP) q_nil) ⟨p, lp.sh, rfl, rfl⟩) (to_fr _)) (sh_frR _)) rfl) fun H25 e25 => ?_)
  have k23 := k22.ex e25
  dsimp only
  refine b_seq (ps_ifN k23.e (et_is (et_or (a := false) (b := false) (et_is (et_not (a := true) (et_B (ev_p (p_callP (R := Rtold K) (ps := [poP K (toPo p)]) (q_cons (P6 rfl hP) q_nil) (told_ok lp hp.nn (by decide) (by decide)))))) rfl) fun _ => et_is (et_or (a := false) (b := false) (et_is (et_not (a := true) (et_B (ev_p (p_callP (R := Rtold K) (ps := [poP K (toPo (derP p xb))]) (q_cons (P6 rfl hF) q_nil) (told_ok bd1 (hp.nn.der xb) (by decide) (by decide)))))) rfl) fun _ =>
    et_is (et_test (ev_op (ev_kept (P := P) (w := w) (K := K) (p := p) (q := q') (zs := zs) rfl rfl rfl hP hQ hZ shK) (ev_var rfl) (rv_ne rfl))) (by simp)) rfl) rfl) fun H26 e26 => ?_)
  have k24 := k23.ex e26
  clear k21 k22 k23 e24 e25 e26
  dsimp only
  refine b_ifNotB (c_call (b_cons ⟨_, rfl, b_cons ⟨_, rfl, b_cons (b_op (b_c ?_))⟩⟩))
  refine x_digit (z := 4) k24 rfl ev_c (by decide) (by decide) (by omega) fun m5 H27 m50 m51 k25 g25 => ⟨_, _, rfl, rfl, b_nil ?_⟩
  obtain ⟨wd, ewd, wd1, wd4⟩ : ∃ wd : Nat, 1 + m5 = (wd : Int) ∧ 1 ≤ wd ∧ wd ≤ 4 := ⟨(1 + m5).toNat, by omega, by omega, by omega⟩
  refine ⟨B9, [DvP u2, rtP K nr, IsV (.int (wd : Nat))], IsV (.bl true), k25.e, ⟨hw, hR, by rw [← ewd]; rfl, trivial⟩, ⟨u2, nr, wd, su2, hnr, wd1, wd4, rfl, rfl⟩, fun v B10 H28 g28 hv => ⟨true, hv, ?_⟩⟩
  rw [if_neg (by decide)]
  exact ⟨g28.a _ _ (k25.e _ _ cp), _, _, _, _, _, _, _, _, _, _, _, _, _, _, _, rfl⟩

end
end K12
namespace K12
set_option autoImplicit false
open PySem PySem.W L2 Evl My Nd LamX NdefX
theorem der_binds {K : PySem.W.Frag} {f : Addr} {fd : FuncData} (F : FunD K "derived" "derived" (defArgs s_derived) (defBody s_derived) (defScope s_derived) [] [("many", V.int 1)] f fd) : ∃ ds, Vals [V.int 1] ds ∧ Binds K fd ["one", "axis", "many"] ds :=
  FunD.binds0 F 2 (List.cons_ne_nil _ _) rfl fun D doc pm an cdv ct us ks l1 l2 => match us, ks, l1, l2 with | [_, _], [_], _, _ => ⟨_, _, _, _, _, _, rfl, rfl, rfl⟩
theorem ofd_binds {K : PySem.W.Frag} {f : Addr} {fd : FuncData} (F : FunD K "of_derivative" "of_derivative" (defArgs s_of_derivative) (defBody s_of_derivative) (defScope s_of_derivative) [] [("power", V.int 1)] f fd) : ∃ ds, Vals [V.int 1] ds ∧ Binds K fd ["derivative", "power"] ds :=
  FunD.binds0 F 1 (List.cons_ne_nil _ _) rfl fun D doc pm an cdv ct us ks l1 l2 => match us, ks, l1, l2 with | [_], [_], _, _ => ⟨_, _, _, _, _, _, rfl, rfl, rfl⟩
end K12
namespace K12
open PySem PySem.W L2 Evl My LamX Nd
set_option autoImplicit false
end K12
namespace Hd
set_option autoImplicit false
open PySem PySem.Spec PySem.W PyProof.Rows L2 He
end Hd
namespace K12
set_option autoImplicit false
open PySem PySem.W L2 Evl My LamX Nd
theorem all_mk2 {l : PySem.W.OpenLaw} {w : World} {K : PySem.W.Frag} {h : Heap} {mg : Str → Option Value} {fa : Addr} (X : K.In h) (G : h.Ns mainGlobals mg) (hfa : mg "law" = some (.ref fa)) (SD : He.SaysD K12.hfa hfn K) (E : hex K = true) (EV : hvf K = hvv) (LM : ∀ x ∈ hlams, Hd.lamB K x = true ∧ h.get? (Hd.ctab K (Hd.fcode K x)) = some (tabObj #[])) : Gd.LawAtG l w K 8 63 "_law_script" mg fa h := by
  have a43 := Hd.glo_ns (SD.fact 43 (f := .glo "law") rfl)
  have e := hfa.symm.trans (PySem.W.mg_of X G a43)
  cases e
  obtain ⟨fd0, D0⟩ := SD.def_ 0 (d := hd0) rfl
  have a0 := Hd.glo_ns (SD.fact 0 (f := .glo "_law_draw") rfl)
  have k0 := D0.kp
  have F0 : Fun K "_law_draw" "_law_draw" s_Ldraw (He.ga K "_law_draw") fd0 := Hd.fun_of D0
  have b0 := F0.binds (ps := ["_law_cell", "_law_k"]) fun _ _ _ _ _ _ us hl => match us, hl with | [_, _], _ => rfl
  obtain ⟨fd1, D1⟩ := SD.def_ 1 (d := hd1) rfl
  have a1 := Hd.glo_ns (SD.fact 1 (f := .glo "_law_mixed") rfl)
  have k1 := D1.kp
  have F1 : Fun K "_law_mixed" "_law_mixed" s_Lmixed (He.ga K "_law_mixed") fd1 := Hd.fun_of D1
  have b1 := F1.binds (ps := ["_law_cell", "_law_k"]) fun _ _ _ _ _ _ us hl => match us, hl with | [_, _], _ => rfl
  obtain ⟨fd2, D2⟩ := SD.def_ 2 (d := hd2) rfl
  have a2 := Hd.glo_ns (SD.fact 2 (f := .glo "_law_digit") rfl)
  have k2 := D2.kp
  have F2 : Fun K "_law_digit" "_law_digit" s_Ldigit (He.ga K "_law_digit") fd2 := Hd.fun_of D2
  have b2 := F2.binds (ps := ["_law_state", "_law_size"]) fun _ _ _ _ _ _ us hl => match us, hl with | [_, _], _ => rfl
  obtain ⟨fd3, D3⟩ := SD.def_ 3 (d := hd3) rfl
  have a3 := Hd.glo_ns (SD.fact 3 (f := .glo "_law_derivative") rfl)
  have k3 := D3.kp
  have F3 : Fun K "_law_derivative" "_law_derivative" s_Lderivative (He.ga K "_law_derivative") fd3 := Hd.fun_of D3
  have b3 := F3.binds (ps := ["_law_state", "_law_names", "_law_axes", "_law_high"]) fun _ _ _ _ _ _ us hl => match us, hl with | [_, _, _, _], _ => rfl
  obtain ⟨fd4, D4⟩ := SD.def_ 4 (d := hd4) rfl
  have a4 := Hd.glo_ns (SD.fact 4 (f := .glo "_law_monomial") rfl)
  have k4 := D4.kp
  have F4 : Fun K "_law_monomial" "_law_monomial" s_Lmonomial (He.ga K "_law_monomial") fd4 := Hd.fun_of D4
  have b4 := F4.binds (ps := ["_law_pairs"]) fun _ _ _ _ _ _ us hl => match us, hl with | [_], _ => rfl
  obtain ⟨fd5, D5⟩ := SD.def_ 5 (d := hd5) rfl
  have a5 := Hd.glo_ns (SD.fact 5 (f := .glo "_law_lowest") rfl)
  have k5 := D5.kp
  have F5 : Fun K "_law_lowest" "_law_lowest" s_Llowest (He.ga K "_law_lowest") fd5 := Hd.fun_of D5
  have b5 := F5.binds (ps := ["_law_top", "_law_bottom"]) fun _ _ _ _ _ _ us hl => match us, hl with | [_, _], _ => rfl
  obtain ⟨fd6, D6⟩ := SD.def_ 6 (d := hd6) rfl
  have a6 := Hd.glo_ns (SD.fact 6 (f := .glo "_law_number") rfl)
  have k6 := D6.kp
  have F6 : Fun K "_law_number" "_law_number" s_Lnumber (He.ga K "_law_number") fd6 := Hd.fun_of D6
  have b6 := F6.binds (ps := ["_law_state"]) fun _ _ _ _ _ _ us hl => match us, hl with | [_], _ => rfl
  obtain ⟨fd7, D7⟩ := SD.def_ 7 (d := hd7) rfl
  have a7 := Hd.glo_ns (SD.fact 7 (f := .glo "_law_added") rfl)
  have k7 := D7.kp
  have F7 : Fun K "_law_added" "_law_added" s_Ladded (He.ga K "_law_added") fd7 := Hd.fun_of D7
  have b7 := F7.binds (ps := ["_law_one", "_law_other", "_law_number_here"]) fun _ _ _ _ _ _ us hl => match us, hl with | [_, _, _], _ => rfl
  obtain ⟨fd8, D8⟩ := SD.def_ 8 (d := hd8) rfl
  have a8 := Hd.glo_ns (SD.fact 8 (f := .glo "_law_poly") rfl)
  have k8 := D8.kp
  have F8 : Fun K "_law_poly" "_law_poly" s_Lpoly (He.ga K "_law_poly") fd8 := Hd.fun_of D8
  have b8 := F8.binds (ps := ["_law_state", "_law_names", "_law_axes", "_law_size", "_law_high"]) fun _ _ _ _ _ _ us hl => match us, hl with | [_, _, _, _, _], _ => rfl
  obtain ⟨fd9, D9⟩ := SD.def_ 9 (d := hd9) rfl
  have a9 := Hd.glo_ns (SD.fact 9 (f := .glo "sum_of") rfl)
  have k9 := D9.kp
  have F9 : Fun K "sum_of" "sum_of" s_sum_of (He.ga K "sum_of") fd9 := Hd.fun_of D9
  have b9 := F9.binds (ps := ["one", "other"]) fun _ _ _ _ _ _ us hl => match us, hl with | [_, _], _ => rfl
  obtain ⟨fd10, D10⟩ := SD.def_ 10 (d := hd10) rfl
  have a10 := Hd.glo_ns (SD.fact 10 (f := .glo "add_term") rfl)
  have k10 := D10.kp
  have F10 : Fun K "add_term" "add_term" s_add_term (He.ga K "add_term") fd10 := Hd.fun_of D10
  have b10 := F10.binds (ps := ["total", "monomial", "number"]) fun _ _ _ _ _ _ us hl => match us, hl with | [_, _, _], _ => rfl
  obtain ⟨fd11, D11⟩ := SD.def_ 11 (d := hd11) rfl
  have a11 := Hd.glo_ns (SD.fact 11 (f := .glo "add_to") rfl)
  have k11 := D11.kp
  have F11 : Fun K "add_to" "add_to" s_add_to (He.ga K "add_to") fd11 := Hd.fun_of D11
  have b11 := F11.binds (ps := ["total", "one"]) fun _ _ _ _ _ _ us hl => match us, hl with | [_, _], _ => rfl
  obtain ⟨fd12, D12⟩ := SD.def_ 12 (d := hd12) rfl
  have a12 := Hd.glo_ns (SD.fact 12 (f := .glo "polynomial_of") rfl)
  have k12 := D12.kp
  have F12 : Fun K "polynomial_of" "polynomial_of" s_polynomial_of (He.ga K "polynomial_of") fd12 := Hd.fun_of D12
  have b12 := F12.binds (ps := ["total"]) fun _ _ _ _ _ _ us hl => match us, hl with | [_], _ => rfl
  obtain ⟨fd13, D13⟩ := SD.def_ 13 (d := hd13) rfl
  have a13 := Hd.glo_ns (SD.fact 13 (f := .glo "plus") rfl)
  have k13 := D13.kp
  have F13 : Fun K "plus" "plus" s_plus (He.ga K "plus") fd13 := Hd.fun_of D13
  have b13 := F13.binds (ps := ["one", "other"]) fun _ _ _ _ _ _ us hl => match us, hl with | [_, _], _ => rfl
  obtain ⟨fd14, D14⟩ := SD.def_ 14 (d := hd14) rfl
  have a14 := Hd.glo_ns (SD.fact 14 (f := .glo "product") rfl)
  have k14 := D14.kp
  have F14 : Fun K "product" "product" s_product (He.ga K "product") fd14 := Hd.fun_of D14
  have b14 := F14.binds (ps := ["one", "other"]) fun _ _ _ _ _ _ us hl => match us, hl with | [_, _], _ => rfl
  obtain ⟨fd15, D15⟩ := SD.def_ 15 (d := hd15) rfl
  have a15 := Hd.glo_ns (SD.fact 15 (f := .glo "scaled") rfl)
  have k15 := D15.kp
  have F15 : Fun K "scaled" "scaled" s_scaled (He.ga K "scaled") fd15 := Hd.fun_of D15
  have b15 := F15.binds (ps := ["one", "number"]) fun _ _ _ _ _ _ us hl => match us, hl with | [_, _], _ => rfl
  obtain ⟨fd16, D16⟩ := SD.def_ 16 (d := hd16) rfl
  have a16 := Hd.glo_ns (SD.fact 16 (f := .glo "less") rfl)
  have k16 := D16.kp
  have F16 : Fun K "less" "less" s_less (He.ga K "less") fd16 := Hd.fun_of D16
  have b16 := F16.binds (ps := ["one", "other"]) fun _ _ _ _ _ _ us hl => match us, hl with | [_, _], _ => rfl
  obtain ⟨fd17, D17⟩ := SD.def_ 17 (d := hd17) rfl
  have a17 := Hd.glo_ns (SD.fact 17 (f := .glo "monomials_together") rfl)
  have k17 := D17.kp
  have F17 : Fun K "monomials_together" "monomials_together" s_monomials_together (He.ga K "monomials_together") fd17 := Hd.fun_of D17
  have b17 := F17.binds (ps := ["one", "other"]) fun _ _ _ _ _ _ us hl => match us, hl with | [_, _], _ => rfl
  obtain ⟨fd18, D18⟩ := SD.def_ 18 (d := hd18) rfl
  have a18 := Hd.glo_ns (SD.fact 18 (f := .glo "times") rfl)
  have k18 := D18.kp
  have F18 : Fun K "times" "times" s_times (He.ga K "times") fd18 := Hd.fun_of D18
  have b18 := F18.binds (ps := ["one", "other"]) fun _ _ _ _ _ _ us hl => match us, hl with | [_, _], _ => rfl
  obtain ⟨fd19, D19⟩ := SD.def_ 19 (d := hd19) rfl
  have a19 := Hd.glo_ns (SD.fact 19 (f := .glo "_law_times") rfl)
  have k19 := D19.kp
  have F19 : Fun K "_law_times" "_law_times" s_Ltimes (He.ga K "_law_times") fd19 := Hd.fun_of D19
  have b19 := F19.binds (ps := ["_law_one", "_law_other"]) fun _ _ _ _ _ _ us hl => match us, hl with | [_, _], _ => rfl
  obtain ⟨fd20, D20⟩ := SD.def_ 20 (d := hd20) rfl
  have a20 := Hd.glo_ns (SD.fact 20 (f := .glo "constant") rfl)
  have k20 := D20.kp
  have F20 : Fun K "constant" "constant" s_constant (He.ga K "constant") fd20 := Hd.fun_of D20
  have b20 := F20.binds (ps := ["number"]) fun _ _ _ _ _ _ us hl => match us, hl with | [_], _ => rfl
  obtain ⟨fd21, D21⟩ := SD.def_ 21 (d := hd21) rfl
  have a21 := Hd.glo_ns (SD.fact 21 (f := .glo "raised") rfl)
  have k21 := D21.kp
  have F21 : Fun K "raised" "raised" s_raised (He.ga K "raised") fd21 := Hd.fun_of D21
  have b21 := F21.binds (ps := ["one", "power"]) fun _ _ _ _ _ _ us hl => match us, hl with | [_, _], _ => rfl
  obtain ⟨fd22, D22⟩ := SD.def_ 22 (d := hd22) rfl
  have a22 := Hd.glo_ns (SD.fact 22 (f := .glo "_law_plain_right") rfl)
  have k22 := D22.kp
  have F22 : Fun K "_law_plain_right" "_law_plain_right" s_Lplain_right (He.ga K "_law_plain_right") fd22 := Hd.fun_of D22
  have b22 := F22.binds (ps := ["_law_one", "_law_other"]) fun _ _ _ _ _ _ us hl => match us, hl with | [_, _], _ => rfl
  obtain ⟨fd23, D23⟩ := SD.def_ 23 (d := hd23) rfl
  have a23 := Hd.glo_ns (SD.fact 23 (f := .glo "_law_derived") rfl)
  have k23 := D23.kp
  have F23 : Fun K "_law_derived" "_law_derived" s_Lderived (He.ga K "_law_derived") fd23 := Hd.fun_of D23
  have b23 := F23.binds (ps := ["_law_one", "_law_axis"]) fun _ _ _ _ _ _ us hl => match us, hl with | [_, _], _ => rfl
  obtain ⟨fd24, D24⟩ := SD.def_ 24 (d := hd24) rfl
  have a24 := Hd.glo_ns (SD.fact 24 (f := .glo "derivatives_in") rfl)
  have k24 := D24.kp
  have F24 : Fun K "derivatives_in" "derivatives_in" s_derivatives_in (He.ga K "derivatives_in") fd24 := Hd.fun_of D24
  have b24 := F24.binds (ps := ["one"]) fun _ _ _ _ _ _ us hl => match us, hl with | [_], _ => rfl
  obtain ⟨fd25, D25⟩ := SD.def_ 25 (d := hd25) rfl
  have a25 := Hd.glo_ns (SD.fact 25 (f := .glo "by_powers") rfl)
  have k25 := D25.kp
  have F25 : Fun K "by_powers" "by_powers" s_by_powers (He.ga K "by_powers") fd25 := Hd.fun_of D25
  have b25 := F25.binds (ps := ["one", "derivative"]) fun _ _ _ _ _ _ us hl => match us, hl with | [_, _], _ => rfl
  obtain ⟨fd26, D26⟩ := SD.def_ 26 (d := hd26) rfl
  have a26 := Hd.glo_ns (SD.fact 26 (f := .glo "put_into") rfl)
  have k26 := D26.kp
  have F26 : Fun K "put_into" "put_into" s_put_into (He.ga K "put_into") fd26 := Hd.fun_of D26
  have b26 := F26.binds (ps := ["one", "derivative", "other"]) fun _ _ _ _ _ _ us hl => match us, hl with | [_, _, _], _ => rfl
  obtain ⟨fd27, D27⟩ := SD.def_ 27 (d := hd27) rfl
  have a27 := Hd.glo_ns (SD.fact 27 (f := .glo "_law_put") rfl)
  have k27 := D27.kp
  have F27 : Fun K "_law_put" "_law_put" s_Lput (He.ga K "_law_put") fd27 := Hd.fun_of D27
  have b27 := F27.binds (ps := ["_law_one", "_law_derivative_here", "_law_other"]) fun _ _ _ _ _ _ us hl => match us, hl with | [_, _, _], _ => rfl
  obtain ⟨fd28, D28⟩ := SD.def_ 28 (d := hd28) rfl
  have a28 := Hd.glo_ns (SD.fact 28 (f := .glo "_power_of") rfl)
  have k28 := D28.kp
  have F28 : Fun K "_power_of" "_power_of" s__power_of (He.ga K "_power_of") fd28 := Hd.fun_of D28
  have b28 := F28.binds (ps := ["number", "power"]) fun _ _ _ _ _ _ us hl => match us, hl with | [_, _], _ => rfl
  obtain ⟨fd29, D29⟩ := SD.def_ 29 (d := hd29) rfl
  have a29 := Hd.glo_ns (SD.fact 29 (f := .glo "value_of") rfl)
  have k29 := D29.kp
  have F29 : Fun K "value_of" "value_of" s_value_of (He.ga K "value_of") fd29 := Hd.fun_of D29
  have b29 := F29.binds (ps := ["one", "numbers"]) fun _ _ _ _ _ _ us hl => match us, hl with | [_, _], _ => rfl
  obtain ⟨fd30, D30⟩ := SD.def_ 30 (d := hd30) rfl
  have a30 := Hd.glo_ns (SD.fact 30 (f := .glo "_law_value") rfl)
  have k30 := D30.kp
  have F30 : Fun K "_law_value" "_law_value" s_Lvalue (He.ga K "_law_value") fd30 := Hd.fun_of D30
  have b30 := F30.binds (ps := ["_law_one", "_law_numbers"]) fun _ _ _ _ _ _ us hl => match us, hl with | [_, _], _ => rfl
  obtain ⟨fd31, D31⟩ := SD.def_ 31 (d := hd31) rfl
  have a31 := Hd.glo_ns (SD.fact 31 (f := .glo "number_in") rfl)
  have k31 := D31.kp
  have F31 : Fun K "number_in" "number_in" s_number_in (He.ga K "number_in") fd31 := Hd.fun_of D31
  have b31 := F31.binds (ps := ["one"]) fun _ _ _ _ _ _ us hl => match us, hl with | [_], _ => rfl
  obtain ⟨fd32, D32⟩ := SD.def_ 32 (d := hd32) rfl
  have a32 := Hd.glo_ns (SD.fact 32 (f := .glo "is_number") rfl)
  have k32 := D32.kp
  have F32 : Fun K "is_number" "is_number" s_is_number (He.ga K "is_number") fd32 := Hd.fun_of D32
  have b32 := F32.binds (ps := ["one"]) fun _ _ _ _ _ _ us hl => match us, hl with | [_], _ => rfl
  obtain ⟨fd33, D33⟩ := SD.def_ 33 (d := hd33) rfl
  have a33 := Hd.glo_ns (SD.fact 33 (f := .glo "monomial_degree") rfl)
  have k33 := D33.kp
  have F33 : Fun K "monomial_degree" "monomial_degree" s_monomial_degree (He.ga K "monomial_degree") fd33 := Hd.fun_of D33
  have b33 := F33.binds (ps := ["monomial"]) fun _ _ _ _ _ _ us hl => match us, hl with | [_], _ => rfl
  obtain ⟨fd34, D34⟩ := SD.def_ 34 (d := hd34) rfl
  have a34 := Hd.glo_ns (SD.fact 34 (f := .glo "degree_of") rfl)
  have k34 := D34.kp
  have F34 : Fun K "degree_of" "degree_of" s_degree_of (He.ga K "degree_of") fd34 := Hd.fun_of D34
  have b34 := F34.binds (ps := ["one"]) fun _ _ _ _ _ _ us hl => match us, hl with | [_], _ => rfl
  obtain ⟨fd35, D35⟩ := SD.def_ 35 (d := hd35) rfl
  have a35 := Hd.glo_ns (SD.fact 35 (f := .glo "order_of") rfl)
  have k35 := D35.kp
  have F35 : Fun K "order_of" "order_of" s_order_of (He.ga K "order_of") fd35 := Hd.fun_of D35
  have b35 := F35.binds (ps := ["one"]) fun _ _ _ _ _ _ us hl => match us, hl with | [_], _ => rfl
  obtain ⟨fd36, D36⟩ := SD.def_ 36 (d := hd36) rfl
  have a36 := Hd.glo_ns (SD.fact 36 (f := .glo "names_in") rfl)
  have k36 := D36.kp
  have F36 : Fun K "names_in" "names_in" s_names_in (He.ga K "names_in") fd36 := Hd.fun_of D36
  have b36 := F36.binds (ps := ["one"]) fun _ _ _ _ _ _ us hl => match us, hl with | [_], _ => rfl
  obtain ⟨fd37, D37⟩ := SD.def_ 37 (d := hd37) rfl
  have a37 := Hd.glo_ns (SD.fact 37 (f := .glo "_law_told_right") rfl)
  have k37 := D37.kp
  have F37 : Fun K "_law_told_right" "_law_told_right" s_Ltold_right (He.ga K "_law_told_right") fd37 := Hd.fun_of D37
  have b37 := F37.binds (ps := ["_law_one"]) fun _ _ _ _ _ _ us hl => match us, hl with | [_], _ => rfl
  obtain ⟨fd38, D38⟩ := SD.def_ 38 (d := hd38) rfl
  have a38 := Hd.glo_ns (SD.fact 38 (f := .glo "of_derivative") rfl)
  have k38 := D38.kp
  have F38 : Fun K "of_derivative" "of_derivative" s_of_derivative (He.ga K "of_derivative") fd38 := Hd.fun_of D38
  have FD38 : FunD K "of_derivative" "of_derivative" (defArgs s_of_derivative) (defBody s_of_derivative) (defScope s_of_derivative) [] [("power", V.int 1)] (He.ga K "of_derivative") fd38 := D38
  obtain ⟨ds38, v_of_derivative, b38⟩ := ofd_binds FD38
  have kb_of_derivative : KBn K _ ["derivative", "power"] 1 ["power"] Gd.gKu Gd.gKs := Gd.kbn_of F38 Gd.relK fun _ _ _ _ _ _ us ws l1 l2 => match us, ws, l1, l2 with | [_], [_], _, _ => rfl
  obtain ⟨fd39, D39⟩ := SD.def_ 39 (d := hd39) rfl
  have a39 := Hd.glo_ns (SD.fact 39 (f := .glo "_law_made_right") rfl)
  have k39 := D39.kp
  have F39 : Fun K "_law_made_right" "_law_made_right" s_Lmade_right (He.ga K "_law_made_right") fd39 := Hd.fun_of D39
  have b39 := F39.binds (ps := ["_law_spot", "_law_number_here", "_law_wide"]) fun _ _ _ _ _ _ us hl => match us, hl with | [_, _, _], _ => rfl
  obtain ⟨fd40, D40⟩ := SD.def_ 40 (d := hd40) rfl
  have a40 := Hd.glo_ns (SD.fact 40 (f := .glo "_higher") rfl)
  have k40 := D40.kp
  have F40 : Fun K "_higher" "_higher" s__higher (He.ga K "_higher") fd40 := Hd.fun_of D40
  have b40 := F40.binds (ps := ["derivative", "axis"]) fun _ _ _ _ _ _ us hl => match us, hl with | [_, _], _ => rfl
  obtain ⟨fd41, D41⟩ := SD.def_ 41 (d := hd41) rfl
  have a41 := Hd.glo_ns (SD.fact 41 (f := .glo "_derived_once") rfl)
  have k41 := D41.kp
  have F41 : Fun K "_derived_once" "_derived_once" s__derived_once (He.ga K "_derived_once") fd41 := Hd.fun_of D41
  have b41 := F41.binds (ps := ["one", "axis"]) fun _ _ _ _ _ _ us hl => match us, hl with | [_, _], _ => rfl
  obtain ⟨fd42, D42⟩ := SD.def_ 42 (d := hd42) rfl
  have a42 := Hd.glo_ns (SD.fact 42 (f := .glo "derived") rfl)
  have k42 := D42.kp
  have F42 : Fun K "derived" "derived" s_derived (He.ga K "derived") fd42 := Hd.fun_of D42
  have FD42 : FunD K "derived" "derived" (defArgs s_derived) (defBody s_derived) (defScope s_derived) [] [("many", V.int 1)] (He.ga K "derived") fd42 := D42
  obtain ⟨ds42, v_derived, b42⟩ := der_binds FD42
  have kb_derived : KBn K _ ["one", "axis", "many"] 2 ["many"] Gd.gKu Gd.gKs := Gd.kbn_of F42 Gd.relK fun _ _ _ _ _ _ us ws l1 l2 => match us, ws, l1, l2 with | [_, _], [_], _, _ => rfl
  obtain ⟨fd43, D43⟩ := SD.def_ 43 (d := hd43) rfl
  have k43 := D43.kp
  have F43 : Fun K "law" "law" s_law (He.ga K "law") fd43 := Hd.fun_of D43
  have hb := D43.bindsA (ps := ["_law_script"]) fun _ _ _ _ _ _ us hl => match us, hl with | [_], _ => rfl
  have m_abs := PySem.W.mg_none_of X G (Hd.free_ns (SD.fact 44 (f := .free "abs") rfl))
  have m_all := PySem.W.mg_none_of X G (Hd.free_ns (SD.fact 45 (f := .free "all") rfl))
  have m_dict := PySem.W.mg_none_of X G (Hd.free_ns (SD.fact 46 (f := .free "dict") rfl))
  have m_enumerate := PySem.W.mg_none_of X G (Hd.free_ns (SD.fact 47 (f := .free "enumerate") rfl))
  have m_len := PySem.W.mg_none_of X G (Hd.free_ns (SD.fact 48 (f := .free "len") rfl))
  have m_list := PySem.W.mg_none_of X G (Hd.free_ns (SD.fact 49 (f := .free "list") rfl))
  have m_max := PySem.W.mg_none_of X G (Hd.free_ns (SD.fact 50 (f := .free "max") rfl))
  have m_range := PySem.W.mg_none_of X G (Hd.free_ns (SD.fact 51 (f := .free "range") rfl))
  have m_repr := PySem.W.mg_none_of X G (Hd.free_ns (SD.fact 52 (f := .free "repr") rfl))
  have m_set := PySem.W.mg_none_of X G (Hd.free_ns (SD.fact 53 (f := .free "set") rfl))
  have m_sorted := PySem.W.mg_none_of X G (Hd.free_ns (SD.fact 54 (f := .free "sorted") rfl))
  have m_sum := PySem.W.mg_none_of X G (Hd.free_ns (SD.fact 55 (f := .free "sum") rfl))
  have m_tuple := PySem.W.mg_none_of X G (Hd.free_ns (SD.fact 56 (f := .free "tuple") rfl))
  have go_ONE := Hd.glo_ns (SD.fact 57 (f := .glo "ONE") rfl)
  have go_NOUGHT := Hd.glo_ns (SD.fact 58 (f := .glo "NOUGHT") rfl)
  have tON := Hd.tupAt_ok (hex_at E 0 (e := hx_tON) rfl)
  have tNO := Hd.tupAt_ok (hex_at E 1 (e := hx_tNO) rfl)
  have gGC : PySem.W.nsIn K mainGlobals "gcd" = some (some (.builtin "math.gcd")) := (List.cons.inj EV).1
  have z16 : PySem.W.handedIn (.builtin "ValueError.__init__") = true := by decide +kernel
  let TT : List (Addr × Str) := []
  refine ⟨fd43, [], spLaw K TT, (fun _ h => absurd h List.not_mem_nil), (fun _ h => absurd h List.not_mem_nil), (fun _ h => absurd h List.not_mem_nil), fun s v => hb s [v] rfl, fun H a ns hl _ hT hS => ⟨a, ns, rfl, hS, hl, fun p hp => absurd hp List.not_mem_nil, fun _ => rfl⟩, fun base hKb hNb hTB => ?_⟩
  have vON : ∀ H, Dp K H (.ref (He.ga K "ONE")) (.tuple [.int 1, .int 1]) := fun H => .tup (tON H) (.cons (.int 1) (.cons (.int 1) .nil))
  have vNO : ∀ H, Dp K H (.ref (He.ga K "NOUGHT")) (.tuple [.int 0, .int 1]) := fun H => .tup (tNO H) (.cons (.int 0) (.cons (.int 1) .nil))
  have C0_ : Cal l.prog w K mg base "_law_draw" 1 ["_law_cell", "_law_k"] spDraw (He.ga K "_law_draw") _ := ⟨ok_Ldraw F0, (PySem.W.mg_of X G a0), k0, b0⟩
  have gM := ok_Lmixed (P := l.prog) (w := w) (mg := mg) (base := base) F1
  have C2_ : Cal l.prog w K mg base "_law_digit" 2 ["_law_state", "_law_size"] spDigit (He.ga K "_law_digit") _ := ⟨ok_Ldigit F2 gM m_range (PySem.W.mg_of X G a1) k1 b1, (PySem.W.mg_of X G a2), k2, b2⟩
  have C3_ : Cal l.prog w K mg base "_law_derivative" 3 ["_law_state", "_law_names", "_law_axes", "_law_high"] spDer (He.ga K "_law_derivative") _ := ⟨ok_Lderivative F3 C2_ m_len, (PySem.W.mg_of X G a3), k3, b3⟩
  have C4_ : Cal l.prog w K mg base "_law_monomial" 1 ["_law_pairs"] (spP (Rlm K)) (He.ga K "_law_monomial") _ := ⟨ok_Lmonomial F4 m_tuple m_sorted, (PySem.W.mg_of X G a4), k4, b4⟩
  have C5_ : Cal l.prog w K mg base "_law_lowest" 1 ["_law_top", "_law_bottom"] (spP (Rlow2 K)) (He.ga K "_law_lowest") _ := ⟨ok_Llowest F5 m_abs, (PySem.W.mg_of X G a5), k5, b5⟩
  have C6_ : Cal l.prog w K mg base "_law_number" 3 ["_law_state"] (spNum K TT) (He.ga K "_law_number") _ := ⟨ok_Lnumber F6 C2_ C5_, (PySem.W.mg_of X G a6), k6, b6⟩
  have C7_ : Cal l.prog w K mg base "_law_added" 2 ["_law_one", "_law_other", "_law_number_here"] (spP (Radd K)) (He.ga K "_law_added") _ := ⟨ok_Ladded F7 C5_ m_dict m_tuple m_sorted, (PySem.W.mg_of X G a7), k7, b7⟩
  have CT_ : Cal l.prog w K mg base "_law_added" 2 ["_law_one", "_law_other", "_law_number_here"] (spP (RaddT K)) (He.ga K "_law_added") _ := ⟨ok_LaddedT F7 C5_ m_dict m_tuple m_sorted, (PySem.W.mg_of X G a7), k7, b7⟩
  have C8_ : Cal l.prog w K mg base "_law_poly" 4 ["_law_state", "_law_names", "_law_axes", "_law_size", "_law_high"] (spPoly K TT) (He.ga K "_law_poly") _ := ⟨ok_Lpoly F8 C2_ C3_ C4_ C6_ C7_ m_range m_tuple, (PySem.W.mg_of X G a8), k8, b8⟩
  have C9_ : Cal l.prog w K mg base "sum_of" 1 ["one", "other"] (spP (Rsum K)) (He.ga K "sum_of") _ := ⟨ok_sum_of F9 (PySem.W.mg_of X G gGC), (PySem.W.mg_of X G a9), k9, b9⟩
  have C10_ : Cal l.prog w K mg base "add_term" 2 ["total", "monomial", "number"] (spAddT l.prog w K) (He.ga K "add_term") _ := ⟨ok_add_term F10 C9_, (PySem.W.mg_of X G a10), k10, b10⟩
  have C11_ : Cal l.prog w K mg base "add_to" 3 ["total", "one"] (spAddTo l.prog w K) (He.ga K "add_to") _ := ⟨ok_add_to F11 C10_, (PySem.W.mg_of X G a11), k11, b11⟩
  have C12_ : Cal l.prog w K mg base "polynomial_of" 1 ["total"] (spP (Rpof l.prog w K)) (He.ga K "polynomial_of") _ := ⟨ok_polynomial_of F12 m_tuple m_sorted, (PySem.W.mg_of X G a12), k12, b12⟩
  have C13_ : Cal l.prog w K mg base "plus" 4 ["one", "other"] (spP (Rplus K)) (He.ga K "plus") _ := ⟨ok_plus F13 C11_ C12_, (PySem.W.mg_of X G a13), k13, b13⟩
  have C14_ : Cal l.prog w K mg base "product" 1 ["one", "other"] (spP (Rprod K)) (He.ga K "product") _ := ⟨ok_product F14 (PySem.W.mg_of X G gGC), (PySem.W.mg_of X G a14), k14, b14⟩
  have C15_ : Cal l.prog w K mg base "scaled" 2 ["one", "number"] (spP (Rscaled K)) (He.ga K "scaled") _ := ⟨ok_scaled F15 C14_ m_tuple, (PySem.W.mg_of X G a15), k15, b15⟩
  have C16_ : Cal l.prog w K mg base "less" 5 ["one", "other"] (spP (Rless K)) (He.ga K "less") _ := ⟨ok_less F16 C13_ C15_, (PySem.W.mg_of X G a16), k16, b16⟩
  have C17_ : Cal l.prog w K mg base "monomials_together" 1 ["one", "other"] (spP (Rmm K)) (He.ga K "monomials_together") _ := ⟨ok_monomials_together F17 m_tuple m_sorted, (PySem.W.mg_of X G a17), k17, b17⟩
  have C18_ : Cal l.prog w K mg base "times" 3 ["one", "other"] (spP (Rtimes K)) (He.ga K "times") _ := ⟨ok_times F18 C17_ C14_ C10_ C12_, (PySem.W.mg_of X G a18), k18, b18⟩
  have C19_ : Cal l.prog w K mg base "_law_times" 3 ["_law_one", "_law_other"] (spP (Rltimes K)) (He.ga K "_law_times") _ := ⟨ok_Ltimes F19 C4_ C7_, (PySem.W.mg_of X G a19), k19, b19⟩
  have C20_ : Cal l.prog w K mg base "constant" 1 ["number"] (spP (Rconst K)) (He.ga K "constant") _ := ⟨ok_constant F20 , (PySem.W.mg_of X G a20), k20, b20⟩
  have G_of_derivative : FnOk l.prog w K mg base CX0 2 (He.ga K "of_derivative") _ ["derivative", "power"] (spP (Rofd K)) := ok_of_derivative F38 C20_ (PySem.W.mg_of X G go_ONE) vON
  have C21_ : Cal l.prog w K mg base "raised" 4 ["one", "power"] (spP (Rraise K)) (He.ga K "raised") _ := ⟨ok_raised F21 C20_ C18_ (PySem.W.mg_of X G go_ONE) vON, (PySem.W.mg_of X G a21), k21, b21⟩
  have C22_ : Cal l.prog w K mg base "_law_plain_right" 6 ["_law_one", "_law_other"] (spP (Rplain K)) (He.ga K "_law_plain_right") _ := ⟨ok_Lplain_right F22 C15_ C16_ C21_ C19_ C18_, (PySem.W.mg_of X G a22), k22, b22⟩
  have C23_ : Cal l.prog w K mg base "_law_derived" 3 ["_law_one", "_law_axis"] (spP (Rlder K)) (He.ga K "_law_derived") _ := ⟨ok_Lderived F23 C4_ C7_, (PySem.W.mg_of X G a23), k23, b23⟩
  have C24_ : Cal l.prog w K mg base "derivatives_in" 1 ["one"] (spP (Rdin K)) (He.ga K "derivatives_in") _ := ⟨ok_derivatives_in F24 m_tuple m_sorted, (PySem.W.mg_of X G a24), k24, b24⟩
  have C25_ : Cal l.prog w K mg base "by_powers" 2 ["one", "derivative"] (spP (Rbyp K)) (He.ga K "by_powers") _ := ⟨ok_by_powers F25 C12_ m_enumerate m_len, (PySem.W.mg_of X G a25), k25, b25⟩
  have C26_ : Cal l.prog w K mg base "put_into" 5 ["one", "derivative", "other"] (spP (Rputi K)) (He.ga K "put_into") _ := ⟨ok_put_into F26 C25_ C18_ C13_, (PySem.W.mg_of X G a26), k26, b26⟩
  have C27_ : Cal l.prog w K mg base "_law_put" 4 ["_law_one", "_law_derivative_here", "_law_other"] (spP (Rlput K)) (He.ga K "_law_put") _ := ⟨ok_Lput F27 CT_ C19_ m_sum m_tuple m_range, (PySem.W.mg_of X G a27), k27, b27⟩
  have C28_ : Cal l.prog w K mg base "_power_of" 2 ["number", "power"] (spP (Rpow K)) (He.ga K "_power_of") _ := ⟨ok__power_of F28 C14_ (PySem.W.mg_of X G go_ONE) vON, (PySem.W.mg_of X G a28), k28, b28⟩
  have C29_ : Cal l.prog w K mg base "value_of" 3 ["one", "numbers"] (spP (Rval l.prog w K)) (He.ga K "value_of") _ := ⟨ok_value_of F29 C14_ C28_ C9_ (PySem.W.mg_of X G go_NOUGHT) vNO, (PySem.W.mg_of X G a29), k29, b29⟩
  have C30_ : Cal l.prog w K mg base "_law_value" 2 ["_law_one", "_law_numbers"] (spP (Rlval l.prog w K)) (He.ga K "_law_value") _ := ⟨ok_Lvalue F30 C5_ m_range, (PySem.W.mg_of X G a30), k30, b30⟩
  have C31_ : Cal l.prog w K mg base "number_in" 1 ["one"] (spP (Rnin K)) (He.ga K "number_in") _ := ⟨ok_number_in F31 (PySem.W.mg_of X G go_NOUGHT) vNO, (PySem.W.mg_of X G a31), k31, b31⟩
  have C32_ : Cal l.prog w K mg base "is_number" 1 ["one"] (spP (Risn K)) (He.ga K "is_number") _ := ⟨ok_is_number F32 m_all, (PySem.W.mg_of X G a32), k32, b32⟩
  have C33_ : Cal l.prog w K mg base "monomial_degree" 1 ["monomial"] (spP (Rmdeg K)) (He.ga K "monomial_degree") _ := ⟨ok_monomial_degree F33 m_sum, (PySem.W.mg_of X G a33), k33, b33⟩
  have C34_ : Cal l.prog w K mg base "degree_of" 2 ["one"] (spP (Rdeg K)) (He.ga K "degree_of") _ := ⟨ok_degree_of F34 C33_ m_max, (PySem.W.mg_of X G a34), k34, b34⟩
  have C35_ : Cal l.prog w K mg base "order_of" 2 ["one"] (spP (Rord K)) (He.ga K "order_of") _ := ⟨ok_order_of F35 C24_ m_max, (PySem.W.mg_of X G a35), k35, b35⟩
  have C36_ : Cal l.prog w K mg base "names_in" 2 ["one"] (spP (Rnmi K)) (He.ga K "names_in") _ := ⟨ok_names_in F36 C24_ m_tuple m_sorted, (PySem.W.mg_of X G a36), k36, b36⟩
  have C37_ : Gd.CalG l.prog w K mg base "_law_told_right" 3 ["_law_one"] (spP (Rtold K)) (He.ga K "_law_told_right") _ := ⟨ok_Ltold_right F37 C32_ C31_ C34_ C35_ C24_ C36_ m_repr m_list m_set m_sorted m_sum m_max m_tuple, (PySem.W.mg_of X G a37), k37, b37⟩
  have C39_ : Gd.CalG l.prog w K mg base "_law_made_right" 5 ["_law_spot", "_law_number_here", "_law_wide"] (spP (Rmade K)) (He.ga K "_law_made_right") _ := ⟨ok_Lmade_right F39 C20_ C21_ C37_ G_of_derivative (PySem.W.mg_of X G a38) k38 b38 v_of_derivative kb_of_derivative, (PySem.W.mg_of X G a39), k39, b39⟩
  have C40_ : Cal l.prog w K mg base "_higher" 1 ["derivative", "axis"] (spP Rhigh) (He.ga K "_higher") _ := ⟨ok__higher F40 , (PySem.W.mg_of X G a40), k40, b40⟩
  have C41_ : Cal l.prog w K mg base "_derived_once" 3 ["one", "axis"] (spP (Rder1 K)) (He.ga K "_derived_once") _ := ⟨ok__derived_once F41 C40_ C17_ C14_ C10_ C12_ m_enumerate, (PySem.W.mg_of X G a41), k41, b41⟩
  have G_derived : FnOk l.prog w K mg base CX0 4 (He.ga K "derived") _ ["one", "axis", "many"] (spP (Rder K)) := ok_derived F42 C41_ m_range
  exact ok_law F43 CT_ C0_ C2_ C8_ C6_ C3_ C13_ C16_ C18_ C19_ C15_ C22_ C23_ C24_ C26_ C27_ C29_ C30_ C31_ m_enumerate m_sum m_repr m_range m_list m_len C39_ C37_ G_of_derivative (PySem.W.mg_of X G a38) k38 b38 v_of_derivative kb_of_derivative G_derived (PySem.W.mg_of X G a42) k42 b42 v_derived kb_derived
theorem walk2 {l : PySem.W.OpenLaw} {q : Program} {loose : List Str} {XP : (Str → Option Value) → Heap → Prop} {YP : World → Heap → Prop} {d : DefRec} (hn : l.most = some 63) (hdf : d.params.defaults = [])
    (F : ∀ (w : World) (mg : Str → Option Value) (fa : Addr) (h : Heap), YP w h → h.Ns mainGlobals mg → mg d.name = some (.ref fa) → ∃ K : PySem.W.Frag, K.In h ∧ Gd.LawAtG l w K 8 63 "_law_script" mg fa h) :
    PySem.W.WalkO q loose XP YP l.row.toRowW d [] (fun f vs => PySem.call f vs) :=
  Att.attach_callB hn hdf fun w _ _ mg _ fa _ _ _ _ a _ ns G Y _ _ _ hmg hobj hints hlen hbits hg => by
    obtain ⟨K, KX, fd, cs, sp, hT, nT, C, hb, hsp, hF⟩ := F w mg fa _ Y G.T.g hmg
    exact Gd.lawG KX G.T.g G.T.b G.T.builtins G.T.nolimit hg hT nT C G.T.bmain hobj hints (Nat.le_trans hlen (by decide)) ⟨rfl, by decide, by decide⟩ hF hb fun H hH hS => hsp H a ns hlen hbits hH hS
end K12
open PySem PySem.W PySem.Calls PyProof.Rows
set_option maxRecDepth 100000 in
set_option maxHeartbeats 0 in
theorem PySem.Challenge.cw_rankedchains_k03_polynomials_reckoned_holds : PySem.Challenge.rw_rankedchains_k03_polynomials_reckoned.Holds := by
  w_on; o_law
  refine HandSHeadRun.head_imp (r := OpenLaw.row PySem.Challenge.rw_rankedchains_k03_polynomials_reckoned) (q := view (OpenLaw.row PySem.Challenge.rw_rankedchains_k03_polynomials_reckoned).prog [0, 49]) (H := K12.hk) (ob := K12.hob) (M := 7000) (loose := K12.hnames) (d := HandSHeadRun.topDef (OpenLaw.row PySem.Challenge.rw_rankedchains_k03_polynomials_reckoned).prog 49) (kwd := []) K12.hob_eq
    K12.hrun (by kernel_rfl) (by kernel_rfl) (by kernel_rfl) (by rfl) (by first | assumption | decide +kernel) (by decide +kernel) ⟨rfl, rfl, rfl, rfl, rfl, by decide +kernel⟩ ?hw ?hc
  case hw => w_witness2
  case hc =>
    refine K12.walk2 (l := PySem.Challenge.rw_rankedchains_k03_polynomials_reckoned) rfl (by kernel_rfl) (fun w mg fa h Y G hmg0 => ?_)
    obtain ⟨K, KX, c, e, ev, lm⟩ := Y
    have hmg : mg ("law" : PySem.Str) = some (.ref fa) := by
      have e : (HandSHeadRun.topDef (OpenLaw.row PySem.Challenge.rw_rankedchains_k03_polynomials_reckoned).prog 49).name = ("law" : PySem.Str) := by kernel_rfl
      rw [← e]
      exact hmg0
    exact ⟨K, KX, K12.all_mk2 KX G hmg c e ev lm⟩
#print axioms PySem.Challenge.cw_rankedchains_k03_polynomials_reckoned_holds
