import PyProof.Rows.All
import Wide.All
import OpenK.AllK
import Wide.FinOn
import HandS.ForMost
import HandS.ForExc
import HandS.Walk
import HandS.Strs
import HandS.Deep
import HandS.Conv
import HandS.IsInst
import HandS.Style
import HandS.Evl
import HandS.Wide
import HandS.Set
import HandS.Nested
import HandS.EndTab
import KE.SortKeyHeap
import KE.KDictCopyH
import KE.KDictPairs
import KE.DataMinKey
import KE.DataCmp
import HandS.More
import HandS.Defaults
import HandS.Gcd
import HandS.TryOnly
import HandS.Conv
import HandS.TupAny
import HandS.NoneIn
import KE.SortData
import KE.SortCalls
import KE.KDictKeyed
import PyProof.DictRoadsH
import PyProof.DictCompW
import HandS.DictComp
import HandS.DictTup
import HandS.RaiseMore
import HandS.Comp
import HandS.Lambda
import HandS.SortKw
import PyProof.ReprRoads
import PyProof.CallFns
import PyProof.ReprLen
import PyProof.StrLawsRepr
import PyProof.ReprText
import PyProof.DictItems
import KE.KRevSl
import KE.KDictWalk
import KE.GoesMore
import KE.GoesEnum
import KE.LtData
import HandS.ExcInit
import KE.KExcInit
import KE.KExcIs
import HandS.New
import HandS.ExcValue
import HandS.MakeKw
import HandS.ExcOwn
import HandS.WordsExc
import PySem.Challenge.RW_rankedchains_k18_whole_derived_and_princ
set_option Elab.async false
set_option maxRecDepth 100000
set_option maxHeartbeats 4000000
namespace My
open PySem L2
theorem isP {p : Prop} (h : p) : p := h
theorem new {H : Hp} {p : Addr} {o : HO} (hp : H p = none) : Same H (upd H p o) := fun b u e => by
  rw [upd_ne (ne_of_none e hp)]
  exact e
theorem new2 {H : Hp} {p : Addr} {o o' : HO} (hp : H p = none) : Same H (upd (upd H p o) p o') := fun b u e => by
  rw [upd_ne (ne_of_none e hp), upd_ne (ne_of_none e hp)]
  exact e
theorem lstNew {K : PySem.W.Frag} {H : Hp} {p : Addr} {xs : List V} : SqL K (upd H p (.lst xs)) p xs := .inl (.inl upd_same)
theorem atIn {α : Type} (xs : List α) (i : Int) (h0 : 0 ≤ i) (h1 : i < xs.length) : ∃ v, v ∈ xs ∧ atI xs i = some v := by
  obtain ⟨n, rfl⟩ : ∃ n : Nat, i = (n : Int) := ⟨i.toNat, by omega⟩
  have hn : n < xs.length := by omega
  exact ⟨xs[n], List.getElem_mem hn, atI_nat (List.getElem?_eq_getElem hn)⟩
theorem cutTo (xs : List V) (k : Nat) : cutV xs none (some (k : Int)) = xs.take k := by
  unfold cutV
  rw [HT.sIx_none, HT.sIx_nat, List.drop_zero, Nat.sub_zero]
  by_cases h : k ≤ xs.length
  · rw [Nat.min_eq_left h]
  · rw [Nat.min_eq_right (by omega), List.take_length, List.take_of_length_le (by omega)]
theorem small {n : Nat} (h : n ≤ 1000) : n ≤ sizeLine := Nat.le_of_lt (small1000 h)
end My
namespace My
set_option autoImplicit false
open PySem L2 Evl
/-- what is known of a value, whatever is made beside -/
structure Pr where
  P : V → Hp → Prop
  m : ∀ {v : V} {H H' : Hp}, Ex H H' → P v H → P v H'
def AllP : List Pr → List V → Hp → Prop
  | [], [], _ => True
  | p :: ps, v :: vs, H => p.P v H ∧ AllP ps vs H
  | [], _ :: _, _ => False
  | _ :: _, [], _ => False
theorem AllP.m {H H' : Hp} (e : Ex H H') : ∀ {ps : List Pr} {vs : List V}, AllP ps vs H → AllP ps vs H'
  | [], [], _ => trivial
  | _ :: _, _ :: _, h => ⟨Pr.m _ e h.1, AllP.m e h.2⟩
theorem AllP.len {H : Hp} : ∀ {ps : List Pr} {vs : List V}, AllP ps vs H → vs.length = ps.length
  | [], [], _ => rfl
  | _ :: _, _ :: _, h => congrArg Nat.succ (AllP.len h.2)
theorem AllP.app {H : Hp} : ∀ {ps qs : List Pr} {vs ws : List V}, AllP ps vs H → AllP qs ws H → AllP (ps ++ qs) (vs ++ ws) H
  | [], _, [], _, _, h => h
  | _ :: _, _, _ :: _, _, a, h => ⟨a.1, AllP.app a.2 h⟩
theorem AllP.get {H : Hp} : ∀ {ps : List Pr} {vs : List V} {i : Nat} {v : V}, AllP ps vs H → vs[i]? = some v → ∃ p, ps[i]? = some p ∧ p.P v H
  | [], [], i, v, _, h => by simp at h
  | p :: _, w :: _, 0, v, a, h => by
    obtain rfl : w = v := Option.some.inj h
    exact ⟨p, rfl, a.1⟩
  | _ :: _, _ :: _, i + 1, v, a, h => AllP.get (i := i) a.2 h
theorem AllP.at {H : Hp} : ∀ {ps : List Pr} {vs : List V} {i : Nat} {p : Pr}, AllP ps vs H → ps[i]? = some p → ∃ v, vs[i]? = some v ∧ p.P v H
  | [], [], i, v, _, h => by simp at h
  | q :: _, w :: _, 0, p, a, h => by
    obtain rfl : q = p := Option.some.inj h
    exact ⟨w, rfl, a.1⟩
  | _ :: _, _ :: _, i + 1, v, a, h => AllP.at (i := i) a.2 h
/-- without tables of code -/
def NoTab (B : Hp) : Prop := ∀ b ps, B b ≠ some (.tbl ps)
/-- from what is known, B, within the heap H, to B' within H': what is known of B' leans on nothing else that stood in H -/
structure Gr (B H B' H' : Hp) : Prop where
  a : Ex H H'
  b : Ex B B'
  c : Ex B' H'
  d : ∀ x, B x = none → H x ≠ none → B' x = none
  e : NoTab B → NoTab B'
theorem Gr.refl {B H : Hp} (e : Ex B H) : Gr B H B H := ⟨Ex.refl H, Ex.refl B, e, fun _ h _ => h, id⟩
theorem has {H H' : Hp} {x : Addr} (e : Ex H H') (h : H x ≠ none) : H' x ≠ none := by
  cases q : H x with
  | none => exact absurd q h
  | some o =>
    rw [e x o q]
    exact fun z => nomatch z
theorem Gr.trans {B H B1 H1 B2 H2 : Hp} (g : Gr B H B1 H1) (k : Gr B1 H1 B2 H2) : Gr B H B2 H2 :=
  ⟨g.a.trans k.a, g.b.trans k.b, k.c, fun x hb hh => k.d x (g.d x hb hh) (has g.a hh), fun z => k.e (g.e z)⟩
/-- nothing new is known -/
theorem Gr.wide {B H H1 : Hp} (e : Ex B H) (k : Ex H H1) : Gr B H B H1 := ⟨k, Ex.refl B, e.trans k, fun _ h _ => h, id⟩
/-- a new object -/
theorem Gr.new {B H : Hp} {r : Addr} (o : HO) (e : Ex B H) (hr : H r = none) (ho : ∀ ps, o ≠ .tbl ps := by intro _ z; cases z) : Gr B H (upd B r o) (upd H r o) :=
  ⟨Ex.new hr, Ex.new (fresh_back e hr), fun a u h => by
    by_cases q : a = r
    · subst q
      rw [upd_same] at h ⊢
      exact h
    · rw [upd_ne q] at h ⊢
      exact e a u h, fun x hb hh => by
    by_cases q : x = r
    · subst q
      exact absurd hr hh
    · rw [upd_ne q]
      exact hb, fun z b ps q => by
    by_cases n : b = r
    · subst n
      rw [upd_same] at q
      exact ho ps (Option.some.inj q)
    · rw [upd_ne n] at q
      exact z b ps q⟩
/-- two parts of one heap together -/
def both (B C : Hp) : Hp := fun b => match B b with
  | some o => some o
  | none => C b
theorem both_l {B C : Hp} : Ex B (both B C) := fun a o h => by
  unfold both
  rw [h]
theorem both_r {B C H : Hp} (e : Ex B H) (k : Ex C H) : Ex C (both B C) := fun a o h => by
  unfold both
  cases q : B a with
  | none => exact h
  | some u =>
    have h1 := e a u q
    have h2 := k a o h
    rw [h1] at h2
    exact h2
theorem both_in {B C H : Hp} (e : Ex B H) (k : Ex C H) : Ex (both B C) H := fun a o h => by
  unfold both at h
  cases q : B a with
  | none =>
    rw [q] at h
    exact k a o h
  | some u =>
    rw [q] at h
    obtain rfl : u = o := Option.some.inj h
    exact e a u q
theorem both_none {B C : Hp} {x : Addr} (h : B x = none) (k : C x = none) : both B C x = none := by
  unfold both
  rw [h]
  exact k
theorem both_nt {B C : Hp} (h : NoTab B) (k : NoTab C) : NoTab (both B C) := fun b ps q => by
  unfold both at q
  cases z : B b with
  | none =>
    rw [z] at q
    exact k b ps q
  | some o =>
    rw [z] at q
    have q : some o = some (HO.tbl ps) := q
    rw [q] at z
    exact h b ps z
/-- one behind the other, each from the same B -/
theorem Gr.join {B H B1 H1 B2 H2 : Hp} (g : Gr B H B1 H1) (k : Gr B H1 B2 H2) : Gr B H (both B1 B2) H2 :=
  ⟨g.a.trans k.a, g.b.trans both_l, both_in (g.c.trans k.a) k.c, fun x hb hh => both_none (g.d x hb hh) (k.d x hb (has g.a hh)), fun z => both_nt (g.e z) (k.e z)⟩
/-- without D -/
def wo (D : Addr) (H : Hp) : Hp := fun b => if b = D then none else H b
theorem wo_ne {D b : Addr} {H : Hp} (n : b ≠ D) : wo D H b = H b := if_neg n
theorem wo_same {D : Addr} {H : Hp} : wo D H D = none := if_pos rfl
theorem wo_some {D b : Addr} {H : Hp} {o : HO} (h : wo D H b = some o) : b ≠ D ∧ H b = some o := by
  by_cases n : b = D
  · rw [n, wo_same] at h
    exact nomatch h
  · rw [wo_ne n] at h
    exact ⟨n, h⟩
theorem wo_ex {D : Addr} {H : Hp} : Ex (wo D H) H := fun _ _ e => (wo_some e).2
theorem ex_wo {B H : Hp} {D : Addr} (e : Ex B H) (h : B D = none) : Ex B (wo D H) := fun b o k => by
  rw [wo_ne (ne_of_none k h)]
  exact e b o k
theorem wo_none {B H : Hp} {D : Addr} (e : Ex B (wo D H)) : B D = none := by
  cases q : B D with
  | none => rfl
  | some o =>
    have := e _ _ q
    rw [wo_same] at this
    exact nomatch this
theorem wo_new {H : Hp} {D : Addr} {o : HO} (h : H D = none) : wo D (upd H D o) = H := funext fun b => by
  by_cases n : b = D
  · rw [n, wo_same, h]
  · rw [wo_ne n, upd_ne n]
theorem wo_upd {H : Hp} {D : Addr} {o : HO} : wo D (upd H D o) = wo D H := funext fun b => by
  by_cases n : b = D
  · rw [n, wo_same, wo_same]
  · rw [wo_ne n, wo_ne n, upd_ne n]
/-- what a turn adds, the list at D left aside -/
theorem Gr.side {B H B1 H1 B2 H2 : Hp} {D : Addr} (g : Gr B H B1 (wo D H1)) (hD : H1 D ≠ none) (k : Gr B1 H1 B2 H2) : Gr B H B2 (wo D H2) :=
  ⟨fun b o e => by
    obtain ⟨n, q⟩ := wo_some (g.a b o e)
    rw [wo_ne n]
    exact k.a b o q, g.b.trans k.b, ex_wo k.c (k.d D (wo_none g.c) hD), fun x hb hh => k.d x (g.d x hb hh) (has wo_ex (has g.a hh)), fun z => k.e (g.e z)⟩
/-- just this value -/
def IsV (x : V) : Pr := ⟨fun v _ => v = x, fun _ h => h⟩
/-- a new list | a list | a tuple, of what -/
def LsP (ps : List Pr) : Pr := ⟨fun v H => ∃ p xs, v = .ref p ∧ H p = some (.lst xs) ∧ AllP ps xs H, fun e ⟨p, xs, a, b, c⟩ => ⟨p, xs, a, e _ _ b, c.m e⟩⟩
def LqP (K : PySem.W.Frag) (ps : List Pr) : Pr := ⟨fun v H => ∃ p xs, v = .ref p ∧ SqL K H p xs ∧ AllP ps xs H, fun e ⟨p, xs, a, b, c⟩ => ⟨p, xs, a, ex_l e b, c.m e⟩⟩
def TuP (K : PySem.W.Frag) (ps : List Pr) : Pr := ⟨fun v H => ∃ p xs, v = .ref p ∧ SqT K H p xs ∧ AllP ps xs H, fun e ⟨p, xs, a, b, c⟩ => ⟨p, xs, a, ex_t e b, c.m e⟩⟩
theorem lq_ls {K : PySem.W.Frag} {ps : List Pr} {v : V} {H : Hp} (h : (LsP ps).P v H) : (LqP K ps).P v H := by
  obtain ⟨p, xs, a, b, c⟩ := h
  exact ⟨p, xs, a, sq_of b, c⟩
mutual
theorem dp_m {K : PySem.W.Frag} {H H' : Hp} (e : Ex H H') : ∀ {d : PyData} {v : V}, Dp K H v d → Dp K H' v d
  | _, _, .non => .non
  | _, _, .bl b => .bl b
  | _, _, .int i => .int i
  | _, _, .str x => .str x
  | _, _, .lst a b => .lst (ex_l e a) (dps_m e b)
  | _, _, .tup a b => .tup (ex_t e a) (dps_m e b)
theorem dps_m {K : PySem.W.Frag} {H H' : Hp} (e : Ex H H') : ∀ {ds : List PyData} {vs : List V}, DpAll K H vs ds → DpAll K H' vs ds
  | _, _, .nil => .nil
  | _, _, .cons a b => .cons (dp_m e a) (dps_m e b)
end
/-- plain data -/
def IsD (K : PySem.W.Frag) (d : PyData) : Pr := ⟨fun v H => Dp K H v d, fun e h => dp_m e h⟩
theorem dps_of {K : PySem.W.Frag} {H : Hp} : ∀ {ds : List PyData} {vs : List V}, AllP (ds.map (IsD K)) vs H → DpAll K H vs ds
  | [], [], _ => .nil
  | _ :: _, _ :: _, h => .cons h.1 (dps_of h.2)
theorem dps_to {K : PySem.W.Frag} {H : Hp} : ∀ {ds : List PyData} {vs : List V}, DpAll K H vs ds → AllP (ds.map (IsD K)) vs H
  | [], [], _ => trivial
  | _ :: _, _ :: _, .cons a b => ⟨a, dps_to b⟩
/-- an expression gives such a value, over all that stands beside -/
def EvP (te : TE) (σ : L2.St) (B : Hp) (p : Pr) : Prop := ∀ H1, Ex B H1 → ∀ Q : VK, (∀ v B' H2, Gr B H1 B' H2 → p.P v B' → Q v H2) → te σ H1 Q
def EvPs (ta : TA) (σ : L2.St) (B : Hp) (ps : List Pr) : Prop := ∀ H1, Ex B H1 → ∀ Q : List V → Hp → Prop, (∀ vs B' H2, Gr B H1 B' H2 → AllP ps vs B' → Q vs H2) → ta σ H1 Q
section
variable {te ta tb : TE} {t tr : TA} {σ : L2.St} {B B' H : Hp} {p q : Pr} {ps qs : List Pr} {v : V} {K : PySem.W.Frag} {D : Ends}
theorem EvP.mono (e : Ex B B') (h : EvP te σ B p) : EvP te σ B' p := fun H1 a Q k => h H1 (e.trans a) Q fun v C H2 g b =>
  k v (both B' C) H2 ⟨g.a, both_l, both_in (a.trans g.a) g.c, fun x hb hh => both_none hb (g.d x (fresh_back e hb) hh), fun z => both_nt z (g.e fun b ps q => z b ps (e _ _ q))⟩ (p.m (both_r (a.trans g.a) g.c) b)
theorem EvP.imp (h : EvP te σ B p) (i : ∀ v B1, Ex B B1 → p.P v B1 → q.P v B1) : EvP te σ B q := fun H1 a _ k => h H1 a _ fun v B2 H2 g b => k v B2 H2 g (i v B2 g.b b)
theorem p_var {i : Nat} (h : σ[i]? = some (some v)) (hp : p.P v B) : EvP (tVar i) σ B p := fun H1 a _ k => ⟨v, h, k v B H1 (Gr.refl a) hp⟩
theorem p_c : EvP (tC v) σ B (IsV v) := fun H1 a _ k => k v B H1 (Gr.refl a) rfl
theorem p_ev (h : Ev te σ B v) : EvP te σ B (IsV v) := fun H1 a _ k => h H1 a _ fun H2 e => k v B H2 (Gr.wide a e) rfl
theorem ev_p (h : EvP te σ B (IsV v)) : Ev te σ B v := fun H1 a _ k => h H1 a _ fun w B2 H2 g b => by
  obtain rfl : w = v := b
  exact k H2 g.a
theorem q_nil : EvPs tNil σ B [] := fun H1 a _ k => k [] B H1 (Gr.refl a) trivial
theorem q_cons (h : EvP te σ B p) (hr : EvPs tr σ B ps) : EvPs (tCons te tr) σ B (p :: ps) := fun H1 a _ k =>
  h H1 a _ fun v B2 H2 g b => hr H2 (g.b.trans g.c) _ fun vs B3 H3 g3 b3 => k (v :: vs) (both B2 B3) H3 (g.join g3) ⟨p.m both_l b, b3.m (both_r (g.c.trans g3.a) g3.c)⟩
theorem p_lst (h : EvPs t σ B ps) (hl : ps.length ≤ 100000) : EvP (tLst t) σ B (LsP ps) := fun H1 a _ k =>
  h H1 a _ fun vs B2 H2 g b => ⟨sz_of (by rw [b.len]; exact hl), fun r hr => k _ _ _ (g.trans (Gr.new _ g.c hr)) ⟨r, vs, rfl, upd_same, b.m (Ex.new (fresh_back g.c hr))⟩⟩
theorem p_tup (h : EvPs t σ B ps) (hl : ps.length ≤ 100000) : EvP (tTup t) σ B (TuP K ps) := fun H1 a _ k =>
  h H1 a _ fun vs B2 H2 g b => ⟨sz_of (by rw [b.len]; exact hl), fun r hr => k _ _ _ (g.trans (Gr.new _ g.c hr)) ⟨r, vs, rfl, st_of upd_same, b.m (Ex.new (fresh_back g.c hr))⟩⟩
theorem p_cat (ha : EvP ta σ B (LsP ps)) (hb : EvP tb σ B (LsP qs)) (hl : ps.length + qs.length ≤ 100000) : EvP (tOp rCat ta tb) σ B (LsP (ps ++ qs)) := fun H1 a Q k =>
  ha H1 a _ fun v B2 H2 g b => hb H2 (g.b.trans g.c) _ fun w B3 H3 g3 b3 => by
    obtain ⟨p, xs, rfl, hp, hx⟩ := b
    obtain ⟨q, ys, rfl, hq, hy⟩ := b3
    have l1 := hx.len
    have l2 := hy.len
    have gj := g.join g3
    refine ⟨p, q, xs, ys, rfl, rfl, g3.a _ _ (g.c _ _ hp), g3.c _ _ hq, sz_of (by omega), fun r hr => k _ _ _ (gj.trans (Gr.new _ gj.c hr)) ⟨r, xs ++ ys, rfl, upd_same, ?_⟩⟩
    have en : Ex (both B2 B3) (upd (both B2 B3) r (.lst (xs ++ ys))) := Ex.new (fresh_back gj.c hr)
    exact (hx.m (both_l.trans en)).app (hy.m ((both_r (g.c.trans g3.a) g3.c).trans en))
/-- of data -/
theorem d_lst {ds : List PyData} (h : EvP te σ B (LsP (ds.map (IsD K)))) : EvP te σ B (IsD K (.list ds)) := h.imp fun v H1 _ b => by
  obtain ⟨r, xs, rfl, hr, hx⟩ := b
  exact .lst (sq_of hr) (dps_of hx)
theorem d_tup {ds : List PyData} (h : EvP te σ B (TuP K (ds.map (IsD K)))) : EvP te σ B (IsD K (.tuple ds)) := h.imp fun v H1 _ b => by
  obtain ⟨r, xs, rfl, hr, hx⟩ := b
  exact .tup hr (dps_of hx)
theorem d_int {i : Int} (h : EvP te σ B (IsV (.int i))) : EvP te σ B (IsD K (.int i)) := h.imp fun v H1 _ b => by
  obtain rfl : v = V.int i := b
  exact .int i
theorem d_str {x : Str} (h : EvP te σ B (IsV (.str x))) : EvP te σ B (IsD K (.str x)) := h.imp fun v H1 _ b => by
  obtain rfl : v = V.str x := b
  exact .str x
theorem d_bl {x : Bool} (h : EvP te σ B (IsV (.bl x))) : EvP te σ B (IsD K (.bool x)) := h.imp fun v H1 _ b => by
  obtain rfl : v = V.bl x := b
  exact .bl x
theorem ev_eqD {d e : PyData} (ha : EvP ta σ B (IsD K d)) (hb : EvP tb σ B (IsD K e)) (hd : SeqAt.shaped d = true) (he : SeqAt.shaped e = true) : Ev (tOp (rEqD K) ta tb) σ B (.bl (PyData.eqv d e)) := fun H1 a Q k =>
  ha H1 a _ fun v B2 H2 g b => hb H2 (g.b.trans g.c) _ fun w B3 H3 g3 b3 => ⟨d, e, dp_m (g.c.trans g3.a) b, dp_m g3.c b3, hd, he, k H3 (g.a.trans g3.a)⟩
theorem ev_neD {d e : PyData} (ha : EvP ta σ B (IsD K d)) (hb : EvP tb σ B (IsD K e)) (hd : SeqAt.shaped d = true) (he : SeqAt.shaped e = true) : Ev (tOp (rNeD K) ta tb) σ B (.bl (!PyData.eqv d e)) := fun H1 a Q k =>
  ha H1 a _ fun v B2 H2 g b => hb H2 (g.b.trans g.c) _ fun w B3 H3 g3 b3 => ⟨d, e, dp_m (g.c.trans g3.a) b, dp_m g3.c b3, hd, he, k H3 (g.a.trans g3.a)⟩
theorem ps_asg {i : Nat} (a : Ex B H) (h : EvP te σ B p) (k : ∀ v B1 H1, Gr B H B1 H1 → p.P v B1 → D.nx (σ.set i (some v)) H1) : tAsg te (gName i) D σ H := h H a _ k
theorem ps_asgN {i : Nat} (σ' : V → L2.St) (a : Ex B H) (h : EvP te σ B p) (k : ∀ v B1 H1, Gr B H B1 H1 → p.P v B1 → D.nx (σ' v) H1) (e : ∀ v, σ.set i (some v) = σ' v := by intro _; rfl) : tAsg te (gName i) D σ H := h H a _ fun v B1 H1 g b => by
  have := k v B1 H1 g b
  rw [← e v] at this
  exact this
theorem ps_ret (a : Ex B H) (h : EvP te σ B p) (k : ∀ v B1 H1, Gr B H B1 H1 → p.P v B1 → D.rt v H1) : tRet te D σ H := h H a _ k
/-- a call: what the def is handed, what it tells -/
def SpOk (sp : Sp) (ps : List Pr) (p : Pr) : Prop := ∀ vs B H Q E, Ex B H → AllP ps vs B → (∀ u B' H', Gr B H B' H' → p.P u B' → Q u H') → sp vs H Q E
theorem p_call {sp : Sp} (h : EvPs t σ B ps) (hs : SpOk sp ps p) : EvP (tCall sp [] E0 t) σ B p := fun H1 a Q k =>
  h H1 a _ fun vs B2 H2 g b => by
    rw [List.append_nil]
    exact hs vs B2 H2 Q E0 g.c b fun u B3 H3 g3 c => k u B3 H3 (g.trans g3) c
/-- a comprehension over a list, some items left out -/
theorem p_lc {g : TG} {tt : TT} {vs : List Nat} (h : EvP ta σ B (LqP K ps)) (hl : ps.length ≤ 100000) (keep : Nat → Bool) (res : Nat → Pr)
    (step : ∀ i p v B1, ps[i]? = some p → Ex B B1 → p.P v B1 → ∃ σ2, wipe σ2 vs = wipe σ vs ∧ (∀ H2 Q, Ex B1 H2 → Q σ2 H2 → g v (wipe σ vs) H2 Q) ∧ EvT tt σ2 B1 (keep i) ∧ (keep i = true → EvP te σ2 B1 (res i))) :
    EvP (tLc (iList K ta) g tt te vs) σ B (LsP (((List.range ps.length).filter keep).map res)) := fun H1 a Q k =>
  h H1 a _ fun v B2 H2 gr b => by
    obtain ⟨l, xs, rfl, hx, hal⟩ := b
    have hlen := hal.len
    refine ⟨l, rfl, ⟨xs, ex_l gr.c hx⟩, fun Dd hD => ?_⟩
    refine lc_list (K := K) (a := l) (xs := xs) (fun i H3 => ∃ B3 acc, Gr B2 H2 B3 (wo Dd H3) ∧ H3 Dd = some (.lst acc) ∧ AllP (((List.range i).filter keep).map res) acc B3) ?_ ?_ ?_ ?_
    · exact ⟨B2, [], by rw [wo_new hD]; exact Gr.refl gr.c, upd_same, trivial⟩
    · rintro i H3 _ ⟨B3, acc, g3, _, _⟩
      exact ex_l (g3.b.trans (g3.c.trans wo_ex)) hx
    · rintro i x H3 hi ⟨B3, acc, g3, hDd, hacc⟩
      obtain ⟨p, hp, px⟩ := hal.get hi
      have hil : i < xs.length := (List.getElem?_eq_some_iff.mp hi).1
      have exB : Ex B3 H3 := g3.c.trans wo_ex
      have hB3 : B3 Dd = none := wo_none g3.c
      have some3 : H3 Dd ≠ none := by
        rw [hDd]
        exact fun z => nomatch z
      obtain ⟨σ2, hw, hg, ht, he⟩ := step i p x B3 hp (gr.b.trans g3.b) (p.m g3.b px)
      refine hg H3 _ exB ⟨hw, ht H3 exB _ fun H4 e4 => ?_⟩
      have e34 : Ex B3 H4 := exB.trans e4
      have hD4 := e4 _ _ hDd
      have g4 : Gr B2 H2 B3 (wo Dd H4) := g3.side some3 (Gr.wide exB e4)
      have some4 : H4 Dd ≠ none := has e4 some3
      cases hk : keep i with
      | true =>
        rw [if_pos rfl]
        refine he hk H4 e34 _ fun y B5 H5 g5 hy => ?_
        have la : acc.length ≤ i := by
          rw [hacc.len, List.length_map]
          exact Nat.le_trans (List.length_filter_le _ _) (by rw [List.length_range]; exact Nat.le_refl _)
        refine ⟨acc, g5.a _ _ hD4, sz_lt (by omega), B5, acc ++ [y], by rw [wo_upd]; exact g4.side some4 g5, upd_same, ?_⟩
        rw [List.range_succ, List.filter_append, List.map_append]
        refine (hacc.m g5.b).app ?_
        have : List.filter keep [i] = [i] := by simp [hk]
        rw [this]
        exact ⟨hy, trivial⟩
      | false =>
        rw [if_neg Bool.false_ne_true]
        refine ⟨B3, acc, g4, hD4, ?_⟩
        rw [List.range_succ, List.filter_append, List.map_append]
        have : List.filter keep [i] = [] := by simp [hk]
        rw [this, List.map_nil, List.append_nil]
        exact hacc
    · rintro H3 ⟨B3, acc, g3, hDd, hacc⟩
      have hB3 : B3 Dd = none := wo_none g3.c
      rw [hlen] at hacc
      refine k (.ref Dd) (upd B3 Dd (.lst acc)) H3 ⟨gr.a.trans (g3.a.trans wo_ex), gr.b.trans (g3.b.trans (Ex.new hB3)), fun b o e => ?_, fun x hb hh => ?_, fun z b ps q => ?_⟩ ⟨Dd, acc, rfl, upd_same, hacc.m (Ex.new hB3)⟩
      · by_cases n : b = Dd
        · subst n
          rw [upd_same] at e
          rw [hDd]
          exact e
        · rw [upd_ne n] at e
          exact g3.c.trans wo_ex _ _ e
      · have n : x ≠ Dd := fun z => by
          subst z
          exact has gr.a hh hD
        rw [upd_ne n]
        exact g3.d x (gr.d x hb hh) (has gr.a hh)
      · by_cases n : b = Dd
        · subst n
          rw [upd_same] at q
          cases q
        · rw [upd_ne n] at q
          exact g3.e (gr.e z) b ps q
end
end My
namespace My
set_option autoImplicit false
open PySem L2 Evl
/-- what is known says which data it is -/
def To (K : PySem.W.Frag) (p : Pr) (d : PyData) : Prop := ∀ v H, p.P v H → Dp K H v d
inductive ToAll (K : PySem.W.Frag) : List Pr → List PyData → Prop
  | nil : ToAll K [] []
  | cons {p : Pr} {d : PyData} {ps : List Pr} {ds : List PyData} : To K p d → ToAll K ps ds → ToAll K (p :: ps) (d :: ds)
section
variable {te ta tb : TE} {t tr : TA} {σ : L2.St} {B B' H : Hp} {p q : Pr} {ps qs : List Pr} {v : V} {K : PySem.W.Frag} {D : Ends} {d e : PyData} {ds : List PyData}
theorem to_int {i : Int} : To K (IsV (.int i)) (.int i) := fun v H h => by
  obtain rfl : v = _ := h
  exact .int i
theorem to_str {x : Str} : To K (IsV (.str x)) (.str x) := fun v H h => by
  obtain rfl : v = _ := h
  exact .str x
theorem to_bl {b : Bool} : To K (IsV (.bl b)) (.bool b) := fun v H h => by
  obtain rfl : v = _ := h
  exact .bl b
theorem to_non : To K (IsV .non) .none := fun v H h => by
  obtain rfl : v = _ := h
  exact .non
theorem toAll_all {H : Hp} : ∀ {ps : List Pr} {ds : List PyData} {vs : List V}, ToAll K ps ds → AllP ps vs H → DpAll K H vs ds
  | [], _, [], .nil, _ => .nil
  | _ :: _, _, _ :: _, .cons a b, h => .cons (a _ _ h.1) (toAll_all b h.2)
theorem to_lst (h : ToAll K ps ds) : To K (LsP ps) (.list ds) := fun v H hv => by
  obtain ⟨r, xs, rfl, hr, hx⟩ := hv
  exact .lst (sq_of hr) (toAll_all h hx)
theorem to_tup (h : ToAll K ps ds) : To K (TuP K ps) (.tuple ds) := fun v H hv => by
  obtain ⟨r, xs, rfl, hr, hx⟩ := hv
  exact .tup hr (toAll_all h hx)
theorem toAll_map {α : Type} {f : α → Pr} {g : α → PyData} (l : List α) (h : ∀ x, To K (f x) (g x)) : ToAll K (l.map f) (l.map g) := by
  induction l with
  | nil => exact .nil
  | cons x r ih => exact .cons (h x) ih
theorem p_to (h : EvP te σ B p) (k : To K p d) : EvP te σ B (IsD K d) := h.imp fun v B1 _ b => k v B1 b
theorem p_varV {i : Nat} (h : σ[i]? = some (some v)) : EvP (tVar i) σ B (IsV v) := p_var h rfl
theorem p_lq (h : EvP te σ B (LsP ps)) : EvP te σ B (LqP K ps) := h.imp fun _ _ _ b => lq_ls b
/-- an item at a written place -/
theorem p_ix {j : Int} (h : EvP ta σ B (LqP K ps)) (hj : EvP tb σ B (IsV (.int j))) (hp : atI ps j = some p) : EvP (tOp (rIxL K) ta tb) σ B p := fun H1 a Q k =>
  h H1 a _ fun v B2 H2 g b => hj H2 (g.b.trans g.c) _ fun w B3 H3 g3 b3 => by
    obtain ⟨l, xs, rfl, hx, hal⟩ := b
    obtain rfl : w = _ := b3
    have hlen := hal.len
    unfold atI at hp
    rw [← hlen] at hp
    obtain ⟨n, hn, hq⟩ := Option.bind_eq_some_iff.mp hp
    obtain ⟨z, hz, pz⟩ := hal.at hq
    have gj := g.join g3
    refine ⟨l, xs, j, z, rfl, rfl, ex_l (g.c.trans g3.a) hx, ?_, k z _ _ gj (p.m both_l pz)⟩
    unfold atI
    rw [hn]
    exact hz
theorem p_ixT {j : Int} (h : EvP ta σ B (TuP K ps)) (hj : EvP tb σ B (IsV (.int j))) (hp : atI ps j = some p) : EvP (tOp (rIxT K) ta tb) σ B p := fun H1 a Q k =>
  h H1 a _ fun v B2 H2 g b => hj H2 (g.b.trans g.c) _ fun w B3 H3 g3 b3 => by
    obtain ⟨l, xs, rfl, hx, hal⟩ := b
    obtain rfl : w = _ := b3
    have hlen := hal.len
    unfold atI at hp
    rw [← hlen] at hp
    obtain ⟨n, hn, hq⟩ := Option.bind_eq_some_iff.mp hp
    obtain ⟨z, hz, pz⟩ := hal.at hq
    have gj := g.join g3
    refine ⟨l, xs, j, z, rfl, rfl, ex_t (g.c.trans g3.a) hx, ?_, k z _ _ gj (p.m both_l pz)⟩
    unfold atI
    rw [hn]
    exact hz
theorem AllP.rep {H : Hp} {vs : List V} (h : AllP ps vs H) : ∀ n, AllP (List.replicate n ps).flatten (List.replicate n vs).flatten H
  | 0 => trivial
  | n + 1 => by
    rw [List.replicate_succ, List.replicate_succ, List.flatten_cons, List.flatten_cons]
    exact h.app (AllP.rep h n)
theorem p_rep {n : Nat} (h : EvP ta σ B (LsP ps)) (hb : EvP tb σ B (IsV (.int (n : Int)))) (hn : n ≤ 100000) (hl : ps.length * n ≤ 100000) : EvP (tOp rRep ta tb) σ B (LsP (List.replicate n ps).flatten) := fun H1 a Q k =>
  h H1 a _ fun v B2 H2 g b => hb H2 (g.b.trans g.c) _ fun w B3 H3 g3 b3 => by
    obtain ⟨l, xs, rfl, hx, hal⟩ := b
    obtain rfl : w = _ := b3
    have gj := g.join g3
    have hlen := hal.len
    refine ⟨l, (n : Int), xs, rfl, rfl, g3.a _ _ (g.c _ _ hx), by omega, by omega, sz_of (by rw [hlen]; exact hl), fun r hr => k _ _ _ (gj.trans (Gr.new _ gj.c hr)) ⟨r, _, rfl, upd_same, ?_⟩⟩
    exact (AllP.rep (hal.m both_l) n).m (Ex.new (fresh_back gj.c hr))
theorem et_yes : EvT tYes σ B true := fun H1 _ _ q => q H1 (Ex.refl H1)
theorem ps_ifT {t : TT} {tu tw : TS} (a : Ex B H) (h : EvT t σ B true) (k : ∀ H1, Ex H H1 → tu D σ H1) : tIfS t tu tw D σ H := h H a _ fun H1 e => by
  rw [if_pos rfl]
  exact k H1 e
theorem ev_notN (h : EvP ta σ B (IsV .non)) : Ev (tOp (fun x y H Q => y = V.non ∧ Q (.bl (!decide (x = V.non))) H) ta (tC .non)) σ B (.bl false) := fun H1 a Q k =>
  h H1 a _ fun v B2 H2 g b => by
    obtain rfl : v = V.non := b
    exact ⟨rfl, k H2 g.a⟩
end
end My
namespace My
set_option autoImplicit false
open PySem PySem.Spec PySem.W PyProof.Rows L2 Evl NdefX LamX
/-- an address of ours that nothing else speaks of -/
structure Fre (X : Cx) (pins : List (Addr × Obj)) (a : Addr) : Prop where
  base : X.s_0.heap.objs.size ≤ a
  loc : a ≠ X.env.locals
  cel : ∀ y c, X.env.cells.lookup y = some c → c ≠ a
  pin : ∀ p ∈ X.pn ++ pins, p.1 ≠ a
  fs : a ∉ X.fs
section
variable {X : Cx} {pins : List (Addr × Obj)} {σ : L2.St} {H : Hp} {s : Shared} {a b : Addr}
theorem Fre.of (I : Inv X pins σ H s) (h : s.heap.objs.size ≤ a) : Fre X pins a := by
  have no : ∀ c : Addr, c < s.heap.objs.size → c ≠ a := fun c hc z => by
    rw [z] at hc
    exact Nat.lt_irrefl _ (Nat.lt_of_lt_of_le hc h)
  refine ⟨Nat.le_trans I.sz h, (no _ I.lt).symm, fun y c e => ?_, fun p hp => ?_, I.nofs h⟩
  · obtain ⟨v, o, ho, _⟩ := I.cell y c e
    exact no c (Heap.lt_size ho)
  · exact no p.1 (Heap.lt_size (I.pin p hp).1)
theorem Fre.more (f : Fre X pins a) {o : Obj} (h : b ≠ a) : Fre X ((b, o) :: pins) a :=
  ⟨f.base, f.loc, f.cel, fun p hp => (List.mem_append.mp hp).elim (fun z => f.pin p (List.mem_append_left _ z)) fun z => by
    rcases List.mem_cons.mp z with rfl | z
    · exact h
    · exact f.pin p (List.mem_append_right _ z), f.fs⟩
/-- fewer pins -/
theorem unpin {p : Addr × Obj} (I : Inv X (p :: pins) σ H s) : Inv X pins σ H s := I.pins_of fun q hq => I.pin q (List.mem_append_right _ (List.mem_cons_of_mem _ hq))
theorem repin {o : Obj} (I : Inv X pins σ H s) (f : Fre X pins a) (ho : s.heap.get? a = some o) (hn : H a = none) (hd : ∀ v, o.data ≠ .cell v) : Inv X ((a, o) :: pins) σ H s := I.pins_of fun q hq => by
  rcases List.mem_cons.mp hq with rfl | hq
  · exact ⟨ho, hn, f.loc, f.fs, hd⟩
  · exact I.pin q (List.mem_append_right _ hq)
/-- two objects that are not known of, written; one may be known from now on -/
theorem free2 {h' : Heap} {t' : Nat} {ys : List V} (I : Inv X pins σ H s) (fa : Fre X pins a) (fb : Fre X pins b) (na : H a = none) (nb : H b = none)
    (k : ∀ c o, c ≠ a → c ≠ b → s.heap.get? c = some o → h'.get? c = some o) (new : ys.length ≤ sizeLine ∧ ∃ (its : List Value) (n : Nat), Vals ys its ∧ h'.get? a = some { cls := .type "list", data := .seq its.toArray n }) :
    Inv X pins σ (upd H a (.lst ys)) { s with heap := h', toks := t' } := by
  have ne : ∀ c u, H c = some u → c ≠ a := fun c u e => ne_of_none e na
  have neb : ∀ c u, H c = some u → c ≠ b := fun c u e => ne_of_none e nb
  have up : ∀ c u, H c = some u → upd H a (.lst ys) c = some u := fun c u e => by rw [upd_ne (ne c u e)]; exact e
  have out : ∀ c, c ∉ [a, b] → c ≠ a ∧ c ≠ b := fun c hc => ⟨fun z => hc (by simp [z]), fun z => hc (by simp [z])⟩
  refine I.step (g' := s.gens) (d' := s.drawn) (ch := [a, b]) (fun c hc => ?_) (fun c o _ _ hc e _ => k c o (out c hc).1 (out c hc).2 e) (fun c o _ _ hc e _ => ⟨o.slots, k c o (out c hc).1 (out c hc).2 e⟩) (fun c o hc _ n => ?_)
    (fun c o hc e => ⟨o, k c o (out c hc).1 (out c hc).2 e⟩) (fun c xs e => up _ _ e) (fun c o u e => up _ _ e) (fun c ps e => ⟨#[], by rw [up _ _ e]; simp⟩) (fun m hn => ?_) (fun c u e => ?_) I.bare
  · rcases List.mem_cons.mp hc with rfl | hc
    · exact ⟨.inr fa.base, fa.loc, fa.cel, fa.pin⟩
    · obtain rfl := List.mem_singleton.mp hc
      exact ⟨.inr fb.base, fb.loc, fb.cel, fb.pin⟩
  · rw [upd_ne (out c hc).1]
    exact n
  · obtain ⟨ob, es, ep, ho, r⟩ := hn
    exact ⟨ob, es, ep, k _ ob fa.loc.symm fb.loc.symm ho, r⟩
  · by_cases hc : c = a
    · subst hc
      rw [upd_same] at e
      cases e
      exact new
    · rw [upd_ne hc] at e
      refine (I.hok c u e).stay (fun d v hd q => ?_) (fun d q => up _ _ q) fun d xs q => up _ _ q
      rcases hd with rfl | z
      · exact k _ v (ne _ _ e) (neb _ _ e) q
      · exact k _ v (ne _ _ z) (neb _ _ z) q
/-- one pinned object, written -/
theorem pinSet {o o' : Obj} {h' : Heap} {t' : Nat} (I : Inv X ((a, o) :: pins) σ H s) (fa : Fre X pins a) (k : ∀ c o, c ≠ a → s.heap.get? c = some o → h'.get? c = some o) (ha : h'.get? a = some o') (hd : ∀ v, o'.data ≠ .cell v) :
    Inv X ((a, o') :: pins) σ H { s with heap := h', toks := t' } := by
  have na : H a = none := (I.pin (a, o) (List.mem_append_right _ List.mem_cons_self)).2.1
  have ne : ∀ c u, H c = some u → c ≠ a := fun c u e => ne_of_none e na
  have out : ∀ c, c ∉ [a] → c ≠ a := fun c hc z => hc (by simp [z])
  have J := (unpin I).step (h' := h') (H' := H) (g' := s.gens) (d' := s.drawn) (t' := t') (ch := [a]) (fun c hc => by
      obtain rfl := List.mem_singleton.mp hc
      exact ⟨.inr fa.base, fa.loc, fa.cel, fa.pin⟩) (fun c o _ _ hc e _ => k c o (out c hc) e) (fun c o _ _ hc e _ => ⟨o.slots, k c o (out c hc) e⟩) (fun c o hc _ n => n)
    (fun c o hc e => ⟨o, k c o (out c hc) e⟩) (fun c xs e => e) (fun c o u e => e) (fun c ps e => ⟨#[], by rw [e]; simp⟩) (fun m hn => by
      obtain ⟨ob, es, ep, ho, r⟩ := hn
      exact ⟨ob, es, ep, k _ ob fa.loc.symm ho, r⟩) (fun c u e => by
      refine (I.hok c u e).stay (fun d v hd q => ?_) (fun d q => q) fun d xs q => q
      rcases hd with rfl | z
      · exact k _ v (ne _ _ e) q
      · exact k _ v (ne _ _ z) q) I.bare
  exact repin J fa ha na hd
/-- a lambda of one parameter is called -/
theorem lam_call {A : Around} {F : NF} {body : Expr} {x0 : Str} {N fr : List Str} {f : Addr} {pm ctv : Value} {tb : TE} {k : Nat} {u : Value} {x : V} {js : List Nat} {Q : VK} {E' : Value → Shared → Prop}
    (I : Inv X pins σ H s) (S : NScope N [x0] fr F.scope) (hA : A.frames = some X.stack) (hr : Room (k + 1) A) (hf : s.heap.get? f = some (kla_obj F.name F.qual F.params body F.scope F.cl pm F.c ctv)) (hc : H F.c = some (CodeO F.c F.qual))
    (hbind : bindArgs (kla_fn F.name F.qual F.params body F.scope F.cl pm (.ref F.c) ctv) ⟨[u], []⟩ = pure [(x0, u)]) (cp : Caps X F.cl fr js) (r : RelV x u)
    (hbody : ∀ (s0 : Shared) (H0 : Hp), Room k (A.deeper (envF F f s0.heap.objs.size)) → PE (ncx C8.CX0 X.prog X.w X.K X.mg X.base N F f A X.stack s0 H0 C8.E0) body tb)
    (q : tb (startF N [x] (js.map (slotAt σ))) H Q) : wpAny (model X.prog X.w) A (call (.ref f) [u]) (EP X pins σ Q) E' s := by
  have e0 : Env0 X.prog X.w X.K X.mg X.base A X.stack s H := ⟨hA, I.ok.mod, I.bs, Nat.le_trans I.ok.bsz I.sz, I.stack, I.stkFree, I.hok, I.bare⟩
  have rc : codeAny (model X.prog X.w) A (.call (.ref f) ⟨[u], []⟩) (CR C8.CX0 X.stack X.prog X.w H s Q C8.E0) s := by
    refine kla_callFunE hr.depth hf rfl S.co S.gen rfl (codeO_at I.hok hc) ?_
    rw [hbind]
    refine wpAny_pure (wpAny_newFunctionEnv S.nocell (fun y hy => by
      obtain rfl := List.mem_singleton.mp hy
      exact S.par x0 List.mem_cons_self) (fun h1 hns hsb => ⟨I.nolimit.fresh _ hsb, ?_⟩) S.kind)
    show codeAny _ _ (.expr body (envF F f s.heap.objs.size)) _ _
    have kp : ∀ b o, s.heap.get? b = some o → h1.get? b = some o := fun b o e => hsb.extBut b o (Nat.ne_of_lt (Heap.lt_size e)) (Heap.get?_push_of_some _ e)
    have J : Inv (ncx C8.CX0 X.prog X.w X.K X.mg X.base N F f A X.stack s H C8.E0) [] (startF N [x] (js.map (slotAt σ))) H { s with heap := h1, toks := s.toks + [(x0, u)].length } :=
      inv_startN (us := [u]) S hr.hd e0 rfl (.cons r .nil) (cells_of I cp) hns kp
    refine kla_codeExpr (wpAny_mono ((hbody s H (hr.deeper _)).run [] _ _ H Q J q) (fun v s1 hq => ?_) fun e s1 hq => hq)
    obtain ⟨w', H', J', rv, qq⟩ := hq
    exact ⟨w', H', J'.os, J'.bare, J'.base, J'.hok, rv, qq⟩
  refine wpAny_call (codeAny_mono rc fun r s2 hq => ?_)
  cases r with
  | error e => exact (show False from hq).elim
  | ok fl =>
    cases fl with
    | ret u => exact I.after hq
    | next => exact False.elim hq
    | brk => exact False.elim hq
    | cont => exact False.elim hq
end
end My
namespace My
set_option autoImplicit false
open PySem PySem.Spec PySem.W PySem.Calls PyProof.Rows L2 Evl NdefX LamX
theorem dpAll_len {K : PySem.W.Frag} {H : Hp} : ∀ {vs : List V} {ds : List PyData}, DpAll K H vs ds → vs.length = ds.length
  | [], [], _ => rfl
  | _ :: _, _ :: _, .cons _ b => congrArg Nat.succ (dpAll_len b)
theorem dpAll_app {K : PySem.W.Frag} {H : Hp} : ∀ {vs ws : List V} {ds es : List PyData}, DpAll K H vs ds → DpAll K H ws es → DpAll K H (vs ++ ws) (ds ++ es)
  | [], _, [], _, _, h => h
  | _ :: _, _, _ :: _, _, .cons a b, h => .cons a (dpAll_app b h)
theorem vals_app {vs ws : List V} {us zs : List Value} (a : Vals vs us) (b : Vals ws zs) : Vals (vs ++ ws) (us ++ zs) := by
  induction a with
  | nil => exact b
  | cons r _ ih => exact .cons r ih
/-- the items, each with its key, in order, equal ones as they stood: the items alone -/
def byKey (xs : List V) (ks : List PyData) : List V := ((xs.zip ks).mergeSort (dataLe false (·.2))).map (·.1)
theorem vals_each {h : Heap} : ∀ {xs : List V} {us : List Value} {ks : List PyData}, Vals xs us → ks.length = xs.length → EachIs (fun (u : Value) (p : V × PyData) => RelV p.1 u) us (xs.zip ks)
  | [], [], ks, _, h => by
    obtain rfl := List.length_eq_zero_iff.mp h
    exact .nil
  | _ :: _, _ :: _, [], _, h => by simp at h
  | _ :: _, _ :: _, _ :: _, .cons r t, h => .cons r (vals_each (h := ‹Heap›) t (by simpa using h))
theorem each_vals : ∀ {us : List Value} {ps : List (V × PyData)}, EachIs (fun (u : Value) (p : V × PyData) => RelV p.1 u) us ps → Vals (ps.map (·.1)) us
  | _, _, .nil => .nil
  | _, _, .cons r t => .cons r (each_vals t)
theorem zip_snd {α β : Type} : ∀ {xs : List α} {ks : List β}, ks.length = xs.length → (xs.zip ks).map (·.2) = ks
  | [], ks, h => by
    obtain rfl := List.length_eq_zero_iff.mp h
    rfl
  | _ :: _, [], h => by simp at h
  | _ :: _, k :: _, h => congrArg (k :: ·) (zip_snd (by simpa using h))
theorem dps_each {X : Cx} {pins : List (Addr × Obj)} {σ : L2.St} {H : Hp} {s : Shared} (I : Inv X pins σ H s) : ∀ {vs : List V} {us : List Value} {ds : List PyData}, Vals vs us → DpAll X.K H vs ds → EachIs (fun u d => ∃ as, Reads s.heap u d as) us ds
  | [], [], [], _, _ => .nil
  | _ :: _, _ :: _, _ :: _, .cons r t, .cons a b => .cons (Dp.reads I _ _ _ a r) (dps_each I t b)
/-- f, called for x while the heap is at least H0, gives k -/
def KeyRun (X : Cx) (σ : L2.St) (A : Around) (f : Addr) (fo : Obj) (H0 : Hp) (x : V) (k : PyData) : Prop := ∀ (pins : List (Addr × Obj)) (s : Shared) (H : Hp) (u : Value) (E : Value → Shared → Prop),
  Inv X pins σ H s → (f, fo) ∈ pins → Ex H0 H → RelV x u → wpAny (model X.prog X.w) A (call (.ref f) [u]) (EP X pins σ fun v H' => Ex H H' ∧ Dp X.K H' v k) E s
section
variable {X : Cx} {pins : List (Addr × Obj)} {σ : L2.St} {H : Hp} {s : Shared} {A : Around} {f : Addr} {fo : Obj} {xs : List V} {ks : List PyData} {E : Value → Shared → Prop}
/-- the keys are made, one behind the other, then all is sorted -/
theorem rest_inv {a kS : Addr} {vs : List Value} {e1 : Nat} {Q : VK} (I : Inv X ((kS, seqObj "list" #[] 0) :: (a, seqObj "list" #[] e1) :: pins) σ H s) (hf : (f, fo) ∈ pins) (fa : Fre X pins a) (fk : Fre X pins kS) (hka : kS ≠ a)
    (hv : Vals xs vs) (hl : ks.length = xs.length) (hZ : xs.length ≤ sizeLine) (hal : AllAlike ks) (hsk : Sortable ks) (hu : ∀ d, d ∈ ks → A.units + d.depth < cLine)
    (key : ∀ (i : Nat) (x : V) (k : PyData), xs[i]? = some x → ks[i]? = some k → KeyRun X σ A f fo H x k)
    (q : ∀ H', Ex H H' → H' a = none → Q (.ref a) (upd H' a (.lst (byKey xs ks)))) :
    wpAny (model X.prog X.w) A (ksk_rest a (.ref f) false vs.toArray e1 (.ref kS)) (fun fin s' => fin = .done (.ret .none) ∧ EP X pins σ Q (.ref a) s') E s := by
  have hvl := hv.length
  have hks : ∀ z : Value, ∀ v, (seqObj "list" #[z] 0 : Obj).data ≠ .cell v := fun z v h => nomatch h
  have one : ∀ {i : Nat} {u : Value}, vs[i]? = some u → ∃ x k, xs[i]? = some x ∧ ks[i]? = some k ∧ RelV x u := fun {i u} hu => by
    have hi : i < vs.length := (List.getElem?_eq_some_iff.mp hu).1
    have e1 : xs[i]? = some xs[i] := List.getElem?_eq_getElem (by omega)
    have e2 : ks[i]? = some ks[i] := List.getElem?_eq_getElem (by omega)
    obtain ⟨w, hw, r⟩ := hv.get e1
    rw [hu] at hw
    obtain rfl := Option.some.inj hw
    exact ⟨_, _, e1, e2, r⟩
  unfold ksk_rest
  apply wpAny_bind
  apply wpAny_rule
  first
    | rw [List.forIn_toArray]
    | (rw [← Array.forIn_toList]; simp only [List.toList_toArray])
  apply wpAny_bind
  refine ksk_fold (fun i s' => ∃ (H' : Hp) (kA : Array Value) (n : Nat) (kvs : List V), Inv X ((kS, seqObj "list" kA n) :: (a, seqObj "list" #[] e1) :: pins) σ H' s' ∧ Ex H H' ∧ Vals kvs kA.toList ∧ DpAll X.K H' kvs (ks.take i)) vs 0 s
    ⟨H, #[], 0, [], I, Ex.refl H, .nil, by rw [List.take_zero]; exact .nil⟩ ?_ ?_
  · rintro j u s1 hj ⟨H1, kA, n, kvs, I1, x1, r1, d1⟩
    simp only [Nat.zero_add] at d1 ⊢
    obtain ⟨x, k, hx, hk, rx⟩ := one hj
    have jl : j < vs.length := (List.getElem?_eq_some_iff.mp hj).1
    have kz : kA.size ≤ sizeLine := by
      have h1 := r1.length
      have h2 := dpAll_len d1
      have h3 : kA.toList.length = kA.size := by simp
      rw [List.length_take] at h2
      omega
    refine wpAny_bind (wpAny_attempt (wpAny_mono (key j x k hx hk _ s1 H1 u (fun _ _ => False) I1 (List.mem_cons_of_mem _ (List.mem_cons_of_mem _ hf)) x1 rx) (fun w s2 hw => ?_) fun _ _ z => z.elim))
    obtain ⟨v, H2, I2, rv, x2, dv⟩ := hw
    dsimp only
    have at1 := (I2.pin _ (List.mem_append_right _ List.mem_cons_self)).1
    obtain ⟨n2, at2⟩ : ∃ n2, (s2.heap.update kS (Obj.mapSeq (·.push w))).get? kS = some (seqObj "list" (kA.push w) n2) := ⟨_, get?_update_seq at1 (·.push w)⟩
    have sb := Heap.SameBut.update s2.heap kS (Obj.mapSeq (·.push w))
    refine wpAny_bind (listUpdate_at at1 rfl ?_ kz (by rw [Array.size_push]; omega))
    refine wpAny_pure ⟨rfl, H2, kA.push w, n2, kvs ++ [v], pinSet (t' := s2.toks) I2 (fk.more hka.symm) (fun c o hc e => (sb.2 c hc).trans e) at2 (fun v z => nomatch z), x1.trans x2, ?_, ?_⟩
    · have : (kA.push w).toList = kA.toList ++ [w] := by simp
      rw [this]
      exact vals_app r1 (.cons rv .nil)
    · rw [List.take_add_one, hk]
      exact dpAll_app (dps_m x2 d1) (.cons dv .nil)
  · rintro s1 ⟨H1, kA, n, kvs, I1, x1, r1, d1⟩
    have ek : ks.take (0 + vs.length) = ks := List.take_of_length_le (by omega)
    rw [ek] at d1
    have at1 := (I1.pin _ (List.mem_append_right _ List.mem_cons_self)).1
    have nk := (I1.pin _ (List.mem_append_right _ List.mem_cons_self)).2.1
    have at2 := (I1.pin _ (List.mem_append_right _ (List.mem_cons_of_mem _ List.mem_cons_self))).1
    have na := (I1.pin _ (List.mem_append_right _ (List.mem_cons_of_mem _ List.mem_cons_self))).2.1
    have ksz : kA.size = vs.length := by
      have h1 := r1.length
      have h2 := dpAll_len d1
      have h3 : kA.toList.length = kA.size := by simp
      omega
    have ev := dps_each I1 r1 d1
    obtain ⟨G, g1, g2⟩ := restrict s1.heap fun c => decide (c ≠ kS)
    have kp : KeepsBut a G s1.heap := fun c o _ e => by
      by_cases hc : c = kS
      · rw [hc, g2 kS (decide_eq_false fun z => z rfl)] at e
        cases e
      · rw [← g1 c (decide_eq_true hc)]
        exact e
    refine wpAny_bind (listItems_at at1 rfl ?_)
    refine keyH_end (κ := dataKind s1.heap ks) (h₁ := G) kp (g2 kS (decide_eq_false fun z => z rfl)) at1 at2 hka (SortsAt.data ev hal hsk hu) ksz (by omega) fun h3 tk3 c k3 n3 => ⟨rfl, ?_⟩
    have out : KeyedOut false ks vs (sortVals (dataKind s1.heap ks) false kA.toList vs) := ⟨s1.heap, kA.toList, hal, rfl, ev⟩
    have ez := zip_snd hl
    have o2 : EachIs (fun (u : Value) (p : V × PyData) => RelV p.1 u) (sortVals (dataKind s1.heap ks) false kA.toList vs) ((xs.zip ks).mergeSort (dataLe false (·.2))) :=
      keyedOut_each (·.2) (by rw [ez]; exact out) (vals_each (h := s.heap) hv hl)
    have rv := each_vals o2
    have vl : (byKey xs ks).length ≤ sizeLine := by
      show (((xs.zip ks).mergeSort (dataLe false (·.2))).map (·.1)).length ≤ _
      rw [List.length_map, List.length_mergeSort, List.length_zip]
      omega
    exact ⟨.ref a, _, free2 (b := kS) (t' := tk3) (unpin (unpin I1)) fa fk na nk (fun d o h1 h2 e => k3 d o h1 (by rw [g1 d (decide_eq_true h2)]; exact e)) ⟨vl, _, c, rv, n3⟩, rfl, q H1 x1 na⟩
/-- the list at a, nobody's yet, is sorted by keys -/
theorem tree_inv {a : Addr} {vs : List Value} {n : Nat} {Q : VK} (I : Inv X pins σ H s) (hf : (f, fo) ∈ pins) (fa : Fre X pins a) (na : H a = none) (ha : s.heap.get? a = some (seqObj "list" vs.toArray n))
    (hv : Vals xs vs) (hl : ks.length = xs.length) (hZ : xs.length ≤ sizeLine) (hal : AllAlike ks) (hsk : Sortable ks) (hu : ∀ d, d ∈ ks → A.units + d.depth < cLine)
    (key : ∀ (i : Nat) (x : V) (k : PyData), xs[i]? = some x → ks[i]? = some k → KeyRun X σ A f fo H x k)
    (q : ∀ H', Ex H H' → H' a = none → Q (.ref a) (upd H' a (.lst (byKey xs ks)))) :
    wpAny (model X.prog X.w) A (ksk_tree a (.ref f) false) (fun fin s' => fin = .done (.ret .none) ∧ EP X pins σ Q (.ref a) s') E s := by
  have hvl := hv.length
  obtain ⟨e1, a1⟩ : ∃ e1, (s.heap.update a (Obj.mapSeq fun _ => (#[] : Array Value))).get? a = some (seqObj "list" #[] e1) := ⟨_, get?_update_seq ha fun _ => #[]⟩
  have sb := Heap.SameBut.update s.heap a (Obj.mapSeq fun _ => (#[] : Array Value))
  unfold ksk_tree
  refine wpAny_bind (listItems_at ha rfl ?_)
  refine wpAny_bind (listUpdate_at ha rfl ?_ (by rw [List.size_toArray]; omega) (Nat.zero_le _))
  refine wpAny_bind (seqEpoch_at a1 rfl ?_)
  refine wpAny_bind (wpAny_newTuple ?_ (by show vs.length ≤ _; omega))
  refine wpAny_bind (wpAny_newList ?_ (Nat.zero_le _))
  apply wpAny_holding
  have I0 : Inv X ((a, seqObj "list" #[] e1) :: pins) σ H { s with heap := s.heap.update a (Obj.mapSeq fun _ => (#[] : Array Value)), toks := s.toks } :=
    pinSet (repin I fa ha na fun v z => nomatch z) fa (fun c o hc e => (sb.2 c hc).trans e) a1 fun v z => nomatch z
  have I1 := I0.kept (t' := s.toks) (h' := ((s.heap.update a (Obj.mapSeq fun _ => (#[] : Array Value))).push (seqObj "tuple" vs.toArray 0))) (fun c o e => Heap.get?_push_of_some _ e)
  have hk : Fre X ((a, seqObj "list" #[] e1) :: pins) ((s.heap.update a (Obj.mapSeq fun _ => (#[] : Array Value))).push (seqObj "tuple" vs.toArray 0)).objs.size := Fre.of I1 (Nat.le_refl _)
  have I2 := I1.kept (t' := s.toks) (h' := (((s.heap.update a (Obj.mapSeq fun _ => (#[] : Array Value))).push (seqObj "tuple" vs.toArray 0)).push (seqObj "list" #[] 0))) (fun c o e => Heap.get?_push_of_some _ e)
  have I3 := repin I2 hk (Heap.get?_push_size _ rfl) (I1.hok.fresh (Nat.le_refl _)) (fun v z => nomatch z)
  exact rest_inv I3 hf fa ⟨hk.base, hk.loc, hk.cel, fun p hp => hk.pin p ((List.mem_append.mp hp).elim (List.mem_append_left _) fun z => List.mem_append_right _ (List.mem_cons_of_mem _ z)), hk.fs⟩
    (fun z => hk.pin (a, seqObj "list" #[] e1) (List.mem_append_right _ List.mem_cons_self) z.symm) hv hl hZ hal hsk hu key q
/-- sorted(xs, key=f) of a list -/
theorem sorted_list {l : Addr} {Q : VK} (I : Inv X pins σ H s) (hf : (f, fo) ∈ pins) (hs : SqL X.K H l xs) (hl : ks.length = xs.length) (hal : AllAlike ks) (hsk : Sortable ks) (hu : ∀ d, d ∈ ks → A.units + 2 + d.depth < cLine)
    (key : ∀ (i : Nat) (x : V) (k : PyData), xs[i]? = some x → ks[i]? = some k → KeyRun X σ A.in1.in1 f fo H x k)
    (q : ∀ H' a, Ex H H' → H' a = none → Q (.ref a) (upd H' a (.lst (byKey xs ks)))) :
    wpAny (model X.prog X.w) A (call (.builtin "sorted") [.ref l] [(Str.ofString "key", .ref f)]) (EP X pins σ Q) E s := by
  obtain ⟨vs, rv, pl, hz⟩ := I.list hs
  have hvl := rv.length
  refine sorted_of_sort pl.isList (by omega) (ksk_s1 _ _) (fun _ => ksk_l1 _ _) fun E' => ?_
  rw [ksk_t1]
  have I1 := I.kept (t' := s.toks) (h' := copyHeap s.heap vs) (fun c o e => copyHeap_old e)
  exact tree_inv (s := { s with heap := copyHeap s.heap vs, toks := s.toks }) I1 hf (Fre.of I (Nat.le_succ _)) (I.hok.fresh (Nat.le_succ _)) (copyHeap_at s.heap vs) rv hl hz hal hsk hu key fun H' x n => q H' _ x n
end
end My
namespace My
set_option autoImplicit false
open PySem PySem.Spec PySem.W PySem.Calls PyProof.Rows L2 Evl NdefX LamX
/-- what a list, or a dict by tuples, hands to whoever walks it -/
def SortSrc (K : PySem.W.Frag) (v : V) (H : Hp) (P : List V → Prop) : Prop := (∃ l xs, v = .ref l ∧ SqL K H l xs ∧ P xs) ∨
  ∃ d kvs, v = .ref d ∧ Rd H d (.dT kvs) ∧ ∀ as : List Addr, as.length = kvs.length → (∀ (i : Nat) (p : List Key × V), kvs[i]? = some p → ∃ a, as[i]? = some a ∧ H a = some (.tup (p.1.map kV))) → P (as.map V.ref)
theorem paired_get {α β : Type} {R : α → β → Prop} : ∀ {xs : List α} {ys : List β} {i : Nat} {x : α}, Paired R xs ys → xs[i]? = some x → ∃ y, ys[i]? = some y ∧ R x y
  | [], [], i, x, _, h => by simp at h
  | x :: _, y :: _, 0, z, .cons r _, h => by
    obtain rfl : x = z := Option.some.inj h
    exact ⟨y, rfl, r⟩
  | _ :: _, _ :: _, i + 1, z, .cons _ t, h => paired_get (i := i) t h
theorem paired_len {α β : Type} {R : α → β → Prop} : ∀ {xs : List α} {ys : List β}, Paired R xs ys → xs.length = ys.length
  | [], [], _ => rfl
  | _ :: _, _ :: _, .cons _ t => congrArg Nat.succ (paired_len t)
section
variable {X : Cx} {pins : List (Addr × Obj)} {σ : L2.St} {H : Hp} {s : Shared} {A : Around} {f : Addr} {fo : Obj} {E : Value → Shared → Prop}
theorem vals_refs : ∀ (as : List Addr), Vals (as.map V.ref) (as.map Value.ref)
  | [] => .nil
  | _ :: r => .cons rfl (vals_refs r)
/-- sorted(d, key=f) of a dict by tuples -/
theorem sorted_dict {d : Addr} {ks : List PyData} {as : List Addr} {Q : VK} (I : Inv X pins σ H s) (hf : (f, fo) ∈ pins) (hh : A.in1.handled = none) {o : Obj} {es : Array DictEntry} {ep : Nat} (lo : (d == sysModules) = false)
    (ho : s.heap.get? d = some o) (ex : o.ExactDict) (hd : o.data = .dict es ep) (hes : es.toList.map (·.key) = as.map Value.ref) (hz : as.length ≤ sizeLine)
    (hl : ks.length = as.length) (hal : AllAlike ks) (hsk : Sortable ks) (hu : ∀ d, d ∈ ks → A.units + 2 + d.depth < cLine)
    (key : ∀ (i : Nat) (x : V) (k : PyData), (as.map V.ref)[i]? = some x → ks[i]? = some k → KeyRun X σ A.in1.in1 f fo H x k)
    (q : ∀ H' a, Ex H H' → H' a = none → Q (.ref a) (upd H' a (.lst (byKey (as.map V.ref) ks)))) :
    wpAny (model X.prog X.w) A (call (.builtin "sorted") [.ref d] [(Str.ofString "key", .ref f)]) (EP X pins σ Q) E s := by
  have hsz : es.size = as.length := by
    have := congrArg List.length hes
    simpa using this
  refine call_function_entry_kw kind_sorted plain_sorted entry_sorted (ksk_s1 _ _) ?_
  unfold Builtin.«sorted»
  refine wpAny_bind (m := checkCount "sorted" 1 1 _) (wpAny_pure ?_)
  refine wpAny_bind (kdu_collect (A := A.in1) (KdlSrc.rawDict (es := es) (ep := ep) lo) hh ⟨o, ho, ex, hd⟩ (by omega) fun h1 tk acc hk hacc => ?_)
  have hA : acc.toList = as.map Value.ref := by
    apply List.ext_getElem?
    intro i
    by_cases hi : i < as.length
    · have hi2 : i < acc.size := by rw [hacc.1]; omega
      obtain ⟨hi3, e⟩ := hacc.2 i acc[i] (by rw [Array.getElem?_eq_getElem hi2])
      have e2 : (es.toList.map (·.key))[i]? = some es[i].key := by
        rw [List.getElem?_map, List.getElem?_eq_getElem (by simpa using hi3)]
        simp
      rw [← hes, e2, ← e]
      simp [hi2]
    · rw [List.getElem?_eq_none (by rw [Array.length_toList, hacc.1]; omega), List.getElem?_eq_none (by rw [List.length_map]; omega)]
  rw [hA]
  refine wpAny_bind (wpAny_newList ?_ (by rw [List.length_map]; exact hz))
  have I1 := I.kept (t' := tk) (h' := h1) hk
  have I2 := I1.kept (t' := tk) (h' := h1.push (seqObj "list" (as.map Value.ref).toArray 0)) (fun c o e => Heap.get?_push_of_some _ e)
  have at1 : (h1.push (seqObj "list" (as.map Value.ref).toArray 0)).get? h1.objs.size = some (seqObj "list" (as.map Value.ref).toArray 0) := Heap.get?_push_size _ rfl
  refine wpAny_bind (wpAny_holding (wpAny_call_entry_kw slot_list_sort ⟨_, at1, rfl⟩ entry_list_sort ?_ (ksk_l1 _ _)))
  rw [ksk_t1]
  refine wpAny_mono (tree_inv (A := A.in1.in1) (Q := Q) (E := E) I2 hf (Fre.of I1 (Nat.le_refl _)) (I1.hok.fresh (Nat.le_refl _)) at1 (vals_refs as) (by rw [List.length_map]; exact hl) (by rw [List.length_map]; exact hz) hal hsk hu key fun H' x n => q H' _ x n) (fun fin s1 hq => ?_) fun _ _ z => z
  obtain ⟨rfl, hq⟩ := hq
  exact ⟨_, rfl, wpAny_pure ⟨_, rfl, hq⟩⟩
end
/-- sorted(e, key=lambda a: body) -/
def tSortK (T : List (Addr × Str)) (K : PySem.W.Frag) (tl : TE) (N : List Str) (js : List Nat) (te : TE) : TE := fun σ H Q => te σ H fun v H1 => Tabs T H1 ∧ ∀ H2, ExtN H1 H2 → Tabs T H2 → SortSrc K v H2 fun xs =>
  ∃ ks, ks.length = xs.length ∧ AllAlike ks ∧ Sortable ks ∧ (∀ d, d ∈ ks → d.depth ≤ 50) ∧ (∀ (i : Nat) (x : V) (k : PyData), xs[i]? = some x → ks[i]? = some k → EvP tl (startF N [x] (js.map (slotAt σ))) H2 (IsD K k)) ∧
    ∀ H3 a, Ex H2 H3 → H3 a = none → Q (.ref a) (upd H3 a (.lst (byKey xs ks)))
theorem pe_sortK {X : Cx} {T : List (Addr × Str)} {te tl : TE} {e : Expr} {x0 : Str} {N fr : List Str} {js : List Nat} {c P : Addr} {params : Arguments} {body : Expr} {scope : Scope} {k : Nat} {p lpos kpos pos : Pos}
    (hg : Gl X "sorted") (hm : X.mg "sorted" = none) (he : PE X e te) (TB : TabB X.base X.mg c P) (hcode : X.env.code = .ref c) (hmT : (P, X.env.qual ++ "<lambda>") ∈ T) (hu : ∀ p ∈ T, p.1 = P → p.2 = X.env.qual ++ "<lambda>")
    (S : NScope N [x0] fr scope) (hfree : ∀ y ∈ scope.names, y.2 = .free → X.env.scope.names.lookup y.1 = some .cell ∨ X.env.scope.names.lookup y.1 = some .free) (hfr : ∀ y ∈ fr, (y, NameKind.free) ∈ scope.names) (hjs : js.map (fun j => X.N[j]?) = fr.map some)
    (hdef : defaultsOf params X.env = ([], [])) (hr : Room (k + 3) X.A)
    (hbind : ∀ (q : Str) (cl : List (Str × Addr)) (pm cv ctv u : Value), bindArgs (kla_fn "<lambda>" q params body scope cl pm cv ctv) ⟨[u], []⟩ = pure [(x0, u)])
    (hbody : ∀ (A : Around) (outer : List Env) (s0 : Shared) (H0 : Hp) (F : NF) (f : Addr), F.scope = scope → Room k (A.deeper (envF F f s0.heap.objs.size)) → PE (ncx C8.CX0 X.prog X.w X.K X.mg X.base N F f A outer s0 H0 C8.E0) body tl)
    (hs : starEach [e] X.env = (false, eval e X.env) :: starEach [] X.env := by rfl)
    (he1 : backTo pos (starEach [e] X.env) = (false, eval e X.env) :: backTo pos (starEach [] X.env) := by rfl) (hpl : (backTo pos (starEach [e] X.env)).any (·.1) = false := by rfl)
    (hall : (backToKw pos (keywordEach [⟨some "key", .Lambda params body scope lpos, kpos⟩] X.env)).all (·.1.isSome) = true := by rfl) (hnone : (backToKw pos (keywordEach [⟨some "key", .Lambda params body scope lpos, kpos⟩] X.env)).any (·.1.isNone) = false := by rfl)
    (hks : (backToKw pos (keywordEach [⟨some "key", .Lambda params body scope lpos, kpos⟩] X.env)).filterMap (·.1) = [Str.ofString "key"] := by rfl) :
    PE X (.Call (.Name "sorted" p) [e] [⟨some "key", .Lambda params body scope lpos, kpos⟩] pos) (tSortK T X.K tl N js te) := by
  refine ⟨fun pins s σ H Q I h => ?_⟩
  refine wpAny_Call_Name_kw (ld_blt I hg hm (u := .builtin "sorted") (by decide +kernel) ?_)
  refine PyProof.Rows.callWith_kw ?_ he1 hpl hall hnone
  rw [he1, hks]
  refine spliced_cons (thn (he.run pins s σ H _ I h) fun u s1 ⟨v, H1, I1, r1, q1⟩ => ?_)
  refine spliced_nil ?_
  obtain ⟨hT, q1⟩ := q1
  have hcl : ∀ y ∈ scope.names, y.2 = .free → ∃ c, X.env.cells.lookup y.1 = some c := fun y hy e => (hfree y hy e).elim (fun z => I.ok.has _ (.inl z)) fun z => I.ok.has _ (.inr z)
  show wpAny _ _ (evalAll [do let v ← eval (.Lambda params body scope lpos) X.env; standAt pos; pure v]) _ _ s1
  refine wpAny_evalAll_cons (wpAny_bind (lam_make2 I1 TB hcode hmT hu hT hdef hcl fun f c' pm ctv H2 s2 I2 eN T2 hf hfn hfs hco => wpAny_bind (wpAny_standAt (wpAny_pure (wpAny_evalAll_nil ?_)))))
  have nl : f ≠ X.env.locals := fun z => by
    obtain ⟨m, ⟨o, es, ep, ho, hd, _⟩, _⟩ := I2.loc
    rw [← z, hf] at ho
    rw [← Option.some.inj ho] at hd
    cases hd
  have nf : f ∉ X.fs := fun z => hfs (by
    rcases I.ok.stk with e | ⟨e, e2⟩
    · rw [e]
      exact z
    · rw [e]
      show f ∈ List.filterMap _ _
      rw [List.filterMap_cons, e2]
      exact List.mem_cons_of_mem _ z)
  obtain ⟨fo, hfo⟩ : ∃ fo : Obj, fo = kla_obj "<lambda>" (X.env.qual ++ "<lambda>") params body scope (cloFrom X.env.cells scope.names []) pm c' ctv := ⟨_, rfl⟩
  rw [← hfo] at hf
  have I3 : Inv X ((f, fo) :: pins) σ H2 s2 := I2.pins_of fun p hp => by
    rcases List.mem_cons.mp hp with rfl | hp
    · exact ⟨hf, hfn, nl, nf, fun v z => by rw [hfo] at z; cases z⟩
    · exact I2.pin p (List.mem_append_right _ hp)
  have key : ∀ (x : V) (kd : PyData), EvP tl (startF N [x] (js.map (slotAt σ))) H2 (IsD X.K kd) → KeyRun X σ X.A.in1.in1 f fo H2 x kd := fun x kd hev pins' s' H' u' E' I' hp eX r => by
    have hf' := (I'.pin _ (List.mem_append_right _ hp)).1
    rw [hfo] at hf'
    exact lam_call (F := ⟨"<lambda>", X.env.qual ++ "<lambda>", params, [], scope, cloFrom X.env.cells scope.names [], c'⟩) I' S I.ok.frames (show Room (k + 1) X.A.in1.in1 from hr.in1.in1) hf' (eX _ _ hco) (hbind _ _ _ _ _ _) (Caps.made I.ok hfree hfr hjs) r
      (fun s0 H0 hr' => hbody _ _ s0 H0 _ f rfl hr') (hev H' eX _ fun w B' H4 g pw => ⟨g.a, dp_m g.c pw⟩)
  have un := hr.un
  have dp : ∀ ks : List PyData, (∀ d, d ∈ ks → d.depth ≤ 50) → ∀ d, d ∈ ks → X.A.units + 2 + d.depth < cLine := fun ks h d hd => by
    have := h d hd
    omega
  have fin : ∀ {u : Value} {s' : Shared}, EP X ((f, fo) :: pins) σ Q u s' → EP X pins σ Q u s' := fun ⟨v, H', J, r, q⟩ => ⟨v, H', unpin J, r, q⟩
  rcases q1 H2 eN T2 with ⟨l, xs, rfl, hl, ks, a1, a2, a3, a4, a5, a6⟩ | ⟨d, kvs, rfl, hd, hq⟩
  · obtain rfl : u = Value.ref l := r1
    exact wpAny_mono (sorted_list (E := X.xe) I3 List.mem_cons_self hl a1 a2 a3 (dp ks a4) (fun i x kd e1 e2 => key x kd (a5 i x kd e1 e2)) fun H' a e n => a6 H' a e n) (fun _ _ z => fin z) fun _ _ z => z
  · obtain rfl : u = Value.ref d := r1
    have ok : ObjOk X.prog X.w H2 s2.heap d (.dT kvs) := by
      rcases hd with hd | ⟨o, hd⟩
      · exact I2.hok d _ hd
      · exact (I2.hok d _ hd).2
    obtain ⟨z, lo, xs, pr, o, es, ep, e1, e2, e3, e4, e5⟩ := ok
    have hlen := paired_len pr
    obtain ⟨ks, a1, a2, a3, a4, a5, a6⟩ := hq (xs.map (·.2.1)) (by rw [List.length_map]; exact hlen.symm) fun i p hp => by
      obtain ⟨y, hy, r⟩ := paired_get pr hp
      exact ⟨y.2.1, by rw [List.getElem?_map, hy]; rfl, by rw [← r.1] at *; exact r.2.1⟩
    exact wpAny_mono (sorted_dict (E := X.xe) I3 List.mem_cons_self (show X.A.in1.handled = none from hr.hd) lo e1 e2 e3 (as := xs.map (·.2.1)) (by rw [e4, List.map_map, List.map_map]; rfl) (by rw [List.length_map]; omega) (by rw [a1, List.length_map]) a2 a3 (dp ks a4) (fun i x kd e1 e2 => key x kd (a5 i x kd e1 e2)) fun H' a e n => a6 H' a e n) (fun _ _ z => fin z) fun _ _ z => z
end My
/-! own exceptions as values: made with an __init__ of their own, their fields read, their classes asked -/
namespace XV
open PySem PySem.W PySem.Calls PyProof.Rows Builtin Builtin.ObjectAttr
section
variable {prog : Program} {w : World} {A : Around} {E : Value → Shared → Prop} {R : Result → Shared → Prop} {hp : Heap} {g : Array GenState} {d : Drawn} {t : Nat} {os : OsState}
variable {K : Frag} {name : Str} {tk : Tok} {v : Value} {x C dx : Addr} {fv : Array Value} {cd : ClassData} {B : String} {bmB : List Value} {m0 : Str → Option Value} {nl : List Str}
theorem mro_obj (hm : excTail bmB cd.mro = true) (hbo : bmB.contains (.type "object") = true) : cd.mro.contains (.type "object") = true :=
  Eq.trans (excTail_contains "object" _ hm) hbo
theorem mro_some {l : List Value} (h : l.contains (.type "object") = true) : l.isEmpty = false := by
  cases l with
  | nil => cases h
  | cons _ _ => rfl
/-- the first field that is set -/
theorem setFirst (SF : StoreFacts B bmB "object.__setattr__" "object") (hbo : bmB.contains (.type "object") = true) (XK : K.In hp)
    (hx : hp.get? x = some { cls := .ref C, data := .fields fv }) (hc : clsIn K C = some cd) (hm : excTail bmB cd.mro = true) (hh : cd.hasDict = true) (hn : findIn K (.ref C) name = some none)
    (hq : ∀ h' tk' dx, (∀ b o, b ≠ x → hp.get? b = some o → h'.get? b = some o) → hp.objs.size ≤ dx → dx ≠ x →
      h'.get? x = some { cls := .ref C, dict := some dx, data := .fields fv } → h'.Ns1 dx (fun y => if y = name then some v else none) → R (.ok (.ret .none)) ⟨h', g, d, tk', os⟩) :
    codeAny (model prog w) A (.call (.builtin "object.__setattr__") ⟨[.ref x, .str name tk, v], []⟩) R ⟨hp, g, d, t, os⟩ := by
  have inst : InstAt hp x { cls := .ref C, data := .fields fv } C none := ⟨hx, rfl, rfl, trivial⟩
  have SO := F.store_object
  have hob := mro_obj hm hbo
  have hne := mro_some hob
  have hxs : x ≠ hp.objs.size := Nat.ne_of_lt (Heap.lt_size hx)
  have isO : Looks (model prog w) hp (isInstance (.ref x) (.type "object")) true :=
    inst.type.andThen (looks_mroIn XK (by unfold mroIn; rw [hc, Option.bind_some, if_neg (by rw [hne]; decide), hob]))
  refine codeAny_call_builtin SO.slot.plain SO.entry
    (@check_slot (model prog w) _ _ ⟨hp, g, d, t, os⟩ "object.__setattr__" "object" "__setattr__" (.ref x) [.str name tk, v] [] _ SO.kind SO.split isO
      (SO.args (.ref x) (.str name tk) v) ?_)
  have seesMro : Looks (model prog w) hp (mroOf (.ref C)) cd.mro := (looks_clsIn XK hc).andThen .now
  have noTaker : Looks (model prog w) hp (storeTaker? none) none := .now
  have seesCls : Looks (model prog w) hp (classData C) cd := looks_clsIn XK hc
  rw [osa_eq, refuse_eq]
  refine wpAny_bind (wpAny_bind (inst.type.at (wpAny_bind (seesMro.at ?_))))
  rw [excTail_pass (.ref x) (SF.passes _) _ hm]
  refine wpAny_pure (wpAny_bind (inst.type.at
    (wpAny_bind ((looks_findIn XK hn).at (wpAny_bind (noTaker.at ?_))))))
  show wpAny _ _ (storeInOwnDict (.ref x) (.ref C) (.str name tk) name v false) _ _ _
  obtain ⟨_, _, _, _, _, hd, _, _, _, _, _⟩ := cd
  dsimp only at hh
  subst hh
  unfold storeInOwnDict ownDictForStores
  repeat (first
    | with_reducible refine HandSPX.store_in_new ?_ ?_
    | with_reducible refine wpAny_loadPart_at hx ?_
    | with_reducible refine seesCls.at ?_
    | wp_step)
  · exact ⟨_, #[], _, Eq.trans (Heap.get?_update_ne _ _ _ _ hxs.symm) (Heap.get?_push_at rfl rfl), rfl, fun e he => absurd he (by simp), fun _ => rfl⟩
  · intro h' tk' hn' hs
    have hx1 : (hp.push { cls := .type "dict", data := .dict #[] }).get? x = some { cls := .ref C, data := .fields fv } := Heap.get?_push_of_some _ hx
    exact hq h' tk' hp.objs.size
      (fun b o hb ho => Eq.trans (hs.2 b (Nat.ne_of_lt (Heap.lt_size ho))) (Eq.trans (Heap.get?_update_ne _ _ _ _ hb) (Heap.get?_push_of_some _ ho)))
      (Nat.le_refl _) hxs.symm (Eq.trans (hs.2 x hxs) (Heap.get?_update_self _ hx1 rfl)) hn'
/-- a further field -/
theorem setMore (SF : StoreFacts B bmB "object.__setattr__" "object") (hbo : bmB.contains (.type "object") = true) (XK : K.In hp)
    (hx : hp.get? x = some { cls := .ref C, dict := some dx, data := .fields fv }) (hns : hp.Ns1 dx m0) (hw : Within m0 nl) (hz : nl.length ≤ 1000)
    (hc : clsIn K C = some cd) (hm : excTail bmB cd.mro = true) (hh : cd.hasDict = true) (hn : findIn K (.ref C) name = some none)
    (hq : ∀ h' tk', (∀ b o, b ≠ dx → hp.get? b = some o → h'.get? b = some o) →
      h'.Ns1 dx (fun y => if y = name then some v else m0 y) → R (.ok (.ret .none)) ⟨h', g, d, tk', os⟩) :
    codeAny (model prog w) A (.call (.builtin "object.__setattr__") ⟨[.ref x, .str name tk, v], []⟩) R ⟨hp, g, d, t, os⟩ := by
  obtain ⟨oD, _, _, hoD, _, _⟩ := hns.count hw
  have inst : InstAt hp x { cls := .ref C, dict := some dx, data := .fields fv } C (some oD) := ⟨hx, rfl, rfl, hoD⟩
  have SO := F.store_object
  have hob := mro_obj hm hbo
  have hne := mro_some hob
  have isO : Looks (model prog w) hp (isInstance (.ref x) (.type "object")) true :=
    inst.type.andThen (looks_mroIn XK (by unfold mroIn; rw [hc, Option.bind_some, if_neg (by rw [hne]; decide), hob]))
  refine codeAny_call_builtin SO.slot.plain SO.entry
    (@check_slot (model prog w) _ _ ⟨hp, g, d, t, os⟩ "object.__setattr__" "object" "__setattr__" (.ref x) [.str name tk, v] [] _ SO.kind SO.split isO
      (SO.args (.ref x) (.str name tk) v) ?_)
  have seesMro : Looks (model prog w) hp (mroOf (.ref C)) cd.mro := (looks_clsIn XK hc).andThen .now
  have noTaker : Looks (model prog w) hp (storeTaker? none) none := .now
  have seesCls : Looks (model prog w) hp (classData C) cd := looks_clsIn XK hc
  rw [osa_eq, refuse_eq]
  refine wpAny_bind (wpAny_bind (inst.type.at (wpAny_bind (seesMro.at ?_))))
  rw [excTail_pass (.ref x) (SF.passes _) _ hm]
  refine wpAny_pure (wpAny_bind (inst.type.at
    (wpAny_bind ((looks_findIn XK hn).at (wpAny_bind (noTaker.at ?_))))))
  show wpAny _ _ (storeInOwnDict (.ref x) (.ref C) (.str name tk) name v false) _ _ _
  obtain ⟨_, _, _, _, _, hd, _, _, _, _, _⟩ := cd
  dsimp only at hh
  subst hh
  unfold storeInOwnDict ownDictForStores
  repeat (first
    | with_reducible refine OEX.store_in_old hns hw hz ?_
    | with_reducible refine wpAny_loadPart_at hx ?_
    | with_reducible refine seesCls.at ?_
    | wp_step)
  intro h' tk' hn' hs
  exact hq h' tk' (fun b o hb ho => Eq.trans (hs.2 b hb) ho) hn'
end
end XV
namespace L2
open PySem PySem.Spec PyProof.Rows
/-- an exception at a, raised and caught: its class and its dict are known -/
def exw (a C : Addr) (d : Option Addr) : HO := .ext fun h => ∃ (o : Obj) (vs : Array Value), h.get? a = some o ∧ Zc (.ref C) d o ∧ o.data = .fields vs
theorem exw_ok {P : Program} {w : World} {H : Hp} {h : Heap} {a C : Addr} {d : Option Addr} {o : Obj} {vs : Array Value} (e : h.get? a = some o) (z : Zc (.ref C) d o) (f : o.data = .fields vs) : ObjOk P w H h a (exw a C d) :=
  ⟨⟨o, vs, e, z, f⟩, ⟨o, e⟩, fun _ _ ⟨o, v, q, r⟩ k => ⟨o, v, k o q, r⟩⟩
theorem exw_at {P : Program} {w : World} {H : Hp} {h : Heap} {a C : Addr} {d : Option Addr} (hok : HOk P w H h) (e : H a = some (exw a C d)) : ∃ (o : Obj) (vs : Array Value), h.get? a = some o ∧ o.cls = .ref C ∧ o.dict = d ∧ o.data = .fields vs := by
  have x : ObjOk P w H h a (.ext fun h => ∃ (o : Obj) (vs : Array Value), h.get? a = some o ∧ Zc (.ref C) d o ∧ o.data = .fields vs) := hok a _ e
  obtain ⟨o, vs, h1, h2, h3⟩ := x.1
  exact ⟨o, vs, h1, h2.1, h2.2, h3⟩
theorem ex_any {P : Program} {w : World} {H : Hp} {h : Heap} {a C : Addr} {d : Option Addr} (hok : HOk P w H h) (e : H a = some (exo a C d) ∨ H a = some (exw a C d)) : ∃ (o : Obj) (vs : Array Value), h.get? a = some o ∧ o.cls = .ref C ∧ o.dict = d ∧ o.data = .fields vs := by
  rcases e with e | e
  · obtain ⟨t1, ho⟩ := exo_at hok e
    exact ⟨_, _, ho, rfl, rfl, rfl⟩
  · exact exw_at hok e
/-- what the written part says of an own exception class at C, over the built-in B -/
structure XC (K : PySem.W.Frag) (C : Addr) (bmB : List Value) (newId : String) : Prop where
  q : PySem.W.excInitIn K C bmB newId = true
  hd : PySem.W.hasDictIn K C = true
  sa : PySem.W.findIn K (.ref C) "__setattr__" = some (some (.builtin "object.__setattr__"))
  ga : PySem.W.findIn K (.ref C) "__getattribute__" = some (some (.builtin "BaseException.__getattribute__"))
  gt : PySem.W.findIn K (.ref C) "__getattr__" = some none
  ex : PySem.W.subIn K (.ref C) (.type "BaseException") = some true
  ca : PySem.W.findIn K (.ref C) "__class__" = some (some (.builtin "object.__class__"))
  cn : PySem.W.specialIn K (.builtin "object.__class__") "__get__" = some (some (.builtin "getset_descriptor.__get__"))
  ct : PySem.W.takesIn K (.builtin "object.__class__") = some true
  cm : PySem.W.mroIn K C (.type "object") = some true
  kC : PySem.W.keepIn K (.ref C) = true
/-- what is known of the built-in below -/
structure XB (B : String) (bmB : List Value) (newId initId : String) : Prop where
  base : ExcBaseFacts B newId initId bmB
  store : StoreFacts B bmB "object.__setattr__" "object"
  obj : bmB.contains (.type "object") = true
theorem xbV : XB "ValueError" [.type "ValueError", .type "Exception", .type "BaseException", .type "object"] "ValueError.__new__" "ValueError.__init__" := ⟨F.excBase_ValueError, F.store_ValueError, by decide +kernel⟩
theorem XC.cls {K : PySem.W.Frag} {C : Addr} {bmB : List Value} {newId : String} (T : XC K C bmB newId) : ∃ cd, PySem.W.clsIn K C = some cd ∧ PySem.W.excTail bmB cd.mro = true ∧ cd.hasDict = true := by
  obtain ⟨cd, hc, hh⟩ := PySem.W.any_some T.hd
  refine ⟨cd, hc, ?_, hh⟩
  have q := T.q
  unfold PySem.W.excInitIn at q
  unfold PySem.W.clsIn at hc
  split at q
  · rename_i ho
    rw [ho] at hc
    cases hc
    split at q
    · rename_i hm _
      simp only [Bool.and_eq_true] at q
      rw [hm]
      exact q.2
    · cases q
  · cases q
end L2
namespace L2
open PySem PySem.Spec PyProof.Rows
section
variable {X : Cx} {pins : List (Addr × Obj)} {σ : St} {H : Hp} {s : Shared} {a C dx : Addr} {f : Str} {y : V} {u : Value} {fs : List (Str × V)} {E : Value → Shared → Prop} {A : Around}
variable {B newId initId : String} {bmB : List Value}
theorem xset1 {Q : Unit → Shared → Prop} (T : XC X.K C bmB newId) (Y : XB B bmB newId initId) (I : Inv X pins σ H s) (e : H a = some (exo a C none)) (hno : PySem.W.findIn X.K (.ref C) f = some none) (ry : RelV y u)
    (h : ∀ dx s', H dx = none → dx ≠ a → Inv X pins σ (upd (upd H dx (exd dx [(f, y)])) a (exo a C (some dx))) s' → Q () s') :
    wpAny (model X.prog X.w) A (setAttr (.ref a) f u) Q E s := by
  obtain ⟨cd, hcl, hmr, hh⟩ := T.cls
  obtain ⟨t1, ho⟩ := exo_at I.hok e
  obtain ⟨hp, g, d, t, os⟩ := s
  refine PySem.W.set_plain I.kIn (od := none) ⟨ho, rfl, rfl, trivial⟩ T.sa ?_
  refine XV.setFirst Y.store Y.obj I.kIn ho hcl hmr hh hno (fun h' tk' dx k dn dne hx hn => ?_)
  have hnd : H dx = none := I.hok.fresh dn
  have far : ∀ {b : Addr} {o : Obj}, hp.get? b = some o → b ≠ dx := fun {b o} q => Nat.ne_of_lt (Nat.lt_of_lt_of_le (Heap.lt_size q) dn)
  have na : ∀ {b : Addr}, H b = none → b ≠ a := fun {b} n z => by
    rw [z, e] at n
    exact nomatch n
  have U : Un X.fs [] H (upd (upd H dx (exd dx [(f, y)])) a (exo a C (some dx))) hp h' := {
    keep := fun b o q n _ _ => k b o (na n) q
    slot := fun b o q n _ _ => ⟨o.slots, k b o (na n) q⟩
    free := fun b o q n _ => Eq.trans (upd_ne (na n)) (Eq.trans (upd_ne (far q)) n)
    there := fun b o q _ => by
      rcases Nat.decEq b a with hb | hb
      · exact ⟨o, k b o hb q⟩
      · exact ⟨_, Eq.trans (congrArg h'.get? hb) hx⟩
    tups := fun b xs q => Eq.trans (upd_ne (at_ne e q exo_tup)) (Eq.trans (upd_ne (ne_of_none q hnd)) q)
    frzs := fun b o v q => Eq.trans (upd_ne (at_ne e q exo_frz)) (Eq.trans (upd_ne (ne_of_none q hnd)) q)
    tbls := fun b ps q => ⟨#[], Eq.trans (upd_ne (at_ne e q exo_tbl)) (Eq.trans (upd_ne (ne_of_none q hnd)) (by rw [q]; simp))⟩ }
  refine h dx _ hnd dne (I.un (t' := tk') U fun b o q => ?_)
  rcases Nat.decEq b a with hb | hb
  · rw [upd_ne hb] at q
    rcases Nat.decEq b dx with hd | hd
    · rw [upd_ne hd] at q
      refine (I.hok b o q).stay (fun c v hc z => k c v ?_ z) (fun c hc => ?_) (fun c xs hc => ?_)
      · rcases hc with hc | hc
        · exact hc ▸ hb
        · exact at_ne e hc exo_own
      · exact Eq.trans (upd_ne (at_ne e hc exo_own)) (Eq.trans (upd_ne (ne_of_none hc hnd)) hc)
      · exact Eq.trans (upd_ne (at_ne e hc exo_tup)) (Eq.trans (upd_ne (ne_of_none hc hnd)) hc)
    · subst hd
      rw [upd_same] at q
      cases q
      exact exd_ok hn (relO_put (fs := []) ry fun _ => trivial)
  · subst hb
    rw [upd_same] at q
    cases q
    exact exo_ok hx
theorem xset2 {Q : Unit → Shared → Prop} (T : XC X.K C bmB newId) (Y : XB B bmB newId initId) (I : Inv X pins σ H s) (e : H a = some (exo a C (some dx))) (ed : H dx = some (exd dx fs)) (hl : fs.length ≤ 900)
    (hno : PySem.W.findIn X.K (.ref C) f = some none) (ry : RelV y u) (h : ∀ s', Inv X pins σ (upd H dx (exd dx ((f, y) :: fs))) s' → Q () s') :
    wpAny (model X.prog X.w) A (setAttr (.ref a) f u) Q E s := by
  obtain ⟨cd, hcl, hmr, hh⟩ := T.cls
  obtain ⟨t1, ho⟩ := exo_at I.hok e
  obtain ⟨mA, hns, rel⟩ := exd_at I.hok ed
  obtain ⟨hp, g, d, t, os⟩ := s
  have hw := within_of rel
  obtain ⟨oD, _, _, hoD, _, _⟩ := hns.count hw
  refine PySem.W.set_plain I.kIn (od := some oD) ⟨ho, rfl, rfl, hoD⟩ T.sa ?_
  refine XV.setMore Y.store Y.obj I.kIn ho hns hw (by rw [List.length_map]; omega) hcl hmr hh hno (fun h' tk' k hn => ?_)
  obtain ⟨o1, _, _, e1, _⟩ := id hn
  exact h _ (I.write (t' := tk') (x := dx) (e := dx) (o := exd dx ((f, y) :: fs)) (by rw [ed]; trivial) (.inl rfl) k ⟨o1, e1⟩ (exd_ok hn (relO_put ry rel)))
/-- the built-in's __init__ of an exception that is being made: nothing of it is told -/
theorem xinit {us : List Value} {Q : Value → Shared → Prop} (T : XC X.K C bmB newId) (Y : XB B bmB newId initId) (I : Inv X pins σ H s) (e : H a = some (exo a C none)) (hl : us.length ≤ sizeLine)
    (h : ∀ s', Inv X pins σ H s' → Q .none s') : wpAny (model X.prog X.w) A (call (.builtin initId) (.ref a :: us)) Q E s := by
  obtain ⟨nm, N, qn, bs, bm, hdct, sn, sub, ab, col, dd, k0, k1, k2, k3, k5, hC, hbm⟩ := PySem.W.excInit_of I.kIn T.q
  obtain ⟨t1, ho⟩ := exo_at I.hok e
  obtain ⟨hp, g, d, t, os⟩ := s
  refine wpAny_call (PySem.HandSPX.init_base Y.base hbm hC ho hl fun h' t2 k hx => ?_)
  have J := I.write (t' := t) (x := a) (e := a) (o := exo a C none) (by rw [e]; trivial) (.inl rfl) k ⟨_, hx⟩ (exo_ok hx)
  have eu : upd H a (exo a C none) = H := funext fun b => by
    rcases Nat.decEq b a with hb | hb
    · exact upd_ne hb
    · subst hb
      exact Eq.trans upd_same e.symm
  rw [eu] at J
  exact h _ J
end
/-- D.__init__(self, ..), D an own class below which stands the built-in with that __init__ -/
def tXInit (K : PySem.W.Frag) (bmB : List Value) (newId : String) (ta : TA) : TE := fun σ H Q => ta σ H fun vs H1 => ∃ (a C : Addr) (ws : List V), vs = .ref a :: ws ∧ ws.length ≤ 1000 ∧ XC K C bmB newId ∧ H1 a = some (exo a C none) ∧ Q .non H1
/-- self.f = e -/
def tXSet (K : PySem.W.Frag) (bmB : List Value) (newId : String) (f : Str) (to te : TE) : TS := fun D σ H => te σ H fun y H1 => to σ H1 fun x H2 => ∃ a C : Addr, x = .ref a ∧ XC K C bmB newId ∧ PySem.W.findIn K (.ref C) f = some none ∧
  ((H2 a = some (exo a C none) ∧ ∀ dx, H2 dx = none → dx ≠ a → D.nx σ (upd (upd H2 dx (exd dx [(f, y)])) a (exo a C (some dx)))) ∨
    ∃ (dx : Addr) (fs : List (Str × V)), H2 a = some (exo a C (some dx)) ∧ H2 dx = some (exd dx fs) ∧ fs.length ≤ 900 ∧ D.nx σ (upd H2 dx (exd dx ((f, y) :: fs))))
/-- e.f of such a value -/
def tXAt (K : PySem.W.Frag) (bmB : List Value) (newId : String) (f : Str) (te : TE) : TE := fun σ H Q => te σ H fun x H1 => ∃ (a C dx : Addr) (fs : List (Str × V)) (v : V), x = .ref a ∧ XC K C bmB newId ∧ PySem.W.findIn K (.ref C) f = some none ∧
  (H1 a = some (exo a C (some dx)) ∨ H1 a = some (exw a C (some dx))) ∧ H1 dx = some (exd dx fs) ∧ fs.lookup f = some v ∧ Q v H1
/-- isinstance(e, c) of such a value -/
def rXIs (K : PySem.W.Frag) : List V → Hp → VK → Prop := fun xs H Q => ∃ (a C : Addr) (bmB : List Value) (newId : String) (c : V) (cv : Value) (b : Bool), xs = [.ref a, c] ∧ XC K C bmB newId ∧
  (∃ d, (H a = some (exo a C d) ∨ H a = some (exw a C d)) ∧ (d = none ∨ ∃ dx fs, d = some dx ∧ H dx = some (exd dx fs))) ∧ (∀ u, RelV c u → u = cv) ∧ PySem.W.kitOne K (.ref C) cv = some b ∧ Q (.bl b) H
section
variable {X : Cx} {o e : Expr} {es : List Expr} {to te : TE} {ta : TA} {f x : Str} {p p' p1 p2 pos : Pos} {B newId initId : String} {bmB : List Value} {D C : Addr}
theorem pe_xinit {pl : Sem Bool} (Y : XB B bmB newId initId) (hg : Gl X x) (hm : X.mg x = some (.ref D)) (sD : PySem.W.specialIn X.K (.ref D) "__getattribute__" = some (some (.builtin "type.__getattribute__")))
    (rD : PySem.W.readsIn X.K D (.type "type") = true) (fD : PySem.W.findCls X.K (.ref D) (.type "type") "__init__" = some (.val (.builtin initId))) (hh : PySem.W.handedIn (.builtin initId) = true) (ha : PA X (e :: es) ta)
    (hc : eval (.Call (.Attribute (.Name x p1) "__init__" p2) (e :: es) [] pos) X.env = (do
      let ov ← eval (.Name x p1) X.env
      standAt p2.atName
      let (f, first) ← holding [ov] (getMethod ov "__init__" pl)
      callWith pos f first (backTo pos (starEach (e :: es) X.env)) (backToKw pos (keywordEach [] X.env))) := by rfl)
    (he : starEach (e :: es) X.env = (false, eval e X.env) :: starEach es X.env := by rfl) (hpl : (backTo pos (starEach es X.env)).any (·.1) = false := by rfl) (hd : (x == ("__debug__" : Str)) = false := by decide) :
    PE X (.Call (.Attribute (.Name x p1) "__init__" p2) (e :: es) [] pos) (tXInit X.K bmB newId ta) := by
  refine ⟨fun pins s σ H Q I h => ?_⟩
  refine PySem.W.methodCall_KW (ld_glob I hg hm ?_ hd) hc
  refine PySem.W.method_cls I.kIn sD (PySem.W.cls_value I.kIn rD fD hh ?_)
  show wpAny _ _ (callWith pos (Value.builtin initId) [] (backTo pos (starEach (e :: es) X.env)) []) _ _ _
  refine PyProof.Rows.callWith_method1 (thn (ha.run pos pins _ σ H _ (I.tok _) h) fun us s1 hh1 => ?_) he hpl
  obtain ⟨vs, H1, I1, r1, a, C, ws, ev, hl, T, ea, q⟩ := hh1
  subst ev
  cases r1 with
  | @cons _ u0 _ ur ra rw' =>
    obtain rfl : u0 = Value.ref a := ra
    have hlen : ur.length ≤ sizeLine := by
      have := Paired.length rw'
      rw [sizeLine_eq]
      omega
    exact xinit T Y I1 ea hlen fun s' J => ⟨.non, H1, J, rfl, q⟩
theorem ps_xset (Y : XB B bmB newId initId) (ho : PE X o to) (he : PE X e te) (hs : swapsWith e (some (.Attribute o f p')) pos.line X.env = pure false := by rfl) : PS X (.Assign [.Attribute o f p'] e pos) (tXSet X.K bmB newId f to te) := by
  refine ⟨fun pins s σ H D I h => ?_⟩
  refine plainObj_wpAny_Assign_Attribute (thn (he.run pins s σ H _ I h) fun v s1 h1 => ?_) hs
  obtain ⟨y, H1, I1, r1, q1⟩ := h1
  refine thn (ho.run pins s1 σ H1 _ I1 q1) fun u s2 h2 => ?_
  obtain ⟨x, H2, I2, r2, a, C, ex, T, hno, q⟩ := h2
  subst ex
  obtain rfl : u = Value.ref a := r2
  rcases q with ⟨ea, q⟩ | ⟨dx, fs, ea, ed, hl, q⟩
  · exact xset1 T Y I2 ea hno r1 fun dx s' n ne J => ⟨σ, _, J, q dx n ne⟩
  · exact xset2 T Y I2 ea ed hl hno r1 fun s' J => ⟨σ, _, J, q⟩
theorem pe_xat (he : PE X e te) (hb : attributeBase e f X.env (eval e X.env) = eval e X.env := by rfl) : PE X (.Attribute e f pos) (tXAt X.K bmB newId f te) := by
  refine ⟨fun pins s σ H Q I h => ?_⟩
  refine attr_of hb (thn (he.run pins s σ H _ I h) fun u s1 hh => ?_)
  obtain ⟨x, H1, I1, rx, a, C, dx, fs, v, ex, T, hno, ea, ed, hl, q⟩ := hh
  subst ex
  obtain rfl : u = Value.ref a := rx
  obtain ⟨⟨oc, odd, odt, osl⟩, vs0, ho, hc0, hd0, hf0⟩ := ex_any I1.hok ea
  dsimp only at hc0 hd0 hf0
  subst hc0 hd0 hf0
  obtain ⟨mA, hns, rel⟩ := exd_at I1.hok ed
  obtain ⟨od, hod, look⟩ := lookIn_ns hns
  obtain ⟨z, hz, rz⟩ := RelO.some_of (v := v) (o := mA f) (by have := rel f; rw [hl] at this; exact this)
  have J : PySem.W.InstAt s1.heap a _ C (some od) := ⟨ho, rfl, rfl, hod⟩
  exact HandSPX.exc_get I1.kIn J T.ga T.gt T.ex (PySem.W.findObj_own T.hd hno rfl (by rw [look, hz])) (handed_of rz) ⟨v, H1, I1.tok _, rz, q⟩
theorem call_xis : CallR X (.builtin "isinstance") (rXIs X.K) := by
  intro pins s σ H xs us Q I r h
  obtain ⟨a, C, bmB, newId, c, cv, b, rfl, T, hx, hcv, e, q⟩ := h
  cases r with
  | cons rx rr =>
    cases rr with
    | cons rt rr =>
      cases rr
      cases rx
      have ec := hcv _ rt
      subst ec
      have hcl : (PySem.W.clsIn X.K C).isSome = true := by
        obtain ⟨cd, hc, _⟩ := T.cls
        rw [hc]; rfl
      obtain ⟨d, hx, hd⟩ := hx
      obtain ⟨⟨oc, odd, odt, osl⟩, vs0, ho, hc0, hd0, hf0⟩ := ex_any I.hok hx
      dsimp only at hc0 hd0 hf0
      subst hc0 hd0 hf0
      rcases hd with rfl | ⟨dx, fs, rfl, hdx⟩
      · have J : PySem.W.InstAt s.heap a _ C none := ⟨ho, rfl, rfl, trivial⟩
        exact PySem.W.kia_one (PySem.W.kitx_exc hcl T.ga T.gt T.ex T.ca T.cn T.ct T.cm) I.kIn J e (fun z => nomatch z) fun tk => ⟨.bl b, H, I.kept (t' := tk) fun _ _ z => z, rfl, q⟩
      · obtain ⟨mA, hns, rel⟩ := exd_at I.hok hdx
        obtain ⟨od, hod, look⟩ := lookIn_ns hns
        have J : PySem.W.InstAt s.heap a _ C (some od) := ⟨ho, rfl, rfl, hod⟩
        exact PySem.W.kia_one (PySem.W.kitx_exc hcl T.ga T.gt T.ex T.ca T.cn T.ct T.cm) I.kIn J e (fun z => nomatch z) fun tk => ⟨.bl b, H, I.kept (t' := tk) fun _ _ z => z, rfl, q⟩
end
end L2
namespace XV
open PySem PySem.W PySem.Calls PyProof.Rows Builtin Builtin.ObjectAttr HandSPX
section
variable {prog : Program} {w : World} {A : Around} {E : Value → Shared → Prop} {R : Result → Shared → Prop} {h : Heap} {g : Array GenState} {d : Drawn} {t : Nat} {os : OsState}
variable {nm q : Str} {C N : Addr} {bs bm bmB : List Value} {hdct : Bool} {sn : List Str} {sub : List Value} {ab : Bool} {col : Option Bool} {dd : Option Addr} {k0 k1 k2 k3 k5 : Option Value} {B newId initId : String} {kw : List (Str × Value)} {rest : List Value}
theorem newLook {M : Model} {Q : Unit → Shared → Prop} (F : ExcBaseFacts B newId initId bmB) (hT : ∀ X : String, bm.contains (.type X) = bmB.contains (.type X))
    (hC : h.get? C = some (excClassObj nm q C N bs bm hdct sn sub ab col dd k0 k1 k2 k3 k5 newId)) (hq : Q () ⟨h, g, d, t, os⟩) :
    wpAny M A (checkBuiltinCall newId ⟨.ref C :: rest, kw⟩) Q E ⟨h, g, d, t, os⟩ := by
  have hB : (Value.ref C :: bm).contains (.type B) = true := by rw [List.contains_cons, hT, F.hasB, Bool.or_true]
  have star := F.noStar
  simp only [checkBuiltinCall, F.newKind, F.newSplit, F.newRow]
  repeat (first
    | refine wpAny_loadPart_at hC ?_
    | (refine wpAny_isSubtype_exc hC ?_; rw [hB])
    | refine wpAny_staticBase_exc hC ?_
    | refine wpAny_madeBy_exc hC ?_
    | simp only [bne_self_eq_false, Bool.false_eq_true, if_false]
    | wp_step)
  exact hq
theorem newRun (F : ExcBaseFacts B newId initId bmB) (hT : ∀ X : String, bm.contains (.type X) = bmB.contains (.type X))
    (hC : h.get? C = some (excClassObj nm q C N bs bm hdct sn sub ab col dd k0 k1 k2 k3 k5 newId))
    (hq : R (.ok (.ret (.ref (h.objs.size + 1)))) ⟨(h.push { cls := .type "tuple", data := .seq rest.toArray }).push
      { cls := .ref C, data := .fields #[.ref h.objs.size, .none, .none, .none, .bool false, .none] }, g, d, t, os⟩) (hrest : rest.length ≤ sizeLine) :
    codeAny (model prog w) A (.builtin newId ⟨.ref C :: rest, kw⟩) R ⟨h, g, d, t, os⟩ := by
  have ends := F.ends
  have hB : (Value.ref C :: bm).contains (.type B) = true := by rw [List.contains_cons, hT, F.hasB, Bool.or_true]
  have hA : (Value.ref C :: bm).contains (.type "AttributeError") = false := by rw [List.contains_cons, hT, F.noAttr]; rfl
  have hN : (Value.ref C :: bm).contains (.type "NameError") = false := by rw [List.contains_cons, hT, F.noName]; rfl
  refine codeAny_builtinAt F.entry ?_
  unfold Builtin.«BaseException.__new__»
  refine PySem.wpAt_bind ?_
  show PySem.wpAt _ _ _ (stack >>= _) _ _ _
  refine PySem.wpAt_bind (PySem.wpAt_stack fun p below => PySem.wpAt_of_wpAny ?_)
  wp_walk
  refine PySem.wpAt_of_wpAny ?_
  rw [F.owner]
  repeat (first
    | with_reducible refine wpAny_madeHere_exc F.canon hC ?_
    | with_reducible refine wpAny_loadPart_at hC ?_
    | (with_reducible refine wpAny_isSubtype_exc hC ?_; first | rw [hB] | rw [hA] | rw [hN])
    | wp_step)
  show R _ _
  rw [Heap.size_push]
  exact hq
theorem typeCall (F : ExcBaseFacts B newId initId bmB) (hT : ∀ X : String, bm.contains (.type X) = bmB.contains (.type X)) {fI : Addr} {Q : Fin → Shared → Prop}
    (hC : h.get? C = some (excClassObj nm q C N bs bm hdct sn sub ab col dd k0 k1 k2 k3 k5 newId))
    (hi : Looks (model prog w) h (typeLookup (.ref C) "__init__") (some (.ref fI))) (hb : ∀ self, Looks (model prog w) h (bindSpecial (.ref fI) self) (.ref fI, [self])) (hrest : rest.length ≤ sizeLine)
    (hq : codeAny (model prog w) A (.call (.ref fI) ⟨.ref (h.objs.size + 1) :: rest, kw⟩)
      (fun r s' => match r with
        | .ok (.ret v) => v = .none ∧ Q (.done (.ret (.ref (h.objs.size + 1)))) s'
        | .ok _ => False
        | .error e => E e s')
      ⟨(h.push (kdv_tup rest)).push (excO C h.objs.size), g, d, t, os⟩) :
    wpAny (model prog w) A (Builtin.«type.__call__» ⟨.ref C :: rest, kw⟩) Q E ⟨h, g, d, t, os⟩ := by
  repeat (first
    | with_reducible refine wpAny_loadPart_at hC ?_
    | with_reducible refine wpAny_madeBy_exc hC ?_
    | wp_step)
  refine codeAny_call_builtin_code (Code.quiet_builtin _ F.quiet) (newLook F hT hC ?_)
  refine newRun F hT hC ?_ hrest
  show wpAny _ _ _ _ _ _
  have k : ∀ b o, h.get? b = some o → ((h.push (kdv_tup rest)).push (excO C h.objs.size)).get? b = some o :=
    fun b o e => Heap.get?_push_of_some _ (Heap.get?_push_of_some _ e)
  have hC1 := k _ _ hC
  have got : ((h.push (kdv_tup rest)).push (excO C h.objs.size)).get? (h.objs.size + 1) = some (excO C h.objs.size) := by heap_get
  have hCC : (Value.ref C :: bm).contains (.ref C) = true := by simp
  unfold isInstance
  repeat (first
    | with_reducible refine wpAny_loadPart_at got ?_
    | (with_reducible refine wpAny_isSubtype_exc hC1 ?_; rw [hCC])
    | wp_step)
  show wpAny _ _ (typeLookup (.ref C) _) _ _ _
  refine (hi.keeps k).at ?_
  refine wpAny_holding (wpAny_bind (((hb (.ref (h.objs.size + 1))).keeps k).at ?_))
  refine wpAny_bind (wpAny_call (codeAny_mono hq fun r s' z => ?_))
  rcases r with er | (v | _ | _ | _) <;> first
    | exact z
    | exact z.elim
    | skip
  obtain ⟨rfl, z⟩ := z
  first
    | exact wpAny_pure (wpAny_pure z)
    | (wp_walk
       exact z)
theorem callX (F : ExcBaseFacts B newId initId bmB) (hT : ∀ X : String, bm.contains (.type X) = bmB.contains (.type X)) {fI : Addr}
    (hC : h.get? C = some (excClassObj nm q C N bs bm hdct sn sub ab col dd k0 k1 k2 k3 k5 newId))
    (hi : Looks (model prog w) h (typeLookup (.ref C) "__init__") (some (.ref fI))) (hb : ∀ self, Looks (model prog w) h (bindSpecial (.ref fI) self) (.ref fI, [self])) (hrest : rest.length ≤ sizeLine)
    (hq : codeAny (model prog w) (A.under (.builtin "type.__call__" ⟨.ref C :: rest, kw⟩)) (.call (.ref fI) ⟨.ref (h.objs.size + 1) :: rest, kw⟩) (InitBack (h.objs.size + 1) R)
      ⟨(h.push (kdv_tup rest)).push (excO C h.objs.size), g, d, t, os⟩) :
    codeAny (model prog w) A (.call (.ref C) ⟨rest, kw⟩) R ⟨h, g, d, t, os⟩ := by
  have f1 := tc_lookup
  have f2 := tc_bind (.ref C)
  have isT : (⟨h, g, d, t, os⟩ : Shared).TypeIs (.ref C) "type" := ⟨_, hC, rfl⟩
  refine codeAny_of_tree ?_
  show wpAny _ _ (callAny (.ref C) _) _ _ _
  repeat (any_goals (first
    | assumption
    | with_reducible refine wpAny_loadPart_at hC ?_
    | wp_step))
  refine ⟨rfl, ?_⟩
  refine codeAny_call_builtin_at (Code.quiet_builtin _ (by decide +kernel)) entry_typeCall
    (wpAny_check_type_call_sub hC (typeCall F hT hC hi hb hrest ?_))
  refine codeAny_mono hq fun r s' z => ?_
  rcases r with e | (v | _ | _ | _) <;> exact z
end
end XV
namespace L2
open PySem PySem.Spec PyProof.Rows
/-- C(e, .., k = v, ..) of an own exception class with an __init__ of its own, as a value: n values, keywords by their names -/
def tXNewN (C : Addr) (n m : Nat) (sp : Sp) (gV : List V → List V → List V) (t tk : TA) : TE := fun σ H Q => t σ H fun vs H1 => tk σ H1 fun zs H2 => vs.length = n ∧ zs.length = m ∧
  ∀ a, H2 a = none → sp (gV (.ref a :: vs) zs) (upd H2 a (exo a C none)) (fun v H3 => v = .non ∧ Q (.ref a) H3) E0
section
variable {X : Cx} {k n : Nat} {fI C : Addr} {fd : FuncData} {ps ks : List Str} {sp : Sp} {x : Str} {p pos : Pos} {e : Expr} {es : List Expr} {kws : List Keyword} {t tk : TA} {g : List Value → List Value → List Value} {gV : List V → List V → List V}
variable {B newId initId : String} {bmB : List Value}
theorem run_xnew {pins : List (Addr × Obj)} {σ : St} {H : Hp} {s : Shared} {Q : VK} {us ws : List Value} {vs zs : List V} (T : XC X.K C bmB newId) (Y : XB B bmB newId initId) (iC : PySem.W.findIn X.K (.ref C) "__init__" = some (some (.ref fI)))
    (tI : PySem.W.typeIn X.K (.ref fI) = some (.type "function")) (F1 : FnOk X.prog X.w X.K X.mg X.base CX0 k fI fd ps sp) (hr : Room (k + 1) X.A) (hb : KBn X.K fd ps (n + 1) ks g gV)
    (I : Inv X pins σ H s) (r : Vals vs us) (rz : Vals zs ws) (l1 : vs.length = n) (l2 : zs.length = ks.length) (hn : n ≤ 1000)
    (h : ∀ a, H a = none → sp (gV (.ref a :: vs) zs) (upd H a (exo a C none)) (fun v H3 => v = .non ∧ Q (.ref a) H3) E0) :
    wpAny (model X.prog X.w) X.A (call (.ref C) us (ks.zip ws)) (EP X pins σ Q) X.xe s := by
  obtain ⟨nm, N, qn, bs, bm, hdct, sn, sub, ab, col, dd, k0, k1, k2, k3, k5, hC, hbm⟩ := PySem.W.excInit_of I.kIn T.q
  obtain ⟨hp, gs, dr, tk, os⟩ := s
  have above : hp.objs.size ≤ hp.objs.size + 1 := Nat.le_succ _
  have hq := h (hp.objs.size + 1) (I.hok.fresh above)
  have kk : ∀ b o, hp.get? b = some o → ((hp.push (PySem.W.kdv_tup us)).push (PySem.HandSPX.excO C hp.objs.size)).get? b = some o :=
    fun b o e => Heap.get?_push_of_some _ (Heap.get?_push_of_some _ e)
  have got : ((hp.push (PySem.W.kdv_tup us)).push (PySem.HandSPX.excO C hp.objs.size)).get? (hp.objs.size + 1) = some (PySem.HandSPX.excO C hp.objs.size) := by heap_get
  have I2 : Inv X pins σ (upd H (hp.objs.size + 1) (exo (hp.objs.size + 1) C none)) ⟨(hp.push (PySem.W.kdv_tup us)).push (PySem.HandSPX.excO C hp.objs.size), gs, dr, tk, os⟩ :=
    I.laid (t' := tk) (a := hp.objs.size + 1) (o := exo (hp.objs.size + 1) C none) kk above (exo_ok got)
  have r1 : Vals (V.ref (hp.objs.size + 1) :: vs) (Value.ref (hp.objs.size + 1) :: us) := .cons rfl r
  have r2 := hb.rel r1 rz
  have e1 : (Value.ref (hp.objs.size + 1) :: us).length = n + 1 := r1.length.symm.trans (congrArg Nat.succ l1)
  have e2 : ws.length = ks.length := rz.length.symm.trans l2
  have hus : us.length ≤ sizeLine := by
    have := r.length
    rw [sizeLine_eq]
    omega
  refine wpAny_call (XV.callX Y.base hbm hC (PySem.W.looks_findIn I.kIn iC) (fun self => PySem.W.bind_fn I.kIn self tI) hus
    (codeAny_mono (F1.run _ X.stack _ _ ⟨Value.ref (hp.objs.size + 1) :: us, ks.zip ws⟩ (g (Value.ref (hp.objs.size + 1) :: us) ws) _ _ E0
      (hr.make C us (ks.zip ws)) (I2.env0.make C us (ks.zip ws)) (hb.to _ (Value.ref (hp.objs.size + 1) :: us) ws I2.kIn e1 e2) r2 hq) fun r s' hq' => ?_))
  cases r with
  | error er => exact False.elim hq'
  | ok fl =>
    cases fl with
    | ret u =>
      obtain ⟨v, H', I3, rv, ev, q3⟩ := I2.after hq'
      subst ev
      exact ⟨rv, ⟨V.ref (hp.objs.size + 1), H', I3, rfl, q3⟩⟩
    | next => exact False.elim hq'
    | brk => exact False.elim hq'
    | cont => exact False.elim hq'
theorem pe_xnewP (T : XC X.K C bmB newId) (Y : XB B bmB newId initId) (iC : PySem.W.findIn X.K (.ref C) "__init__" = some (some (.ref fI)))
    (tI : PySem.W.typeIn X.K (.ref fI) = some (.type "function")) (F1 : FnOk X.prog X.w X.K X.mg X.base CX0 k fI fd ps sp) (hr : Room (k + 1) X.A) (hb : KBn X.K fd ps (n + 1) [] g gV) (hn : n ≤ 1000) (hg : Gl X x) (hm : X.mg x = some (.ref C))
    (ha : PA X (e :: es) t) (hdb : (x == ("__debug__" : Str)) = false := by decide) (he : starEach (e :: es) X.env = (false, eval e X.env) :: starEach es X.env := by rfl) (hpl : (backTo pos (starEach es X.env)).any (·.1) = false := by rfl) :
    PE X (.Call (.Name x p) (e :: es) [] pos) (tXNewN C n 0 sp gV t tNil) := by
  refine ⟨fun pins s σ H Q I h => ?_⟩
  refine wpAny_Call_Name_kw (ld_glob I hg hm ?_ hdb)
  refine PySem.W.callWith_K (h₀ := X.base) I.ok.mod.kin T.kC (thn (ha.run pos pins s σ H _ I h) fun us s1 h1 => ?_) he hpl
  obtain ⟨vs, H1, I1, r, l1, l2, q⟩ := h1
  exact ⟨I1.kIn, run_xnew (ks := []) T Y iC tI F1 hr hb I1 r .nil l1 rfl hn q⟩
theorem pe_xnewZ (T : XC X.K C bmB newId) (Y : XB B bmB newId initId) (iC : PySem.W.findIn X.K (.ref C) "__init__" = some (some (.ref fI)))
    (tI : PySem.W.typeIn X.K (.ref fI) = some (.type "function")) (F1 : FnOk X.prog X.w X.K X.mg X.base CX0 k fI fd ps sp) (hr : Room (k + 1) X.A) (hb : KBn X.K fd ps (0 + 1) [] g gV) (hg : Gl X x) (hm : X.mg x = some (.ref C))
    (hdb : (x == ("__debug__" : Str)) = false := by decide) : PE X (.Call (.Name x p) [] [] pos) (tXNewN C 0 0 sp gV tNil tNil) := by
  refine ⟨fun pins s σ H Q I h => ?_⟩
  refine wpAny_Call_Name_kw (ld_glob I hg hm ?_ hdb)
  obtain ⟨_, _, q⟩ := h
  exact PySem.W.callWith_K0 I.kIn T.kC (run_xnew (us := []) (ks := []) T Y iC tI F1 hr hb I .nil .nil rfl rfl (by decide) q)
end
end L2
namespace My
open PySem L2 Evl
set_option autoImplicit false
/-- an exception of the class at C with fields of which this is known | one without fields | one of these -/
def XF (C : Addr) (fs : List (Str × Pr)) : Pr := ⟨fun v H => ∃ (a dx : Addr) (vs : List (Str × V)), v = .ref a ∧ (H a = some (exo a C (some dx)) ∨ H a = some (exw a C (some dx))) ∧ H dx = some (exd dx vs) ∧ vs.map Prod.fst = fs.map Prod.fst ∧ AllP (fs.map Prod.snd) (vs.map Prod.snd) H,
  fun e ⟨a, dx, vs, h1, h2, h3, h4, h5⟩ => ⟨a, dx, vs, h1, h2.imp (e _ _) (e _ _), e _ _ h3, h4, AllP.m e h5⟩⟩
def X0 (C : Addr) : Pr := ⟨fun v H => ∃ a : Addr, v = .ref a ∧ (H a = some (exo a C none) ∨ H a = some (exw a C none)), fun e ⟨a, h1, h2⟩ => ⟨a, h1, h2.imp (e _ _) (e _ _)⟩⟩
def XK (C : Addr) : Pr := ⟨fun v H => ∃ a : Addr, v = .ref a ∧ ∃ d, (H a = some (exo a C d) ∨ H a = some (exw a C d)) ∧ (d = none ∨ ∃ dx fs, d = some dx ∧ H dx = some (exd dx fs)),
  fun e ⟨a, h1, d, h2, h3⟩ => ⟨a, h1, d, h2.imp (e _ _) (e _ _), h3.imp id fun ⟨dx, fs, z, h4⟩ => ⟨dx, fs, z, e _ _ h4⟩⟩⟩
theorem xk_f {C : Addr} {fs : List (Str × Pr)} {v : V} {H : Hp} (h : (XF C fs).P v H) : (XK C).P v H := by
  obtain ⟨a, dx, vs, h1, h2, h3, _⟩ := h
  exact ⟨a, h1, _, h2, .inr ⟨dx, vs, rfl, h3⟩⟩
theorem xk_0 {C : Addr} {v : V} {H : Hp} (h : (X0 C).P v H) : (XK C).P v H := by
  obtain ⟨a, h1, h2⟩ := h
  exact ⟨a, h1, _, h2, .inl rfl⟩
/-- what an __init__ of one field promises; of two -/
def spI1 (C : Addr) (f : Str) : Sp := fun vs H Q _ => ∃ (a : Addr) (v : V), vs = [.ref a, v] ∧ H a = some (exo a C none) ∧ ∀ dx, H dx = none → dx ≠ a → Q .non (upd (upd H dx (exd dx [(f, v)])) a (exo a C (some dx)))
section
variable {te ta tb : TE} {t tk : TA} {σ : L2.St} {B : Hp} {p q : Pr} {ps qs : List Pr} {v : V} {K : PySem.W.Frag} {D : Ends} {C : Addr} {f g : Str} {n m : Nat} {gV : List V → List V → List V}
theorem look_all {H : Hp} : ∀ {fs : List (Str × Pr)} {vs : List (Str × V)}, vs.map Prod.fst = fs.map Prod.fst → AllP (fs.map Prod.snd) (vs.map Prod.snd) H → fs.lookup f = some p → ∃ v, vs.lookup f = some v ∧ p.P v H
  | [], _, _, _, h => by cases h
  | (g, r) :: fs, [], e, _, _ => by cases e
  | (g, r) :: fs, (g', w) :: vs, e, a, h => by
    obtain ⟨rfl, e'⟩ := List.cons.inj e
    rw [List.lookup_cons] at h ⊢
    by_cases c : (f == g') = true
    · rw [c] at h ⊢
      cases h
      exact ⟨w, rfl, a.1⟩
    · have c' : (f == g') = false := by simpa using c
      rw [c'] at h ⊢
      exact look_all e' a.2 h
theorem p_xat {fs : List (Str × Pr)} {bmB : List Value} {newId : String} (T : XC K C bmB newId) (hno : PySem.W.findIn K (.ref C) f = some none) (h : EvP te σ B (XF C fs)) (hl : fs.lookup f = some p) : EvP (tXAt K bmB newId f te) σ B p := fun H1 e Q k =>
  h H1 e _ fun v B2 H2 g2 b => by
    obtain ⟨a, dx, vs, rfl, h2, h3, h4, h5⟩ := b
    obtain ⟨w, hw, pw⟩ := look_all h4 h5 hl
    exact ⟨a, C, dx, vs, w, rfl, T, hno, h2.imp (g2.c _ _) (g2.c _ _), g2.c _ _ h3, hw, k w B2 H2 g2 pw⟩
theorem p_xis {bmB : List Value} {newId : String} {c : V} {cv : Value} {b : Bool} (T : XC K C bmB newId) (h : EvP te σ B (XK C)) (hc : EvP ta σ B (IsV c)) (hcv : ∀ u, RelV c u → u = cv) (hk : PySem.W.kitOne K (.ref C) cv = some b) :
    EvP (tCB (rXIs K) (tCons te (tCons ta tNil))) σ B (IsV (.bl b)) := fun H1 e Q k =>
  h H1 e _ fun v B2 H2 g2 b2 => hc H2 (g2.b.trans g2.c) _ fun w B3 H3 g3 b3 => by
    obtain rfl : w = c := b3
    obtain ⟨a, rfl, hx⟩ := (XK C).m (g2.c.trans g3.a) b2
    exact ⟨a, C, bmB, newId, w, cv, b, rfl, T, hx, hcv, hk, k _ _ _ (g2.join g3) rfl⟩
end
/-- the class D of the module, over which the built-in stands with that __init__ -/
structure XD (K : PySem.W.Frag) (mg : Str → Option Value) (x : Str) (D : Addr) (initId : String) : Prop where
  m : mg x = some (.ref D)
  s : PySem.W.specialIn K (.ref D) "__getattribute__" = some (some (.builtin "type.__getattribute__"))
  r : PySem.W.readsIn K D (.type "type") = true
  f : PySem.W.findCls K (.ref D) (.type "type") "__init__" = some (.val (.builtin initId))
  h : PySem.W.handedIn (.builtin initId) = true
end My
namespace L2
open PySem PySem.Spec PyProof.Rows
theorem pe_globR {X : Cx} {x : Str} {C : Addr} {p : Pos} (hg : Gl X x) (hm : X.mg x = some (.ref C)) (hd : (x == ("__debug__" : Str)) = false := by decide) : PE X (.Name x p) (tC (.ref C)) := by
  refine ⟨fun pins s σ H Q I h => ?_⟩
  exact ld_glob I hg hm ⟨.ref C, H, I, rfl, h⟩ hd
end L2
namespace My
set_option autoImplicit false
open PySem L2 Evl
/-- what a walk over this hands out: n things, the i-th of which P i is known -/
def Src (wi : TI) (σ : L2.St) (B : Hp) (n : Nat) (P : Nat → Pr) : Prop := ∀ H1, Ex B H1 → ∀ R : It → Hp → Prop, (∀ (J : It) (B' H2 : Hp) (G : Hp → Prop) (Y : Nat → Hp → V → Hp → Prop), Gr B H1 B' H2 → Walk J n G Y → (∀ H, Ex B' H → G H) →
  (∀ i H v H', i < n → Ex B' H → Y i H v H' → H' = H ∧ (P i).P v B') → R J H2) → wi σ H1 R
def DAt (K : PySem.W.Frag) (ds : List PyData) (i : Nat) : Pr := IsD K (ds.getD i .none)
section
variable {te ta tb : TE} {t tr : TA} {tt : TT} {σ : L2.St} {B B' H : Hp} {p q : Pr} {ps qs : List Pr} {v : V} {K : PySem.W.Frag} {D : Ends} {d e : PyData} {ds es : List PyData}
theorem dps_at : ∀ {vs : List V} {ds : List PyData} {i : Nat} {v : V}, DpAll K H vs ds → vs[i]? = some v → Dp K H v (ds.getD i .none)
  | [], [], i, v, _, h => by simp at h
  | w :: _, _ :: _, 0, v, .cons a _, h => by
    obtain rfl : w = v := Option.some.inj h
    exact a
  | _ :: _, _ :: _, i + 1, v, .cons _ b, h => dps_at (i := i) b h
theorem dps_len : ∀ {vs : List V} {ds : List PyData}, DpAll K H vs ds → vs.length = ds.length
  | [], [], _ => rfl
  | _ :: _, _ :: _, .cons _ b => congrArg Nat.succ (dps_len b)
theorem src_tup (h : EvP te σ B (IsD K (.tuple ds))) : Src (iTup K te) σ B ds.length (DAt K ds) := fun H1 a R k => h H1 a _ fun v B2 H2 g b => by
  cases b with
  | tup x y =>
    refine ⟨_, rfl, ⟨_, ex_t g.c x⟩, k _ B2 H2 _ _ g (by rw [← dps_len y]; exact walk_tup) (fun H e => ex_t e x) fun i H v H' _ e (z : H' = H ∧ _) => ⟨z.1, dps_at y z.2⟩⟩
def oneS (x : Str) (i : Nat) : Str := ⟨#[x.cps.getD i 0]⟩
theorem src_str {x : Str} (h : Ev te σ B (.str x)) : Src (iStr te) σ B x.cps.size (fun i => IsV (.str (oneS x i))) := fun H1 a R k => h H1 a _ fun H2 e =>
  ⟨x, rfl, k _ B H2 _ _ (Gr.wide a e) walk_str (fun _ _ => trivial) fun i H v H' hi _ z => by
    obtain ⟨z1, c, z2, rfl⟩ := z
    refine ⟨z1, ?_⟩
    show V.str ⟨#[c]⟩ = V.str (oneS x i)
    unfold oneS
    rw [Array.getD_eq_getD_getElem?, z2]
    rfl⟩
theorem src_rng {j : Nat} (h : EvPs t σ B [IsV (.int (j : Int))]) (hj : (j : Int) < 2 ^ 62) : Src (iRng1 t) σ B j (fun i => IsV (.int (i : Int))) := fun H1 a R k => h H1 a _ fun vs B2 H2 g b => by
  match vs, b with
  | [v], b =>
    obtain rfl : v = V.int j := b.1
    refine ⟨j, rfl, by omega, hj, ?_⟩
    rw [show ((j : Int)).toNat = j from rfl]
    refine k _ B2 H2 _ _ g walk_range (fun _ _ => trivial) fun i H v H' _ _ z => ⟨z.1, ?_⟩
    show v = V.int i
    rw [z.2]
    simp
/-- a comprehension over it, some items left out -/
theorem p_lcS {wi : TI} {n : Nat} {P : Nat → Pr} {g : TG} {vs : List Nat} (h : Src wi σ B n P) (hl : n ≤ 100000) (keep : Nat → Bool) (res : Nat → Pr)
    (step : ∀ i v B1, i < n → Ex B B1 → (P i).P v B1 → ∃ σ2, wipe σ2 vs = wipe σ vs ∧ (∀ H2 Q, Ex B1 H2 → Q σ2 H2 → g v (wipe σ vs) H2 Q) ∧ EvT tt σ2 B1 (keep i) ∧ (keep i = true → EvP te σ2 B1 (res i))) :
    EvP (tLc wi g tt te vs) σ B (LsP (((List.range n).filter keep).map res)) := fun H1 a Q k =>
  h H1 a _ fun J B2 H2 G Y gr w hG hY Dd hD => by
    refine lc_it w (fun i H3 => ∃ B3 acc, Gr B2 H2 B3 (wo Dd H3) ∧ H3 Dd = some (.lst acc) ∧ AllP (((List.range i).filter keep).map res) acc B3) ?_ ?_ ?_ ?_
    · exact ⟨B2, [], by rw [wo_new hD]; exact Gr.refl gr.c, upd_same, trivial⟩
    · rintro i H3 _ ⟨B3, acc, g3, _, _⟩
      exact hG H3 (g3.b.trans (g3.c.trans wo_ex))
    · rintro i v H3 H3' hi ⟨B3, acc, g3, hDd, hacc⟩ hy
      have exB : Ex B3 H3 := g3.c.trans wo_ex
      obtain ⟨rfl, pv⟩ := hY i H3 v H3' hi (g3.b.trans exB) hy
      have some3 : H3' Dd ≠ none := by
        rw [hDd]
        exact fun z => nomatch z
      obtain ⟨σ2, hw, hg, ht, he⟩ := step i v B3 hi (gr.b.trans g3.b) ((P i).m g3.b pv)
      refine hg H3' _ exB ⟨hw, ht H3' exB _ fun H4 e4 => ?_⟩
      have hD4 := e4 _ _ hDd
      have g4 : Gr B2 H2 B3 (wo Dd H4) := g3.side some3 (Gr.wide exB e4)
      have some4 : H4 Dd ≠ none := has e4 some3
      cases hk : keep i with
      | true =>
        rw [if_pos rfl]
        refine he hk H4 (exB.trans e4) _ fun y B5 H5 g5 hy => ?_
        have la : acc.length ≤ i := by
          rw [hacc.len, List.length_map]
          exact Nat.le_trans (List.length_filter_le _ _) (by rw [List.length_range]; exact Nat.le_refl _)
        refine ⟨acc, g5.a _ _ hD4, sz_lt (by omega), B5, acc ++ [y], by rw [wo_upd]; exact g4.side some4 g5, upd_same, ?_⟩
        rw [List.range_succ, List.filter_append, List.map_append]
        refine (hacc.m g5.b).app ?_
        have : List.filter keep [i] = [i] := by simp [hk]
        rw [this]
        exact ⟨hy, trivial⟩
      | false =>
        rw [if_neg Bool.false_ne_true]
        refine ⟨B3, acc, g4, hD4, ?_⟩
        rw [List.range_succ, List.filter_append, List.map_append]
        have : List.filter keep [i] = [] := by simp [hk]
        rw [this, List.map_nil, List.append_nil]
        exact hacc
    · rintro H3 ⟨B3, acc, g3, hDd, hacc⟩
      have hB3 : B3 Dd = none := wo_none g3.c
      refine k (.ref Dd) (upd B3 Dd (.lst acc)) H3 ⟨gr.a.trans (g3.a.trans wo_ex), gr.b.trans (g3.b.trans (Ex.new hB3)), fun b o e => ?_, fun x hb hh => ?_, fun z b ps q => ?_⟩ ⟨Dd, acc, rfl, upd_same, hacc.m (Ex.new hB3)⟩
      · by_cases n : b = Dd
        · subst n
          rw [upd_same] at e
          rw [hDd]
          exact e
        · rw [upd_ne n] at e
          exact g3.c.trans wo_ex _ _ e
      · have n : x ≠ Dd := fun z => by
          subst z
          exact has gr.a hh hD
        rw [upd_ne n]
        exact g3.d x (gr.d x hb hh) (has gr.a hh)
      · by_cases n : b = Dd
        · subst n
          rw [upd_same] at q
          cases q
        · rw [upd_ne n] at q
          exact g3.e (gr.e z) b ps q
/-- all items kept -/
theorem p_lcA {wi : TI} {n : Nat} {P : Nat → Pr} {g : TG} {vs : List Nat} (h : Src wi σ B n P) (hl : n ≤ 100000) (res : Nat → PyData)
    (step : ∀ i v B1, i < n → Ex B B1 → (P i).P v B1 → ∃ σ2, wipe σ2 vs = wipe σ vs ∧ (∀ H2 Q, Ex B1 H2 → Q σ2 H2 → g v (wipe σ vs) H2 Q) ∧ EvP te σ2 B1 (IsD K (res i))) :
    EvP (tLc wi g tYes te vs) σ B (IsD K (.list ((List.range n).map res))) := by
  have := p_lcS (tt := tYes) (te := te) h hl (fun _ => true) (fun i => IsD K (res i)) fun i v B1 hi e pv => by
    obtain ⟨σ2, a, b, c⟩ := step i v B1 hi e pv
    exact ⟨σ2, a, b, et_yes, fun _ => c⟩
  rw [List.filter_eq_self.mpr (fun _ _ => rfl)] at this
  refine d_lst (K := K) ?_
  rw [List.map_map]
  exact this
/-! ### data -/
theorem ev_in {i : Int} (h : EvP te σ B (IsD K (.int i))) : Ev te σ B (.int i) := ev_p (h.imp fun v B1 _ x => by cases x; rfl)
theorem ev_st {x : Str} (h : EvP te σ B (IsD K (.str x))) : Ev te σ B (.str x) := ev_p (h.imp fun v B1 _ x => by cases x; rfl)
theorem ed_bl {b : Bool} (h : Ev te σ B (.bl b)) : EvP te σ B (IsD K (.bool b)) := d_bl (p_ev h)
theorem ed_in {i : Int} (h : Ev te σ B (.int i)) : EvP te σ B (IsD K (.int i)) := d_int (p_ev h)
theorem ed_st {x : Str} (h : Ev te σ B (.str x)) : EvP te σ B (IsD K (.str x)) := d_str (p_ev h)
theorem ed_var {i : Nat} (h : σ[i]? = some (some v)) (hd : Dp K B v d) : EvP (tVar i) σ B (IsD K d) := p_var h hd
theorem ed_ref {a : Addr} (hd : Dp K B (.ref a) d) : EvP (tC (.ref a)) σ B (IsD K d) := fun H1 e _ k => k _ B H1 (Gr.refl e) hd
/-- the class of data -/
def tyS : PyData → String
  | .none => "NoneType"
  | .bool _ => "bool"
  | .int _ => "int"
  | .str _ => "str"
  | .list _ => "list"
  | .tuple _ => "tuple"
  | .dict _ => "dict"
theorem ty_d (h : Dp K H v d) : TyX K H v (.type (tyS d)) := by
  cases h with
  | non => exact .base .non
  | bl b => exact .base (.bl b)
  | int i => exact .base (.int i)
  | str x => exact .base (.str x)
  | lst a b =>
    rcases a with (a | ⟨o, a⟩) | ⟨o, its, n, hk, hc, _⟩
    · exact .base (.lst a)
    · exact .base (.frz a)
    · exact .kList hk hc
  | tup a b =>
    rcases a with (a | ⟨o, a⟩) | ⟨o, its, n, hk, hc, _⟩
    · exact .base (.tup a)
    · exact .fTuple a
    · exact .kTuple hk hc
theorem ev_isi {T : String} {b : Bool} (h : EvP te σ B (IsD K d)) (hk : kitB (tyS d) T = some b) : Ev (tCB (rIsi K) (tCons te (tCons (tC (.ty T)) tNil))) σ B (.bl b) := fun H1 a Q k =>
  h H1 a _ fun v B2 H2 g x => ⟨v, .ty T, .type (tyS d), .type T, b, rfl, .ty T, ty_d (dp_m g.c x), kit_ty hk, k H2 g.a⟩
theorem ev_lenD {es : List PyData} (h : EvP te σ B (IsD K d)) (hd : d = .tuple es ∨ d = .list es) : Ev (tCB (rLenS K) (tCons te tNil)) σ B (.int (es.length : Int)) := fun H1 a Q k =>
  h H1 a _ fun v B2 H2 g x => by
    rcases hd with rfl | rfl
    · cases x with
      | tup y z =>
        refine ⟨_, _, rfl, .inr (ex_t g.c y), ?_⟩
        rw [dps_len z]
        exact k H2 g.a
    · cases x with
      | lst y z =>
        refine ⟨_, _, rfl, .inl (ex_l g.c y), ?_⟩
        rw [dps_len z]
        exact k H2 g.a
theorem dps_strs : ∀ {vs : List V} {ys : List Str}, DpAll K H vs (ys.map .str) → vs = ys.map .str
  | [], [], _ => rfl
  | _ :: _, _ :: _, .cons a b => by
    cases a
    rw [dps_strs b]
    rfl
theorem dps_ints : ∀ {vs : List V} {ns : List Int}, DpAll K H vs (ns.map .int) → vs = ns.map .int
  | [], [], _ => rfl
  | _ :: _, _ :: _, .cons a b => by
    cases a
    rw [dps_ints b]
    rfl
theorem dps_bls : ∀ {vs : List V} {bs : List Bool}, DpAll K H vs (bs.map .bool) → vs = bs.map .bl
  | [], [], _ => rfl
  | _ :: _, _ :: _, .cons a b => by
    cases a
    rw [dps_bls b]
    rfl
theorem inV_strs (x : Str) : ∀ ys : List Str, inV (.str x) (ys.map .str) = decide (x ∈ ys)
  | [] => rfl
  | y :: ys => by
    have ih := inV_strs x ys
    unfold inV at ih ⊢
    rw [List.map_cons, List.any_cons, ih]
    by_cases e : y = x
    · subst e
      simp [eqV]
    · have : eqV (V.str y) (V.str x) = false := by
        simp [eqV]
        exact e
      rw [this]
      simp [e, Ne.symm e, eq_comm]
theorem flat_strs (ys : List Str) : (ys.map V.str).all flatV = true := by
  rw [List.all_map, List.all_eq_true]
  intro _ _
  rfl
theorem ev_inT {x : Str} {ys : List Str} {neg : Bool} (ha : Ev ta σ B (.str x)) (hb : EvP tb σ B (IsD K (.tuple (ys.map .str)))) : Ev (tOp (rIn K neg) ta tb) σ B (.bl (if neg then !decide (x ∈ ys) else decide (x ∈ ys))) := fun H1 a Q k =>
  ha H1 a _ fun H2 e => hb H2 (a.trans e) _ fun v B2 H3 g z => by
    cases z with
    | tup y z =>
      have := dps_strs z
      subst this
      refine ⟨_, _, rfl, .inr (ex_t g.c y), rfl, flat_strs ys, ?_⟩
      rw [inV_strs]
      exact k H3 (e.trans g.a)
theorem ev_ltT {ns ms : List Int} (ha : EvP ta σ B (IsD K (.tuple (ns.map .int)))) (hb : EvP tb σ B (IsD K (.tuple (ms.map .int)))) : Ev (tOp (rLtT K) ta tb) σ B (.bl (HT.lexLt ns ms)) := fun H1 a Q k =>
  ha H1 a _ fun v B2 H2 g x => hb H2 (g.b.trans g.c) _ fun w B3 H3 g3 y => by
    cases x with
    | tup x1 x2 =>
      cases y with
      | tup y1 y2 =>
        have e1 := dps_ints x2
        have e2 := dps_ints y2
        subst e1
        subst e2
        exact ⟨_, _, ns, ms, rfl, rfl, ex_t (g.c.trans g3.a) x1, ex_t g3.c y1, k H3 (g.a.trans g3.a)⟩
theorem ev_allL {bs : List Bool} (h : EvP te σ B (IsD K (.list (bs.map .bool)))) : Ev (tCB (rAll K) (tCons te tNil)) σ B (.bl (bs.all id)) := fun H1 a Q k =>
  h H1 a _ fun v B2 H2 g x => by
    cases x with
    | lst y z =>
      have := dps_bls z
      subst this
      exact ⟨_, bs, rfl, ex_l g.c y, k H2 g.a⟩
theorem dps_ix {i : Nat} {d : PyData} : ∀ {vs : List V} {ds : List PyData}, DpAll K H vs ds → ds[i]? = some d → ∃ v, vs[i]? = some v ∧ Dp K H v d := fun {vs ds} h e => by
  have hl := dps_len h
  have hi : i < vs.length := by rw [hl]; exact (List.getElem?_eq_some_iff.mp e).1
  refine ⟨vs[i], List.getElem?_eq_getElem hi, ?_⟩
  have := dps_at h (List.getElem?_eq_getElem hi)
  rw [List.getD_eq_getElem?_getD, e] at this
  exact this
theorem atI_len {α β : Type} {xs : List α} {ys : List β} {j : Int} {y : β} (hl : xs.length = ys.length) (h : atI ys j = some y) : ∃ n : Nat, ys[n]? = some y ∧ ∀ x, xs[n]? = some x → atI xs j = some x := by
  unfold atI at h ⊢
  rw [← hl] at h
  obtain ⟨n, hn, hy⟩ := Option.bind_eq_some_iff.mp h
  refine ⟨n, hy, fun x hx => ?_⟩
  rw [hn]
  exact hx
theorem ed_ixT {j : Int} (h : EvP ta σ B (IsD K (.tuple ds))) (hj : Ev tb σ B (.int j)) (hd : atI ds j = some d) : EvP (tOp (rIxT K) ta tb) σ B (IsD K d) := fun H1 a Q k =>
  h H1 a _ fun v B2 H2 g x => hj H2 (g.b.trans g.c) _ fun H3 e3 => by
    cases x with
    | tup y z =>
      obtain ⟨n, h1, h2⟩ := atI_len (dps_len z) hd
      obtain ⟨u, h3, h4⟩ := dps_ix z h1
      exact ⟨_, _, j, u, rfl, rfl, ex_t (g.c.trans e3) y, h2 u h3, k u B2 H3 (g.trans (Gr.wide g.c e3)) h4⟩
theorem ed_tup (h : EvPs t σ B (ds.map (IsD K))) (hl : ds.length ≤ 100000) : EvP (tTup t) σ B (IsD K (.tuple ds)) := d_tup (p_tup h (by rw [List.length_map]; exact hl))
theorem ed_lst (h : EvPs t σ B (ds.map (IsD K))) (hl : ds.length ≤ 100000) : EvP (tLst t) σ B (IsD K (.list ds)) := d_lst (p_lst h (by rw [List.length_map]; exact hl))
theorem ed_if {b : Bool} (h : EvT tt σ B b) (h1 : b = true → EvP ta σ B p) (h2 : b = false → EvP tb σ B p) : EvP (tIf tt ta tb) σ B p := fun H1 a Q k => h H1 a _ fun H2 e2 => by
  cases b with
  | true => exact h1 rfl H2 (a.trans e2) _ fun v B3 H3 g x => k v B3 H3 ((Gr.wide a e2).trans g) x
  | false => exact h2 rfl H2 (a.trans e2) _ fun v B3 H3 g x => k v B3 H3 ((Gr.wide a e2).trans g) x
/-! ### statements -/
theorem ps_un3 {i j k : Nat} {d1 d2 d3 : PyData} (a : Ex B H) (h : EvP te σ B (IsD K (.tuple [d1, d2, d3])))
    (n : ∀ v1 v2 v3 B1 H1, Gr B H B1 H1 → Dp K B1 v1 d1 → Dp K B1 v2 d2 → Dp K B1 v3 d3 → D.nx (((σ.set i (some v1)).set j (some v2)).set k (some v3)) H1) :
    tAsg te (gTup K 3 (gCons (gName i) (gCons (gName j) (gCons (gName k) gNil)))) D σ H := h H a _ fun v B1 H1 g x => by
  cases x with
  | tup y z =>
    cases z with
    | cons z1 z =>
      cases z with
      | cons z2 z =>
        cases z with
        | cons z3 z =>
          cases z
          exact ⟨_, _, rfl, ex_t g.c y, rfl, _, _, rfl, _, _, rfl, _, _, rfl, rfl, n _ _ _ B1 H1 g z1 z2 z3⟩
/-! ### defs from data to data -/
/-- a def of the program's, as it is called -/
structure Cal (P : Program) (w : World) (K : PySem.W.Frag) (mg : Str → Option Value) (base : Heap) (x : Str) (k : Nat) (ps : List Str) (sp : Sp) (f : Addr) (fd : FuncData) : Prop where
  G : FnOk P w K mg base CX0 k f fd ps sp
  m : mg x = some (.ref f)
  k : PySem.W.keepIn K (.ref f) = true
  b : Binds K fd ps []
end
end My
namespace My
set_option autoImplicit false
open PySem PySem.Spec PyProof.Rows L2 Evl
section
variable {X : Cx}
/-- x in t, t a tuple of data of any depth -/
def rInT (K : PySem.W.Frag) : R2 := fun x y H Q => ∃ d ds, Dp K H x d ∧ Dp K H y (.tuple ds) ∧ SeqAt.shaped d = true ∧ SeqAt.shaped (.tuple ds) = true ∧ Q (.bl (ds.any fun z => PyData.eqv z d)) H
theorem op_inT (hu : X.A.units + 65 < cLine) : OpR X (compareOp .In) (rInT X.K) := by
  intro pins s σ H x y v u Q I rx ry ⟨d, ds, hd, he, sd, se, q⟩
  obtain ⟨as, r1⟩ := Dp.reads I d x v hd rx
  obtain ⟨bs, r2⟩ := Dp.reads I _ y u he ry
  exact SeqAt.in_tuple_reads r2 r1 (SeqAt.canLay_of_shaped se) (SeqAt.canLay_of_shaped sd) (room_in_shaped sd hu) ⟨.bl _, H, I, rfl, q⟩
end
section
variable {te ta tb : TE} {t tr : TA} {tt : TT} {σ : L2.St} {B B' H : Hp} {p q : Pr} {v : V} {K : PySem.W.Frag} {D : Ends} {d e : PyData} {ds es : List PyData}
theorem ev_inDT (ha : EvP ta σ B (IsD K d)) (hb : EvP tb σ B (IsD K (.tuple ds))) (hd : SeqAt.shaped d = true) (he : SeqAt.shaped (.tuple ds) = true) : Ev (tOp (rInT K) ta tb) σ B (.bl (ds.any fun z => PyData.eqv z d)) := fun H1 a Q k =>
  ha H1 a _ fun v B2 H2 g b => hb H2 (g.b.trans g.c) _ fun w B3 H3 g3 b3 => ⟨d, ds, dp_m (g.c.trans g3.a) b, dp_m g3.c b3, hd, he, k H3 (g.a.trans g3.a)⟩
end
/-! ### rankings and derivatives -/
def isNmB (x : Str) : Bool := decide (1 ≤ x.length) && decide (x.length ≤ 8) && x.cps.toList.all fun c => decide (97 ≤ c) && decide (c ≤ 122)
def IsNm (x : Str) : Prop := isNmB x = true
structure Rk where
  tot : Bool
  ns : List Str
  ax : Fin 3
def axsOf (a : Fin 3) : List Str := if a = 0 then ["x"] else if a = 1 then ["x", "y"] else ["y", "x"]
def Rk.axs (r : Rk) : List Str := axsOf r.ax
def Rk.srt (r : Rk) : Str := if r.tot then "total" else "names"
def Rk.D (r : Rk) : PyData := .tuple [.str r.srt, .tuple (r.ns.map .str), .tuple (r.axs.map .str)]
structure Rk.Ok (r : Rk) : Prop where
  ne : 1 ≤ r.ns.length
  le : r.ns.length ≤ 3
  nd : r.ns.Nodup
  nm : ∀ x ∈ r.ns, IsNm x
structure Dv where
  n : Str
  i : Int
  j : Int
deriving DecidableEq
def Dv.D (v : Dv) : PyData := .tuple [.str v.n, .int v.i, .int v.j]
structure Dv.Of (v : Dv) (r : Rk) : Prop where
  n : v.n ∈ r.ns
  i : 0 ≤ v.i
  j : 0 ≤ v.j
  y : v.j = 0 ∨ (Str.ofString "y") ∈ r.axs
def Rk.first (r : Rk) (v : Dv) : Int := if r.ax = 2 then v.j else v.i
def Rk.ahead (r : Rk) (v : Dv) : Int := -((r.ns.idxOf v.n : Nat) : Int)
def Rk.key (r : Rk) (v : Dv) : List Int := if r.tot then [v.i + v.j, r.first v, r.ahead v] else [r.ahead v, v.i + v.j, r.first v]
def cmpL (a b : List Int) : Int := if a = b then 0 else if HT.lexLt a b = true then -1 else 1
def Rk.cmp (r : Rk) (v u : Dv) : Int := cmpL (r.key v) (r.key u)

/-! ### what is known of such values -/
def NmP (ns : List Str) : Pr := ⟨fun v H => ∃ a o, v = .ref a ∧ H a = some (.frz o (.tup (ns.map .str))) ∧ o.dict = none, fun e ⟨a, o, h1, h2, h3⟩ => ⟨a, o, h1, e _ _ h2, h3⟩⟩
def DvP (u : Dv) : Pr := ⟨fun v H => ∃ a, v = .ref a ∧ H a = some (.tup [.str u.n, .int u.i, .int u.j]), fun e ⟨a, h1, h2⟩ => ⟨a, h1, e _ _ h2⟩⟩
def RkP (K : PySem.W.Frag) (r : Rk) : Pr := ⟨fun v H => ∃ a vn va, v = .ref a ∧ SqT K H a [.str r.srt, vn, va] ∧ (NmP r.ns).P vn H ∧ Dp K H va (.tuple (r.axs.map .str)), fun e ⟨a, vn, va, h1, h2, h3, h4⟩ => ⟨a, vn, va, h1, ex_t e h2, (NmP r.ns).m e h3, dp_m e h4⟩⟩
theorem dps_of_strs {K : PySem.W.Frag} {H : Hp} : ∀ ys : List Str, DpAll K H (ys.map V.str) (ys.map .str)
  | [] => .nil
  | y :: ys => .cons (.str y) (dps_of_strs ys)
theorem nm_d {K : PySem.W.Frag} {ns : List Str} {v : V} {H : Hp} (h : (NmP ns).P v H) : Dp K H v (.tuple (ns.map .str)) := by
  obtain ⟨a, o, rfl, h2, _⟩ := h
  exact .tup (.inl (.inr ⟨o, h2⟩)) (dps_of_strs ns)
theorem rk_d {K : PySem.W.Frag} {r : Rk} {v : V} {H : Hp} (h : (RkP K r).P v H) : Dp K H v r.D := by
  obtain ⟨a, vn, va, rfl, h2, h3, h4⟩ := h
  exact .tup h2 (.cons (.str _) (.cons (nm_d h3) (.cons h4 .nil)))
theorem dv_d {K : PySem.W.Frag} {u : Dv} {v : V} {H : Hp} (h : (DvP u).P v H) : Dp K H v u.D := by
  obtain ⟨a, rfl, h2⟩ := h
  exact .tup (st_of h2) (.cons (.str _) (.cons (.int _) (.cons (.int _) .nil)))
section
variable {te ta tb : TE} {t tr : TA} {tt : TT} {σ : L2.St} {B B' H : Hp} {p q : Pr} {ps : List Pr} {v : V} {K : PySem.W.Frag} {D : Ends} {r : Rk} {u : Dv}
theorem ed_rk (h : EvP te σ B (RkP K r)) : EvP te σ B (IsD K r.D) := h.imp fun _ _ _ x => rk_d x
theorem ed_dv (h : EvP te σ B (DvP u)) : EvP te σ B (IsD K u.D) := h.imp fun _ _ _ x => dv_d x
theorem ed_nm {ns : List Str} (h : EvP te σ B (NmP ns)) : EvP te σ B (IsD K (.tuple (ns.map .str))) := h.imp fun _ _ _ x => nm_d x
/-- (name, i, j), made -/
theorem p_dv {a b c : V} (ha : a = .str u.n) (hb : b = .int u.i) (hc : c = .int u.j) (h : EvPs t σ B [IsV a, IsV b, IsV c]) : EvP (tTup t) σ B (DvP u) := fun H1 e Q k =>
  h H1 e _ fun vs B2 H2 g b => by
    subst ha hb hc
    match vs, b with
    | [x, y, z], b =>
      obtain rfl : x = _ := b.1
      obtain rfl : y = _ := b.2.1
      obtain rfl : z = _ := b.2.2.1
      exact ⟨sz_of (by show 3 ≤ 100000; decide), fun w hw => k _ _ _ (g.trans (Gr.new _ g.c hw)) ⟨w, rfl, upd_same⟩⟩
/-- a ranking unpacked -/
theorem ps_unR {i j k : Nat} (a : Ex B H) (h : EvP te σ B (RkP K r))
    (n : ∀ v2 v3 B1 H1, Gr B H B1 H1 → (NmP r.ns).P v2 B1 → Dp K B1 v3 (.tuple (r.axs.map .str)) → D.nx (((σ.set i (some (.str r.srt))).set j (some v2)).set k (some v3)) H1) :
    tAsg te (gTup K 3 (gCons (gName i) (gCons (gName j) (gCons (gName k) gNil)))) D σ H := h H a _ fun v B1 H1 g x => by
  obtain ⟨p, vn, va, rfl, h2, h3, h4⟩ := x
  exact ⟨_, _, rfl, ex_t g.c h2, rfl, _, _, rfl, _, _, rfl, _, _, rfl, rfl, n _ _ B1 H1 g h3 h4⟩
theorem ps_unD {i j k : Nat} (a : Ex B H) (h : EvP te σ B (DvP u)) (n : ∀ B1 H1, Gr B H B1 H1 → D.nx (((σ.set i (some (.str u.n))).set j (some (.int u.i))).set k (some (.int u.j))) H1) :
    tAsg te (gTup K 3 (gCons (gName i) (gCons (gName j) (gCons (gName k) gNil)))) D σ H := h H a _ fun v B1 H1 g x => by
  obtain ⟨p, rfl, h2⟩ := x
  exact ⟨_, _, rfl, st_of (g.c _ _ h2), rfl, _, _, rfl, _, _, rfl, _, _, rfl, rfl, n B1 H1 g⟩
/-! ### defs by what is known of what is handed in -/
def spP (R : List Pr → Pr → Prop) : Sp := fun vs H Q _ => ∃ B ps p, Ex B H ∧ AllP ps vs B ∧ R ps p ∧ ∀ v B' H', Gr B H B' H' → p.P v B' → Q v H'
theorem p_callP {R : List Pr → Pr → Prop} (h : EvPs t σ B ps) (hr : R ps p) : EvP (tCall (spP R) [] E0 t) σ B p := fun H1 a Q k =>
  h H1 a _ fun vs B2 H2 g b => by
    rw [List.append_nil]
    exact ⟨B2, ps, p, g.c, b, hr, fun v B3 H3 g3 x => k v B3 H3 (g.trans g3) x⟩
theorem spP_len {R : List Pr → Pr → Prop} {n : Nat} (h : ∀ ps p, R ps p → ps.length = n) : ∀ vs H Q E, spP R vs H Q E → vs.length = n := fun vs H Q E ⟨B, ps, p, _, a, b, _⟩ => by rw [a.len, h ps p b]
end
/-! ### t.index(x) -/
section
open PySem PySem.Spec PyProof.Rows
variable {X : Cx}
theorem pe_tupIndex {o e : Expr} {to te : TE} {apos cpos : Pos} (ho : PE X o to) (he : PE X e te)
    (hbase : attributeBase o "index" X.env (eval o X.env) = eval o X.env := by rfl) (hline : (apos.endLine == cpos.line) = true := by rfl) (hs : starEach [e] X.env = (false, eval e X.env) :: starEach [] X.env := by rfl) (hs2 : backTo cpos (starEach [e] X.env) = [(false, eval e X.env)] := by rfl) :
    PE X (.Call (.Attribute o "index" apos) [e] [] cpos) (fun σ H Q => to σ H fun v H1 => ∃ (a : Addr) (ob : Obj) (ys : List Str), v = .ref a ∧ H1 a = some (.frz ob (.tup (ys.map .str))) ∧ ob.dict = none ∧
      te σ H1 fun y H2 => ∃ z : Str, y = .str z ∧ H2 a = some (.frz ob (.tup (ys.map .str))) ∧ z ∈ ys ∧ Q (.int ((ys.idxOf z : Nat) : Int)) H2) := by
  refine ⟨fun pins s σ H Q I h => ?_⟩
  refine wpAny_Call_method1_late hbase hline hs2 (thn (ho.run pins s σ H _ I h) fun v s1 ⟨x, H1, I1, r1, a, ob, ys, ex, h1, hd, q1⟩ => ?_)
  subst ex
  obtain rfl : v = Value.ref a := r1
  obtain ⟨g1, _, its, rv, ob2, g2, hc, _⟩ := (show ObjOk X.prog X.w H1 s1.heap a (.frz ob (.tup (ys.map .str))) from I1.hok a _ h1)
  rw [g1] at g2
  obtain rfl := Option.some.inj g2
  refine ⟨"tuple", "tuple.index", PySem.F.plainAttrs_tuple, PySem.F.slot_tuple_index, PySem.F.type_tuple_index, ⟨ob, g1, hc⟩, fun c e => ?_, ?_⟩
  · cases e
    exact ⟨ob, g1, hd⟩
  · have hA := (pa_cons he pa_nil hs).run cpos pins s1 σ H1 (fun vs H2 => ∃ y, vs = [y] ∧ ∃ z : Str, y = .str z ∧ H2 a = some (.frz ob (.tup (ys.map .str))) ∧ z ∈ ys ∧ Q (.int ((ys.idxOf z : Nat) : Int)) H2) I1
      (by
        show te σ H1 fun y H2 => ∃ y', [y] = [y'] ∧ _
        have : (fun y H2 => ∃ z : Str, y = V.str z ∧ H2 a = some (.frz ob (.tup (ys.map .str))) ∧ z ∈ ys ∧ Q (.int ((ys.idxOf z : Nat) : Int)) H2) = (fun y H2 => ∃ y', [y] = [y'] ∧ ∃ z : Str, y' = .str z ∧ H2 a = some (.frz ob (.tup (ys.map .str))) ∧ z ∈ ys ∧ Q (.int ((ys.idxOf z : Nat) : Int)) H2) := by
          funext y H2
          apply propext
          constructor
          · intro q
            exact ⟨y, rfl, q⟩
          · rintro ⟨y', e, q⟩
            obtain rfl : y = y' := by simpa using e
            exact q
        rw [← this]
        exact q1)
    rw [hs2] at hA
    refine Calls.callWith_builtin rfl (Calls.evalArgs_plain ?_)
    refine thn hA fun us s2 ⟨vs, H2, I2, r2, y, ev, z, ey, h2, hm, q2⟩ => ?_
    subst ev
    subst ey
    have hl := List.idxOf_lt_length_of_mem hm
    exact mt_tup_index pins s2 σ H2 (.ref a) [.str z] (.ref a) us Q I2 rfl r2 ⟨a, ys, z, ys.idxOf z, rfl, rfl, .inl (.inr ⟨ob, h2⟩), by rw [List.getElem?_eq_getElem hl, List.getElem_idxOf hl], fun m hm' e => by
      have hlt : m < ys.length := (List.getElem?_eq_some_iff.mp e).1
      have e2 : ys[m] = z := (List.getElem?_eq_some_iff.mp e).2
      have := List.not_of_lt_findIdx (p := fun y => y == z) (xs := ys) (i := m) (by exact hm')
      rw [e2] at this
      simp at this, q2⟩
/-- tuple(l), the new tuple known as it stands -/
theorem call_tupleF : CallR X (.type "tuple") (fun xs H Q => ∃ p ys, xs = [.ref p] ∧ SqL X.K H p ys ∧ ∀ l o, H l = none → o.dict = none → Q (.ref l) (upd H l (.frz o (.tup ys)))) := by
  intro pins s σ H xs us Q I r ⟨p, ys, ex, hq, q⟩
  subst ex
  obtain ⟨u, rfl, rx⟩ := vals1 r
  obtain rfl : u = Value.ref p := rx
  obtain ⟨its, rv, pl, hz⟩ := I.list hq
  have hlen := rv.length
  refine call_tuple_list pl.isList (fun h1 kp => ?_) (by simp only [List.size_toArray] <;> omega)
  have I1 : Inv X pins σ H { s with heap := h1 } := I.kept (t' := s.toks) kp
  have n1 := I1.hok.fresh (Nat.le_refl h1.objs.size)
  have I2 : Inv X pins σ (upd H h1.objs.size (.frz { cls := .type "tuple", data := .seq its.toArray } (.tup ys))) { s with heap := h1.push { cls := .type "tuple", data := .seq its.toArray } } :=
    I1.laid (t' := s.toks) (fun b o e => Heap.get?_push_of_some _ e) (Nat.le_refl _) ⟨Heap.get?_push_size _ rfl, hz, its, rv, IsTup.new _ _⟩
  exact ⟨.ref h1.objs.size, _, I2, rfl, q _ _ n1 rfl⟩
end
section
open PySem L2 Evl
variable {te ta tb : TE} {t tr : TA} {tt : TT} {σ : L2.St} {B B' H : Hp} {p q : Pr} {ps : List Pr} {v : V} {K : PySem.W.Frag} {D : Ends} {r : Rk} {u : Dv}
theorem ev_tupIx {x : Str} {ys : List Str} (h : EvP ta σ B (NmP ys)) (hx : Ev tb σ B (.str x)) (hm : x ∈ ys) :
    Ev (fun σ H Q => ta σ H fun v H1 => ∃ (a : Addr) (ob : Obj) (ys : List Str), v = .ref a ∧ H1 a = some (.frz ob (.tup (ys.map .str))) ∧ ob.dict = none ∧
      tb σ H1 fun y H2 => ∃ z : Str, y = .str z ∧ H2 a = some (.frz ob (.tup (ys.map .str))) ∧ z ∈ ys ∧ Q (.int ((ys.idxOf z : Nat) : Int)) H2) σ B (.int ((ys.idxOf x : Nat) : Int)) := fun H1 a Q k =>
  h H1 a _ fun v B2 H2 g b => by
    obtain ⟨p, o, rfl, h2, h3⟩ := b
    exact ⟨p, o, ys, rfl, g.c _ _ h2, h3, hx H2 (g.b.trans g.c) _ fun H3 e3 => ⟨x, rfl, e3 _ _ (g.c _ _ h2), hm, k H3 (g.a.trans e3)⟩⟩
end
end My
namespace My
set_option autoImplicit false
open PySem PySem.Spec PySem.W PySem.Calls PyProof.Rows L2 Evl
/-- the values are these texts, all unlike -/
def TxtAt (items : Array Value) (xs : List Str) : Prop := items.size = xs.length ∧ ∀ (i : Nat) (v : Value), items[i]? = some v → ∃ t x, v = .str x t ∧ xs[i]? = some x
theorem txtAt_of {xs : List Str} {us : List Value} (h : Vals (xs.map V.str) us) : TxtAt us.toArray xs := by
  refine ⟨by rw [List.size_toArray, ← h.length, List.length_map], fun i v hv => ?_⟩
  have hi : i < us.length := by
    rw [List.getElem?_toArray] at hv
    exact (List.getElem?_eq_some_iff.mp hv).1
  have hx : i < xs.length := by
    have := h.length
    rw [List.length_map] at this
    omega
  obtain ⟨u, hu, r⟩ := h.get (i := i) (x := .str xs[i]) (by rw [List.getElem?_map, List.getElem?_eq_getElem hx]; rfl)
  rw [List.getElem?_toArray, hu] at hv
  obtain rfl := Option.some.inj hv
  obtain ⟨t, rfl⟩ := r
  exact ⟨t, _, rfl, List.getElem?_eq_getElem hx⟩
section
variable {prog : Program} {w : World} {A : Around} {R : Result → Shared → Prop} {I : Addr} {fp wr : List Addr} {n : Nat} {G : Array GenState → Array GenState → Prop} {P : Nat → Value → Prop} {St : Nat → Shared → Prop}
/-- the first i of them are in the set at S -/
abbrev SetTo (prog : Program) (w : World) (h : Heap) (S : Addr) (xs : List Str) (i : Nat) : Prop := h.SetOf (PySem.strKind prog w) S (fun z => decide (z ∈ xs.take i)) i
theorem SetTo.moved {h h' : Heap} {S : Addr} {xs : List Str} {i : Nat} (x : SetTo prog w h S xs i) (k : ∀ o, h.get? S = some o → h'.get? S = some o) : SetTo prog w h' S xs i := by
  obtain ⟨ob, es, ep, tb, ho, more⟩ := x
  exact ⟨ob, es, ep, tb, k _ ho, more⟩
theorem setLoop (W : WalksS prog w A.in1 I fp wr G n P St) (S : Addr) (ns : S ∉ fp) (xs : List Str) (hlen : xs.length = n) (nd : xs.Nodup) (hbig : n + 1 < scanBound) (hv : ∀ i v, P i v → ∃ t x, v = .str x t ∧ xs[i]? = some x) :
    ∀ (m i : Nat) (s : Shared), n - i = m → i ≤ n → St i s → SetTo prog w s.heap S xs i →
      (∀ z, Moved (S :: wr) G s z → SetTo prog w z.heap S xs n → R (.ok (.ret .none)) z) → codeAny (model prog w) A (.builtin "set.update.loop" ⟨[.ref S, .ref I], []⟩) R s := by
  have nw : S ∉ wr := fun q => ns (W.sub _ q)
  have more : ∀ c ∈ wr, c ∈ S :: wr := fun c q => List.mem_cons_of_mem _ q
  intro m
  induction m with
  | zero =>
    intro i s hm hi st x k
    obtain rfl : i = n := by omega
    refine codeAny_builtin PyProof.Rows.F.entry_set_update_loop ?_
    rw [Around.under_plainId (PyProof.Rows.F.plain_set_update_loop) _]
    show wpAny _ A.in1 (pyNext (.ref I) >>= _) _ _ s
    refine wpAny_bind (W.done s _ _ st fun z mv => ?_)
    show wpAny _ _ (ret .none) _ _ z
    exact wpAny_pure (k z (mv.mono more) (x.moved fun o e => mv.heap S o nw e))
  | succ m ih =>
    intro i s hm hi st x k
    have il : i < n := by omega
    refine codeAny_builtin PyProof.Rows.F.entry_set_update_loop ?_
    rw [Around.under_plainId (PyProof.Rows.F.plain_set_update_loop) _]
    show wpAny _ A.in1 (pyNext (.ref I) >>= _) _ _ s
    refine wpAny_bind (W.item i s _ _ il st fun v z pv st1 mv => ?_)
    obtain ⟨t, y, rfl, hy⟩ := hv i v pv
    have x1 : SetTo prog w z.heap S xs i := x.moved fun o e => mv.heap S o nw e
    show wpAny _ _ (holding [Value.str y t] (setAdd S (.str y t)) >>= _) _ _ z
    refine wpAny_bind (wpAny_holding ?_)
    unfold setAdd
    refine wpAny_holding (wpAny_bind ((PySem.strKind prog w).pyHash (k := y) (strKind_is _ _ _ _) ?_))
    refine wpAny_setAddHashed_of (knd := PySem.strKind prog w) (s := { z with toks := z.toks + 1 }) (strKind_is _ _ _ _) rfl x1 (by omega) fun h1 sb x2 => ?_
    have no : y ∉ xs.take i := fun q => by
      obtain ⟨j, hj⟩ := List.mem_iff_getElem?.mp q
      rw [List.getElem?_take] at hj
      by_cases hji : j < i
      · rw [if_pos hji] at hj
        obtain ⟨a1, a2⟩ := List.getElem?_eq_some_iff.mp hj
        obtain ⟨b1, b2⟩ := List.getElem?_eq_some_iff.mp hy
        exact List.pairwise_iff_getElem.mp nd j i a1 b1 hji (a2.trans b2.symm)
      · rw [if_neg hji] at hj
        cases hj
    have x3 : SetTo prog w h1 S xs (i + 1) := PyProof.Rows.SetOf_congr x2 (fun q => by
      rw [List.take_add_one, hy]
      simp [List.mem_append]) (by simp [no])
    refine wpAny_pure ⟨plainId_quiet (PyProof.Rows.F.plain_set_update_loop) _, ih (i + 1) _ (by omega) il (W.frame _ z _ _ st1 (Nat.le_succ _) fun c hc o e => ?_) x3 fun z2 mv2 x4 => ?_⟩
    · rw [sb.2 c fun q : c = S => ns (by rw [← q]; exact hc)]
      exact e
    · refine k z2 (Moved.trans W.gtrans ((mv.mono more).then_heap (Nat.le_succ _) fun c o hc e => ?_) mv2) x4
      rw [sb.2 c fun q : c = S => hc (by rw [q]; exact List.mem_cons_self)]
      exact e
end
section
variable {prog : Program} {w : World} {A : Around} {E : Value → Shared → Prop} {s : Shared}
set_option maxHeartbeats 8000000 in
/-- set(t), t a tuple of unlike texts -/
theorem call_setT {l : Addr} {items : Array Value} {xs : List Str} {Q : Value → Shared → Prop} (hh : A.handled = none) (tup : s.heap.IsTuple l items) (tx : TxtAt items xs) (nd : xs.Nodup) (hbig : xs.length + 1 < scanBound)
    (k : ∀ (h1 : Heap) (tk : Nat), SetTo prog w h1 s.heap.objs.size xs xs.length → (∀ c o, c < s.heap.objs.size → s.heap.get? c = some o → h1.get? c = some o) → Q (.ref s.heap.objs.size) { s with heap := h1, toks := tk }) :
    wpAny (model prog w) A (call (.type "set") [.ref l]) Q E s := by
  obtain ⟨mc, mt, mro⟩ := PySem.F.called_set.mro
  have m1 := PySem.F.called_set.made
  have m2 := PySem.F.called_set.sub
  refine wpAny_call (codeAny_of_tree ?_)
  show wpAny _ _ (callAny (.type "set") ⟨[.ref l], []⟩) _ _ _
  refine wpAny_pure ⟨Code.quiet_builtin _ (by decide +kernel), codeAny_builtin (PySem.F.entry_type_call) ?_⟩
  rw [Around.under_plain (weight_type_call_type "set" [.ref l] ([] : List (Str × Value))) rfl]
  have m3 := PySem.F.called_set.notType
  have m4 := PySem.F.called_set.canCreate
  have m5 := PySem.F.typeCall_set_1 (.ref l)
  repeat (any_goals (first | assumption | wp_step))

  refine codeAny_mono (code_set_new_1 (.ref l) (E := E) (Q₁ := fun u z => ∃ led : Bool, u = .ref s.heap.objs.size ∧ z = { s with heap := s.heap.push { cls := .type "set", dict := none, data := .set #[] 0 (.fresh 0 0 led) } }) fun led => ⟨led, rfl, rfl⟩) fun r z hr => ?_
  cases r with
  | error e => exact hr
  | ok fl =>
    cases fl with
    | ret u =>
      obtain ⟨led, rfl, rfl⟩ := hr
      have at0 : (s.heap.push { cls := .type "set", dict := none, data := .set #[] 0 (.fresh 0 0 led) }).get? s.heap.objs.size = some { cls := .type "set", dict := none, data := .set #[] 0 (.fresh 0 0 led) } := Heap.get?_push_size _ rfl
      have ty0 : Shared.TypeIs { s with heap := s.heap.push { cls := .type "set", dict := none, data := .set #[] 0 (.fresh 0 0 led) } } (.ref s.heap.objs.size) "set" := ⟨_, at0, rfl⟩
      have m6 := PySem.F.called_set.init.lookup
      have m7 := PySem.F.called_set.init.bind (.ref s.heap.objs.size)
      repeat (any_goals (first | assumption | wp_step))

      refine codeAny_mono (codeAny_call_builtin (R := wants (fun r z => r = .none ∧ ∃ h1 tk, z = { s with heap := h1, toks := tk } ∧ SetTo prog w h1 s.heap.objs.size xs xs.length ∧ ∀ c o, c < s.heap.objs.size → s.heap.get? c = some o → h1.get? c = some o) E)
        (PySem.F.called_set.init.plain) (PySem.F.entry_set_init) (check_set_init_1 ty0 ?_)) fun r2 z2 hr2 => ?_
      · obtain ⟨⟨tc, td, tda, ts⟩, to, tcl, tn, tdt⟩ := tup
        simp only at tcl tdt
        subst tcl
        subst tdt
        have to' : (s.heap.push { cls := .type "set", dict := none, data := .set #[] 0 (.fresh 0 0 led) }).get? l = some { cls := .type "tuple", dict := td, data := .seq items tn, slots := ts } := Heap.get?_push_of_some _ to
        have b1 := PySem.F.sub_tuple_set
        have b2 := PySem.F.sub_tuple_frozenset
        have b3 : (Value.type "tuple" == .type "dict") = false := by decide
        have tup1 : (s.heap.push { cls := .type "set", dict := none, data := .set #[] 0 (.fresh 0 0 led) }).IsTuple l items := ⟨_, to', rfl, tn, rfl⟩
        unfold Builtin.«set.__init__» noKeywords Builtin.Frozenset.updateFrom
        generalize eIt : pyIter = It
        wp_walk
        subst eIt

        refine wpAny_pyIter_tuple tup1 ?_
        refine wpAny_bind (wpAny_runValue ?_)
        have lt : l < s.heap.objs.size := Heap.lt_size to
        have hh3 : A.in1.in1.in1.handled = none := by simp [hh]
        have z1 : (s.heap.push { cls := .type "set", dict := none, data := .set #[] 0 (.fresh 0 0 led) }).objs.size = s.heap.objs.size + 1 := Heap.size_push ..
        have d1 : l ≠ (s.heap.push { cls := .type "set", dict := none, data := .set #[] 0 (.fresh 0 0 led) }).objs.size := by
          rw [z1]
          exact Nat.ne_of_lt (Nat.lt_succ_of_lt lt)
        have d2 : s.heap.objs.size ∉ [(s.heap.push { cls := .type "set", dict := none, data := .set #[] 0 (.fresh 0 0 led) }).objs.size, l] := by
          rw [z1]
          intro q
          rcases List.mem_cons.mp q with q | q
          · exact Nat.ne_of_lt (Nat.lt_succ_self _) q
          · exact Nat.ne_of_gt lt (List.mem_singleton.mp q)
        have tx2 : ∀ (i : Nat) (v : Value), items[i]? = some v → ∃ t x, v = .str x t ∧ xs[i]? = some x := tx.2
        have z2 : items.size = xs.length := tx.1
        refine setLoop ((Walks.tuple hh3 _ l d1 items).toS) s.heap.objs.size d2 xs z2.symm nd (by omega) tx2 (items.size - 0) 0 _ (by omega) (Nat.zero_le _) ⟨⟨_, Heap.get?_push_size _ rfl, rfl, rfl⟩, tup1.push _⟩ ?_ ?_
        · have at1 : ((s.heap.push { cls := .type "set", dict := none, data := .set #[] 0 (.fresh 0 0 led) }).push { cls := .type "tuple_iterator", data := .fields #[.ref l, .int 0 0] }).get? s.heap.objs.size
              = some { cls := .type "set", dict := none, data := .set #[] 0 (.fresh 0 0 led) } := Heap.get?_push_of_some _ at0
          exact PyProof.Rows.SetOf_congr ((PyProof.Rows.setObjOf_fresh (knd := PySem.strKind prog w) led).setOf at1 (by unfold scanBound; omega)) (fun q => by simp) rfl
        · intro z mv x
          obtain ⟨h1, g1, d3, tk1, os1⟩ := z
          obtain rfl : g1 = s.gens := mv.gens
          obtain rfl : d3 = s.drawn := mv.drawn
          obtain rfl : os1 = s.os := mv.os
          show wpAny _ _ _ _ _ _
          apply wpAny_pure
          show wpAny _ _ (ret .none) _ _ _
          rw [z2] at x
          refine wpAny_pure ⟨rfl, h1, tk1, rfl, x, fun c o hc e => ?_⟩
          refine mv.heap c o (fun q => ?_) (Heap.get?_push_of_some _ (Heap.get?_push_of_some _ e))
          rcases List.mem_cons.mp q with q | q
          · exact Nat.ne_of_lt hc q
          · have q1 := List.mem_singleton.mp q
            rw [z1] at q1
            exact Nat.ne_of_lt (Nat.lt_succ_of_lt hc) q1
      · cases r2 with
        | error e => exact hr2
        | ok fl2 =>
          cases fl2 with
          | ret r =>
            obtain ⟨rfl, h1, tk, rfl, x, kp⟩ := hr2
            repeat (any_goals (first | assumption | wp_step))
            exact k _ _ x kp
          | _ => exact hr2.elim
    | _ => exact hr.elim
end
/-- len(set(t)), t a tuple of unlike texts -/
def tLenSetT (K : PySem.W.Frag) (ta : TE) : TE := fun σ H Q => ta σ H fun x H1 => ∃ (l : Addr) (xs : List Str), x = .ref l ∧ SqT K H1 l (xs.map V.str) ∧ xs.Nodup ∧ xs.length ≤ 4000 ∧ Q (.int (xs.length : Nat)) H1
theorem pe_lenSetT {X : Cx} {a : Expr} {ta : TE} {p p2 q pos : Pos} (hc : X.calm = true) (hg : Gl X "len") (hm : X.mg "len" = none) (hg2 : Gl X "set") (hm2 : X.mg "set" = none) (ha : PE X a ta)
    (na : starEach [a] X.env = (false, eval a X.env) :: starEach [] X.env := by rfl) : PE X (.Call (.Name "len" p) [.Call (.Name "set" p2) [a] [] q] [] pos) (tLenSetT X.K ta) := by
  refine ⟨fun pins s σ H Q I h => ?_⟩
  refine PyProof.Rows.Call_ (ld_blt I hg hm (PySem.boot_len) ?_)
  refine PyProof.Rows.callWith_builtin1 (PyProof.Rows.args_cons ?_ rfl) rfl rfl
  refine PyProof.Rows.Call_ (ld_blt I hg2 hm2 (u := .type "set") (by decide +kernel) ?_)
  refine PyProof.Rows.callWith_type1 (PyProof.Rows.args_cons (thn (ha.run pins s σ H _ I h) fun v s1 ⟨x, H1, I1, r1, q1⟩ => PyProof.Rows.args_nil ?_) na) na rfl
  obtain ⟨l, xs, rfl, hq, nd, hl, q1⟩ := q1
  obtain rfl : v = Value.ref l := r1
  obtain ⟨us, r, tup, hz⟩ := I1.tuple hq
  refine call_setT (I1.ok.hd hc) tup (txtAt_of r) nd (by unfold scanBound; omega) fun h1 tk x kp => ?_
  refine PyProof.Rows.args_nil ?_
  obtain ⟨o, es, ep, tb, ho, hex, hd, _, _, _, hf, hn⟩ := x
  have I2 : Inv X pins σ H1 { s1 with heap := h1, toks := tk } := I1.kept fun c o e => kp c o (Heap.lt_size e) e
  exact call_len_set ho hex hd hf (by rw [hn] <;> omega) ⟨.int xs.length, H1, I2.tok _, ⟨_, by rw [hn]⟩, q1⟩
end My
namespace My
set_option autoImplicit false
open PySem L2 Evl
section
variable {te ta tb tc : TE} {t tr : TA} {tt : TT} {σ : L2.St} {B B' H : Hp} {p q : Pr} {ps : List Pr} {v : V} {K : PySem.W.Frag} {D : Ends}
theorem ev_chain {r1 r2 : Int → Int → Bool} {i j k : Int} (ha : Ev ta σ B (.int i)) (hb : Ev tb σ B (.int j)) (hc : Ev tc σ B (.int k)) : Ev (tChain (rI0 fun i j => .bl (r1 i j)) (rI0 fun i j => .bl (r2 i j)) ta tb tc) σ B (.bl (r1 i j && r2 j k)) := fun H1 e Q q =>
  ha H1 e _ fun H2 e2 => hb H2 (e.trans e2) _ fun H3 e3 => ⟨i, j, rfl, rfl, _, rfl, by
    cases h : r1 i j with
    | true =>
      show tc σ H3 _
      refine hc H3 ((e.trans e2).trans e3) _ fun H4 e4 => ?_
      have := q H4 ((e2.trans e3).trans e4)
      rw [h] at this
      exact ⟨j, k, rfl, rfl, this⟩
    | false =>
      have := q H3 (e2.trans e3)
      rw [h] at this
      exact this⟩
theorem ev_lenS {x : Str} (h : Ev te σ B (.str x)) (hl : x.length ≤ 100000) : Ev (tCB (fun xs H Q => ∃ z : Str, xs = [.str z] ∧ z.length ≤ sizeLine ∧ Q (.int (z.length : Nat)) H) (tCons te tNil)) σ B (.int (x.length : Int)) := fun H1 e Q q =>
  h H1 e _ fun H2 e2 => ⟨x, rfl, sz_of hl, q H2 e2⟩
theorem ev_sign {c : Nat} {z : Str} (ha : Ev ta σ B (.str ⟨#[c]⟩)) (hb : Ev tb σ B (.str z)) : Ev (tOp (fun x y H Q => ∃ (c : Nat) (z : Str), x = .str ⟨#[c]⟩ ∧ y = .str z ∧ Q (.bl (decide (c ∈ z.cps.toList))) H) ta tb) σ B (.bl (decide (c ∈ z.cps.toList))) := fun H1 e Q q =>
  ha H1 e _ fun H2 e2 => hb H2 (e.trans e2) _ fun H3 e3 => ⟨c, z, rfl, rfl, q H3 (e2.trans e3)⟩
/-- an if whose test fails, without an else -/
theorem ps_ifN {tu : TS} (a : Ex B H) (h : EvT tt σ B false) (k : ∀ H1, Ex H H1 → D.nx σ H1) : tIfS tt tu tNext D σ H := h H a _ fun H1 e => by
  rw [if_neg Bool.false_ne_true]
  exact k H1 e
theorem ps_exE (a : Ex B H) (h : EvP te σ B p) (k : ∀ H1, Ex H H1 → D.nx σ H1) : tDrop te D σ H := h H a _ fun _ _ H1 g _ => k H1 g.a
theorem ev_lenSet {xs : List Str} (h : EvP te σ B (NmP xs)) (nd : xs.Nodup) (hl : xs.length ≤ 4000) : Ev (tLenSetT K te) σ B (.int (xs.length : Int)) := fun H1 e Q q =>
  h H1 e _ fun v B2 H2 g x => by
    obtain ⟨a, o, rfl, h2, _⟩ := x
    exact ⟨a, xs, rfl, .inl (.inr ⟨o, g.c _ _ h2⟩), nd, hl, q H2 g.a⟩
end
theorem k_ss : kitB "str" "str" = some true := by decide +kernel
theorem k_tt : kitB "tuple" "tuple" = some true := by decide +kernel
theorem nm_facts {x : Str} (h : IsNm x) : 1 ≤ x.length ∧ x.length ≤ 8 ∧ ∀ c ∈ x.cps, 97 ≤ c ∧ c ≤ 122 := by
  unfold IsNm isNmB at h
  simp only [Bool.and_eq_true, decide_eq_true_eq, List.all_eq_true] at h
  exact ⟨h.1.1, h.1.2, fun c hc => h.2 c (by simpa using hc)⟩
theorem let_low {c : Nat} (h1 : 97 ≤ c) (h2 : c ≤ 122) : c ∈ (Str.ofString "abcdefghijklmnopqrstuvwxyz").cps.toList := by
  have : (Str.ofString "abcdefghijklmnopqrstuvwxyz").cps.toList = (List.range 26).map (· + 97) := by decide +kernel
  rw [this]
  exact List.mem_map.mpr ⟨c - 97, List.mem_range.mpr (by omega), by omega⟩
end My
namespace My
set_option autoImplicit false
open PySem PySem.W L2 Evl
/-! ### the order of derivatives -/
def Rk.lt (r : Rk) (u v : Dv) : Prop := r.key u < r.key v
instance (r : Rk) (u v : Dv) : Decidable (r.lt u v) := inferInstanceAs (Decidable (r.key u < r.key v))
def Rk.le (r : Rk) (u v : Dv) : Bool := !decide (r.lt v u)
theorem lt3 (a b c x y z : Int) : [a, b, c] < [x, y, z] ↔ a < x ∨ (a = x ∧ (b < y ∨ (b = y ∧ c < z))) := by
  simp [List.cons_lt_cons_iff]
theorem lex3 (a b c x y z : Int) : HT.lexLt [a, b, c] [x, y, z] = decide ([a, b, c] < [x, y, z]) := by
  rw [Bool.eq_iff_iff, decide_eq_true_iff, lt3]
  unfold HT.lexLt
  by_cases h : a = x
  · rw [if_pos h]
    unfold HT.lexLt
    by_cases h2 : b = y
    · rw [if_pos h2]
      unfold HT.lexLt
      by_cases h3 : c = z
      · rw [if_pos h3]
        unfold HT.lexLt
        simp
        omega
      · rw [if_neg h3]
        simp
        omega
    · rw [if_neg h2]
      simp
      omega
  · rw [if_neg h]
    simp
    omega
theorem Rk.key3 (r : Rk) (u : Dv) : ∃ a b c, r.key u = [a, b, c] := by
  unfold Rk.key
  cases r.tot
  · exact ⟨_, _, _, rfl⟩
  · exact ⟨_, _, _, rfl⟩
theorem Rk.lt_irrefl (r : Rk) (u : Dv) : ¬ r.lt u u := by
  unfold Rk.lt
  obtain ⟨a, b, c, e⟩ := r.key3 u
  rw [e, lt3]
  omega
theorem Rk.lt_trans (r : Rk) {u v w : Dv} (h : r.lt u v) (k : r.lt v w) : r.lt u w := by
  unfold Rk.lt at *
  obtain ⟨a, b, c, e⟩ := r.key3 u
  obtain ⟨a', b', c', e'⟩ := r.key3 v
  obtain ⟨a2, b2, c2, e2⟩ := r.key3 w
  rw [e, e', lt3] at h
  rw [e', e2, lt3] at k
  rw [e, e2, lt3]
  omega
theorem Rk.tri (r : Rk) (u v : Dv) : r.lt u v ∨ r.key u = r.key v ∨ r.lt v u := by
  unfold Rk.lt
  obtain ⟨a, b, c, e⟩ := r.key3 u
  obtain ⟨a', b', c', e'⟩ := r.key3 v
  rw [e, e', lt3, lt3]
  by_cases h : a = a'
  · by_cases h2 : b = b'
    · by_cases h3 : c = c'
      · exact .inr (.inl (by rw [h, h2, h3]))
      · omega
    · omega
  · omega
theorem idx_inj {ns : List Str} {x y : Str} (hx : x ∈ ns) (hy : y ∈ ns) (h : ns.idxOf x = ns.idxOf y) : x = y := by
  have h1 := List.getElem_idxOf (List.idxOf_lt_length_of_mem hx)
  have h2 := List.getElem_idxOf (List.idxOf_lt_length_of_mem hy)
  rw [← h1, ← h2]
  congr 1
theorem Rk.key_inj (r : Rk) {u v : Dv} (hu : u.n ∈ r.ns) (hv : v.n ∈ r.ns) (h : r.key u = r.key v) : u = v := by
  obtain ⟨n, i, j⟩ := u
  obtain ⟨n', i', j'⟩ := v
  have : (i + j = i' + j') ∧ r.first ⟨n, i, j⟩ = r.first ⟨n', i', j'⟩ ∧ r.ahead ⟨n, i, j⟩ = r.ahead ⟨n', i', j'⟩ := by
    unfold Rk.key at h
    cases ht : r.tot with
    | true =>
      rw [ht, if_pos rfl, if_pos rfl] at h
      simp at h
      exact h
    | false =>
      rw [ht, if_neg Bool.false_ne_true, if_neg Bool.false_ne_true] at h
      simp at h
      exact ⟨h.2.1, h.2.2, h.1⟩
  obtain ⟨h1, h2, h3⟩ := this
  have e : n = n' := idx_inj hu hv (by unfold Rk.ahead at h3; simp only at h3; omega)
  subst e
  unfold Rk.first at h2
  by_cases hx : r.ax = 2
  · rw [if_pos hx, if_pos hx] at h2
    simp only at h2
    have : i = i' := by omega
    rw [this, h2]
  · rw [if_neg hx, if_neg hx] at h2
    simp only at h2
    have : j = j' := by omega
    rw [this, h2]
theorem Rk.cmp_lt (r : Rk) (u v : Dv) : r.cmp u v = -1 ↔ r.lt u v := by
  unfold Rk.cmp cmpL Rk.lt
  obtain ⟨a, b, c, e⟩ := r.key3 u
  obtain ⟨a', b', c', e'⟩ := r.key3 v
  rw [e, e', lex3]
  by_cases h : [a, b, c] = [a', b', c']
  · rw [if_pos h, ← h, lt3]
    omega
  · rw [if_neg h]
    by_cases k : [a, b, c] < [a', b', c']
    · simp [k]
    · simp [k]
theorem Rk.cmp_eq (r : Rk) (u v : Dv) : r.cmp u v = 0 ↔ r.key u = r.key v := by
  unfold Rk.cmp cmpL
  by_cases h : r.key u = r.key v
  · simp [h]
  · rw [if_neg h]
    constructor
    · intro k
      split at k <;> omega
    · intro k
      exact absurd k h
theorem Rk.cmp_gt (r : Rk) (u v : Dv) : r.cmp u v = 1 ↔ r.lt v u := by
  have h := r.tri u v
  have h1 := r.cmp_lt u v
  have h2 := r.cmp_eq u v
  have h3 : r.cmp u v = -1 ∨ r.cmp u v = 0 ∨ r.cmp u v = 1 := by
    unfold Rk.cmp cmpL
    split
    · exact .inr (.inl rfl)
    · split
      · exact .inl rfl
      · exact .inr (.inr rfl)
  have n1 : r.lt u v → r.lt v u → False := fun a b => r.lt_irrefl u (r.lt_trans a b)
  have n2 : r.key u = r.key v → r.lt v u → False := fun a b => by
    unfold Rk.lt at b
    rw [a] at b
    exact r.lt_irrefl v b
  constructor
  · intro k
    rcases h with h | h | h
    · rw [h1.mpr h] at k
      omega
    · rw [h2.mpr h] at k
      omega
    · exact h
  · intro k
    rcases h3 with e | e | e
    · exact (n1 (h1.mp e) k).elim
    · exact (n2 (h2.mp e) k).elim
    · exact e
/-- from u on, once more by x, or by y -/
def Dv.up (u : Dv) (x : Str) : Dv := if x = "x" then ⟨u.n, u.i + 1, u.j⟩ else ⟨u.n, u.i, u.j + 1⟩
/-! ### sorted by it -/
def Rk.sort (r : Rk) (us : List Dv) : List Dv := us.mergeSort r.le
theorem Rk.le_tot (r : Rk) (u v : Dv) : (r.le u v || r.le v u) = true := by
  unfold Rk.le
  simp
  by_cases h : r.lt v u
  · right
    intro k
    exact r.lt_irrefl u (r.lt_trans k h)
  · exact .inl h
theorem Rk.le_tr (r : Rk) (u v w : Dv) (h : r.le u v = true) (k : r.le v w = true) : r.le u w = true := by
  unfold Rk.le at *
  simp at *
  intro z
  rcases r.tri u v with a | a | a
  · exact k (r.lt_trans z a)
  · apply k
    unfold Rk.lt at *
    rw [← a]
    exact z
  · exact h a
theorem Rk.sort_le (r : Rk) (us : List Dv) : (r.sort us).Pairwise (fun u v => r.le u v = true) := List.pairwise_mergeSort (r.le_tr) (r.le_tot) us
theorem Rk.sort_perm (r : Rk) (us : List Dv) : (r.sort us).Perm us := List.mergeSort_perm us r.le
/-- strictly rising -/
theorem Rk.sort_lt (r : Rk) {us : List Dv} (hu : ∀ u ∈ us, u.n ∈ r.ns) (nd : us.Nodup) : (r.sort us).Pairwise r.lt := by
  have nd2 : (r.sort us).Nodup := (r.sort_perm us).nodup_iff.mpr nd
  have m : ∀ u ∈ r.sort us, u.n ∈ r.ns := fun u h => hu u ((r.sort_perm us).mem_iff.mp h)
  have h := r.sort_le us
  rw [List.pairwise_iff_getElem] at *
  intro i j hi hj hij
  have a := h i j hi hj hij
  have b := List.pairwise_iff_getElem.mp nd2 i j hi hj hij
  unfold Rk.le at a
  simp at a
  rcases r.tri (r.sort us)[i] (r.sort us)[j] with z | z | z
  · exact z
  · exact (b (r.key_inj (m _ (List.getElem_mem hi)) (m _ (List.getElem_mem hj)) z)).elim
  · exact (a z).elim
/-! ### what sorted with keys makes of them -/
theorem dataLt_keys (a b : List Int) : dataLt (.tuple (a.map .int)) (.tuple (b.map .int)) = decide (a < b) := by
  rw [dataLt_tuple]
  exact dataLt_ints a b
def Rk.keyD (r : Rk) (u : Dv) : PyData := .tuple ((r.key u).map .int)
theorem zip_pairs {α β γ : Type} (f : β → γ) : ∀ {xs : List α} {us : List β}, xs.length = us.length → xs.zip (us.map f) = (xs.zip us).map fun p => (p.1, f p.2)
  | [], [], _ => rfl
  | _ :: _, _ :: _, h => congrArg (_ :: ·) (zip_pairs f (by simpa using h))
theorem AllP.zip {H : Hp} (f : Dv → Pr) : ∀ {xs : List V} {us : List Dv}, AllP (us.map f) xs H → ∀ p ∈ xs.zip us, (f p.2).P p.1 H
  | [], [], _, p, h => by simp at h
  | x :: xs, u :: us, a, p, h => by
    rcases List.mem_cons.mp h with rfl | h
    · exact a.1
    · exact AllP.zip f a.2 p h
theorem AllP.of {H : Hp} (f : Dv → Pr) : ∀ {ps : List (V × Dv)}, (∀ p ∈ ps, (f p.2).P p.1 H) → AllP ((ps.map (·.2)).map f) (ps.map (·.1)) H
  | [], _ => trivial
  | p :: ps, h => ⟨h p List.mem_cons_self, AllP.of f fun q hq => h q (List.mem_cons_of_mem _ hq)⟩
theorem byKey_all (r : Rk) {H : Hp} {xs : List V} {us : List Dv} (h : AllP (us.map DvP) xs H) : AllP ((r.sort us).map DvP) (byKey xs (us.map r.keyD)) H := by
  have hl : xs.length = us.length := by
    have := h.len
    rw [List.length_map] at this
    exact this
  have e1 : xs.zip (us.map r.keyD) = (xs.zip us).map fun p => (p.1, r.keyD p.2) := zip_pairs _ hl
  have e2 : ((xs.zip us).mergeSort fun p q => r.le p.2 q.2).map (fun p => (p.1, r.keyD p.2)) = (xs.zip (us.map r.keyD)).mergeSort (dataLe false (·.2)) := by
    rw [e1]
    refine List.map_mergeSort fun p _ q _ => ?_
    rw [dataLe_eq]
    show r.le p.2 q.2 = !dataLt (r.keyD q.2) (r.keyD p.2)
    unfold Rk.keyD
    rw [dataLt_keys]
    rfl
  have e3 : ((xs.zip us).mergeSort fun p q => r.le p.2 q.2).map (·.2) = r.sort us := by
    have : us = (xs.zip us).map (·.2) := by rw [List.map_snd_zip (by omega)]
    unfold Rk.sort
    rw [this]
    simp only [List.map_snd_zip (show us.length ≤ xs.length by omega)]
    have := List.map_mergeSort (r := fun p q : V × Dv => r.le p.2 q.2) (s := r.le) (f := fun p : V × Dv => p.2) (l := xs.zip us) (fun _ _ _ _ => rfl)
    rw [this, List.map_snd_zip (by omega)]
  have e4 : byKey xs (us.map r.keyD) = ((xs.zip us).mergeSort fun p q => r.le p.2 q.2).map (·.1) := by
    unfold byKey
    rw [← e2, List.map_map]
    rfl
  rw [e4, ← e3]
  exact AllP.of DvP fun p hp => AllP.zip DvP h p ((List.mergeSort_perm _ _).mem_iff.mp hp)
end My
namespace My
set_option autoImplicit false
open PySem PySem.W L2 Evl LamX
theorem AllP.ix {H : Hp} : ∀ {ps : List Pr} {vs : List V}, ps.length = vs.length → (∀ (i : Nat) (p : Pr) (v : V), ps[i]? = some p → vs[i]? = some v → p.P v H) → AllP ps vs H
  | [], [], _, _ => trivial
  | p :: ps, v :: vs, hl, h => ⟨h 0 p v rfl rfl, AllP.ix (by simpa using hl) fun i q u a b => h (i + 1) q u a b⟩
theorem AllP.ixD {H : Hp} (f : Dv → Pr) {us : List Dv} {vs : List V} {i : Nat} {v : V} (h : AllP (us.map f) vs H) (hv : vs[i]? = some v) : ∃ u, us[i]? = some u ∧ (f u).P v H := by
  obtain ⟨p, hp, k⟩ := h.get hv
  rw [List.getElem?_map] at hp
  cases e : us[i]? with
  | none =>
    rw [e] at hp
    cases hp
  | some u =>
    rw [e] at hp
    obtain rfl : f u = p := Option.some.inj hp
    exact ⟨u, rfl, k⟩
/-- tables of code: what of the heap they lean on -/
theorem exN_ex {B H H2 : Hp} (e : Ex B H) (n : NoTab B) (k : ExtN H H2) : Ex B H2 := fun b o h => k b o (e b o h) fun ps z => n b ps (by rw [← z]; exact h)
theorem exN_of {H H' : Hp} (e : Ex H H') : ExtN H H' := fun b o h _ => e b o h
theorem nt_upd {B : Hp} {a : Addr} {o : HO} (n : NoTab B) (ho : ∀ ps, o ≠ .tbl ps) : NoTab (upd B a o) := fun b ps q => by
  by_cases h : b = a
  · subst h
    rw [upd_same] at q
    exact ho ps (Option.some.inj q)
  · rw [upd_ne h] at q
    exact n b ps q
/-! ### a for over what is known -/
section
variable {te ta tb : TE} {t tr : TA} {tt : TT} {σ : L2.St} {B B' H : Hp} {p q : Pr} {ps : List Pr} {v : V} {K : PySem.W.Frag} {D : Ends}
theorem ps_forS {wi : TI} {n : Nat} {P : Nat → Pr} {g : TG} {tbd : TS} (a : Ex B H) (h : Src wi σ B n P)
    (k : ∀ B1 H1, Gr B H B1 H1 → ∃ Pv : Nat → L2.St → Hp → Prop, Pv 0 σ H1 ∧ (∀ i σ' H', i ≤ n → Pv i σ' H' → Ex B1 H') ∧
      (∀ i v σ' H', i < n → Pv i σ' H' → (P i).P v B1 → g v σ' H' fun σ2 H2 => tbd { D with nx := Pv (i + 1), ct := Pv (i + 1), bk := D.nx } σ2 H2) ∧ ∀ σ' H', Pv n σ' H' → D.nx σ' H') :
    tFor wi g tbd D σ H := h H a _ fun J B1 H1 G Y gr w hG hY => by
  obtain ⟨Pv, h0, hE, hs, hd⟩ := k B1 H1 gr
  refine for_it w Pv h0 (fun i σ' H' hi pv => hG H' (hE i σ' H' hi pv)) (fun i x σ' H' H2 hi pv y => ?_) hd
  obtain ⟨rfl, px⟩ := hY i H' x H2 hi (hE i σ' H' (Nat.le_of_lt hi) pv) y
  exact hs i x σ' H2 hi pv px
theorem src_lq (h : EvP te σ B (LqP K ps)) : Src (iList K te) σ B ps.length (fun i => ps.getD i (IsV .non)) := fun H1 a R k => h H1 a _ fun v B2 H2 g b => by
  obtain ⟨l, xs, rfl, hx, al⟩ := b
  refine ⟨l, rfl, ⟨xs, ex_l g.c hx⟩, k _ B2 H2 _ _ g (by rw [← al.len]; exact walk_list) (fun H e => ex_l e hx) fun i H v H' _ e (z : H' = H ∧ _) => ⟨z.1, ?_⟩⟩
  obtain ⟨p, hp, k2⟩ := al.get z.2
  show (ps.getD i (IsV .non)).P v B2
  rw [List.getD_eq_getElem?_getD, hp]
  exact k2
end
/-! ### dicts by derivatives -/
def dvK (u : Dv) : List Key := [.inr u.n, .inl u.i, .inl u.j]
def addD (ds : List Dv) (u : Dv) : List Dv := if u ∈ ds then ds else ds ++ [u]
def dedD (us : List Dv) : List Dv := us.foldl addD []
def asK (ds : List Dv) : List (List Key × V) := ds.map fun u => (dvK u, .bl true)
theorem add_mem {ds : List Dv} {u v : Dv} : v ∈ addD ds u ↔ v ∈ ds ∨ v = u := by
  unfold addD
  by_cases h : u ∈ ds
  · rw [if_pos h]
    constructor
    · exact .inl
    · rintro (k | rfl)
      · exact k
      · exact h
  · rw [if_neg h]
    simp
theorem add_nd {ds : List Dv} {u : Dv} (h : ds.Nodup) : (addD ds u).Nodup := by
  unfold addD
  by_cases k : u ∈ ds
  · rw [if_pos k]
    exact h
  · rw [if_neg k, List.nodup_append]
    exact ⟨h, by simp, fun a ha b hb => by
      rw [List.mem_singleton.mp hb]
      rintro rfl
      exact k ha⟩
theorem fold_add : ∀ (us ds : List Dv), (∀ v, v ∈ us.foldl addD ds ↔ v ∈ ds ∨ v ∈ us) ∧ (ds.Nodup → (us.foldl addD ds).Nodup)
  | [], ds => ⟨fun v => by simp, id⟩
  | u :: us, ds => by
    obtain ⟨h1, h2⟩ := fold_add us (addD ds u)
    refine ⟨fun v => ?_, fun h => h2 (add_nd h)⟩
    show v ∈ us.foldl addD (addD ds u) ↔ _
    rw [h1, add_mem, List.mem_cons]
    constructor
    · rintro ((a | a) | a)
      · exact .inl a
      · exact .inr (.inl a)
      · exact .inr (.inr a)
    · rintro (a | a | a)
      · exact .inl (.inl a)
      · exact .inl (.inr a)
      · exact .inr a
theorem ded_mem {us : List Dv} {v : Dv} : v ∈ dedD us ↔ v ∈ us := by
  unfold dedD
  rw [(fold_add us []).1]
  simp
/-! ### all derivatives to an order -/
def Rk.most (r : Rk) (o i : Nat) : Nat := if (Str.ofString "y") ∈ r.axs then o - i else 0
def Rk.row (r : Rk) (o : Nat) (n : Str) (i : Nat) : List Dv := (List.range (r.most o i + 1)).map fun (j : Nat) => ⟨n, (i : Int), (j : Int)⟩
def Rk.rowsN (r : Rk) (o : Nat) (n : Str) (m : Nat) : List Dv := (List.range m).flatMap (r.row o n)
def Rk.rowsT (r : Rk) (o m : Nat) : List Dv := (r.ns.take m).flatMap fun n => r.rowsN o n (o + 1)
def Rk.all (r : Rk) (o : Nat) : List Dv := r.ns.flatMap fun n => r.rowsN o n (o + 1)
theorem Rk.mem_row {r : Rk} {o i : Nat} {n : Str} {u : Dv} (h : u ∈ r.row o n i) : u.n = n ∧ u.i = i ∧ 0 ≤ u.j ∧ u.j ≤ r.most o i := by
  unfold Rk.row at h
  obtain ⟨j, hj, rfl⟩ := List.mem_map.mp h
  have := List.mem_range.mp hj
  exact ⟨rfl, rfl, by simp, by simp; omega⟩
theorem Rk.mem_all {r : Rk} {o : Nat} {u : Dv} (h : u ∈ r.all o) : u.Of r := by
  unfold Rk.all Rk.rowsN at h
  obtain ⟨n, hn, h⟩ := List.mem_flatMap.mp h
  obtain ⟨i, hi, h⟩ := List.mem_flatMap.mp h
  obtain ⟨h1, h2, h3, h4⟩ := Rk.mem_row h
  refine ⟨by rw [h1]; exact hn, by rw [h2]; simp, h3, ?_⟩
  unfold Rk.most at h4
  by_cases hy : (Str.ofString "y") ∈ r.axs
  · exact .inr hy
  · rw [if_neg hy] at h4
    exact .inl (by simp at h4; omega)
theorem nd_flat {α β : Type} {f : α → List β} : ∀ {l : List α}, l.Nodup → (∀ a ∈ l, (f a).Nodup) → (∀ a ∈ l, ∀ b ∈ l, ∀ x, x ∈ f a → x ∈ f b → a = b) → (l.flatMap f).Nodup
  | [], _, _, _ => List.nodup_nil
  | a :: l, nd, h1, h2 => by
    rw [List.flatMap_cons, List.nodup_append]
    refine ⟨h1 a List.mem_cons_self, nd_flat (List.nodup_cons.mp nd).2 (fun b hb => h1 b (List.mem_cons_of_mem _ hb)) (fun b hb c hc => h2 b (List.mem_cons_of_mem _ hb) c (List.mem_cons_of_mem _ hc)), fun x hx y hy => ?_⟩
    rintro rfl
    obtain ⟨b, hb, hx2⟩ := List.mem_flatMap.mp hy
    have := h2 a List.mem_cons_self b (List.mem_cons_of_mem _ hb) x hx hx2
    subst this
    exact (List.nodup_cons.mp nd).1 hb
theorem Rk.all_nd {r : Rk} (o : Nat) (h : r.ns.Nodup) : (r.all o).Nodup := by
  unfold Rk.all
  refine nd_flat h (fun n _ => ?_) fun a _ b _ x hx hy => ?_
  · unfold Rk.rowsN
    refine nd_flat List.nodup_range (fun i _ => ?_) fun a _ b _ x hx hy => ?_
    · unfold Rk.row
      rw [List.nodup_iff_pairwise_ne, List.pairwise_map]
      refine List.Pairwise.imp ?_ (List.pairwise_lt_range)
      intro a b hab e
      simp at e
      omega
    · have := (Rk.mem_row hx).2.1
      have := (Rk.mem_row hy).2.1
      omega
  · unfold Rk.rowsN at hx hy
    obtain ⟨i, _, hx⟩ := List.mem_flatMap.mp hx
    obtain ⟨j, _, hy⟩ := List.mem_flatMap.mp hy
    rw [← (Rk.mem_row hx).1, (Rk.mem_row hy).1]
theorem flat_len {α β : Type} {f : α → List β} {m : Nat} : ∀ {l : List α}, (∀ a ∈ l, (f a).length ≤ m) → (l.flatMap f).length ≤ l.length * m
  | [], _ => by simp
  | a :: l, h => by
    rw [List.flatMap_cons, List.length_append, List.length_cons, Nat.add_mul]
    have := h a List.mem_cons_self
    have := flat_len (l := l) fun b hb => h b (List.mem_cons_of_mem _ hb)
    omega
theorem Rk.rowsN_len (r : Rk) {o : Nat} (n : Str) {m : Nat} (hm : m ≤ 13) (ho : o ≤ 12) : (r.rowsN o n m).length ≤ 169 := by
  have : (r.rowsN o n m).length ≤ (List.range m).length * 13 := flat_len fun i _ => by
    unfold Rk.row Rk.most
    rw [List.length_map, List.length_range]
    split <;> omega
  rw [List.length_range] at this
  have : m * 13 ≤ 13 * 13 := Nat.mul_le_mul_right 13 hm
  omega
theorem Rk.rowsT_len (r : Rk) {o m : Nat} (ho : o ≤ 12) (hr : r.ns.length ≤ 3) : (r.rowsT o m).length ≤ 507 := by
  have : (r.rowsT o m).length ≤ (r.ns.take m).length * 169 := flat_len fun n _ => r.rowsN_len n (by omega) ho
  have h2 : (r.ns.take m).length ≤ 3 := by rw [List.length_take]; omega
  have : (r.ns.take m).length * 169 ≤ 3 * 169 := Nat.mul_le_mul_right 169 h2
  omega
theorem Rk.rowsT_all (r : Rk) (o : Nat) : r.rowsT o r.ns.length = r.all o := by
  unfold Rk.rowsT Rk.all
  rw [List.take_length]
theorem Rk.rowsT_succ (r : Rk) (o m : Nat) (h : m < r.ns.length) : r.rowsT o (m + 1) = r.rowsT o m ++ r.rowsN o r.ns[m] (o + 1) := by
  unfold Rk.rowsT
  rw [List.take_add_one, List.getElem?_eq_getElem h, List.flatMap_append]
  simp
theorem Rk.rowsN_succ (r : Rk) (o : Nat) (n : Str) (m : Nat) : r.rowsN o n (m + 1) = r.rowsN o n m ++ r.row o n m := by
  unfold Rk.rowsN
  rw [List.range_succ]
  simp
end My
namespace My
open PySem L2 Evl
end My
namespace My
set_option autoImplicit false
open PySem L2 Evl
theorem p_lcP {te : TE} {σ : L2.St} {B : Hp} {wi : TI} {n : Nat} {P : Nat → Pr} {g : TG} {vs : List Nat} (h : Src wi σ B n P) (hl : n ≤ 100000) (res : Nat → Pr)
    (step : ∀ i v B1, i < n → Ex B B1 → (P i).P v B1 → ∃ σ2, wipe σ2 vs = wipe σ vs ∧ (∀ H2 Q, Ex B1 H2 → Q σ2 H2 → g v (wipe σ vs) H2 Q) ∧ EvP te σ2 B1 (res i)) :
    EvP (tLc wi g tYes te vs) σ B (LsP ((List.range n).map res)) := by
  have := p_lcS (tt := tYes) (te := te) h hl (fun _ => true) res fun i v B1 hi e pv => by
    obtain ⟨σ2, a, b, c⟩ := step i v B1 hi e pv
    exact ⟨σ2, a, b, et_yes, fun _ => c⟩
  rw [List.filter_eq_self.mpr (fun _ _ => rfl)] at this
  exact this
end My
namespace My
set_option autoImplicit false
open PySem PySem.Spec PyProof.Rows L2
def signsOf (x : Str) : List Str := (List.range x.cps.size).map (oneS x)
/-- list(x) of a text -/
theorem call_listS {X : Cx} (hc : X.calm = true) : CallR X (.type "list") (fun xs H Q => ∃ x : Str, xs = [.str x] ∧ x.length ≤ 100000 ∧ ∀ l, H l = none → Q (.ref l) (upd H l (.lst ((signsOf x).map V.str)))) := by
  intro pins s σ H xs us Q I r ⟨x, ex, hx, q⟩
  subst ex
  obtain ⟨u, rfl, rx⟩ := vals1 r
  obtain ⟨t, rfl⟩ := rx
  have hz : x.cps.size ≤ sizeLine := Evl.sz_of hx
  refine call_list_str (I.ok.hd hc) x t (fun h1 tk acc c kp at1 items => ?_) hz
  have hl : ((signsOf x).map V.str).length = x.cps.size := by
    unfold signsOf
    rw [List.length_map, List.length_map, List.length_range]
  refine ⟨.ref s.heap.objs.size, _, I.laid kp (Nat.le_refl _) (show ObjOk X.prog X.w _ _ _ (.lst ((signsOf x).map V.str)) from ⟨by rw [hl]; exact hz, acc.toList, c, ?_, by simpa using at1⟩), rfl, q _ (I.hok.fresh (Nat.le_refl _))⟩
  have ha : acc.toList.length = acc.size := by simp
  refine vals_of_at (by rw [hl, ha, items.1]) fun j v w h1 h2 => ?_
  obtain hs := items.2 j w (by rw [← Array.getElem?_toList]; exact h2)
  have hj : j < x.cps.size := by
    have := (List.getElem?_eq_some_iff.mp h1).1
    rw [hl] at this
    exact this
  have hv : v = .str (oneS x j) := by
    unfold signsOf at h1
    rw [List.getElem?_map, List.getElem?_map, List.getElem?_range hj] at h1
    exact (Option.some.inj h1).symm
  subst hv
  obtain ⟨c, tk2, hc2, rfl⟩ := hs
  refine ⟨tk2, ?_⟩
  unfold oneS
  rw [Array.getD_eq_getD_getElem?, hc2]
  rfl
end My
namespace My
set_option autoImplicit false
open PySem PySem.W L2 Evl LamX
section
variable {te ta tb : TE} {t tr : TA} {tt : TT} {σ : L2.St} {B B' H : Hp} {p q : Pr} {ps : List Pr} {v : V} {K : PySem.W.Frag} {D : Ends}
theorem AllP.take {H : Hp} : ∀ {ps : List Pr} {vs : List V} (n : Nat), AllP ps vs H → AllP (ps.take n) (vs.take n) H
  | _, _, 0, _ => trivial
  | [], [], _ + 1, _ => trivial
  | _ :: _, _ :: _, n + 1, h => ⟨h.1, AllP.take n h.2⟩
/-- the first k of a list -/
theorem p_sl {k : Nat} (h : EvP te σ B (LqP K ps)) (hk : Ev tb σ B (.int (k : Int))) : EvP (tSl (rSlL K) te tNoPart (tPart tb)) σ B (LsP (ps.take k)) := fun H1 a Q q =>
  h H1 a _ fun v B2 H2 g x => hk H2 (g.b.trans g.c) _ fun H3 e3 => ⟨k, rfl, by
    obtain ⟨l, xs, rfl, hl, al⟩ := x
    refine ⟨l, xs, rfl, ex_l (g.c.trans e3) hl, fun r hr => ?_⟩
    rw [cutTo]
    have g2 := (g.trans (Gr.wide g.c e3)).trans (Gr.new (.lst (xs.take k)) (g.c.trans e3) hr)
    exact q _ _ _ g2 ⟨r, _, rfl, upd_same, (al.take k).m (Ex.new (fresh_back (g.c.trans e3) hr))⟩⟩
end
theorem canAll {us : List Dv} (h : ∀ u ∈ us, SeqAt.shaped u.D = true) : PyData.canLayAll0 (us.map Dv.D) = true ∧ PyData.depthAll (us.map Dv.D) ≤ 1 := by
  induction us with
  | nil => exact ⟨rfl, Nat.zero_le _⟩
  | cons u us ih =>
    obtain ⟨h1, h2⟩ := ih fun v hv => h v (List.mem_cons_of_mem _ hv)
    have h0 := SeqAt.canLay_of_shaped (h u List.mem_cons_self)
    rw [List.map_cons, PyData.canLayAll0, PyData.depthAll, h0, h1]
    refine ⟨rfl, ?_⟩
    have : u.D.depth = 1 := by
      unfold Dv.D
      simp [PyData.depth, PyData.depthAll]
    omega
theorem sh_list {us : List Dv} (h : ∀ u ∈ us, SeqAt.shaped u.D = true) : SeqAt.shaped (.list (us.map Dv.D)) = true := by
  obtain ⟨h1, h2⟩ := canAll h
  unfold SeqAt.shaped
  rw [PyData.canLay0, h1, PyData.depth]
  simp
  omega
/-- which of a rising row is below the k-th -/
theorem Rk.below {r : Rk} {us : List Dv} (h : us.Pairwise r.lt) {i k : Nat} (hi : i < us.length) (hk : k < us.length) : decide (r.cmp us[i] us[k] < 0) = decide (i < k) := by
  rw [List.pairwise_iff_getElem] at h
  by_cases e : i < k
  · rw [decide_eq_true e, (r.cmp_lt _ _).mpr (h i k hi hk e)]
    rfl
  · rw [decide_eq_false e, decide_eq_false_iff_not]
    by_cases e2 : i = k
    · subst e2
      rw [(r.cmp_eq _ _).mpr rfl]
      decide
    · rw [(r.cmp_gt _ _).mpr (h k i hk hi (by omega))]
      decide
/-- an object at d, a dict, left out -/
theorem wo_at {d b : Addr} {H : Hp} {o : HO} {kvs : List (Key × V)} (hd : H d = some (.dK kvs)) (h : H b = some o) (n : ∀ kvs, o ≠ .dK kvs) : wo d H b = some o := by
  rw [wo_ne fun z => by
    subst z
    rw [hd] at h
    exact n kvs (Option.some.inj h).symm]
  exact h
/-- all but d and the tables of code -/
def ExtB (d : Addr) (H H' : Hp) : Prop := ∀ b o, b ≠ d → H b = some o → (∀ ps, o ≠ .tbl ps) → H' b = some o
theorem ExtB.of {d : Addr} {H H' : Hp} (h : ExtN H H') : ExtB d H H' := fun b o _ e n => h b o e n
theorem ExtB.trans {d : Addr} {H H1 H2 : Hp} (a : ExtB d H H1) (b : ExtB d H1 H2) : ExtB d H H2 := fun c o h e n => b c o h (a c o h e n) n
theorem ExtB.ex {d : Addr} {B H H' : Hp} (h : ExtB d H H') (e : Ex B H) (n : NoTab B) (hd : B d = none) : Ex B H' := fun b o k => h b o (ne_of_none k hd) (e b o k) fun ps z => n b ps (by rw [← z]; exact k)
theorem tabs_but {T : List (Addr × Str)} {d : Addr} {H H' : Hp} {kvs : List (Key × V)} (t : Tabs T H) (hd : H d = some (.dK kvs)) (s : ∀ b o, b ≠ d → H b = some o → H' b = some o) : Tabs T H' := by
  have e : ∀ b o, wo d H b = some o → H' b = some o := fun b o k => by
    obtain ⟨n, q⟩ := wo_some k
    exact s b o n q
  refine Tabs.ext (H := wo d H) (fun p hp => ?_) e
  obtain ⟨ps, h1, h2, h3⟩ := t p hp
  refine ⟨ps, (wo_at hd h1 (fun _ z => nomatch z)), h2, fun pos cv hc => ?_⟩
  obtain ⟨c, e1, e2⟩ := h3 pos cv hc
  exact ⟨c, e1, wo_at hd e2 fun kvs z => by unfold CodeO at z; cases z⟩
end My
namespace My
set_option autoImplicit false
open PySem PySem.W L2 Evl LamX
section
variable {te ta tb : TE} {t tr : TA} {tt : TT} {σ : L2.St} {B B' H : Hp} {p q : Pr} {ps : List Pr} {v : V} {K : PySem.W.Frag} {D : Ends}
/-- a pair unpacked -/
theorem ps_un2 {i j : Nat} (a : Ex B H) (h : EvP te σ B (TuP K [p, q])) (n : ∀ v w B1 H1, Gr B H B1 H1 → p.P v B1 → q.P w B1 → D.nx ((σ.set i (some v)).set j (some w)) H1) :
    tAsg te (gTup K 2 (gCons (gName i) (gCons (gName j) gNil))) D σ H := h H a _ fun v B1 H1 g x => by
  obtain ⟨l, xs, rfl, h2, h3⟩ := x
  match xs, h3 with
  | [v, w], h3 => exact ⟨_, _, rfl, ex_t g.c h2, rfl, _, _, rfl, _, _, rfl, rfl, n v w B1 H1 g h3.1 h3.2.1⟩
theorem ev_notR {a : Addr} {i : Nat} (h : σ[i]? = some (some (.ref a))) : Ev (tOp (fun x y H Q => y = V.non ∧ Q (.bl (!decide (x = V.non))) H) (tVar i) (tC .non)) σ B (.bl true) := fun H1 _ Q k =>
  ⟨.ref a, h, rfl, k H1 (Ex.refl H1)⟩
end
end My
namespace My
set_option autoImplicit false
open PySem PySem.W L2 Evl
/-! ### which one is above, told otherwise -/
def Rk.abv (r : Rk) (a b : Dv) : Bool :=
  if r.tot = false ∧ a.n ≠ b.n then decide (r.ns.idxOf a.n < r.ns.idxOf b.n)
  else if a.i + a.j ≠ b.i + b.j then decide (b.i + b.j < a.i + a.j)
  else if r.first a ≠ r.first b then decide (r.first b < r.first a) else decide (r.ns.idxOf a.n < r.ns.idxOf b.n)
theorem Rk.abv_lt (r : Rk) {a b : Dv} (ha : a.n ∈ r.ns) (hb : b.n ∈ r.ns) : r.abv a b = decide (r.lt b a) := by
  have hi : a.n = b.n ↔ r.ns.idxOf a.n = r.ns.idxOf b.n := ⟨fun e => by rw [e], idx_inj ha hb⟩
  unfold Rk.abv
  rw [Bool.eq_iff_iff, @decide_eq_true_iff (r.lt b a)]
  unfold Rk.lt Rk.key
  cases ht : r.tot with
  | true =>
    rw [if_neg (by simp), if_pos rfl, if_pos rfl, lt3]
    unfold Rk.ahead
    by_cases h1 : a.i + a.j ≠ b.i + b.j
    · rw [if_pos h1, decide_eq_true_iff]
      omega
    · rw [if_neg h1]
      by_cases h2 : r.first a ≠ r.first b
      · rw [if_pos h2, decide_eq_true_iff]
        omega
      · rw [if_neg h2, decide_eq_true_iff]
        omega
  | false =>
    rw [if_neg Bool.false_ne_true, if_neg Bool.false_ne_true, lt3]
    unfold Rk.ahead
    by_cases h0 : a.n ≠ b.n
    · rw [if_pos ⟨rfl, h0⟩, decide_eq_true_iff]
      have : ¬ r.ns.idxOf a.n = r.ns.idxOf b.n := fun e => h0 (hi.mpr e)
      omega
    · have e0 : a.n = b.n := Classical.not_not.mp h0
      have e1 := hi.mp e0
      rw [if_neg (fun z => h0 z.2)]
      by_cases h1 : a.i + a.j ≠ b.i + b.j
      · rw [if_pos h1, decide_eq_true_iff]
        omega
      · rw [if_neg h1]
        by_cases h2 : r.first a ≠ r.first b
        · rw [if_pos h2, decide_eq_true_iff]
          omega
        · rw [if_neg h2, decide_eq_true_iff]
          omega
/-! ### rising, one put in behind the other -/
theorem count_split {α : Type} (p : α → Bool) : ∀ {l : List α}, (∀ (i j : Nat) (hi : i < l.length) (hj : j < l.length), i < j → p l[j] = true → p l[i] = true) → (∀ (i : Nat) (hi : i < l.length), p l[i] = decide (i < (l.filter p).length))
  | [], _ => fun i hi => absurd hi (Nat.not_lt_zero i)
  | x :: l, h => by
    have ih := count_split p (l := l) fun i j hi hj e q => h (i + 1) (j + 1) (by simpa using hi) (by simpa using hj) (by omega) q
    intro i hi
    cases hx : p x with
    | true =>
      rw [List.filter_cons_of_pos hx, List.length_cons]
      match i, hi with
      | 0, _ => simpa using hx
      | i + 1, hi =>
        have hi' : i < l.length := by simpa using hi
        show p (l[i]'hi') = _
        rw [ih i hi']
        simp
    | false =>
      rw [List.filter_cons_of_neg (by simp [hx])]
      have none : ∀ j (hj : j < l.length), p l[j] = false := fun j hj => by
        cases e : p l[j] with
        | false => rfl
        | true =>
          have := h 0 (j + 1) (by simp) (by simpa using hj) (by omega) e
          rw [List.getElem_cons_zero, hx] at this
          cases this
      have nil : l.filter p = [] := List.filter_eq_nil_iff.mpr fun y hy => by
        obtain ⟨j, hj, rfl⟩ := List.mem_iff_getElem.mp hy
        simp [none j hj]
      rw [nil]
      match i, hi with
      | 0, _ => simpa using hx
      | i + 1, hi => simpa using none i (by simpa using hi)
/-- where a derivative is put -/
def Rk.spot (r : Rk) (us : List Dv) (a : Dv) : Nat := (us.filter fun b => decide (r.lt b a)).length
def Rk.put (r : Rk) (us : List Dv) (a : Dv) : List Dv := if a ∈ us then us else us.insertIdx (r.spot us a) a
theorem Rk.spot_le (r : Rk) (us : List Dv) (a : Dv) : r.spot us a ≤ us.length := List.length_filter_le _ _
theorem ins_eq {α : Type} (a : α) : ∀ (n : Nat) (l : List α), n ≤ l.length → l.insertIdx n a = l.take n ++ a :: l.drop n
  | 0, l, _ => by simp
  | n + 1, x :: l, h => by
    rw [List.insertIdx_succ_cons, ins_eq a n l (by simpa using h)]
    simp
theorem Rk.put_mem (r : Rk) {us : List Dv} {a v : Dv} : v ∈ r.put us a ↔ v ∈ us ∨ v = a := by
  unfold Rk.put
  by_cases h : a ∈ us
  · rw [if_pos h]
    constructor
    · exact .inl
    · rintro (k | rfl)
      · exact k
      · exact h
  · rw [if_neg h, ins_eq _ _ _ (r.spot_le us a), List.mem_append, List.mem_cons]
    have : v ∈ us ↔ v ∈ us.take (r.spot us a) ∨ v ∈ us.drop (r.spot us a) := by
      rw [← List.mem_append, List.take_append_drop]
    rw [this]
    constructor
    · rintro (k | k | k)
      · exact .inl (.inl k)
      · exact .inr k
      · exact .inl (.inr k)
    · rintro ((k | k) | k)
      · exact .inl k
      · exact .inr (.inr k)
      · exact .inr (.inl k)
theorem Rk.put_rise (r : Rk) {us : List Dv} {a : Dv} (h : us.Pairwise r.lt) (hn : ∀ u ∈ us, u.n ∈ r.ns) (ha : a.n ∈ r.ns) : (r.put us a).Pairwise r.lt := by
  unfold Rk.put
  by_cases m : a ∈ us
  · rw [if_pos m]
    exact h
  · rw [if_neg m, ins_eq _ _ _ (r.spot_le us a), List.pairwise_append, List.pairwise_cons]
    have hg := List.pairwise_iff_getElem.mp h
    have split := count_split (fun b => decide (r.lt b a)) (l := us) fun i j hi hj e q => by
      exact decide_eq_true (r.lt_trans (hg i j hi hj e) (of_decide_eq_true q))
    have low : ∀ x ∈ us.take (r.spot us a), r.lt x a := fun x hx => by
      obtain ⟨i, hi, rfl⟩ := List.mem_iff_getElem.mp hx
      rw [List.length_take] at hi
      rw [List.getElem_take]
      have := split i (by omega)
      exact of_decide_eq_true (this.trans (decide_eq_true (show i < r.spot us a by omega)))
    have high : ∀ x ∈ us.drop (r.spot us a), r.lt a x := fun x hx => by
      obtain ⟨i, hi, rfl⟩ := List.mem_iff_getElem.mp hx
      rw [List.length_drop] at hi
      rw [List.getElem_drop]
      have := split (r.spot us a + i) (by omega)
      have n1 : ¬ r.lt us[r.spot us a + i] a := fun z => by
        have e : decide (r.lt us[r.spot us a + i] a) = decide (r.spot us a + i < r.spot us a) := this
        rw [decide_eq_true z] at e
        have := of_decide_eq_true e.symm
        omega
      have hm : us[r.spot us a + i] ∈ us := List.getElem_mem _
      rcases r.tri us[r.spot us a + i] a with z | z | z
      · exact (n1 z).elim
      · exact (m (by rw [← r.key_inj (hn _ hm) ha z]; exact hm)).elim
      · exact z
    refine ⟨h.sublist (List.take_sublist _ _), ⟨high, h.sublist (List.drop_sublist _ _)⟩, fun x hx y hy => ?_⟩
    rcases List.mem_cons.mp hy with rfl | hy
    · exact low x hx
    · exact r.lt_trans (low x hx) (high y hy)
theorem Rk.put_len (r : Rk) (us : List Dv) (a : Dv) : (r.put us a).length ≤ us.length + 1 := by
  unfold Rk.put
  split
  · omega
  · rw [ins_eq _ _ _ (r.spot_le us a), List.length_append, List.length_cons, List.length_take, List.length_drop]
    have := r.spot_le us a
    omega
def Rk.rise (r : Rk) (us : List Dv) : List Dv := us.foldl r.put []
/-- strictly rising rows of the same derivatives are the same -/
theorem Rk.rise_one (r : Rk) {us vs : List Dv} (h : us.Pairwise r.lt) (k : vs.Pairwise r.lt) (e : ∀ v, v ∈ us ↔ v ∈ vs) : us = vs := by
  have nd : ∀ {l : List Dv}, l.Pairwise r.lt → l.Nodup := fun {l} h => List.Pairwise.imp (fun {a b} z e => by
    subst e
    exact r.lt_irrefl _ z) h
  refine List.Perm.eq_of_pairwise (le := r.lt) (fun u v _ _ a b => (r.lt_irrefl u (r.lt_trans a b)).elim) h k ((List.perm_ext_iff_of_nodup (nd h) (nd k)).mpr e)
/-! ### all to an order, told otherwise -/
def Rk.line (r : Rk) (n : Str) (t : Nat) : List Dv := (List.range (if r.axs.length = 2 then t + 1 else 1)).map fun (j : Nat) => ⟨n, (t : Int) - j, (j : Int)⟩
/-- those of the order 0, rising -/
theorem Rk.zero (r : Rk) (hn : r.ns.Nodup) : r.sort (r.all 0) = r.ns.reverse.map fun n => ⟨n, 0, 0⟩ := by
  have e0 : r.all 0 = r.ns.map fun n => (⟨n, 0, 0⟩ : Dv) := by
    unfold Rk.all Rk.rowsN Rk.row Rk.most
    induction r.ns with
    | nil => rfl
    | cons n ns ih =>
      rw [List.flatMap_cons, ih, List.map_cons]
      split <;> simp [List.range_succ]
  refine r.rise_one (r.sort_lt (fun u hu => (Rk.mem_all hu).n) (r.all_nd 0 hn)) ?_ fun v => ?_
  · rw [List.pairwise_map, List.pairwise_reverse]
    rw [List.pairwise_iff_getElem]
    intro i j hi hj hij
    unfold Rk.lt Rk.key Rk.first Rk.ahead
    have ix : ∀ (k : Nat) (hk : k < r.ns.length), r.ns.idxOf r.ns[k] = k := fun k hk => by
      have h1 := List.idxOf_lt_length_of_mem (List.getElem_mem hk)
      have h2 := List.getElem_idxOf h1
      by_cases e : r.ns.idxOf r.ns[k] = k
      · exact e
      · exact ((List.nodup_iff_pairwise_ne.mp hn) |> fun hp => by
          rw [List.pairwise_iff_getElem] at hp
          rcases Nat.lt_or_gt_of_ne e with z | z
          · exact (hp _ _ h1 hk z h2).elim
          · exact (hp _ _ hk h1 z h2.symm).elim)
    have e1 := ix i hi
    have e2 := ix j hj
    simp only [e1, e2]
    cases r.tot
    · simp [lt3]
      omega
    · simp only [if_true, lt3]
      exact .inr ⟨trivial, .inr ⟨trivial, by omega⟩⟩
  · rw [(r.sort_perm _).mem_iff, e0]
    simp
end My
namespace Gd
set_option autoImplicit false
open PySem PySem.Spec PyProof.Rows L2 LamX My
/-- a def's promise, where no repr is under way -/
structure FnG (P : Program) (w : World) (K : PySem.W.Frag) (mg : Str → Option Value) (base : Heap) (k : Nat) (f : Addr) (fd : FuncData) (ps : List Str) (sp : Sp) : Prop where
  len : ∀ vs H Q E, sp vs H Q E → vs.length = ps.length
  run : ∀ (A : Around) (outer : List Env) (s : Shared) (H : Hp) (args : Args) (us : List Value) (vs : List V) (Q : VK) (E : XK), Room k A → A.guards = some [] → Env0 P w K mg base A outer s H → BindsTo s fd args (ps.zip us) → Vals vs us → sp vs H Q E →
    codeAny (model P w) A (.call (.ref f) args) (CR CX0 outer P w H s Q E) s
section
variable {P : Program} {w : World} {K : PySem.W.Frag} {mg : Str → Option Value} {base : Heap} {k : Nat} {f : Addr} {fd : FuncData} {ps : List Str} {sp : Sp}
theorem FnG.of (F : FnOk P w K mg base CX0 k f fd ps sp) : FnG P w K mg base k f fd ps sp := ⟨F.len, fun A outer s H args us vs Q E hr _ => F.run A outer s H args us vs Q E hr⟩
theorem fnG_of {name qual : Str} {params : Arguments} {body : List Stmt} {scope : Scope} {dV kV doc pm cdv ct oc : Value} {an od : Option Addr} {osl : Array (Option Value)} {N : List Str}
    (lk : K.lookup f = some ⟨oc, od, .func (PySem.W.fnOf name qual params body scope dV kV doc pm an cdv ct), osl⟩) (hcd : PySem.W.codeIn K cdv qual = true) (S : FnScope N ps scope) (len : ∀ vs H Q E, sp vs H Q E → vs.length = ps.length)
    (go : ∀ (A : Around) (outer : List Env) (s : Shared) (H : Hp) (vs : List V) (Q : VK) (E : XK), Room k (A.deeper (envOfC qual scope s.heap.objs.size f cdv)) → (A.deeper (envOfC qual scope s.heap.objs.size f cdv)).guards = some [] → sp vs H Q E →
      ∃ t, PSs (cxOf CX0 P w K mg base N qual scope f cdv A outer s H E) body t ∧ t { nx := fun _ H' => Q .non H', rt := Q } (start N vs) H) :
    FnG P w K mg base (k + 1) f (PySem.W.fnOf name qual params body scope dV kV doc pm an cdv ct) ps sp := by
  refine ⟨len, fun A outer s H args us vs Q E hr hg e0 hb r hsp => ?_⟩
  have old := fun (b : Addr) (o : Obj) (e : base.get? b = some o) => (e0.bs b o e).1
  have inK : K.In s.heap := e0.mod.kin.keeps old
  have local_ := fun (y : Str × Value) (hy : y ∈ ps.zip us) => (S.par y.1 (List.of_mem_zip hy).1).imp id fun q => (⟨q, PySem.W.cellsFrom_some _ _ _ (.inl q)⟩ : scope.names.lookup y.1 = some .cell ∧ ((cellsFrom (s.heap.objs.size + 1) scope.names []).lookup y.1).isSome = true)
  refine codeAny_call_function hr.depth (inK _ _ lk) rfl S.co S.gen rfl (PySem.W.codeRec_of inK hcd) (hb _ _ _ _ (wpAny_newFunctionEnv_cells S.kind local_ fun env he s1 x => ?_))
  subst he
  obtain ⟨t, ht, hq⟩ := go A outer s H vs Q E (hr.deeper _) hg hsp
  refine ⟨(e0.mod.nolimit.keeps old).keeps x.toInCall.keep, codeAny_func (wpAny_mono (ht.run [] s1 _ H _ (inv_start S hr.hd e0 (len _ _ _ _ hsp) r x) hq) (fun fl s' hs => ?_) fun e s' hs => hs)⟩
  cases fl with
  | ret u => exact let ⟨v, _, H', J, rv, q⟩ := hs; ⟨v, H', J.os, J.bare, J.base, J.hok, rv, q⟩
  | next => exact let ⟨_, H', J, q⟩ := hs; ⟨V.non, H', J.os, J.bare, J.base, J.hok, rfl, q⟩
  | brk => exact let ⟨_, _, _, q⟩ := hs; q.elim
  | cont => exact let ⟨_, _, _, q⟩ := hs; q.elim
/-- the rule for a def by its body -/
theorem okG {x qual : Str} {st : Stmt} {N : List Str} (F : Fun K x qual st f fd) (S : FnScope N ps (defScope st)) (len : ∀ vs H Q E, sp vs H Q E → vs.length = ps.length)
    (go : ∀ (cdv : Value) (A : Around) (outer : List Env) (s : Shared) (H : Hp) (vs : List V) (Q : VK) (E : XK), Room k (A.deeper (envOfC qual (defScope st) s.heap.objs.size f cdv)) → (A.deeper (envOfC qual (defScope st) s.heap.objs.size f cdv)).guards = some [] → sp vs H Q E →
      ∃ t, PSs (cxOf CX0 P w K mg base N qual (defScope st) f cdv A outer s H E).nox (defBody st) t ∧ t { nx := fun _ H' => Q .non H', rt := Q } (start N vs) H) : FnG P w K mg base (k + 1) f fd ps sp := by
  obtain ⟨oc, od, kV, doc, pm, an, cdv, ct, osl, rfl, lk, hcd⟩ := F.ex
  exact fnG_of lk hcd S len fun A outer s H vs Q E hr hg hsp => let ⟨t, h1, h2⟩ := go cdv A outer s H vs Q E hr hg hsp; ⟨t, h1.nox, h2⟩
/-- a def as it is called -/
structure CalG (P : Program) (w : World) (K : PySem.W.Frag) (mg : Str → Option Value) (base : Heap) (x : Str) (k : Nat) (ps : List Str) (sp : Sp) (f : Addr) (fd : FuncData) : Prop where
  G : FnG P w K mg base k f fd ps sp
  m : mg x = some (.ref f)
  k : PySem.W.keepIn K (.ref f) = true
  b : Binds K fd ps []
end
section
variable {X : Cx} {k : Nat} {f : Addr} {fd : FuncData} {ps : List Str} {sp : Sp} {dvs : List V} {ds : List Value} {E : XK} {x : Str} {p pos : Pos} {e : Expr} {es : List Expr} {t : TA}
theorem pe_callG (F : FnG X.prog X.w X.K X.mg X.base k f fd ps sp) (hr : Room k X.A) (hG : X.A.guards = some []) (hg : Gl X x) (hm : X.mg x = some (.ref f)) (hk : PySem.W.keepIn X.K (.ref f) = true) (hb : Binds X.K fd ps ds) (hd : Vals dvs ds) (hx : Passes CX0 X E) (ha : PA X (e :: es) t)
    (hdb : (x == ("__debug__" : Str)) = false := by decide) (he : starEach (e :: es) X.env = (false, eval e X.env) :: starEach es X.env := by rfl) (hpl : (backTo pos (starEach es X.env)).any (·.1) = false := by rfl) : PE X (.Call (.Name x p) (e :: es) [] pos) (tCall sp dvs E t) :=
  ⟨fun pins s σ H Q I h => wpAny_Call_Name_kw (ld_glob I hg hm (PySem.W.callWith_K (h₀ := X.base) I.ok.mod.kin hk (thn (ha.run pos pins s σ H _ I h) fun us s1 ⟨vs, H1, I1, r, q⟩ => ⟨I1.kIn, by
    have ra := r.append hd
    have hl : (us ++ ds).length = ps.length := ra.length.symm.trans (F.len _ _ _ _ q)
    refine wpAny_call (codeAny_mono (F.run X.A X.stack s1 H1 ⟨us, []⟩ (us ++ ds) (vs ++ dvs) Q E hr hG I1.env0 (hb s1 us I1.kIn hl) ra q) fun r s' hq => ?_)
    match r, hq with
    | .error e, hq => exact hx pins σ H1 s1 e s' I1 hq
    | .ok (.ret u), hq => exact I1.after hq⟩) he hpl) hdb)⟩
end
/-! ### repr of data -/
mutual
theorem dp_nd {K : PySem.W.Frag} {H : Hp} : ∀ {d : PyData} {v : V}, Dp K H v d → d.hasDict = false
  | _, _, .non => by simp only [PyData.hasDict]
  | _, _, .bl b => by simp only [PyData.hasDict]
  | _, _, .int i => by simp only [PyData.hasDict]
  | _, _, .str x => by simp only [PyData.hasDict]
  | _, _, .lst _ b => by simp only [PyData.hasDict]; exact dps_nd b
  | _, _, .tup _ b => by simp only [PyData.hasDict]; exact dps_nd b
theorem dps_nd {K : PySem.W.Frag} {H : Hp} : ∀ {ds : List PyData} {vs : List V}, DpAll K H vs ds → PyData.hasDictAll ds = false
  | _, _, .nil => by simp only [PyData.hasDictAll]
  | _, _, .cons a b => by simp only [PyData.hasDictAll, dp_nd a, dps_nd b, Bool.or_self]
end
def rRepr (K : PySem.W.Frag) : List V → Hp → VK → Prop := fun xs H Q => ∃ x d, xs = [x] ∧ Dp K H x d ∧ d.showable = true ∧ d.depth ≤ 60 ∧ d.shown.length ≤ 1000000 ∧ Q (.str d.shown) H
theorem call_reprG {X : Cx} (hG : X.A.guards = some []) (hu : X.A.units + 64 < cLine) : CallR X (.builtin "repr") (rRepr X.K) := by
  intro pins s σ H xs us Q I r ⟨x, d, e, hd, hs, hp, hz, q⟩
  subst e
  obtain ⟨u, rfl, rx⟩ := vals1 r
  have hz' : d.shown.length ≤ sizeLine := Nat.le_trans hz (by decide)
  have hn := dp_nd hd
  have fin : ∀ {a : Addr}, u = .ref a → wpAny (model X.prog X.w) X.A (call (.builtin "repr") [u]) (EP X pins σ Q) X.xe s := fun {a} e => by
    subst e
    obtain ⟨as, ra⟩ := Dp.reads I d x _ hd rx
    exact repr_of_reads' ra hs (PyData.noDict_hsm hn) hG (by omega) (fun _ _ e => e) (fun h' u tk hk => ⟨.str d.shown, H, I.kept (t' := tk) hk, ⟨u, rfl⟩, q⟩) hz'
  cases hd with
  | non =>
    obtain rfl : u = Value.none := rx
    simp only [PyData.shown] at q
    exact PySem.P.repr_of_none ⟨.str _, H, I.tok _, ⟨_, rfl⟩, q⟩
  | bl b =>
    obtain rfl : u = Value.bool b := rx
    simp only [PyData.shown] at q
    exact PySem.P.repr_of_bool ⟨.str _, H, I.tok _, ⟨_, rfl⟩, q⟩
  | int i =>
    obtain ⟨t, rfl⟩ := rx
    simp only [PyData.shown] at q
    refine PySem.P.repr_of_int ?_ ⟨.str _, H, I.tok _, ⟨_, rfl⟩, q⟩
    simpa only [PyData.showable, decide_eq_true_eq] using hs
  | str y =>
    obtain ⟨t, rfl⟩ := rx
    simp only [PyData.shown] at q hz'
    exact PySem.P.repr_of_str ⟨.str _, H, I.tok _, ⟨_, rfl⟩, q⟩ hz'
  | lst a b => exact fin rx
  | tup a b => exact fin rx
end Gd
namespace Gd
set_option autoImplicit false
open PySem PySem.Spec PyProof.Rows L2 LamX My
/-- the abstract heap at the law's call: the script where it isn't written, the empty tables -/
def scrO (vs : List Value) : Obj := { cls := .type "list", data := .seq vs.toArray }
def tabO : Obj := { cls := .none, data := .fields #[] }
open Classical in
noncomputable def H0 (K : PySem.W.Frag) (a : Addr) (vs : List Value) (ns : List Int) (ts : List Addr) : Hp := fun b => if b ∈ ts then some (.tbl #[]) else if b = a ∧ K.lookup a = none then some (.frz (scrO vs) (.lst (ns.map V.int))) else none
theorem H0_t {K : PySem.W.Frag} {a : Addr} {vs : List Value} {ns : List Int} {ts : List Addr} {b : Addr} (h : b ∈ ts) : H0 K a vs ns ts b = some (.tbl #[]) := if_pos h
theorem H0_some {K : PySem.W.Frag} {a : Addr} {vs : List Value} {ns : List Int} {ts : List Addr} {b : Addr} {u : HO} (h : H0 K a vs ns ts b = some u) : (b ∈ ts ∧ u = .tbl #[]) ∨ (b = a ∧ K.lookup a = none ∧ u = .frz (scrO vs) (.lst (ns.map V.int))) := by
  unfold H0 at h
  split at h
  · rename_i q
    exact .inl ⟨q, (Option.some.inj h).symm⟩
  · split at h
    · rename_i q
      exact .inr ⟨q.1, q.2, (Option.some.inj h).symm⟩
    · cases h
section
variable {P : Program} {w : World} {K : PySem.W.Frag} {mg mb : Str → Option Value} {k : Nat} {fa a : Addr} {cs : List (Addr × Addr)} {fd : FuncData} {x : Str} {sp : Sp} {s1 : Shared} {vs : List Value} {ns : List Int}
theorem lawG (KX : K.In s1.heap) (hns : s1.heap.Ns mainGlobals mg) (hb : s1.heap.Ns builtinsNs mb) (hbb : ∀ x : Str, x ≠ "__name__" → mb x = bootBuiltins x) (hlim : s1.heap.NoLimit) (hgen : s1.gens = #[])
    (hT : ∀ p ∈ cs, s1.heap.get? p.2 = some tabO) (nT : ∀ p ∈ cs, K.lookup p.2 = none) (hC : ∀ p ∈ cs, PySem.W.CodeHd s1.heap p.1 p.2)
    (hbm : ∃ (bm : Addr) (ob : Obj), mg "__builtins__" = some (.ref bm) ∧ bm ≠ builtinsNs ∧ s1.heap.get? bm = some ob ∧ ob.cls = .type "module" ∧ ob.dict = some builtinsNs ∧ ob.data = .plain)
    (ha : s1.heap.get? a = some (scrO vs)) (hi : IntsAre vs ns) (hl : ns.length ≤ sizeLine) (hr : Room k callerA)
    (F : ∀ base : Heap, K.In base → base.Ns mainGlobals mg → (∀ p ∈ cs, TabB base mg p.1 p.2) → FnG P w K mg base k fa fd [x] sp) (hbind : ∀ (s : Shared) (u : Value), BindsTo s fd ⟨[u], []⟩ [(x, u)])
    (hsp : ∀ H : Hp, (∀ p ∈ cs, H p.2 = some (.tbl #[])) → SqL K H a (ns.map V.int) → sp [.ref a] H (fun v _ => v = .bl true) fun _ _ _ => False) :
    codeAny (model P w) callerA (.call (.ref fa) ⟨[.ref a], []⟩) (fun r s' => r = .ok (.ret (.bool true)) ∧ OldK s1.heap s'.heap ∧ s'.os = s1.os ∧ AllBare s'.gens) s1 := by
  let ts := cs.map (·.2)
  have tab : ∀ b ∈ ts, ∃ p ∈ cs, p.2 = b := fun b q => by
    obtain ⟨p, h1, h2⟩ := List.mem_map.mp q
    exact ⟨p, h1, h2⟩
  have inT : ∀ p ∈ cs, p.2 ∈ ts := fun p q => List.mem_map.mpr ⟨p, q, rfl⟩
  have tAt : ∀ b ∈ ts, s1.heap.get? b = some tabO := fun b q => by
    obtain ⟨p, h1, rfl⟩ := tab b q
    exact hT p h1
  have aT : a ∉ ts := fun q => by
    have := tAt a q
    rw [ha] at this
    exact nomatch congrArg Obj.data (Option.some.inj this)
  generalize hH : H0 K a vs ns ts = H
  have at1 : ∀ {b u}, H b = some u → (b ∈ ts ∧ u = .tbl #[]) ∨ (b = a ∧ K.lookup a = none ∧ u = .frz (scrO vs) (.lst (ns.map V.int))) := fun {b u} q => by
    rw [← hH] at q
    exact H0_some q
  have atT : ∀ p ∈ cs, H p.2 = some (.tbl #[]) := fun p q => by
    rw [← hH]
    exact H0_t (inT p q)
  -- what is neither a list of that kind nor a table is not tracked
  have free : ∀ {b : Addr} {o : Obj}, s1.heap.get? b = some o → (∀ us m, o.data ≠ .seq us m) → o.data ≠ .fields #[] → H b = none := fun {b o} e n1 n2 => by
    cases q : H b with
    | none => rfl
    | some u =>
      rcases at1 q with ⟨h1, _⟩ | ⟨h1, _⟩
      · have := tAt b h1
        rw [e] at this
        exact absurd (congrArg Obj.data (Option.some.inj this)) n2
      · rw [h1, ha] at e
        exact absurd (congrArg Obj.data (Option.some.inj e)).symm (n1 _ _)
  have ground : ∀ {b : Addr} {m : Str → Option Value}, s1.heap.Ns b m → (hidT s1.heap H).Ns b m := fun {b m} h => by
    obtain ⟨o, es, ep, e, d, r⟩ := h
    exact ⟨o, es, ep, hidT_get e (free e (fun us m z => by rw [d] at z; cases z) fun z => by rw [d] at z; cases z), d, r⟩
  have KB : K.In (hidT s1.heap H) := fun b o e => hidT_get (KX b o e) <| by
    cases q : H b with
    | none => rfl
    | some u =>
      rcases at1 q with ⟨h1, _⟩ | ⟨h1, h2, _⟩
      · obtain ⟨p, hp, rfl⟩ := tab b h1
        rw [nT p hp] at e
        cases e
      · rw [h1, h2] at e
        cases e
  have TB : ∀ p ∈ cs, TabB (hidT s1.heap H) mg p.1 p.2 := fun p hp => by
    have t1 := hT p hp
    have gne : mainGlobals ≠ p.2 := fun z => by
      obtain ⟨o, es, ep, e, hd, _⟩ := hns
      rw [z, t1] at e
      cases e
      cases hd
    refine ⟨?_, ?_, gne⟩
    · obtain ⟨o, us, fi, tf, fl, tg, inF, tx, tt, e1, r1, r2, r3, rest⟩ := hC p hp
      exact ⟨o, us, fi, tf, fl, tg, inF, tx, tt, hidT_get e1 (free e1 (fun us m z => by rw [r2] at z; cases z) fun z => by rw [r2] at z; cases z; simp at r3), r1, r2, r3, rest⟩
    · obtain ⟨bm, ob, b1, b2, b3, b4, b5, b6⟩ := hbm
      refine ⟨bm, ob, b1, b2, fun z => ?_, fun z => ?_, hidT_get b3 (free b3 (fun us m z => by rw [b6] at z; cases z) fun z => by rw [b6] at z; cases z), b4, b5, b6⟩
      · obtain ⟨o, es, ep, e, hd, _⟩ := hns
        rw [← z, b3] at e
        cases e
        rw [b6] at hd
        cases hd
      · rw [z, t1] at b3
        cases b3
        cases b6
  have rv := vals_ints hi
  have hvs := hi.length
  have sq : SqL K H a (ns.map V.int) := by
    cases q : K.lookup a with
    | none => exact .inl (.inr ⟨scrO vs, by rw [← hH]; exact (if_neg aT).trans (if_pos ⟨rfl, q⟩)⟩)
    | some o =>
      have e := KX a o q
      rw [ha] at e
      cases e
      exact .inr ⟨scrO vs, vs.toArray, _, q, rfl, rfl, rfl, by rw [List.size_toArray, hvs]; exact hl, by simpa using rv⟩
  have hok : HOk P w H s1.heap := fun b u q => by
    rcases at1 q with ⟨h1, rfl⟩ | ⟨rfl, _, rfl⟩
    · exact tAt b h1
    · exact ⟨ha, by rw [List.length_map]; exact hl, vs, _, rv, ha⟩
  have env : Env0 P w K mg (hidT s1.heap H) callerA [] s1 H := ⟨rfl, ⟨KB, ground hns, ⟨mb, ground hb, hbb⟩, (let ⟨mc, h1, h2⟩ := hlim; ⟨mc, ground h1, h2⟩)⟩, fun b o e => of_hidT e, Nat.le_of_eq (hidT_size _ _), trivial, fun b z => (nomatch z), hok, .of_eq hgen⟩
  refine codeAny_mono ((F _ KB (ground hns) TB).run callerA [] s1 H ⟨[.ref a], []⟩ [.ref a] [.ref a] _ _ hr rfl env (hbind s1 (.ref a)) (.cons rfl .nil) (hsp H atT sq)) fun r s' h => ?_
  match r, h with
  | .ok (.ret u), h =>
    obtain ⟨v, H', os, bare, un, hok', r', q⟩ := h
    obtain rfl : v = .bl true := q
    obtain rfl : u = Value.bool true := r'
    have more : ∀ b ∈ ts, ∃ m : Array Value, s'.heap.get? b = some { cls := .none, data := .fields m } := fun b hb => by
      obtain ⟨p, hp, rfl⟩ := tab b hb
      obtain ⟨m, z⟩ := un.tbls _ #[] (atT p hp)
      exact ⟨_, hok' _ _ z⟩
    have stay : ∀ b o, b ∉ ts → s1.heap.get? b = some o → s'.heap.get? b = some o := fun b o nb e => by
      cases q : H b with
      | none => exact un.keep b o e q (fun z => (nomatch z)) (fun z => (nomatch z))
      | some u =>
        rcases at1 q with ⟨h1, _⟩ | ⟨_, _, rfl⟩
        · exact absurd h1 nb
        · have e1 := (hok b _ q).1
          have e2 := (hok' b _ (un.frzs b _ _ q)).1
          rw [e1] at e
          cases e
          exact e2
    refine ⟨rfl, ⟨fun b o e => ?_, fun b o e => ?_⟩, os, bare⟩
    · by_cases hbt : b ∈ ts
      · obtain ⟨m, hm⟩ := more b hbt
        obtain ⟨p, hp, rfl⟩ := tab b hbt
        have t1 := hT p hp
        rw [t1] at e
        cases e
        exact .inr (.inl ⟨((hC p hp).tab t1).isCodeTable, rfl, #[], m, rfl, by rw [Array.empty_append]; exact hm⟩)
      · exact .inl (stay b o hbt e)
    · by_cases hbt : b ∈ ts
      · exact let ⟨m, hm⟩ := more b hbt; ⟨_, hm⟩
      · exact ⟨o, stay b o hbt e⟩
/-- what the end asks, at the head's heap -/
def LawAtG (l : PySem.W.OpenLaw) (w : World) (K : PySem.W.Frag) (k n : Nat) (x : Str) (mg : Str → Option Value) (fa : Addr) (h : Heap) : Prop :=
  ∃ (fd : FuncData) (cs : List (Addr × Addr)) (sp : Sp), (∀ p ∈ cs, h.get? p.2 = some tabO) ∧ (∀ p ∈ cs, K.lookup p.2 = none) ∧ (∀ p ∈ cs, PySem.W.CodeHd h p.1 p.2) ∧ (∀ (s : Shared) (u : Value), BindsTo s fd ⟨[u], []⟩ [(x, u)]) ∧
    (∀ (H : Hp) (a : Addr) (ns : List Int), ns.length ≤ n → (∀ z ∈ ns, Builtin.Int.intBits z ≤ 1048576) → (∀ p ∈ cs, H p.2 = some (.tbl #[])) → SqL K H a (ns.map V.int) → sp [.ref a] H (fun v _ => v = .bl true) fun _ _ _ => False) ∧
    ∀ base : Heap, K.In base → base.Ns mainGlobals mg → (∀ p ∈ cs, TabB base mg p.1 p.2) → FnG l.prog w K mg base k fa fd [x] sp
theorem walkG {l : PySem.W.OpenLaw} {n k : Nat} {q : Program} {loose : List Str} {XP : (Str → Option Value) → Heap → Prop} {YP : World → Heap → Prop} {d : DefRec} {K : Params → PySem.W.Frag} {x : Str} (hn : l.most = some n) (hn2 : n ≤ sizeLine) (hdf : d.params.defaults = []) (hr : Room k callerA)
    (hY : ∀ (w : World) (h : Heap), YP w h → (K w.params).In h) (F : ∀ (w : World) (mg : Str → Option Value) (fa : Addr) (h : Heap), YP w h → (K w.params).In h → h.Ns mainGlobals mg → mg d.name = some (.ref fa) → LawAtG l w (K w.params) k n x mg fa h) :
    PySem.W.WalkO q loose XP YP l.row.toRowW d [] (fun f vs => PySem.call f vs) :=
  Att.attach_callB hn hdf fun w _ _ mg _ fa _ _ _ _ a _ ns G Y _ _ _ hmg hobj hints hlen hbits hg => by
    obtain ⟨fd, cs, sp, hT, nT, C, hb, hsp, hF⟩ := F w mg fa _ Y (hY w _ Y) G.T.g hmg
    exact lawG (hY w _ Y) G.T.g G.T.b G.T.builtins G.T.nolimit hg hT nT C G.T.bmain hobj hints (Nat.le_trans hlen hn2) hr hF hb fun H hH hS => hsp H a ns hlen hbits hH hS
end
end Gd
namespace Gd
set_option autoImplicit false
open PySem PySem.Spec PyProof.Rows L2 LamX My Evl
/-! ### how long what repr tells is -/
theorem all_len {ds : List PyData} {m : Nat} (h : ∀ d ∈ ds, d.shown.length ≤ m) : ((PyData.shownAll ds).map (·.length)).sum ≤ ds.length * m ∧ (PyData.shownAll ds).length = ds.length := by
  induction ds with
  | nil => simp [PyData.shownAll]
  | cons d ds ih =>
    obtain ⟨h1, h2⟩ := ih fun e he => h e (List.mem_cons_of_mem _ he)
    simp only [PyData.shownAll, List.map_cons, List.sum_cons, List.length_cons, h2, Nat.add_mul]
    have := h d List.mem_cons_self
    refine ⟨by omega, trivial⟩
theorem shown_lst {ds : List PyData} {m : Nat} (h : ∀ d ∈ ds, d.shown.length ≤ m) : (PyData.list ds).shown.length ≤ ds.length * (m + 2) + 3 := by
  simp only [PyData.shown]
  have h1 := listText_len_le (PyData.shownAll ds)
  obtain ⟨h2, h3⟩ := all_len h
  rw [h3] at h1
  rw [Nat.mul_add]
  omega
theorem shown_tup {ds : List PyData} {m : Nat} (h : ∀ d ∈ ds, d.shown.length ≤ m) : (PyData.tuple ds).shown.length ≤ ds.length * (m + 2) + 3 := by
  simp only [PyData.shown]
  have h1 := tupleText_len_le (PyData.shownAll ds)
  obtain ⟨h2, h3⟩ := all_len h
  rw [h3] at h1
  rw [Nat.mul_add]
  omega
section
variable {te : TE} {σ : L2.St} {B : Hp} {K : PySem.W.Frag} {d : PyData}
/-- repr of what is known -/
theorem ev_repr (h : EvP te σ B (IsD K d)) (hs : d.showable = true) (hp : d.depth ≤ 60) (hz : d.shown.length ≤ 1000000) : Ev (tCB (rRepr K) (tCons te tNil)) σ B (.str d.shown) := fun H1 a Q k =>
  h H1 a _ fun v B2 H2 g x => ⟨v, d, rfl, dp_m g.c x, hs, hp, hz, k H2 g.a⟩
end
end Gd
namespace Gd
set_option autoImplicit false
open PySem PySem.Spec PyProof.Rows L2 LamX My
section
variable {X : Cx} {k n : Nat} {f : Addr} {fd : FuncData} {ps ks : List Str} {sp : Sp} {E : XK} {x : Str} {p pos : Pos} {kws : List Keyword} {tk : TA} {g : List Value → List Value → List Value} {gV : List V → List V → List V}
end
section
variable {K : PySem.W.Frag} {x qual : Str} {st : Stmt} {f : Addr} {fd : FuncData} {ps ks : List Str} {n : Nat}
end
end Gd
namespace Gd
set_option autoImplicit false
open PySem PySem.Spec PyProof.Rows L2 My HT
section
variable {prog : Program} {w : World} {A : Around} {E : Value → Shared → Prop} {s : Shared}
end
/-! ### t[::-1] of a tuple -/
end Gd
namespace Nd
set_option autoImplicit false
open PySem PySem.Spec PyProof.Rows L2 My
/-! ### data as keys -/
mutual
def nk : PyData → NestedKey
  | .none => .none
  | .bool b => .num (if b = true then 1 else 0)
  | .int i => .num i
  | .str x => .text x
  | .tuple ds => .tup (nkAll ds)
  | .list _ => .none
  | .dict _ => .none
def nkAll : List PyData → List NestedKey
  | [] => []
  | d :: ds => nk d :: nkAll ds
end
mutual
def keyish : PyData → Bool
  | .none => true
  | .bool _ => true
  | .int _ => true
  | .str _ => true
  | .tuple ds => keyishAll ds
  | .list _ => false
  | .dict _ => false
def keyishAll : List PyData → Bool
  | [] => true
  | d :: ds => keyish d && keyishAll ds
end
section
variable {X : Cx} {pins : List (Addr × Obj)} {σ : L2.St} {H : Hp} {s : Shared}
mutual
theorem dp_nk (I : Inv X pins σ H s) : ∀ {d : PyData} {v : V} {u : Value}, Dp X.K H v d → keyish d = true → RelV v u → NestedIs s.heap (nk d) u
  | _, _, u, .non, _, r => by
    obtain rfl : u = Value.none := r
    simp only [nk]
    exact .none
  | _, _, u, .bl b, _, r => by
    obtain rfl : u = Value.bool b := r
    simp only [nk]
    exact .bool rfl
  | _, _, u, .int i, _, r => by
    obtain ⟨t, rfl⟩ := r
    simp only [nk]
    exact .int i t
  | _, _, u, .str x, _, r => by
    obtain ⟨t, rfl⟩ := r
    simp only [nk]
    exact .text x t
  | _, _, u, .lst _ _, h, _ => by simp [keyish] at h
  | _, _, u, .tup (a := a) x y, h, r => by
    obtain rfl : u = Value.ref a := r
    obtain ⟨its, rv, ⟨o, h1, h2, n, h3⟩, _⟩ := I.tuple x
    simp only [nk]
    simp only [keyish] at h
    exact .tup h1 h2 h3 (by simpa using dps_nk I y h rv)
theorem dps_nk (I : Inv X pins σ H s) : ∀ {ds : List PyData} {vs : List V} {us : List Value}, DpAll X.K H vs ds → keyishAll ds = true → Vals vs us → NestedAll s.heap (nkAll ds) us
  | _, _, [], .nil, _, .nil => by
    simp only [nkAll]
    exact .nil
  | _, _, _ :: _, .cons a b, h, .cons r1 r2 => by
    simp only [keyishAll, Bool.and_eq_true] at h
    simp only [nkAll]
    exact .cons (dp_nk I a h.1 r1) (dps_nk I b h.2 r2)
end
end
/-! ### a dict by such keys -/
abbrev NV := NestedKey × Addr × V
def lay : List NV → List Value → List (NestedKey × Addr × Value)
  | [], _ => []
  | _ :: _, [] => []
  | x :: xs, u :: us => (x.1, x.2.1, u) :: lay xs us
theorem lay_keys : ∀ {xs : List NV} {us : List Value}, xs.length = us.length → (lay xs us).map (·.1) = xs.map (·.1)
  | [], [], _ => rfl
  | _ :: _, _ :: _, h => congrArg (_ :: ·) (lay_keys (by simpa using h))
theorem lay_len : ∀ {xs : List NV} {us : List Value}, xs.length = us.length → (lay xs us).length = xs.length
  | [], [], _ => rfl
  | _ :: _, _ :: _, h => congrArg Nat.succ (lay_len (by simpa using h))
theorem lay_mem : ∀ {xs : List NV} {us : List Value} {y : NestedKey × Addr × Value}, y ∈ lay xs us → ∃ x ∈ xs, x.1 = y.1 ∧ x.2.1 = y.2.1
  | [], us, y, h => by simp [lay] at h
  | x :: xs, [], y, h => by simp [lay] at h
  | x :: xs, u :: us, y, h => by
    rcases List.mem_cons.mp h with rfl | h
    · exact ⟨x, List.mem_cons_self, rfl, rfl⟩
    · obtain ⟨z, hz, e⟩ := lay_mem h
      exact ⟨z, List.mem_cons_of_mem _ hz, e⟩
theorem vlen {xs : List NV} {us : List Value} (r : Vals (xs.map (·.2.2)) us) : xs.length = us.length := by
  have := r.length
  rw [List.length_map] at this
  exact this
/-- what stands at a key -/
def look (xs : List NV) (k : NestedKey) : Option V := (xs.find? fun x => decide (x.1 = k)).map (·.2.2)
def hasN (xs : List NV) (k : NestedKey) : Bool := xs.any fun x => decide (x.1 = k)
def putN (xs : List NV) (k : NestedKey) (a : Addr) (v : V) : List NV := if hasN xs k then xs.map fun x => if x.1 = k then (x.1, x.2.1, v) else x else xs ++ [(k, a, v)]
theorem at_lay {k : NestedKey} : ∀ {xs : List NV} {us : List Value}, Vals (xs.map (·.2.2)) us → (atKey (lay xs us) k).isSome = hasN xs k ∧ (∀ v, look xs k = some v → ∃ b u, atKey (lay xs us) k = some (b, u) ∧ RelV v u) ∧ (look xs k = none → atKey (lay xs us) k = none)
  | [], [], _ => ⟨rfl, fun v h => by simp [look] at h, fun _ => rfl⟩
  | x :: xs, u :: us, r => by
    cases r with
    | cons r1 r2 =>
      obtain ⟨h1, h2, h3⟩ := at_lay (k := k) (xs := xs) (us := us) r2
      unfold atKey hasN look at *
      simp only [lay, List.find?_cons, List.any_cons]
      by_cases e : x.1 = k
      · simp only [e, decide_true, Bool.true_or]
        refine ⟨rfl, fun v hv => ?_, fun h => by simp at h⟩
        simp only [Option.map_some, Option.some.injEq] at hv
        subst hv
        exact ⟨_, _, rfl, r1⟩
      · simp only [e, decide_false, Bool.false_or]
        exact ⟨h1, h2, h3⟩
theorem lay_app {xs ys : List NV} : ∀ {us ws : List Value}, xs.length = us.length → lay (xs ++ ys) (us ++ ws) = lay xs us ++ lay ys ws := by
  induction xs with
  | nil =>
    intro us ws h
    match us, h with
    | [], _ => rfl
  | cons x xs ih =>
    intro us ws h
    match us, h with
    | u :: us, h => exact congrArg (_ :: ·) (ih (by simpa using h))
theorem lay_put {k : NestedKey} {v : V} {u : Value} (rv : RelV v u) : ∀ {xs : List NV} {us : List Value}, Vals (xs.map (·.2.2)) us → ∃ ws, Vals ((xs.map fun x => if x.1 = k then (x.1, x.2.1, v) else x).map (·.2.2)) ws ∧ (lay xs us).map (putAt k u) = lay (xs.map fun x => if x.1 = k then (x.1, x.2.1, v) else x) ws
  | [], [], _ => ⟨[], .nil, rfl⟩
  | x :: xs, w :: us, r => by
    cases r with
    | cons r1 r2 =>
      obtain ⟨ws, h1, h2⟩ := lay_put (k := k) rv (xs := xs) (us := us) r2
      by_cases e : x.1 = k
      · refine ⟨u :: ws, ?_, ?_⟩
        · simp only [List.map_cons, if_pos e]
          exact .cons rv h1
        · simp only [lay, List.map_cons, if_pos e, putAt, h2]
      · refine ⟨w :: ws, ?_, ?_⟩
        · simp only [List.map_cons, if_neg e]
          exact .cons r1 h1
        · simp only [lay, List.map_cons, if_neg e, putAt, h2]
def DNf (P : Program) (w : World) (d : Addr) (xs : List NV) : Heap → Prop := fun h => (d == sysModules) = false ∧ xs.length ≤ sizeLine ∧ ∃ (us : List Value) (o : Obj) (es : Array DictEntry) (ep : Nat), Vals (xs.map (·.2.2)) us ∧ h.get? d = some o ∧ o.ExactDict ∧ o.data = .dict es ep ∧ es.toList = (lay xs us).map (entryOfKey (nestedKind P w)) ∧ (xs.map (·.1)).Nodup
/-- a dict by nested keys, in the order of insertion -/
def DN (P : Program) (w : World) (d : Addr) (xs : List NV) : HO := .ext (DNf P w d xs)
theorem dn_ok {P : Program} {w : World} {H : Hp} {h : Heap} {d : Addr} {xs : List NV} (R : DNf P w d xs h) : ObjOk P w H h d (DN P w d xs) :=
  ⟨R, (let ⟨_, _, _, o, _, _, _, e, _⟩ := R; ⟨o, e⟩), fun h1 h2 ⟨z1, z2, us, o, es, ep, a, b, c⟩ k => ⟨z1, z2, us, o, es, ep, a, k o b, c⟩⟩
/-- the object at a is such a key -/
def KeyAt (K : PySem.W.Frag) (H : Hp) (a : Addr) (k : NestedKey) : Prop := ∃ d, Dp K H (.ref a) d ∧ keyish d = true ∧ nk d = k ∧ k.depth ≤ 8
def KeysOk (K : PySem.W.Frag) (H : Hp) (xs : List NV) : Prop := ∀ x ∈ xs, KeyAt K H x.2.1 x.1
theorem KeyAt.ex {K : PySem.W.Frag} {H H' : Hp} {a : Addr} {k : NestedKey} (h : KeyAt K H a k) (e : Evl.Ex H H') : KeyAt K H' a k := let ⟨d, x, y⟩ := h; ⟨d, dp_m e x, y⟩
theorem KeysOk.ex {K : PySem.W.Frag} {H H' : Hp} {xs : List NV} (h : KeysOk K H xs) (e : Evl.Ex H H') : KeysOk K H' xs := fun x hx => (h x hx).ex e
section
variable {X : Cx} {pins : List (Addr × Obj)} {σ : L2.St} {H : Hp} {s : Shared} {d a : Addr} {xs : List NV} {k : NestedKey}
theorem key_is (I : Inv X pins σ H s) (h : KeyAt X.K H a k) : (nestedKind X.prog X.w).is s.heap k a := by
  obtain ⟨e, h1, h2, rfl, h4⟩ := h
  exact ⟨dp_nk I h1 h2 rfl, h4⟩
theorem dn_of (I : Inv X pins σ H s) (h : H d = some (DN X.prog X.w d xs)) (hk : KeysOk X.K H xs) : (d == sysModules) = false ∧ xs.length ≤ sizeLine ∧ ∃ us, Vals (xs.map (·.2.2)) us ∧ s.heap.DictOfH (nestedKind X.prog X.w) d (lay xs us) := by
  obtain ⟨z1, z2, us, o, es, ep, r, h1, h2, h3, h4, h5⟩ := (I.hok d _ h).1
  refine ⟨z1, z2, us, r, o, es, ep, h1, h2, h3, h4, fun y hy => ?_, by rw [lay_keys (vlen r)]; exact h5⟩
  obtain ⟨x, hx, e1, e2⟩ := lay_mem hy
  have := key_is I (hk x hx)
  rw [e1, e2] at this
  exact this
theorem dn_to {P : Program} {w : World} {h : Heap} {us : List Value} (z1 : (d == sysModules) = false) (z2 : xs.length ≤ sizeLine) (r : Vals (xs.map (·.2.2)) us) (m : h.DictOfH (nestedKind P w) d (lay xs us)) : DNf P w d xs h := by
  obtain ⟨o, es, ep, h1, h2, h3, h4, _, h5⟩ := m
  exact ⟨z1, z2, us, o, es, ep, r, h1, h2, h3, h4, by rw [← lay_keys (vlen r)]; exact h5⟩
/-- {} -/
def tDNewN (P : Program) (w : World) : TE := fun _ H Q => ∀ p, H p = none → Q (.ref p) (upd H p (DN P w p []))
theorem pe_dnewN {pos : Pos} : PE X (.Dict [] [] pos) (tDNewN X.prog X.w) := ⟨fun pins s σ H Q I h =>
  wpAny_Dict_empty ⟨.ref s.heap.objs.size, _, I.laid (a := s.heap.objs.size) (o := DN X.prog X.w s.heap.objs.size []) (t' := s.toks) (fun _ _ q => Heap.get?_push_of_some _ q) (Nat.le_refl _)
    (dn_ok (dn_to (us := []) (beq_eq_false_iff_ne.mpr (Nat.ne_of_gt I.big)) (by decide) .nil (Heap.DictOfH.new s.heap))), rfl, h _ (I.hok.fresh (Nat.le_refl _))⟩⟩
end
end Nd
namespace Nd
set_option autoImplicit false
open PySem PySem.Spec PyProof.Rows L2 My Evl
section
variable {X : Cx}
def rLeD (K : PySem.W.Frag) : R2 := fun x y H Q => ∃ d e, Dp K H x d ∧ Dp K H y e ∧ PySem.W.alike d e = true ∧ d ≠ .none ∧ min d.depth e.depth ≤ 50 ∧ Q (.bl (!PySem.W.dataLt e d)) H
theorem op_leD (hu : X.A.units + 65 < cLine) : OpR X (compareOp .LtE) (rLeD X.K) := by
  intro pins s σ H x y v u Q I rx ry ⟨d, e, hd, he, al, hn, hm, q⟩
  obtain ⟨as, r1⟩ := Dp.reads I d x v hd rx
  obtain ⟨bs, r2⟩ := Dp.reads I e y u he ry
  exact PySem.W.le_data r1 r2 al hn (by omega) ⟨.bl _, H, I, rfl, q⟩
end
section
variable {te ta tb : TE} {σ : L2.St} {B : Hp} {K : PySem.W.Frag} {d e : PyData}
theorem ev_leD (ha : EvP ta σ B (IsD K d)) (hb : EvP tb σ B (IsD K e)) (al : PySem.W.alike d e = true) (hn : d ≠ .none) (hm : min d.depth e.depth ≤ 50) : Ev (tOp (rLeD K) ta tb) σ B (.bl (!PySem.W.dataLt e d)) := fun H1 a Q k =>
  ha H1 a _ fun v B2 H2 g b => hb H2 (g.b.trans g.c) _ fun w B3 H3 g3 b3 => ⟨d, e, dp_m (g.c.trans g3.a) b, dp_m g3.c b3, al, hn, hm, k H3 (g.a.trans g3.a)⟩
end
end Nd
namespace Nd
set_option autoImplicit false
open PySem PySem.Spec PyProof.Rows L2 My Evl
/-! ### enumerate of a tuple -/
/-- an enumerate object over the iterator n, nothing drawn yet -/
abbrev enO (n : Addr) : Obj := { cls := .type "enumerate", data := .fields #[.none, .bool false, .ref n, rawInt 0, .none, .none] }
set_option maxHeartbeats 1000000 in
theorem en_new {v : Value} {o : Obj} {G : Heap → Prop} (B : Begins v o G) :
    Meets (Builtin.«enumerate.__new__» ⟨[.type "enumerate", v], []⟩) (fun _ R s => G s.heap ∧ R (.ok (.ret (.ref (s.heap.push o).objs.size))) { s with heap := (s.heap.push o).push (enO s.heap.objs.size) }) := .of_wp fun prog w A R s h => by
  obtain ⟨hp, gg, dd, tt, oo⟩ := s
  obtain ⟨h1, h2⟩ := h
  have sb := sub_enumerate
  have q1 : ∀ {A' : Around} {E Q : Value → Shared → Prop}, Q (.ref hp.objs.size) ⟨hp.push o, gg, dd, tt, oo⟩ → wpAny (model prog w) A' (pyIter v) Q E ⟨hp, gg, dd, tt, oo⟩ := fun q => B.iter prog w _ _ ⟨hp, gg, dd, tt, oo⟩ _ h1 q
  wp_walk using q1
  refine wpAny_stack_any fun st => wpAny_pure ?_
  split
  · rename_i c _ _ _ _ _
    cases (c == Value.type "enumerate") <;> (wp_walk using q1; exact ⟨_, rfl, h2⟩)
  · wp_walk using q1
    exact ⟨_, rfl, h2⟩
theorem en_call {P : Program} {w : World} {A : Around} {E : Value → Shared → Prop} {s : Shared} {v : Value} {o : Obj} {G : Heap → Prop} {Q : Value → Shared → Prop} (B : Begins v o G) (h1 : G s.heap)
    (h : ∀ h', IsEnum h' (s.heap.objs.size + 1) s.heap.objs.size 0 .none → h'.get? s.heap.objs.size = some o → (∀ b o, s.heap.get? b = some o → h'.get? b = some o) → Q (.ref (s.heap.objs.size + 1)) { s with heap := h' }) :
    wpAny (model P w) A (call (.type "enumerate") [v]) Q E s := by
  refine callType_new F.called_enumerate (by decide) (F.typeCall_enumerate_1 _) (F.newCall_enumerate_1 _) (fun x => F.args_object_init_2 x _) F.entry_enumerate_new (en_new B) ⟨h1, ?_⟩
  have z : (s.heap.push o).objs.size = s.heap.objs.size + 1 := Heap.size_push ..
  show _ ∧ _
  rw [z]
  have e : IsEnum ((s.heap.push o).push (enO s.heap.objs.size)) (s.heap.objs.size + 1) s.heap.objs.size 0 .none := by
    have := Heap.get?_push_size (s.heap.push o) (o := enO s.heap.objs.size) rfl
    rw [z] at this
    exact this
  exact ⟨⟨_, e, rfl⟩, h _ e (Heap.get?_push_of_some _ (Heap.get?_push_size _ B.free)) fun b o x => Heap.get?_push_of_some _ (Heap.get?_push_of_some _ x)⟩
/-- the tuple at a, each item in a new pair -/
def IteT (K : PySem.W.Frag) (a : Addr) : It :=
  ⟨fun i H => ∃ (xs : List V) (x : V), SqT K H a xs ∧ xs[i]? = some x,
   fun i H v H' => ∃ T x, v = .ref T ∧ H T = none ∧ H' = upd H T (.tup [.int (i : Nat), x]) ∧ ∀ xs, SqT K H a xs → xs[i]? = some x,
   fun i H => ∃ xs : List V, SqT K H a xs ∧ xs.length = i⟩
theorem tup_ne_it {h : Heap} {a it : Addr} {its : Array Value} {i : Nat} (p : h.IsTuple a its) (k : h.IsTupleIter it a i) : a ≠ it := by
  rintro rfl
  obtain ⟨o, h1, h2, _⟩ := p
  obtain ⟨o', k1, k2, _⟩ := k
  rw [h1] at k1
  cases k1
  rw [h2] at k2
  exact absurd k2 (by decide)
theorem tup_ne_en {h : Heap} {a e it : Addr} {its : Array Value} {i : Int} {old : Value} (p : h.IsTuple a its) (k : IsEnum h e it i old) : e ≠ a := by
  rintro rfl
  obtain ⟨o, h1, h2, _⟩ := p
  have k : h.get? e = some _ := k
  rw [h1] at k
  cases k
  have h2 : Value.type "enumerate" = Value.type "tuple" := h2
  injection h2 with z
  exact absurd z (by decide)
theorem turn_enT {P : Program} {w : World} {K : PySem.W.Frag} {elts : List Expr} {kk : Nat} {tpos : Pos} (a e it : Addr) :
    Turn P w K (.Tuple elts kk tpos) (IteT K a) [e, it] e (fun i h => (∃ old, IsEnum h e it ((i : Nat) : Int) old) ∧ h.IsTupleIter it a i ∧ e ≠ it) where
  mem := by simp
  obj := fun i h st b hb => by
    obtain ⟨⟨old, he⟩, ⟨o, ho, hc, hd⟩, _⟩ := st
    rcases (by simpa using hb : b = e ∨ b = it) with rfl | rfl
    · exact ⟨_, he, fun v q => nomatch q⟩
    · exact ⟨o, ho, fun v q => by rw [hd] at q; cases q⟩
  keep := fun i h h' st k => by
    obtain ⟨⟨old, he⟩, hi, hne⟩ := st
    exact ⟨⟨old, k e (by simp) _ he⟩, hi.at fun o q => k it (by simp) o q, hne⟩
  item := by
    intro X hP hw hK hc i pins s σ H E I hf st hg
    subst hP hw hK
    obtain ⟨⟨old, he⟩, hit, hne⟩ := st
    obtain ⟨xs, x, hq, hx⟩ := hg
    obtain ⟨its, rv, p, hz⟩ := I.tuple hq
    obtain ⟨u, hu, ru⟩ := rv.get hx
    have hel : e < s.heap.objs.size := Heap.lt_size he
    have hil : it < s.heap.objs.size := by
      obtain ⟨_, q, _⟩ := hit
      exact Heap.lt_size q
    have hit0 := hit
    refine wpAny_pyNext_enum_itemD (Draws.tuple (by exact I.ok.hd hc) it a (tup_ne_it p hit) its.toArray) he ⟨hit, p⟩ (i := i) (by
      have := (List.getElem?_eq_some_iff.mp hu).1
      simpa using this) hne (by simp [hne, tup_ne_en p he]) fun y h' tk hy ho hst' hT hsz hk => ?_
    obtain rfl : u = y := by
      have hy : its.toArray[i]? = some y := hy
      rw [List.getElem?_toArray, hu] at hy
      exact Option.some.inj hy
    refine ⟨_, rfl, wpAny_letOwnedTupleGo_enum (s := { s with heap := h', toks := tk + 1 }) ho fun h'' he' sb => ?_⟩
    have hT2 : h''.get? s.heap.objs.size = some { cls := .type "tuple", data := .seq #[.int i tk, u] } := (sb.2 _ (Nat.ne_of_gt hel)).trans hT
    have new : ObjOk X.prog X.w (upd H s.heap.objs.size (.tup [.int (i : Nat), x])) h'' s.heap.objs.size (.tup [.int (i : Nat), x]) :=
      ⟨by show 2 ≤ sizeLine; decide, [.int i tk, u], .cons ⟨_, rfl⟩ (.cons ru .nil), ⟨_, hT2, rfl, _, rfl⟩⟩
    have I1 : Inv X pins σ (upd H s.heap.objs.size (.tup [.int (i : Nat), x])) { s with heap := h'', toks := tk + 1 } :=
      I.turnedNew (ch := [e, it]) (fun b ob hb q => by
        have b1 : b ≠ e := fun z => hb (by simp [z])
        have b2 : b ≠ it := fun z => hb (by simp [z])
        exact (sb.2 b b1).trans (hk b ob b1 b2 q)) hf (Nat.le_refl _) new
    refine ⟨.ref s.heap.objs.size, _, I1, rfl, ⟨_, x, rfl, I.hok.fresh (Nat.le_refl _), rfl, fun ys hy => by rw [I.tuple_inj hy hq]; exact hx⟩, ⟨⟨u, ?_⟩, hst'.1.at fun o q => (sb.2 it (Ne.symm hne)).trans q, hne⟩, fun b hb => ?_⟩
    · rw [show ((i + 1 : Nat) : Int) = (i : Int) + 1 by omega]
      exact he'
    · have hb' : b < s.heap.objs.size := by
        rcases (by simpa using hb : b = e ∨ b = it) with rfl | rfl
        · exact hel
        · exact hil
      rw [upd_ne (Nat.ne_of_lt hb')]
      exact (hf b hb).1
  done := by
    intro X hP hw hK hc i pins s σ H E I hf st hg
    subst hP hw hK
    obtain ⟨⟨old, he⟩, hit, hne⟩ := st
    obtain ⟨xs, hq, rfl⟩ := hg
    obtain ⟨its, rv, p, hz⟩ := I.tuple hq
    obtain ⟨f0, f1, f2, f3, f4, f5⟩ := hf it (by simp)
    have hl := rv.length
    refine wpAny_pyNext_enum_endD (Draws.tuple (by exact I.ok.hd hc) it a (tup_ne_it p hit) its.toArray) he ⟨by rw [show its.toArray.size = xs.length by simp [hl]]; exact hit, p⟩ fun h' eb => ⟨rfl, I.turned (t' := s.toks) (fun b o hb q => eb b o hb q) f0 f1 f3 f4 f5⟩
  self := fun A i s Q E st h => by
    obtain ⟨⟨_, he⟩, _⟩ := st
    exact wpAny_pyIter_enum he h
def iEnumT (K : PySem.W.Frag) (ta : TA) : TI := fun σ H R => ta σ H fun vs H1 => ∃ a xs, vs = [.ref a] ∧ SqT K H1 a xs ∧ R (IteT K a) H1
theorem pi_enumT {X : Cx} {e : Expr} {ta : TA} {p pos tpos : Pos} {elts : List Expr} {kk : Nat} (hg : Gl X "enumerate") (hm : X.mg "enumerate" = none) (ha : PA X [e] ta) (hs : starEach [e] X.env = [(false, eval e X.env)] := by rfl) :
    PI X (.Tuple elts kk tpos) (.Call (.Name "enumerate" p) [e] [] pos) (iEnumT X.K ta) := by
  refine ⟨fun pins s σ H R I h => ?_⟩
  refine Call_ (ld_blt I hg hm boot_enumerate (PyProof.Rows.callWith_type1 (thn (ha.run pos pins s σ H _ I h) fun us s1 ⟨vs, H1, I1, r1, q1⟩ => ?_) hs rfl))
  obtain ⟨a, xs, rfl, hq, q⟩ := q1
  cases r1 with
  | cons r rr =>
    cases rr
    cases r
    obtain ⟨its, rv, p', hz⟩ := I1.tuple hq
    refine en_call (begins_tuple a its.toArray) p' fun h' he ho hk => wpAny_pyIter_enum he ?_
    have I2 : Inv X pins σ H1 { s1 with heap := h' } := I1.kept (t' := s1.toks) hk
    refine ⟨s1.heap.objs.size + 1, [s1.heap.objs.size + 1, s1.heap.objs.size], _, _, H1, rfl, I2, turn_enT a (s1.heap.objs.size + 1) s1.heap.objs.size, ⟨⟨.none, he⟩, ⟨_, ho, rfl, rfl⟩, Nat.succ_ne_self _⟩, fun b hb => ?_, q⟩
    have hle : s1.heap.objs.size ≤ b := by
      rcases (by simpa using hb : b = s1.heap.objs.size + 1 ∨ b = s1.heap.objs.size) with z | z
      · rw [z]
        exact Nat.le_succ _
      · rw [z]
        exact Nat.le_refl _
    exact I1.fpOk hle (I1.hok.fresh hle)
theorem walk_enT {K : PySem.W.Frag} {a : Addr} {xs : List V} : Walk (IteT K a) xs.length (fun H => SqT K H a xs) (YPair (fun i => some (.int (i : Nat))) (fun i => xs[i]?)) := by
  refine ⟨fun i _ hi q => ⟨xs, xs[i], q, by simp [hi]⟩, fun _ q => ⟨xs, q, rfl⟩, fun i H v H' _ q y => ?_⟩
  obtain ⟨T, x, h1, h2, h3, h4⟩ := y
  exact ⟨T, .int (i : Nat), x, h1, h2, h3, rfl, h4 xs q⟩
/-- n pairs of a number and a thing of which P i is known -/
def SrcE (wi : TI) (σ : L2.St) (B : Hp) (n : Nat) (P : Nat → Pr) : Prop := ∀ H1, Ex B H1 → ∀ R : It → Hp → Prop, (∀ (J : It) (B' H2 : Hp) (G : Hp → Prop) (Y : Nat → Hp → V → Hp → Prop), Gr B H1 B' H2 → Walk J n G Y → (∀ H, Ex B' H → G H) →
  (∀ i H v H', i < n → Ex B' H → Y i H v H' → ∃ T x, v = .ref T ∧ H T = none ∧ H' = upd H T (.tup [.int (i : Nat), x]) ∧ (P i).P x B') → R J H2) → wi σ H1 R
section
variable {te : TE} {σ : L2.St} {B H : Hp} {ps : List Pr} {K : PySem.W.Frag} {D : Ends} {ta : TA}
theorem pair_of {xs : List V} {B' : Hp} (al : AllP ps xs B') {i : Nat} {H : Hp} {v : V} {H' : Hp} (y : YPair (fun i => some (.int (i : Nat))) (fun i => xs[i]?) i H v H') :
    ∃ T x, v = .ref T ∧ H T = none ∧ H' = upd H T (.tup [.int (i : Nat), x]) ∧ (ps.getD i (IsV .non)).P x B' := by
  obtain ⟨T, y1, x, h1, h2, h3, h4, h5⟩ := y
  obtain rfl : V.int (i : Nat) = y1 := Option.some.inj h4
  obtain ⟨p, hp, k2⟩ := al.get h5
  refine ⟨T, x, h1, h2, h3, ?_⟩
  rw [List.getD_eq_getElem?_getD, hp]
  exact k2
theorem one_of {p : Pr} {vs : List V} {B' : Hp} (h : AllP [p] vs B') : ∃ v, vs = [v] ∧ p.P v B' := by
  match vs, h with
  | [v], h => exact ⟨v, rfl, h.1⟩
theorem src_enT (h : EvPs ta σ B [TuP K ps]) : SrcE (iEnumT K ta) σ B ps.length (fun i => ps.getD i (IsV .non)) := fun H1 a R k => h H1 a _ fun vs B2 H2 g b => by
  obtain ⟨v, rfl, l, xs, rfl, hx, al⟩ := one_of b
  exact ⟨l, xs, rfl, ex_t g.c hx, k _ B2 H2 _ _ g (by rw [← al.len]; exact walk_enT) (fun H e => ex_t e hx) fun i H v H' _ e z => pair_of al z⟩
theorem src_enL (h : EvPs ta σ B [LqP K ps]) : SrcE (iEnum K ta) σ B ps.length (fun i => ps.getD i (IsV .non)) := fun H1 a R k => h H1 a _ fun vs B2 H2 g b => by
  obtain ⟨v, rfl, l, xs, rfl, hx, al⟩ := one_of b
  exact ⟨l, xs, rfl, ex_l g.c hx, k _ B2 H2 _ _ g (by rw [← al.len]; exact walk_enum) (fun H e => ex_l e hx) fun i H v H' _ e z => pair_of al z⟩
theorem ps_forE {wi : TI} {n : Nat} {P : Nat → Pr} {g : TG} {tbd : TS} (a : Ex B H) (h : SrcE wi σ B n P)
    (k : ∀ B1 H1, Gr B H B1 H1 → ∃ Pv : Nat → L2.St → Hp → Prop, Pv 0 σ H1 ∧ (∀ i σ' H', i ≤ n → Pv i σ' H' → Ex B1 H') ∧
      (∀ i v T σ' H', i < n → Pv i σ' H' → (P i).P v B1 → H' T = none → g (.ref T) σ' (upd H' T (.tup [.int (i : Nat), v])) fun σ2 H2 => tbd { D with nx := Pv (i + 1), ct := Pv (i + 1), bk := D.nx } σ2 H2) ∧ ∀ σ' H', Pv n σ' H' → D.nx σ' H') :
    tFor wi g tbd D σ H := h H a _ fun J B1 H1 G Y gr w hG hY => by
  obtain ⟨Pv, h0, hE, hs, hd⟩ := k B1 H1 gr
  refine for_it w Pv h0 (fun i σ' H' hi pv => hG H' (hE i σ' H' hi pv)) (fun i x σ' H' H2 hi pv y => ?_) hd
  obtain ⟨T, v, rfl, hT, rfl, px⟩ := hY i H' x H2 hi (hE i σ' H' (Nat.le_of_lt hi) pv) y
  exact hs i v T σ' H' hi pv px hT
end
end Nd
namespace Nd
set_option autoImplicit false
open PySem PySem.W L2 My Evl
/-! ### monomials, fractions, polynomials, chains -/
abbrev Mo := List (Dv × Int)
abbrev Fr := Int × Int
abbrev Po := List (Mo × Fr)
abbrev Ch := List (Dv × Po)
def pwD (x : Dv × Int) : PyData := .tuple [x.1.D, .int x.2]
def moD (m : Mo) : PyData := .tuple (m.map pwD)
def frD (f : Fr) : PyData := .tuple [.int f.1, .int f.2]
def tmD (t : Mo × Fr) : PyData := .tuple [moD t.1, frD t.2]
def poD (p : Po) : PyData := .tuple (p.map tmD)
def lkD (x : Dv × Po) : PyData := .tuple [x.1.D, poD x.2]
def chD (c : Ch) : PyData := .tuple (c.map lkD)
def pwP (K : PySem.W.Frag) (x : Dv × Int) : Pr := TuP K [DvP x.1, IsV (.int x.2)]
def moP (K : PySem.W.Frag) (m : Mo) : Pr := TuP K (m.map (pwP K))
def frP (K : PySem.W.Frag) (f : Fr) : Pr := TuP K [IsV (.int f.1), IsV (.int f.2)]
def tmP (K : PySem.W.Frag) (t : Mo × Fr) : Pr := TuP K [moP K t.1, frP K t.2]
def poP (K : PySem.W.Frag) (p : Po) : Pr := TuP K (p.map (tmP K))
def lkP (K : PySem.W.Frag) (x : Dv × Po) : Pr := TuP K [DvP x.1, poP K x.2]
def chP (K : PySem.W.Frag) (c : Ch) : Pr := TuP K (c.map (lkP K))
section
variable {K : PySem.W.Frag}
theorem to_dv (u : Dv) : To K (DvP u) u.D := fun _ _ h => dv_d h
theorem to_pw (x : Dv × Int) : To K (pwP K x) (pwD x) := to_tup (.cons (to_dv x.1) (.cons to_int .nil))
theorem to_mo (m : Mo) : To K (moP K m) (moD m) := to_tup (toAll_map m fun x => to_pw x)
theorem to_fr (f : Fr) : To K (frP K f) (frD f) := to_tup (.cons to_int (.cons to_int .nil))
theorem to_tm (t : Mo × Fr) : To K (tmP K t) (tmD t) := to_tup (.cons (to_mo t.1) (.cons (to_fr t.2) .nil))
theorem to_po (p : Po) : To K (poP K p) (poD p) := to_tup (toAll_map p fun x => to_tm x)
theorem to_lk (x : Dv × Po) : To K (lkP K x) (lkD x) := to_tup (.cons (to_dv x.1) (.cons (to_po x.2) .nil))
theorem to_ch (c : Ch) : To K (chP K c) (chD c) := to_tup (toAll_map c fun x => to_lk x)
end
/-! ### which are good -/
/-- each is less than what follows it, as Python compares -/
def Ups {α : Type} (f : α → PyData) (l : List α) : Prop := ∀ i (h : i + 1 < l.length), dataLt (f (l[i]'(Nat.lt_of_succ_lt h))) (f l[i + 1]) = true
structure MoOk (r : Rk) (m : Mo) : Prop where
  of : ∀ x ∈ m, x.1.Of r ∧ 0 < x.2
  up : Ups (fun x => x.1.D) m
structure FrOk (f : Fr) : Prop where
  bot : 0 < f.2
  low : Nat.gcd f.1.natAbs f.2.natAbs = 1
structure PoOk (r : Rk) (p : Po) : Prop where
  of : ∀ t ∈ p, MoOk r t.1 ∧ FrOk t.2 ∧ t.2.1 ≠ 0
  up : Ups (fun t => moD t.1) p
theorem alike_dv (u v : Dv) : alike u.D v.D = true := by simp [Dv.D, alike, alikeAll]
theorem alike_pw (x y : Dv × Int) : alike (pwD x) (pwD y) = true := by
  unfold pwD
  rw [alike, alikeAll, alikeAll, alikeAll, alike_dv]
  simp [alike]
theorem alike_map {α : Type} {f : α → PyData} (h : ∀ x y, alike (f x) (f y) = true) : ∀ l m : List α, alikeAll (l.map f) (m.map f) = true
  | [], _ => by rw [List.map_nil, alikeAll]
  | _ :: _, [] => by rw [List.map_nil, List.map_cons, alikeAll]
  | x :: l, y :: m => by rw [List.map_cons, List.map_cons, alikeAll, h x y, alike_map h l m, Bool.and_self]
theorem alike_mo (m n : Mo) : alike (moD m) (moD n) = true := by
  unfold moD
  rw [alike]
  exact alike_map alike_pw m n
theorem deep_dv (u : Dv) : u.D.depth = 1 := by simp [Dv.D, PyData.depth, PyData.depthAll]
theorem deep_pw (x : Dv × Int) : (pwD x).depth = 2 := by simp [pwD, PyData.depth, PyData.depthAll, deep_dv]
theorem deep_map {α : Type} {f : α → PyData} {n : Nat} (h : ∀ x, (f x).depth ≤ n) : ∀ l : List α, PyData.depthAll (l.map f) ≤ n
  | [] => by rw [List.map_nil, PyData.depthAll]; exact Nat.zero_le _
  | x :: l => by
    rw [List.map_cons, PyData.depthAll]
    exact Nat.max_le.mpr ⟨h x, deep_map h l⟩
theorem deep_mo (m : Mo) : (moD m).depth ≤ 3 := by
  unfold moD
  rw [PyData.depth]
  have := deep_map (f := pwD) (n := 2) (fun x => Nat.le_of_eq (deep_pw x)) m
  omega
section
variable {te ta tb : TE} {σ : L2.St} {B H : Hp} {ps : List Pr} {K : PySem.W.Frag}
theorem ev_gcd {i j : Int} (ha : Ev ta σ B (.int i)) (hb : Ev tb σ B (.int j)) : Ev (tCB rGcd (tCons ta (tCons tb tNil))) σ B (.int ((Nat.gcd i.natAbs j.natAbs : Nat) : Int)) := fun H1 e Q q =>
  ha H1 e _ fun H2 e2 => hb H2 (e.trans e2) _ fun H3 e3 => ⟨i, j, rfl, q H3 (e2.trans e3)⟩
theorem src_tu (h : EvP te σ B (TuP K ps)) : Src (iTup K te) σ B ps.length (fun i => ps.getD i (IsV .non)) := fun H1 a R k => h H1 a _ fun v B2 H2 g b => by
  obtain ⟨l, xs, rfl, hx, al⟩ := b
  refine ⟨l, rfl, ⟨xs, ex_t g.c hx⟩, k _ B2 H2 _ _ g (by rw [← al.len]; exact walk_tup) (fun H e => ex_t e hx) fun i H v H' _ e (z : H' = H ∧ _) => ⟨z.1, ?_⟩⟩
  have z2 : xs[i]? = some v := z.2
  obtain ⟨p, hp, k2⟩ := al.get z2
  show (ps.getD i (IsV .non)).P v B2
  rw [List.getD_eq_getElem?_getD, hp]
  exact k2
theorem getD_map {α : Type} {f : α → Pr} {l : List α} {i : Nat} (h : i < l.length) : (l.map f).getD i (IsV .non) = f l[i] := by
  rw [List.getD_eq_getElem?_getD, List.getElem?_map, List.getElem?_eq_getElem h]
  rfl
end
/-! ### promises of defs -/
end Nd
namespace Nd
set_option autoImplicit false
open PySem PySem.Spec PySem.W PySem.Calls PyProof.Rows L2 My Evl
theorem each_zip {R : Value → PyData → Prop} : ∀ {vs : List Value} {ks : List PyData} {xs : List V}, EachIs R vs ks → ks.length = xs.length → EachIs (fun v (p : V × PyData) => R v p.2) vs (xs.zip ks)
  | _, _, [], .nil, _ => .nil
  | _, _, [], .cons _ _, h => by simp at h
  | _, _, _ :: _, .nil, h => by simp at h
  | _, _, _ :: _, .cons a b, h => .cons a (each_zip b (by simpa using h))
section
variable {X : Cx} {pins : List (Addr × Obj)} {σ : L2.St} {H : Hp} {s : Shared} {A : Around} {E : Value → Shared → Prop}
/-- sorted(d) of a dict by tuples -/
theorem sorted_dict0 {d : Addr} {ks : List PyData} {as : List Addr} {Q : VK} (I : Inv X pins σ H s) (hh : A.in1.handled = none) {o : Obj} {es : Array DictEntry} {ep : Nat} (lo : (d == sysModules) = false)
    (ho : s.heap.get? d = some o) (ex : o.ExactDict) (hd : o.data = .dict es ep) (hes : es.toList.map (·.key) = as.map Value.ref) (hz : as.length ≤ sizeLine)
    (hl : ks.length = as.length) (hal : AllAlike ks) (hsk : Sortable ks) (hu : ∀ d, d ∈ ks → A.units + 2 + d.depth < cLine) (dp : DpAll X.K H (as.map V.ref) ks)
    (q : ∀ a, H a = none → Q (.ref a) (upd H a (.lst (byKey (as.map V.ref) ks)))) :
    wpAny (model X.prog X.w) A (call (.builtin "sorted") [.ref d]) (EP X pins σ Q) E s := by
  have hsz : es.size = as.length := by simpa using congrArg List.length hes
  refine call_function_entry_kw kind_sorted plain_sorted entry_sorted (args_sorted1 _) ?_
  unfold Builtin.«sorted»
  refine wpAny_bind (m := checkCount "sorted" 1 1 _) (wpAny_pure ?_)
  refine wpAny_bind (kdu_collect (A := A.in1) (KdlSrc.rawDict (es := es) (ep := ep) lo) hh ⟨o, ho, ex, hd⟩ (by omega) fun h1 tk acc hk hacc => ?_)
  have hA : acc.toList = as.map Value.ref := by
    apply List.ext_getElem?
    intro i
    by_cases hi : i < as.length
    · have hi2 : i < acc.size := by rw [hacc.1]; omega
      obtain ⟨hi3, e⟩ := hacc.2 i acc[i] (by rw [Array.getElem?_eq_getElem hi2])
      have e2 : (es.toList.map (·.key))[i]? = some es[i].key := by
        rw [List.getElem?_map, List.getElem?_eq_getElem (by simpa using hi3)]
        simp
      rw [← hes, e2, ← e]
      simp [hi2]
    · rw [List.getElem?_eq_none (by rw [Array.length_toList, hacc.1]; omega), List.getElem?_eq_none (by rw [List.length_map]; omega)]
  rw [hA]
  refine wpAny_bind (wpAny_newList ?_ (by rw [List.length_map]; exact hz))
  have I1 := I.kept (t' := tk) (h' := h1) hk
  have I2 := I1.kept (t' := tk) (h' := h1.push (seqObj "list" (as.map Value.ref).toArray 0)) (fun c o e => Heap.get?_push_of_some _ e)
  have at1 : (h1.push (seqObj "list" (as.map Value.ref).toArray 0)).get? h1.objs.size = some (seqObj "list" (as.map Value.ref).toArray 0) := Heap.get?_push_size _ rfl
  have hl' : ks.length = (as.map V.ref).length := by rw [List.length_map]; exact hl
  have vl : (byKey (as.map V.ref) ks).length ≤ sizeLine := by
    show (((as.map V.ref).zip ks).mergeSort (dataLe false (·.2)) |>.map (·.1)).length ≤ _
    rw [List.length_map, List.length_mergeSort, List.length_zip, List.length_map]
    omega
  have ev : EachIs (fun u d => ∃ bs, Reads (sortingHeap (h1.push (seqObj "list" (as.map Value.ref).toArray 0)) h1.objs.size (as.map Value.ref)) u d bs) (as.map Value.ref) ks :=
    (dps_each I1 (My.vals_refs as) dp).mono fun u d ⟨bs, r⟩ => ⟨bs, Reads.keeps (fun b o e => sortingHeap_old (Nat.ne_of_lt (Heap.lt_size e)) (Heap.get?_push_of_some _ e)) r⟩
  have ez := zip_snd hl'
  have er := each_zip ev hl'
  have out := sortVals_data (enc := fun p : V × PyData => p.2) false (vals_each (h := s.heap) (My.vals_refs as) hl') er (by rw [ez]; exact hal)
  obtain ⟨c, at3⟩ := sortedHeap_at (vs := as.map Value.ref) (out := (sortVals (dataKind (sortingHeap (h1.push (seqObj "list" (as.map Value.ref).toArray 0)) h1.objs.size (as.map Value.ref)) (((as.map V.ref).zip ks).map fun p => p.2)) false (as.map Value.ref) (as.map Value.ref)).toArray) at1
  refine wpAny_bind (wpAny_holding (wpAny_call_entry_kw slot_list_sort ⟨_, at1, rfl⟩ entry_list_sort ?_ (args_list_sort _)))
  refine list_sort_vals (s := { s with heap := h1.push (seqObj "list" (as.map Value.ref).toArray 0), toks := tk }) (κ := dataKind (sortingHeap (h1.push (seqObj "list" (as.map Value.ref).toArray 0)) h1.objs.size (as.map Value.ref)) (((as.map V.ref).zip ks).map fun p => p.2)) at1 ?_ (by rw [List.length_map]; exact hz) ?_
  · rw [ez]
    exact SortsAt.data (s := { s with heap := sortingHeap (h1.push (seqObj "list" (as.map Value.ref).toArray 0)) h1.objs.size (as.map Value.ref), toks := tk }) ev hal hsk hu
  · refine ⟨_, rfl, wpAny_pure ⟨_, rfl, .ref h1.objs.size, _, free2 (b := h1.objs.size + 1) (t' := tk) I2 (Fre.of I1 (Nat.le_refl _)) (Fre.of I1 (Nat.le_succ h1.objs.size)) (I1.hok.fresh (Nat.le_refl _)) (I1.hok.fresh (Nat.le_succ _)) (fun x o n1 n2 e => (sortedHeap_old n1 (Heap.lt_size e)).trans e) ⟨vl, _, c, each_vals out, at3⟩, rfl, q _ (I1.hok.fresh (Nat.le_refl _))⟩⟩
end
end Nd
namespace Nd
set_option autoImplicit false
open PySem PySem.W L2 My Evl
/-! ### derivatives in order, as Python compares -/
def leD (u v : Dv) : Bool := !dataLt v.D u.D
def srtD (us : List Dv) : List Dv := us.mergeSort leD
def dvs (p : Po) : List Dv := p.flatMap fun t => t.1.map (·.1)
def dvsIn (p : Po) : List Dv := srtD (dedD (dvs p))
theorem mem_in {p : Po} {u : Dv} : u ∈ dvsIn p ↔ u ∈ dvs p := by
  unfold dvsIn srtD
  rw [(List.mergeSort_perm _ _).mem_iff, ded_mem]
theorem byKey_dv {H : Hp} {xs : List V} {us : List Dv} (h : AllP (us.map DvP) xs H) : AllP ((srtD us).map DvP) (byKey xs (us.map Dv.D)) H := by
  have hl : xs.length = us.length := by
    have := h.len
    rw [List.length_map] at this
    exact this
  have e1 : xs.zip (us.map Dv.D) = (xs.zip us).map fun p => (p.1, p.2.D) := zip_pairs _ hl
  have e2 : ((xs.zip us).mergeSort fun p q => leD p.2 q.2).map (fun p => (p.1, p.2.D)) = (xs.zip (us.map Dv.D)).mergeSort (dataLe false (·.2)) := by
    rw [e1]
    refine List.map_mergeSort fun p _ q _ => ?_
    rw [dataLe_eq]
    rfl
  have e3 : ((xs.zip us).mergeSort fun p q => leD p.2 q.2).map (·.2) = srtD us := by
    have := List.map_mergeSort (r := fun p q : V × Dv => leD p.2 q.2) (s := leD) (f := fun p : V × Dv => p.2) (l := xs.zip us) (fun _ _ _ _ => rfl)
    rw [this, List.map_snd_zip (by omega)]
    rfl
  have e4 : byKey xs (us.map Dv.D) = ((xs.zip us).mergeSort fun p q => leD p.2 q.2).map (·.1) := by
    unfold byKey
    rw [← e2, List.map_map]
    rfl
  rw [e4, ← e3]
  exact AllP.of DvP fun p hp => AllP.zip DvP h p ((List.mergeSort_perm _ _).mem_iff.mp hp)
/-! ### derived of -/
def wayB (u v : Dv) : Bool := decide (u.n = v.n) && (decide (u.i ≤ v.i) && decide (u.j ≤ v.j))
def wayP (K : PySem.W.Frag) (u v : Dv) : Pr := if wayB u v = true then TuP K [IsV (.int (v.i - u.i)), IsV (.int (v.j - u.j))] else IsV .non
def fstI (c : Ch) (u : Dv) : Option Nat := c.findIdx? fun x => wayB x.1 u
def optV : Option Nat → V
  | none => .non
  | some k => .int (k : Nat)
def Rway (K : PySem.W.Frag) : List Pr → Pr → Prop := fun ps p => ∃ u v : Dv, ps = [DvP u, DvP v] ∧ p = wayP K u v
def Rfst (K : PySem.W.Frag) : List Pr → Pr → Prop := fun ps p => ∃ (c : Ch) (u : Dv), ps = [chP K c, DvP u] ∧ p = IsV (optV (fstI c u))
def Rref (K : PySem.W.Frag) : List Pr → Pr → Prop := fun ps p => ∃ (w : Str) (n : Nat), ps = [IsV (.str w), LqP K (List.replicate n (IsV (.bl true)))] ∧ p = IsV .non
def Rdin (K : PySem.W.Frag) : List Pr → Pr → Prop := fun ps p => ∃ c : Po, (dvs c).length ≤ 1000 ∧ ps = [poP K c] ∧ p = TuP K ((dvsIn c).map DvP)
section
variable {te ta tb : TE} {σ : L2.St} {B H : Hp} {ps : List Pr} {K : PySem.W.Frag} {t : TA}
theorem ev_notT (h : EvP ta σ B (TuP K ps)) : Ev (tOp (fun x y H Q => y = V.non ∧ Q (.bl (!decide (x = V.non))) H) ta (tC .non)) σ B (.bl true) := fun H1 a Q k =>
  h H1 a _ fun v B2 H2 g x => by
    obtain ⟨p, xs, rfl, _, _⟩ := x
    exact ⟨rfl, k H2 g.a⟩
theorem ev_way {u v : Dv} (h : EvP ta σ B (wayP K u v)) : Ev (tOp (fun x y H Q => y = V.non ∧ Q (.bl (!decide (x = V.non))) H) ta (tC .non)) σ B (.bl (wayB u v)) := by
  unfold wayP at h
  cases hw : wayB u v with
  | true =>
    rw [hw, if_pos rfl] at h
    exact ev_notT h
  | false =>
    rw [hw, if_neg Bool.false_ne_true] at h
    exact ev_notN h
end
end Nd
namespace Nd
set_option autoImplicit false
open PySem PySem.Spec PyProof.Rows L2 My Evl
theorem lay_store {xs : List NV} {us : List Value} {k : NestedKey} {a : Addr} {v : V} {u : Value} (r : Vals (xs.map (·.2.2)) us) (rv : RelV v u) :
    ∃ ws, Vals ((putN xs k a v).map (·.2.2)) ws ∧ storedH (lay xs us) k a u = lay (putN xs k a v) ws := by
  obtain ⟨h1, _, _⟩ := at_lay (k := k) r
  unfold storedH putN
  cases hh : hasN xs k with
  | true =>
    rw [hh] at h1
    obtain ⟨y, hy⟩ := Option.isSome_iff_exists.mp h1
    obtain ⟨ws, w1, w2⟩ := lay_put (k := k) rv r
    rw [if_pos rfl]
    exact ⟨ws, w1, by rw [← w2]; simp [hy]⟩
  | false =>
    rw [hh] at h1
    have hy : atKey (lay xs us) k = none := by simpa using h1
    rw [if_neg Bool.false_ne_true]
    refine ⟨us ++ [u], ?_, ?_⟩
    · rw [List.map_append]
      exact My.vals_app r (.cons rv .nil)
    · rw [lay_app (vlen r)]
      simp [hy, lay]
section
variable {X : Cx} {pins : List (Addr × Obj)} {σ : L2.St} {H : Hp} {s : Shared}
/-- d[y] = v, d a dict by nested keys -/
def sNPut (P : Program) (w : World) (K : PySem.W.Frag) (td ty tv : TE) : TS := fun D σ H => tv σ H fun v H1 => td σ H1 fun x H2 => ty σ H2 fun y H3 => ∃ (d a : Addr) (xs : List NV) (k : NestedKey), x = .ref d ∧ y = .ref a ∧ H3 d = some (DN P w d xs) ∧
  KeysOk K H3 xs ∧ KeyAt K H3 a k ∧ xs.length < 100000 ∧ D.nx σ (upd H3 d (DN P w d (putN xs k a v)))
theorem put_len {xs : List NV} {k : NestedKey} {a : Addr} {v : V} : (putN xs k a v).length ≤ xs.length + 1 := by
  unfold putN
  split
  · rw [List.length_map]
    exact Nat.le_succ _
  · rw [List.length_append]
    exact Nat.le_refl _
theorem ps_dputN {o i value : Expr} {td ty tv : TE} {pos pos' : Pos} (hu : X.A.units + 9 < cLine) (ho : PE X o td) (hi : PE X i ty) (hv : PE X value tv) (hs : swapsWith value (some (.Subscript o i pos')) pos.line X.env = pure false) :
    PS X (.Assign [.Subscript o i pos'] value pos) (sNPut X.prog X.w X.K td ty tv) := by
  refine ⟨fun pins s σ H D I h => ?_⟩
  refine wpAny_Assign_Subscript (thn (hv.run pins s σ H _ I h) fun r s1 ⟨v, H1, I1, rv, q1⟩ => thn (ho.run pins s1 σ H1 _ I1 q1) fun u s2 ⟨x, H2, I2, rx, q2⟩ => thn (hi.run pins s2 σ H2 _ I2 q2) fun iv s3 ⟨y, H3, I3, ry, d, a, xs, k, ex, ey, hd, hk, hkey, hz, q3⟩ => ?_) hs
  subst ex ey
  obtain rfl : u = Value.ref d := rx
  obtain rfl : iv = Value.ref a := ry
  obtain ⟨z1, z2, us, rr, m⟩ := dn_of I3 hd hk
  have big : (100000 : Nat) ≤ sizeLine := by decide
  refine wpAny_setItem_heap (knd := nestedKind X.prog X.w) (hsz := by rw [lay_len (vlen rr)]; omega) (by show X.A.units + 1 + 8 < cLine; omega) (key_is I3 hkey) m fun h' m' sb => ?_
  obtain ⟨ws, w1, w2⟩ := lay_store (k := k) (a := a) rr rv
  rw [w2] at m'
  have he : ∃ q, h'.get? d = some q := by
    obtain ⟨q, _, _, hq, _⟩ := m'
    exact ⟨q, hq⟩
  have := put_len (xs := xs) (k := k) (a := a) (v := v)
  exact ⟨σ, _, I3.write (e := d) (by rw [hd]; trivial) (.inl rfl) (fun b o hb e => (sb.2 b hb).trans e) he (dn_ok (dn_to z1 (by omega) w1 m')), q3⟩
/-- sorted(e), e a dict by nested keys -/
def tSortN (P : Program) (w : World) (K : PySem.W.Frag) (te : TE) : TE := fun σ H Q => te σ H fun v H1 => ∃ (d : Addr) (xs : List NV) (ks : List PyData), v = .ref d ∧ H1 d = some (DN P w d xs) ∧ ks.length = xs.length ∧ PySem.W.AllAlike ks ∧ PySem.W.Sortable ks ∧ (∀ e, e ∈ ks → e.depth ≤ 50) ∧
  DpAll K H1 (xs.map fun x => V.ref x.2.1) ks ∧ ∀ a, H1 a = none → Q (.ref a) (upd H1 a (.lst (byKey (xs.map fun x => V.ref x.2.1) ks)))
theorem lay_ref {P : Program} {w : World} : ∀ {xs : List NV} {us : List Value}, xs.length = us.length → ((lay xs us).map (entryOfKey (nestedKind P w))).map (·.key) = (xs.map (·.2.1)).map Value.ref
  | [], [], _ => rfl
  | _ :: _, _ :: _, h => congrArg (_ :: ·) (lay_ref (by simpa using h))
theorem pe_sortN {te : TE} {e : Expr} {p pos : Pos} {k : Nat} (hr : Room k X.A) (hg : Gl X "sorted") (hm : X.mg "sorted" = none) (he : PE X e te)
    (na : starEach [e] X.env = (false, eval e X.env) :: starEach [] X.env := by rfl) : PE X (.Call (.Name "sorted" p) [e] [] pos) (tSortN X.prog X.w X.K te) := by
  refine ⟨fun pins s σ H Q I h => ?_⟩
  refine PyProof.Rows.Call_ (ld_blt I hg hm (u := .builtin "sorted") (by decide +kernel) ?_)
  refine PyProof.Rows.callWith_builtin1 (PyProof.Rows.args_cons (thn (he.run pins s σ H _ I h) fun u s1 ⟨v, H1, I1, r1, q1⟩ => PyProof.Rows.args_nil ?_) na) na rfl
  obtain ⟨d, xs, ks, rfl, hd, a1, a2, a3, a4, a5, a6⟩ := q1
  obtain rfl : u = Value.ref d := r1
  have un := hr.un
  obtain ⟨z1, z2, us, o, es, ep, rr, e1, e2, e3, e4, e5⟩ := (I1.hok d _ hd).1
  have em : (xs.map fun x => V.ref x.2.1) = (xs.map (·.2.1)).map V.ref := by rw [List.map_map]; rfl
  rw [em] at a5
  simp only [em] at a6
  exact sorted_dict0 (E := X.xe) I1 (show X.A.in1.handled = none from hr.hd) z1 e1 e2 e3 (as := xs.map (·.2.1)) (by rw [e4, lay_ref (vlen rr)]) (by rw [List.length_map]; exact z2) (by rw [a1, List.length_map]) a2 a3 (fun d hd => by
    have := a4 d hd
    omega) a5 a6
end
/-! ### derivatives as keys -/
theorem nk_dv (u : Dv) : nk u.D = .tup [.text u.n, .num u.i, .num u.j] := by simp [Dv.D, nk, nkAll]
theorem nk_inj {u v : Dv} (h : nk u.D = nk v.D) : u = v := by
  rw [nk_dv, nk_dv] at h
  injection h with h
  injection h with h1 h
  injection h with h2 h
  injection h with h3 _
  injection h1 with h1
  injection h2 with h2
  injection h3 with h3
  cases u
  cases v
  simp_all
structure KeyL (us : List Dv) (xs : List NV) (B : Hp) : Prop where
  keys : xs.map (·.1) = us.map fun u => nk u.D
  refs : AllP (us.map DvP) (xs.map fun x => V.ref x.2.1) B
theorem KeyL.has {us : List Dv} {xs : List NV} {B : Hp} (h : KeyL us xs B) (u : Dv) : hasN xs (nk u.D) = decide (u ∈ us) := by
  have e : hasN xs (nk u.D) = (xs.map (·.1)).any fun k => decide (k = nk u.D) := by
    unfold hasN
    rw [List.any_map]
    rfl
  rw [e, h.keys, List.any_map]
  by_cases hm : u ∈ us
  · rw [decide_eq_true hm, List.any_eq_true]
    exact ⟨u, hm, by simp⟩
  · rw [decide_eq_false hm, List.any_eq_false]
    intro v hv
    simp only [Function.comp, decide_eq_true_eq]
    intro z
    exact hm (nk_inj z ▸ hv)
theorem KeyL.put {us : List Dv} {xs : List NV} {B : Hp} {u : Dv} {a : Addr} {v : V} (h : KeyL us xs B) (ha : (DvP u).P (.ref a) B) : KeyL (addD us u) (putN xs (nk u.D) a v) B := by
  unfold addD putN
  rw [h.has u]
  by_cases hm : u ∈ us
  · rw [if_pos hm, decide_eq_true hm, if_pos rfl]
    refine ⟨?_, ?_⟩
    · rw [← h.keys, List.map_map]
      refine List.map_congr_left fun x _ => ?_
      show (if x.1 = nk u.D then (x.1, x.2.1, v) else x).1 = x.1
      split <;> rfl
    · have : ((xs.map fun x => if x.1 = nk u.D then (x.1, x.2.1, v) else x).map fun x => V.ref x.2.1) = xs.map fun x => V.ref x.2.1 := by
        rw [List.map_map]
        refine List.map_congr_left fun x _ => ?_
        show V.ref (if x.1 = nk u.D then (x.1, x.2.1, v) else x).2.1 = V.ref x.2.1
        split <;> rfl
      rw [this]
      exact h.refs
  · rw [if_neg hm, decide_eq_false hm, if_neg Bool.false_ne_true]
    refine ⟨?_, ?_⟩
    · rw [List.map_append, List.map_append, h.keys]
      rfl
    · rw [List.map_append, List.map_append]
      exact h.refs.app ⟨ha, trivial⟩
theorem deep_nk (u : Dv) : (nk u.D).depth ≤ 8 := by
  rw [nk_dv]
  simp [NestedKey.depth, NestedKey.depthAll]
theorem key_dv {K : PySem.W.Frag} {H : Hp} {u : Dv} {a : Addr} (h : (DvP u).P (.ref a) H) : KeyAt K H a (nk u.D) := ⟨u.D, dv_d h, by simp [Dv.D, keyish, keyishAll], rfl, deep_nk u⟩
theorem KeyL.ok {K : PySem.W.Frag} {us : List Dv} {xs : List NV} {B H : Hp} (h : KeyL us xs B) (e : Evl.Ex B H) : KeysOk K H xs := fun x hx => by
  obtain ⟨i, hi, rfl⟩ := List.mem_iff_getElem.mp hx
  have hl : xs.length = us.length := by simpa using congrArg List.length h.keys
  have h1 := h.refs.m e
  obtain ⟨p, hp, k⟩ := h1.get (i := i) (v := V.ref xs[i].2.1) (by rw [List.getElem?_map, List.getElem?_eq_getElem hi]; rfl)
  rw [List.getElem?_map, List.getElem?_eq_getElem (by omega : i < us.length)] at hp
  obtain rfl : DvP us[i] = p := Option.some.inj hp
  have hk : xs[i].1 = nk us[i].D := by
    have := congrArg (fun l => l[i]?) h.keys
    simp only [List.getElem?_map, List.getElem?_eq_getElem hi, List.getElem?_eq_getElem (by omega : i < us.length)] at this
    exact Option.some.inj this
  rw [hk]
  exact key_dv k
/-- a for over a tuple in a slot: what is known stays as it is -/
theorem ps_forV {i : Nat} {v : V} {σ : L2.St} {B H : Hp} {ps : List Pr} {K : PySem.W.Frag} {D : Ends} {g : TG} {tbd : TS} (a : Evl.Ex B H) (hi : σ[i]? = some (some v)) (h : (TuP K ps).P v B)
    (k : ∃ Pv : Nat → L2.St → Hp → Prop, Pv 0 σ H ∧ (∀ j σ' H', j ≤ ps.length → Pv j σ' H' → Evl.Ex B H') ∧
      (∀ j v' σ' H', j < ps.length → Pv j σ' H' → (ps.getD j (IsV .non)).P v' B → g v' σ' H' fun σ2 H2 => tbd { D with nx := Pv (j + 1), ct := Pv (j + 1), bk := D.nx } σ2 H2) ∧ ∀ σ' H', Pv ps.length σ' H' → D.nx σ' H') :
    tFor (iTup K (tVar i)) g tbd D σ H := by
  obtain ⟨l, xs, rfl, hx, al⟩ := h
  obtain ⟨Pv, h0, hE, hs, hd⟩ := k
  refine ⟨_, hi, l, rfl, ⟨xs, ex_t a hx⟩, ?_⟩
  have w := walk_tup (K := K) (a := l) (xs := xs)
  rw [al.len] at w
  refine for_it w Pv h0 (fun j σ' H' hj pv => ex_t (hE j σ' H' hj pv) hx) (fun j x σ' H' H2 hj pv y => ?_) hd
  obtain ⟨rfl, y2⟩ := y
  obtain ⟨p, hp, k2⟩ := al.get y2
  refine hs j x σ' _ hj pv ?_
  rw [List.getD_eq_getElem?_getD, hp]
  exact k2
theorem dvs_take {c : Po} {i : Nat} (hi : i < c.length) : dvs (c.take (i + 1)) = dvs (c.take i) ++ c[i].1.map (·.1) := by
  unfold dvs
  rw [List.take_add_one, List.getElem?_eq_getElem hi, List.flatMap_append]
  simp
theorem dvs_le {c : Po} {i : Nat} (hi : i < c.length) (j : Nat) : (dvs (c.take i) ++ (c[i].1.take j).map (·.1)).length ≤ (dvs c).length := by
  have h1 : (dvs (c.take i) ++ (c[i].1.take j).map (·.1)).length ≤ (dvs (c.take (i + 1))).length := by
    rw [dvs_take hi, List.length_append, List.length_append, List.length_map, List.length_map, List.length_take]
    omega
  have h2 : (dvs (c.take (i + 1))).length ≤ (dvs c).length := by
    have : dvs c = dvs (c.take (i + 1)) ++ dvs (c.drop (i + 1)) := by
      unfold dvs
      rw [← List.flatMap_append, List.take_append_drop]
    rw [this, List.length_append]
    exact Nat.le_add_right _ _
  omega
theorem fold_len : ∀ (us ds : List Dv), (us.foldl addD ds).length ≤ ds.length + us.length
  | [], ds => Nat.le_refl _
  | u :: us, ds => by
    have h := fold_len us (addD ds u)
    have : (addD ds u).length ≤ ds.length + 1 := by
      unfold addD
      split
      · exact Nat.le_succ _
      · rw [List.length_append]
        exact Nat.le_refl _
    show (us.foldl addD (addD ds u)).length ≤ _
    rw [List.length_cons]
    omega
theorem KeyL.len {us : List Dv} {xs : List NV} {B : Hp} (h : KeyL us xs B) : xs.length = us.length := by simpa using congrArg List.length h.keys
theorem dps_dv {K : PySem.W.Frag} {H : Hp} : ∀ {us : List Dv} {vs : List V}, AllP (us.map DvP) vs H → DpAll K H vs (us.map Dv.D)
  | [], [], _ => .nil
  | _ :: _, _ :: _, h => .cons (dv_d h.1) (dps_dv h.2)
end Nd
namespace Nd
set_option autoImplicit false
open PySem PySem.W L2 My Evl
/-! ### a list under way: made at H0, filled by append and extend -/
structure AccAt (B H0 : Hp) (d : Addr) (ps : List Pr) (Bi H : Hp) : Prop where
  g : Gr B H0 Bi (wo d H)
  at_ : ∃ xs, H d = some (.lst xs) ∧ AllP ps xs Bi
section
variable {B H0 Bi B2 H H2 : Hp} {d : Addr} {ps qs : List Pr} {p : Pr} {K : PySem.W.Frag} {σ : L2.St} {D : Ends} {te : TE} {i : Nat}
theorem AccAt.ex (A : AccAt B H0 d ps Bi H) : Ex Bi H := A.g.c.trans wo_ex
theorem AccAt.on (A : AccAt B H0 d ps Bi H) : H d ≠ none := by
  obtain ⟨xs, h, _⟩ := A.at_
  rw [h]
  exact fun z => nomatch z
theorem AccAt.step (A : AccAt B H0 d ps Bi H) (k : Gr Bi H B2 H2) : AccAt B H0 d ps B2 H2 := by
  obtain ⟨xs, h, al⟩ := A.at_
  exact ⟨A.g.side A.on k, xs, k.a _ _ h, al.m k.b⟩
theorem AccAt.fin (A : AccAt B H0 d ps Bi H) (h0 : H0 d = none) : ∃ B', Gr B H0 B' H ∧ (LsP ps).P (.ref d) B' := by
  obtain ⟨xs, hd, al⟩ := A.at_
  have hB : Bi d = none := wo_none A.g.c
  refine ⟨upd Bi d (.lst xs), ⟨A.g.a.trans wo_ex, A.g.b.trans (Ex.new hB), fun b o e => ?_, fun x hb hh => ?_, fun z b qs q => ?_⟩, d, xs, rfl, upd_same, al.m (Ex.new hB)⟩
  · by_cases n : b = d
    · subst n
      rw [upd_same] at e
      rw [hd]
      exact e
    · rw [upd_ne n] at e
      exact A.g.c.trans wo_ex _ _ e
  · have n : x ≠ d := fun z => hh (by rw [z]; exact h0)
    rw [upd_ne n]
    exact A.g.d x hb hh
  · by_cases n : b = d
    · subst n
      rw [upd_same] at q
      cases q
    · rw [upd_ne n] at q
      exact A.g.e z b qs q
end
section
variable {B H0 Bi H : Hp} {d : Addr} {ps qs : List Pr} {K : PySem.W.Frag} {σ : L2.St} {D : Ends} {te : TE} {i : Nat}
end
/-- tuple(list) -/
theorem p_tupOf {te : TE} {σ : L2.St} {B : Hp} {ps : List Pr} {K : PySem.W.Frag} (h : EvP te σ B (LqP K ps)) :
    EvP (tCB (fun xs H Q => ∃ p ys, xs = [.ref p] ∧ ((SqL K H p ys ∧ ∀ l, H l = none → Q (.ref l) (upd H l (.tup ys))) ∨ (SqT K H p ys ∧ Q (.ref p) H))) (tCons te tNil)) σ B (TuP K ps) := fun H1 a Q k => h H1 a _ fun v B2 H2 g x => by
  obtain ⟨l, xs, rfl, hl, al⟩ := x
  exact ⟨l, xs, rfl, .inl ⟨ex_l g.c hl, fun m hm => k _ _ _ (g.trans (Gr.new (.tup xs) g.c hm)) ⟨m, xs, rfl, st_of upd_same, al.m (Ex.new (fresh_back g.c hm))⟩⟩⟩
section
variable {te : TE} {σ : L2.St} {B : Hp} {K : PySem.W.Frag} {x : Int} {xs : List Int}
end
end Nd
namespace Nd
set_option autoImplicit false
open PySem PySem.W L2 My Evl
/-! ### comprehensions of two fors -/
end Nd
namespace Nd
set_option autoImplicit false
open PySem PySem.W L2 My Evl LamX NdefX
/-- a def that makes a lambda: its code object is known -/
structure FunC (K : PySem.W.Frag) (x qual : Str) (st : Stmt) (c f : Addr) (fd : FuncData) : Prop where
  ex : ∃ (oc : Value) (od : Option Addr) (kV doc pm : Value) (an : Option Addr) (ct : Value) (osl : Array (Option Value)),
    fd = PySem.W.fnOf x qual (defArgs st) (defBody st) (defScope st) .none kV doc pm an (.ref c) ct ∧ K.lookup f = some ⟨oc, od, .func fd, osl⟩ ∧ PySem.W.codeIn K (.ref c) qual = true
theorem FunC.ok {P : Program} {w : World} {K : PySem.W.Frag} {mg : Str → Option Value} {base : Heap} {x qual : Str} {st : Stmt} {c f : Addr} {fd : FuncData} {N ps : List Str} {k : Nat} {sp : Sp} (F : FunC K x qual st c f fd) (S : FnScope N ps (defScope st)) (len : ∀ vs H Q E, sp vs H Q E → vs.length = ps.length)
    (hbody : ∀ (A : Around) (outer : List Env) (s : Shared) (H : Hp) (vs : List V) (Q : VK) (E : XK), Room k (A.deeper (PyProof.Rows.envOfC qual (defScope st) s.heap.objs.size f (.ref c))) → sp vs H Q E →
      ∃ t, PSs (cxOf CX0 P w K mg base N qual (defScope st) f (.ref c) A outer s H E).nox (defBody st) t ∧ t { nx := fun _ H' => Q .non H', rt := Q } (L2.start N vs) H) : FnOk P w K mg base CX0 (k + 1) f fd ps sp := by
  obtain ⟨oc, od, kV, doc, pm, an, ct, osl, e, lk, hcd⟩ := F.ex
  subst e
  exact fn_of lk hcd S len fun A outer s H vs Q E hr hsp => by
    obtain ⟨t, h1, h2⟩ := hbody A outer s H vs Q E hr hsp
    exact ⟨t, h1.nox, h2⟩
/-- the table at tb is for lambdas of this name -/
def TO (T : List (Addr × Str)) (tb : Addr) (q : Str) : Prop := (tb, q) ∈ T ∧ ∀ p ∈ T, p.1 = tb → p.2 = q
/-- what is known in B of a heap H with tables T -/
structure Kn (T : List (Addr × Str)) (B H : Hp) : Prop where
  e : Ex B H
  n : NoTab B
  t : Tabs T H
theorem Kn.next {T : List (Addr × Str)} {B H H2 : Hp} (k : Kn T B H) (e : ExtN H H2) (t : Tabs T H2) : Kn T B H2 := ⟨exN_ex k.e k.n e, k.n, t⟩
theorem Kn.gr {T : List (Addr × Str)} {B H B2 H2 : Hp} (k : Kn T B H) (g : Gr B H B2 H2) : Kn T B2 H2 := ⟨g.c, g.e k.n, k.t.ext g.a⟩
theorem Kn.ex {T : List (Addr × Str)} {B H H2 : Hp} (k : Kn T B H) (e : Ex H H2) : Kn T B H2 := ⟨k.e.trans e, k.n, k.t.ext e⟩
/-- all stays but the tables; what is known of B' leans on nothing else that stood in H -/
structure GT (T : List (Addr × Str)) (B H B' H' : Hp) : Prop where
  a : ExtN H H'
  b : Ex B B'
  c : Ex B' H'
  f : ∀ x o, B x = none → H x = some o → (∀ ps, o ≠ .tbl ps) → B' x = none
  e : NoTab B → NoTab B'
  t : Tabs T H → Tabs T H'
section
variable {T : List (Addr × Str)} {B H B1 H1 B2 H2 : Hp}
theorem GT.trans (g : GT T B H B1 H1) (k : GT T B1 H1 B2 H2) : GT T B H B2 H2 :=
  ⟨g.a.trans k.a, g.b.trans k.b, k.c, fun x o hb hh n => k.f x o (g.f x o hb hh n) (g.a x o hh n) n, fun z => k.e (g.e z), fun z => k.t (g.t z)⟩
theorem GT.gr (g : Gr B H B1 H1) : GT T B H B1 H1 := ⟨exN_of g.a, g.b, g.c, fun x o hb hh _ => g.d x hb (by rw [hh]; exact fun z => nomatch z), g.e, fun z => z.ext g.a⟩
theorem GT.xn (k : Kn T B H) (e : ExtN H H1) (t : Tabs T H1) : GT T B H B H1 := ⟨e, Ex.refl B, exN_ex k.e k.n e, fun _ _ h _ _ => h, id, fun _ => t⟩
theorem Kn.gt (k : Kn T B H) (g : GT T B H B1 H1) : Kn T B1 H1 := ⟨g.c, g.e k.n, g.t k.t⟩
end
/-- a display of a tuple, its object known as it stands -/
def tTupF (t : TA) : TE := fun σ H Q => t σ H fun xs H1 => xs.length ≤ sizeLine ∧ ∀ p o, H1 p = none → o.dict = none → Q (.ref p) (upd H1 p (.frz o (.tup xs)))
theorem pe_tupF {X : Cx} {es : List Expr} {t : TA} {pos : Pos} {kk : Nat} (h : PA X es t) : PE X (.Tuple es kk pos) (tTupF t) := by
  refine ⟨fun pins s σ H Q I hq => ?_⟩
  refine PySem.wpAny_Tuple_spliced (thn (h.run pos pins s σ H _ I hq) fun us s1 ⟨xs, H1, I1, r, z, q⟩ => ⟨by rw [← r.length]; exact z, ?_⟩)
  have hf : H1 s1.heap.objs.size = none := I1.hok.fresh (Nat.le_refl _)
  refine ⟨.ref s1.heap.objs.size, upd H1 s1.heap.objs.size (.frz { cls := .type "tuple", data := .seq us.toArray } (.tup xs)), I1.laid (t' := s1.toks) (fun b u e => Heap.get?_push_of_some _ e) (Nat.le_refl _) ?_, rfl, q _ _ hf rfl⟩
  exact ⟨Heap.get?_push_size _ rfl, z, us, r, PyProof.Rows.IsTup.new _ _⟩
end Nd
namespace Nd
set_option autoImplicit false
open PySem PySem.Spec PySem.W PySem.Calls PyProof.Rows L2 My Evl
section
variable {X : Cx}
theorem lay_at : ∀ {xs : List NV} {us : List Value} {i : Nat} {y : NestedKey × Addr × Value}, (lay xs us)[i]? = some y → ∃ x u, xs[i]? = some x ∧ us[i]? = some u ∧ y = (x.1, x.2.1, u)
  | [], us, i, y, h => by simp [lay] at h
  | x :: xs, [], i, y, h => by simp [lay] at h
  | x :: xs, u :: us, 0, y, h => ⟨x, u, rfl, rfl, (Option.some.inj h).symm⟩
  | x :: xs, u :: us, i + 1, y, h => by
    obtain ⟨a, b, c, d, e⟩ := lay_at (xs := xs) (us := us) (i := i) (y := y) h
    exact ⟨a, b, c, d, e⟩
end
end Nd
namespace Nd
set_option autoImplicit false
open PySem PySem.W L2 My Evl PyProof.Rows
/-! ### sorting by data -/
theorem AllP.zipG {α : Type} {H : Hp} (f : α → Pr) : ∀ {xs : List V} {us : List α}, AllP (us.map f) xs H → ∀ p ∈ xs.zip us, (f p.2).P p.1 H
  | [], [], _, p, hp => by simp at hp
  | x :: xs, u :: us, h, p, hp => by
    rw [List.zip_cons_cons] at hp
    rcases List.mem_cons.mp hp with rfl | hp
    · exact h.1
    · exact AllP.zipG f h.2 p hp
theorem AllP.ofG {α : Type} {H : Hp} (f : α → Pr) : ∀ {ps : List (V × α)}, (∀ p ∈ ps, (f p.2).P p.1 H) → AllP ((ps.map (·.2)).map f) (ps.map (·.1)) H
  | [], _ => trivial
  | p :: ps, h => ⟨h p List.mem_cons_self, AllP.ofG f fun q hq => h q (List.mem_cons_of_mem _ hq)⟩
theorem dlt_tr {x y z : PyData} (h : dataLt x z = true) : dataLt x y = true ∨ dataLt y z = true := lex_negTrans _ _ _ h
theorem dlt_as {x y : PyData} (h : dataLt x y = true) : dataLt y x = false := by
  cases e : dataLt y x with
  | false => rfl
  | true =>
    have := lex_trans _ _ _ h e
    rw [lex_irrefl] at this
    cases this
/-! ### monomials as data -/
theorem eqv_dv0 (u v : Dv) : PyData.eqv u.D v.D = decide (u = v) := by
  obtain ⟨n, i, j⟩ := u
  obtain ⟨n', i', j'⟩ := v
  unfold Dv.D
  rw [PyData.eqv, Bool.eq_iff_iff]
  simp [PyData.eqvAll, PyData.eqv]
theorem eqv_pw (x y : Dv × Int) : PyData.eqv (pwD x) (pwD y) = decide (x = y) := by
  obtain ⟨u, i⟩ := x
  obtain ⟨v, j⟩ := y
  unfold pwD
  rw [PyData.eqv, PyData.eqvAll, PyData.eqvAll, PyData.eqvAll, eqv_dv0, PyData.eqv, Bool.eq_iff_iff]
  simp
theorem eqv_pws : ∀ m n : Mo, PyData.eqvAll (m.map pwD) (n.map pwD) = decide (m = n)
  | [], [] => by simp [PyData.eqvAll]
  | [], y :: n => by simp [PyData.eqvAll]
  | x :: m, [] => by simp [PyData.eqvAll]
  | x :: m, y :: n => by
    rw [List.map_cons, List.map_cons, PyData.eqvAll, eqv_pw, eqv_pws m n, Bool.eq_iff_iff]
    simp
theorem eqv_mo (m n : Mo) : PyData.eqv (moD m) (moD n) = decide (m = n) := by
  unfold moD
  rw [PyData.eqv]
  exact eqv_pws m n
theorem dlt_ne {x y : PyData} (h : alike x y = true) (e : PyData.eqv x y = false) : dataLt x y = true ∨ dataLt y x = true := by
  cases a : dataLt x y with
  | true => exact .inl rfl
  | false =>
    cases b : dataLt y x with
    | true => exact .inr rfl
    | false =>
      exfalso
      have t : keyToks x = keyToks y := lex_total _ _ a b
      have := (toks_eqv x y h).2 e [.inl 0] [.inl 1]
      rw [t, lex_pre, lex_irrefl] at this
      revert this
      decide
/-! ### monomials as keys -/
theorem nk_pw (x : Dv × Int) : nk (pwD x) = .tup [nk x.1.D, .num x.2] := by simp [pwD, nk, nkAll]
theorem nkAll_inj : ∀ {m n : Mo}, nkAll (m.map pwD) = nkAll (n.map pwD) → m = n
  | [], [], _ => rfl
  | [], _ :: _, h => by simp [nkAll] at h
  | _ :: _, [], h => by simp [nkAll] at h
  | x :: m, y :: n, h => by
    rw [List.map_cons, List.map_cons, nkAll, nkAll] at h
    injection h with h1 h2
    rw [nk_pw, nk_pw] at h1
    injection h1 with h1
    injection h1 with h3 h4
    injection h4 with h4 _
    injection h4 with h4
    obtain ⟨u, i⟩ := x
    obtain ⟨v, j⟩ := y
    have := nk_inj h3
    simp_all
    exact nkAll_inj h2
theorem nkm_inj {m n : Mo} (h : nk (moD m) = nk (moD n)) : m = n := by
  unfold moD at h
  rw [nk, nk] at h
  injection h with h
  exact nkAll_inj h
theorem keyish_mo (m : Mo) : keyish (moD m) = true := by
  unfold moD
  rw [keyish]
  induction m with
  | nil => rfl
  | cons x m ih =>
    rw [List.map_cons, keyishAll, ih]
    simp [pwD, keyish, keyishAll, Dv.D]
theorem deep_nkm (m : Mo) : (nk (moD m)).depth ≤ 8 := by
  have : ∀ m : Mo, NestedKey.depthAll (nkAll (m.map pwD)) ≤ 5 := by
    intro m
    induction m with
    | nil => simp [nkAll, NestedKey.depthAll]
    | cons x m ih =>
      rw [List.map_cons, nkAll, NestedKey.depthAll, nk_pw, nk_dv]
      simp [NestedKey.depth, NestedKey.depthAll]
      omega
  unfold moD
  rw [nk, NestedKey.depth]
  have := this m
  omega
/-- what a dict from monomials to fractions holds, as the dict has it -/
def KM (K : PySem.W.Frag) : Po → List NV → Hp → Prop
  | [], [], _ => True
  | z :: zs, x :: xs, B => (x.1 = nk (moD z.1) ∧ (moP K z.1).P (.ref x.2.1) B ∧ (frP K z.2).P x.2.2 B) ∧ KM K zs xs B
  | [], _ :: _, _ => False
  | _ :: _, [], _ => False
def putZ (zs : Po) (m : Mo) (f : Fr) : Po := if m ∈ zs.map (·.1) then zs.map fun z => if z.1 = m then (z.1, f) else z else zs ++ [(m, f)]
section
variable {K : PySem.W.Frag} {B B' H : Hp}
theorem KM.m (e : Ex B B') : ∀ {zs : Po} {xs : List NV}, KM K zs xs B → KM K zs xs B'
  | [], [], _ => trivial
  | _ :: _, _ :: _, h => ⟨⟨h.1.1, (moP K _).m e h.1.2.1, (frP K _).m e h.1.2.2⟩, KM.m e h.2⟩
theorem KM.len : ∀ {zs : Po} {xs : List NV}, KM K zs xs B → xs.length = zs.length
  | [], [], _ => rfl
  | _ :: _, _ :: _, h => congrArg Nat.succ (KM.len h.2)
theorem KM.at : ∀ {zs : Po} {xs : List NV} {i : Nat} {x : NV}, KM K zs xs B → xs[i]? = some x → ∃ z, zs[i]? = some z ∧ x.1 = nk (moD z.1) ∧ (moP K z.1).P (.ref x.2.1) B ∧ (frP K z.2).P x.2.2 B
  | [], [], i, x, _, h => by simp at h
  | z :: _, y :: _, 0, x, h, e => by
    obtain rfl := Option.some.inj e
    exact ⟨z, rfl, h.1⟩
  | _ :: _, _ :: _, i + 1, x, h, e => KM.at (i := i) h.2 e
theorem KM.has (m : Mo) : ∀ {zs : Po} {xs : List NV}, KM K zs xs B → hasN xs (nk (moD m)) = decide (m ∈ zs.map (·.1))
  | [], [], _ => by simp [hasN]
  | z :: zs, x :: xs, h => by
    have ih := KM.has m h.2
    unfold hasN at *
    rw [List.any_cons, ih, h.1.1, List.map_cons, Bool.eq_iff_iff]
    simp only [Bool.or_eq_true, decide_eq_true_eq, List.mem_cons]
    constructor
    · rintro (a | a)
      · exact .inl (nkm_inj a).symm
      · exact .inr a
    · rintro (a | a)
      · exact .inl (by rw [a])
      · exact .inr a
theorem KM.app : ∀ {zs ys : Po} {xs us : List NV}, KM K zs xs B → KM K ys us B → KM K (zs ++ ys) (xs ++ us) B
  | [], _, [], _, _, h => h
  | _ :: _, _, _ :: _, _, a, h => ⟨a.1, KM.app a.2 h⟩
theorem KM.set {m : Mo} {f : Fr} {v : V} (hf : (frP K f).P v B) : ∀ {zs : Po} {xs : List NV}, KM K zs xs B → KM K (zs.map fun z => if z.1 = m then (z.1, f) else z) (xs.map fun x => if x.1 = nk (moD m) then (x.1, x.2.1, v) else x) B
  | [], [], _ => trivial
  | z :: zs, x :: xs, h => by
    refine ⟨?_, KM.set hf h.2⟩
    dsimp only
    by_cases e : z.1 = m
    · rw [if_pos e, if_pos (by rw [h.1.1, e])]
      exact ⟨h.1.1, h.1.2.1, hf⟩
    · rw [if_neg e, if_neg (fun k => e (nkm_inj (h.1.1.symm.trans k)))]
      exact h.1
theorem KM.put {m : Mo} {f : Fr} {a : Addr} {v : V} {zs : Po} {xs : List NV} (h : KM K zs xs B) (ha : (moP K m).P (.ref a) B) (hf : (frP K f).P v B) : KM K (putZ zs m f) (putN xs (nk (moD m)) a v) B := by
  unfold putZ putN
  rw [h.has m]
  by_cases e : m ∈ zs.map (·.1)
  · rw [if_pos e, decide_eq_true e, if_pos rfl]
    exact h.set hf
  · rw [if_neg e, decide_eq_false e, if_neg Bool.false_ne_true]
    exact h.app ⟨⟨rfl, ha, hf⟩, trivial⟩
theorem key_mo {m : Mo} {a : Addr} (h : (moP K m).P (.ref a) H) : KeyAt K H a (nk (moD m)) := ⟨moD m, to_mo m _ _ h, keyish_mo m, rfl, deep_nkm m⟩
theorem KM.ok {zs : Po} {xs : List NV} (h : KM K zs xs B) (e : Ex B H) : KeysOk K H xs := fun x hx => by
  obtain ⟨i, hi⟩ := List.mem_iff_getElem?.mp hx
  obtain ⟨z, _, h1, h2, _⟩ := (h.m e).at hi
  rw [h1]
  exact key_mo h2
end
end Nd
namespace Nd
set_option autoImplicit false
open PySem PySem.W L2 My Evl
/-! ### two lists under way -/
structure A2 (B H0 : Hp) (a b : Addr) (ps qs : List Pr) (C H : Hp) : Prop where
  g : Gr B H0 C (wo a (wo b H))
  fa : ∃ xs, H a = some (.lst xs) ∧ AllP ps xs C
  fb : ∃ ys, H b = some (.lst ys) ∧ AllP qs ys C
  ne : a ≠ b
section
variable {B H0 C H C2 H2 : Hp} {a b r : Addr} {ps qs ps' qs' : List Pr} {p : Pr} {xs ys zs : List V} {y : V}
theorem A2.ex (A : A2 B H0 a b ps qs C H) : Ex C H := (A.g.c.trans wo_ex).trans wo_ex
theorem A2.new (e : Ex B H) (ha : H a = none) (hb : upd H a (.lst []) b = none) : A2 B H a b [] [] B (upd (upd H a (.lst [])) b (.lst [])) := by
  have ne : a ≠ b := ne_of_none upd_same hb
  refine ⟨?_, ⟨[], by rw [upd_ne ne]; exact upd_same, trivial⟩, ⟨[], upd_same, trivial⟩, ne⟩
  rw [wo_new hb, wo_new ha]
  exact Gr.refl e
theorem A2.na (A : A2 B H0 a b ps qs C H) : C a = none ∧ C b = none := ⟨wo_none A.g.c, wo_none (A.g.c.trans wo_ex)⟩
theorem A2.step (A : A2 B H0 a b ps qs C H) (k : Gr C H C2 H2) : A2 B H0 a b ps qs C2 H2 := by
  obtain ⟨xs, hx, ax⟩ := A.fa
  obtain ⟨ys, hy, ay⟩ := A.fb
  have k1 : Gr C (wo b H) C2 (wo b H2) := (Gr.refl (A.g.c.trans wo_ex)).side (by rw [hy]; exact fun z => nomatch z) k
  have k2 : Gr B H0 C2 (wo a (wo b H2)) := A.g.side (by rw [wo_ne A.ne, hx]; exact fun z => nomatch z) k1
  exact ⟨k2, ⟨xs, k.a _ _ hx, ax.m k.b⟩, ⟨ys, k.a _ _ hy, ay.m k.b⟩, A.ne⟩
theorem A2.wide (A : A2 B H0 a b ps qs C H) (e : Ex H H2) : A2 B H0 a b ps qs C H2 := A.step (Gr.wide A.ex e)
theorem A2.fin (A : A2 B H0 a b ps qs C H) (ha : H0 a = none) (hb : H0 b = none) : ∃ C', Gr B H0 C' H ∧ (LsP ps).P (.ref a) C' ∧ (LsP qs).P (.ref b) C' := by
  obtain ⟨xs, hx, ax⟩ := A.fa
  obtain ⟨ys, hy, ay⟩ := A.fb
  obtain ⟨na, nb⟩ := A.na
  have e1 : Ex C (upd C a (.lst xs)) := Ex.new na
  have nb2 : (upd C a (.lst xs)) b = none := by rw [upd_ne A.ne.symm]; exact nb
  have e2 : Ex (upd C a (.lst xs)) (upd (upd C a (.lst xs)) b (.lst ys)) := Ex.new nb2
  refine ⟨upd (upd C a (.lst xs)) b (.lst ys), ⟨(A.g.a.trans wo_ex).trans wo_ex, A.g.b.trans (e1.trans e2), fun x o e => ?_, fun x h1 h2 => ?_, fun z x qs' q => ?_⟩, ⟨a, xs, rfl, e2 _ _ upd_same, ax.m (e1.trans e2)⟩, ⟨b, ys, rfl, upd_same, ay.m (e1.trans e2)⟩⟩
  · by_cases n : x = b
    · subst n
      rw [upd_same] at e
      rw [hy]
      exact e
    · rw [upd_ne n] at e
      by_cases m : x = a
      · subst m
        rw [upd_same] at e
        rw [hx]
        exact e
      · rw [upd_ne m] at e
        exact A.ex x o e
  · rw [upd_ne (fun z => h2 (by rw [z]; exact hb)), upd_ne (fun z => h2 (by rw [z]; exact ha))]
    exact A.g.d x h1 h2
  · by_cases n : x = b
    · subst n
      rw [upd_same] at q
      cases q
    · rw [upd_ne n] at q
      by_cases m : x = a
      · subst m
        rw [upd_same] at q
        cases q
      · rw [upd_ne m] at q
        exact A.g.e z x qs' q
end
/-! ### x is True -/
section
variable {X : Cx}
end
end Nd
namespace L2
set_option autoImplicit false
open PySem PySem.Spec PyProof.Rows
/-! ### exceptions that were raised, as values -/
section
variable {X : Cx} {pins : List (Addr × Obj)} {σ : St} {H : Hp} {s : Shared}
/-- an exception that stands in the heap is known from now on -/
theorem Inv.track {a C : Addr} {d : Option Addr} {oe : Obj} {vs : Array Value} (I : Inv X pins σ H s) (ea : s.heap.get? a = some oe) (z : Zc (.ref C) d oe) (f : oe.data = .fields vs) (na : H a = none) (n0 : X.s_0.heap.get? a = none) (nl : a ≠ X.env.locals) (np : ∀ p ∈ X.pn ++ pins, p.1 ≠ a) : Inv X pins σ (upd H a (exw a C d)) s := by
  have far : ∀ b u, H b = some u → b ≠ a := fun b u e q => by
    rw [q, na] at e
    cases e
  have old : ∀ b o, X.s_0.heap.get? b = some o → b ≠ a := fun b o e q => by
    rw [q, n0] at e
    cases e
  have U : Un X.fs X.ex X.H_0 (upd H a (exw a C d)) X.s_0.heap s.heap :=
    { keep := I.base.keep
      slot := I.base.slot
      free := fun b o e n hx => by
        rw [upd_ne (old b o e)]
        exact I.base.free b o e n hx
      there := I.base.there
      tups := fun b xs e => by
        have t := I.base.tups b xs e
        rw [upd_ne (far b _ t)]
        exact t
      frzs := fun b o u e => by
        have t := I.base.frzs b o u e
        rw [upd_ne (far b _ t)]
        exact t
      tbls := fun b ps e => by
        obtain ⟨m, t⟩ := I.base.tbls b ps e
        exact ⟨m, by rw [upd_ne (far b _ t)]; exact t⟩ }
  refine ⟨I.ok, I.os, I.bare, U, I.loc, I.cell, by rw [upd_ne nl.symm]; exact I.free, fun x c e => ?_, fun p hp => ?_, I.hok.laidN (fun _ _ e => e) na (exw_ok ea z f), I.len⟩
  · rw [upd_ne]
    · exact I.freeC x c e
    · intro q
      obtain ⟨v, o, h1, h2⟩ := I.cell x c e
      rw [q, ea] at h1
      cases h1
      rw [f] at h2
      cases h2
  · obtain ⟨h1, h2, h3, h4, h5⟩ := I.pin p hp
    exact ⟨h1, by rw [upd_ne (np p hp)]; exact h2, h3, h4, h5⟩
end
/-- what the clause «except x as n: m = n» wishes of an exception of the body -/
def wKeep (K : PySem.W.Frag) (c : Value) (N i j : Nat) (Wout : WX) (D : Ends) : WX := fun cls d σ H =>
  ∃ b, PySem.W.exmOne K cls c = some b ∧ (b = true → ∃ C, cls = .ref C ∧ (σ.length = N → ∀ a, H a = none → D.nx (((σ.set i (some (.ref a))).set j (some (.ref a))).set i none) (upd H a (exw a C d)))) ∧ (b = false → Wout cls d σ H)
section
variable {X : Cx} {x n m : Str} {c : Value} {i j : Nat} {body : List Stmt} {np pos pos' q1 q2 q3 : Pos} {tb : WX → TS} {Wout : WX}
/-- try: .. except x as n: m = n -/
theorem ps_try_keep (hst : X.stack = X.env :: X.outer) (hfm : X.env.frame = some X.env.locals) (hex : X.ex = []) (hN : X.N.Nodup) (hi : X.N[i]? = some n) (hj : X.N[j]? = some m) (hln : X.env.kindOf n = some .local) (hlm : X.env.kindOf m = some .local) (hc : Names X x c) (tk : Takes X Wout)
    (hii : ∀ σ : St, σ.length = X.N.length → (σ.set i (some (V.ref 0)))[i]? = some (some (V.ref 0))) (hdn : (n == ("__debug__" : Str)) = false := by decide) (hcn : (n == ("__classdict__" : Str)) = false := by decide)
    (hsw : swapsWith (.Name n q2) (some (.Name m q1)) q3.line X.env = pure false)
    (hb : ∀ (W : WX) (pn : List (Addr × Obj)) (xe : Value → Shared → Prop), Takes (X.tr pn xe) W → PassesOwn (model X.prog X.w) X.A X.env xe → PSs (X.tr pn xe) body (tb W)) :
    PS X (.Try body [.ExceptHandler (some (.Name x np)) (some n) [.Assign [.Name m q1] (.Name n q2) q3] pos'] [] [] pos) (fun D σ H => tb (wKeep X.K c X.N.length i j Wout D) D σ H) := by
  refine ⟨fun pins s σ H D I h => ?_⟩
  have ok := I.ok
  have frames : X.A.frames = some (X.env :: X.outer) := ok.frames.trans (congrArg some hst)
  refine wpAny_Try_except (wpAny_mono ((hb (wKeep X.K c X.N.length i j Wout D) (X.pn ++ pins) _ (fun u s' air => ?_) PassesOwn.looking).run [] s σ H D (I.toTry _) h) (fun fl s1 done => ?_) fun _ _ z => z)
  · obtain ⟨a, B, sI, pinsI, σ', H', cls, d, rfl, JI, ground, up, sky, na, os, ag, b, asked, yes, no⟩ := air
    have J : Inv X pins σ' H' sI := JI.ofTry ok
    show wpAny (model X.prog X.w) X.A (noteFrame (.ref a) X.env) _ _ _
    refine Sky.land Zc.steady frames hfm (by rw [← hst]; exact sky) fun h3 fly up3 => ?_
    have J3 : Inv X pins σ' H' { s' with heap := h3 } := J.landed ground fly.1 (up.trans up3) os ag
    obtain ⟨o3, v3, e3, z3, d3⟩ := fly.there
    have noFrame : a ∉ frs (X.env :: X.outer) := fun mem => by
      obtain ⟨_, o', e', ns⟩ := fly.2.2.1.mem mem
      rw [e3] at e'
      cases e'
      exact ns _ d3
    have nL : a ≠ X.env.locals := fun z => noFrame (List.mem_filterMap.mpr ⟨X.env, List.mem_cons_self, hfm.trans (congrArg some z.symm)⟩)
    have nF : a ∉ X.fs := fun mem => by
      obtain ⟨e, he, q⟩ := List.mem_filterMap.mp mem
      exact noFrame (List.mem_filterMap.mpr ⟨e, List.mem_cons_of_mem _ he, q⟩)
    -- it is new
    have notI : sI.heap.get? a = none := by
      cases e : sI.heap.get? a with
      | none => rfl
      | some o =>
        have g := ground a o e (by rw [hst]; exact noFrame)
        rw [fly.2.1] at g
        cases g
    have not0 : X.s_0.heap.get? a = none := by
      cases e : X.s_0.heap.get? a with
      | none => rfl
      | some o =>
        obtain ⟨o', g⟩ := J.base.there a o e (by rw [hex]; exact List.not_mem_nil)
        rw [notI] at g
        cases g
    have notP : ∀ p ∈ X.pn ++ pins, p.1 ≠ a := fun p hp z => by
      have g := (J.pin p hp).1
      rw [z, notI] at g
      cases g
    have S3 := J3.suite e3 d3 na nL nF
    refine wpAny_handleBy_cons (codeAny_handlers_test ?_) (fun q => nomatch q)
    have looksT : PySem.W.Looks (model X.prog X.w) h3 (typeOf (.ref a)) cls := fun A Q E s k q => wpAny_typeOf_ref (k _ _ e3) (by rw [z3.1]; exact q)
    have looksM := PySem.W.exm_one (M := model X.prog X.w) J3.kIn looksT asked
    have nameOf : ∀ {Q : Value → Shared → Prop} {E : Value → Shared → Prop}, Q c { s' with heap := h3 } → wpAny (model X.prog X.w) (X.A.mark (some (.ref a))) (eval (.Name x np) X.env) Q E { s' with heap := h3 } := fun {Q E} q => by
      obtain ⟨hg, hdbg, hm | ⟨hm, hv, hnn⟩⟩ := hc
      · exact ld_glob (X := X.suite a ((a, o3) :: (X.pn ++ pins))) S3 hg hm q hdbg
      · exact ld_blt (X := X.suite a ((a, o3) :: (X.pn ++ pins))) S3 hg hm hv q hnn hdbg
    refine nameOf (looksM.here ?_)
    cases b with
    | true =>
      obtain ⟨C, rfl, yes2⟩ := yes rfl
      refine codeAny_handlers_suite_as (HandSPX.lands_againZ fly fun h4 fly4 up4 => ?_)
      have J4 : Inv X pins σ' H' { s' with heap := h4 } := J.landed ground fly4.1 ((up.trans up3).trans up4) os ag
      obtain ⟨o4, v4, e4, z4, d4⟩ := fly4.there
      have S4 := J4.suite e4 d4 na nL nF
      refine store_ok (X := X.suite a ((a, o4) :: (X.pn ++ pins))) (v := .ref a) S4 hN hi (.inl hln) rfl (fun s5 S5 => ?_) (.inr hln)
      let D5 : Ends := { nx := fun σ6 H6 => σ6 = (σ'.set i (some (.ref a))).set j (some (.ref a)) ∧ H6 = H', rt := fun _ _ => False }
      have suite : PSs (X.suite a ((a, o4) :: (X.pn ++ pins))) [.Assign [.Name m q1] (.Name n q2) q3] _ :=
        pss_one (ps_set (X := X.suite a ((a, o4) :: (X.pn ++ pins))) (i := j) hN hj (.inl hlm) (pe_var (X := X.suite a ((a, o4) :: (X.pn ++ pins))) (i := i) hi (.inl hln) hdn hcn) hsw (.inr hlm))
      have at_i : (σ'.set i (some (V.ref a)))[i]? = some (some (V.ref a)) := by
        have l := hii σ' J.len
        have lt : i < σ'.length := by
          by_cases q : i < σ'.length
          · exact q
          · rw [List.getElem?_eq_none (by rw [List.length_set]; omega)] at l
            cases l
        rw [List.getElem?_set_self lt]
      refine wpAny_mono (suite.run [] s5 _ H' D5 S5 ⟨.ref a, at_i, rfl, rfl⟩) (fun fl s6 done => ?_) fun _ _ z => False.elim z
      cases fl with
      | next =>
        obtain ⟨σ6, H6, S6, r1, r2⟩ := done
        subst r1 r2
        obtain ⟨p1, p2, _⟩ := S6.pin (a, o4) (List.mem_append_left _ List.mem_cons_self)
        have J6 := (S6.unsuite ok).track p1 z4 d4 p2 not0 nL notP
        exact gone_ok J6 hN hi hln fun s7 J7 => ⟨_, _, J7, yes2 J.len a na⟩
      | brk =>
        obtain ⟨_, _, _, z⟩ := done
        exact False.elim z
      | cont =>
        obtain ⟨_, _, _, z⟩ := done
        exact False.elim z
      | ret u =>
        obtain ⟨_, _, _, _, _, z⟩ := done
        exact False.elim z
    | false =>
      show wpAny _ X.A (handleBy (.ref a) X.env []) _ _ _
      refine wpAny_handleBy_nil ?_
      obtain ⟨_, _, _, oe, vs, T, oT, ts', he, hz, hd, hT, _⟩ := id fly
      unfold PySem.passOn
      refine wpAny_bind (wpAny_field he hd hT ?_)
      rw [if_neg (show ¬ ((Value.ref T == Value.none) = true) from by simp)]
      have last : wpAny (model X.prog X.w) X.A (setFlight (.ref a) X.env.frame) (fun _ s4 => wpAny (model X.prog X.w) X.A (throw (.ref a) : Sem Flow) (SP X pins D) X.xe s4) X.xe { s' with heap := h3 } := by
        rw [hfm]
        exact HandSPX.setFlight_upZ fly fun h4 held up4 => wpAny_throw (tk _ _ ⟨a, B, sI, pins, σ', H', cls, d, rfl, J, ground, (up.trans up3).trans up4, .inr (.inr (by rw [hst]; exact held)), na, os, ag, no rfl⟩)
      first
        | exact wpAny_bind (wpAny_pure (wpAny_bind last))
        | exact wpAny_bind last
  · cases fl with
    | next =>
      obtain ⟨σ', H', J', q⟩ := done
      exact wpAny_execs_nil ⟨σ', H', J'.ofTry ok, q⟩
    | brk =>
      obtain ⟨σ', H', J', q⟩ := done
      exact ⟨σ', H', J'.ofTry ok, q⟩
    | cont =>
      obtain ⟨σ', H', J', q⟩ := done
      exact ⟨σ', H', J'.ofTry ok, q⟩
    | ret u =>
      obtain ⟨v, σ', H', J', r, q⟩ := done
      exact ⟨v, σ', H', J'.ofTry ok, r, q⟩
end
end L2
namespace L2
set_option autoImplicit false
open PySem PySem.Spec PyProof.Rows
section
variable {X : Cx} {e : Expr} {te : TE}
/-- what gives a new own exception makes one that is raised -/
theorem pmk_val (hx : X.ex = []) (he : PE X e te) : PMk X e (fun σ H Q => te σ H fun x H1 => ∃ (a C : Addr) (d : Option Addr), x = .ref a ∧ H1 a = some (exo a C d) ∧ Fr0 X.H_0 a ∧ Raises X (.ref C) ∧ Q (.ref C) d (delH H1 a)) := by
  intro pins s σ H Q I h
  refine wpAny_mono (he.run pins s σ H _ I h) (fun u s1 done => ?_) fun _ _ z => z
  obtain ⟨v, H1, I1, r1, a, C, d, rfl, ha, h0, hr, q⟩ := done
  obtain rfl : u = Value.ref a := r1
  obtain ⟨t1, ho⟩ := exo_at I1.hok ha
  obtain ⟨G, gs, ga, J⟩ := I1.untrack (φ := fun h => ∃ t1 : Addr, h.get? a = some ({ cls := .ref C, dict := d, data := .fields #[.ref t1, .none, .none, .none, .bool false, .none] } : Obj)) ha h0 hx
  exact ⟨a, _, _, { s1 with heap := G }, delH H1 a, .ref C, d, rfl, J, gs, ga, ho, ⟨rfl, rfl⟩, rfl, rfl, delH_same, rfl, I1.bare, hr, q⟩
end
end L2
namespace Nd
set_option autoImplicit false
open PySem PySem.W L2 My Evl LamX
/-- how a def may end: what is known of what it tells, or the class and the fields of what it raises -/
inductive Out
  | ret (p : Pr)
  | exc (C : Addr) (fs : List (Str × Pr))
/-- of the dict of an exception with such fields -/
def ExcD (fs : List (Str × Pr)) (d : Option Addr) (B : Hp) : Prop := match fs with
  | [] => d = none
  | f :: r => ∃ (dx : Addr) (vs : List (Str × V)), d = some dx ∧ B dx = some (exd dx vs) ∧ vs.map Prod.fst = (f :: r).map Prod.fst ∧ AllP ((f :: r).map Prod.snd) (vs.map Prod.snd) B
theorem ExcD.m {fs : List (Str × Pr)} {d : Option Addr} {B B' : Hp} (e : Ex B B') (h : ExcD fs d B) : ExcD fs d B' := by
  match fs, h with
  | [], h => exact h
  | _ :: _, ⟨dx, vs, h1, h2, h3, h4⟩ => exact ⟨dx, vs, h1, e _ _ h2, h3, h4.m e⟩
def OutOk (o : Out) (B H : Hp) (Q : VK) (E : XK) : Prop := match o with
  | .ret p => ∀ v B' H', Gr B H B' H' → p.P v B' → Q v H'
  | .exc C fs => ∀ d B' H', Gr B H B' H' → ExcD fs d B' → E (.ref C) d H'
def OutT (T : List (Addr × Str)) (o : Out) (B H : Hp) (Q : VK) (E : XK) : Prop := match o with
  | .ret p => ∀ v B' H', GT T B H B' H' → p.P v B' → Q v H'
  | .exc C fs => ∀ d B' H', GT T B H B' H' → ExcD fs d B' → E (.ref C) d H'
/-- what a def promises that may raise | that may raise, and fills tables -/
def spO (R : List Pr → Out → Prop) : Sp := fun vs H Q E => ∃ B ps o, Ex B H ∧ AllP ps vs B ∧ R ps o ∧ OutOk o B H Q E
theorem spO_len {R : List Pr → Out → Prop} {n : Nat} (h : ∀ ps o, R ps o → ps.length = n) : ∀ vs H Q E, spO R vs H Q E → vs.length = n := fun vs H Q E ⟨B, ps, p, _, a, b, _⟩ => by rw [a.len]; exact h _ _ b
section
variable {T : List (Addr × Str)} {R : List Pr → Out → Prop} {t : TA} {σ : L2.St} {B H : Hp} {ps : List Pr} {o : Out} {Q : VK} {E : L2.St → XK} {D : Ends}
/-- such a call -/
theorem o_call (e : Ex B H) (h : EvPs t σ B ps) (hr : R ps o) (q : OutOk o B H Q (E σ)) : tCallS (spO R) E t σ H Q :=
  h H e _ fun vs B2 H2 g b => ⟨B2, ps, o, g.c, b, hr, by
    cases o with
    | ret p => exact fun v B3 H3 g3 hp => q v B3 H3 (g.trans g3) hp
    | exc C fs => exact fun d B3 H3 g3 hd => q d B3 H3 (g.trans g3) hd⟩
theorem OutOk.to {o : Out} {B H B2 H2 : Hp} {Q : VK} {E : XK} (g : Gr B H B2 H2) (q : OutOk o B H Q E) : OutOk o B2 H2 Q E := by
  cases o with
  | ret p => exact fun v B3 H3 g3 hp => q v B3 H3 (g.trans g3) hp
  | exc C fs => exact fun d B3 H3 g3 hd => q d B3 H3 (g.trans g3) hd
theorem OutT.to {o : Out} {B H B2 H2 : Hp} {Q : VK} {E : XK} (g : GT T B H B2 H2) (q : OutT T o B H Q E) : OutT T o B2 H2 Q E := by
  cases o with
  | ret p => exact fun v B3 H3 g3 hp => q v B3 H3 (g.trans g3) hp
  | exc C fs => exact fun d B3 H3 g3 hd => q d B3 H3 (g.trans g3) hd
/-- of no tables -/
theorem OutT.ok {o : Out} {B H : Hp} {Q : VK} {E : XK} (q : OutT T o B H Q E) : OutOk o B H Q E := by
  cases o with
  | ret p => exact fun v B3 H3 g3 hp => q v B3 H3 (GT.gr g3) hp
  | exc C fs => exact fun d B3 H3 g3 hd => q d B3 H3 (GT.gr g3) hd
end
/-- a class whose instances are raised -/
structure RC (K : PySem.W.Frag) (C : Addr) : Prop where
  b : PySem.W.subIn K (.ref C) (.type "BaseException") = some true
  t : PySem.W.typeIn K (.ref C) = some (.type "type")
theorem RC.r {X : Cx} {C : Addr} (h : RC X.K C) : Raises X (.ref C) := raises_own h.b h.t
section
variable {X : Cx} {t tk : TA} {σ : L2.St} {B H H0 : Hp} {p : Pr} {C : Addr} {f : Str} {n m : Nat} {gV : List V → List V → List V} {Q : XK}
/-- raise C(..), C with an __init__ of one field -/
theorem x_raise1 {ps zs : List Pr} (rc : Raises X (.ref C)) (e : Ex B H) (h0 : Ex H0 H) (h : EvPs t σ B ps) (hk : EvPs tk σ B zs) (hn : ps.length = n) (hm : zs.length = m) (hg : ∀ (a : Addr) (vs ws : List V) (B1 : Hp), AllP ps vs B1 → AllP zs ws B1 → ∃ v, gV (.ref a :: vs) ws = [.ref a, v] ∧ p.P v B1)
    (q : ∀ d B' H', Gr B H B' H' → ExcD [(f, p)] d B' → Q (.ref C) d H') :
    tXNewN C n m (spI1 C f) gV t tk σ H fun x H1 => ∃ (a C' : Addr) (d : Option Addr), x = .ref a ∧ H1 a = some (exo a C' d) ∧ Fr0 H0 a ∧ Raises X (.ref C') ∧ Q (.ref C') d (delH H1 a) :=
  h H e _ fun vs B2 H2 g2 b2 => hk H2 (g2.b.trans g2.c) _ fun ws B3 H3 g3 b3 => ⟨by rw [b2.len, hn], by rw [b3.len, hm], fun a ha => by
    have gj := g2.join g3
    obtain ⟨v, ev, pv⟩ := hg a vs ws (both B2 B3) (b2.m both_l) (b3.m (both_r (g2.c.trans g3.a) g3.c))
    refine ⟨a, v, ev, upd_same, fun dx hd ne => ⟨rfl, a, C, some dx, rfl, upd_same, fr0_none ?_, rc, ?_⟩⟩
    · cases z : H0 a with
      | none => rfl
      | some o =>
        have := gj.a _ _ (h0 _ _ z)
        rw [ha] at this
        cases this
    · have hdx : H3 dx = none := by
        rw [← upd_ne (H := H3) (o := exo a C none) ne]
        exact hd
      have same : delH (upd (upd (upd H3 a (exo a C none)) dx (exd dx [(f, v)])) a (exo a C (some dx))) a = upd H3 dx (exd dx [(f, v)]) := funext fun b => by
        by_cases n1 : b = a
        · subst n1
          rw [delH_same, upd_ne ne.symm, ha]
        · rw [delH_ne n1, upd_ne n1]
          by_cases n2 : b = dx
          · subst n2
            rw [upd_same, upd_same]
          · rw [upd_ne n2, upd_ne n1, upd_ne n2]
      rw [same]
      have gn := Gr.new (.ext fun h => ∃ mA, h.Ns1 dx mA ∧ ∀ g, RelO ([(f, v)].lookup g) (mA g)) gj.c hdx
      exact q (some dx) _ _ (gj.trans gn) ⟨dx, [(f, v)], rfl, upd_same, rfl, p.m gn.b pv, trivial⟩⟩
end
end Nd
namespace Nd
open PySem PySem.W L2 My Evl LamX
set_option autoImplicit false
def testsOf (cx : Nat → Addr) : List Value := [.ref (cx 0), .ref (cx 1), .ref (cx 2), .ref (cx 3), .ref (cx 4), .ref (cx 5), .ref (cx 6), .ref (cx 12), .ref (cx 13), .ref (cx 14), .ref (cx 7), .ref (cx 8), .ref (cx 9), .ref (cx 15), .ref (cx 10), .ref (cx 11), .ref (cx 16), .type "ValueError", .ref (cx 17), .type "LookupError", .ref (cx 18), .type "RuntimeError"]
def nmOf : List Str := ["row", "polynomial", "ranking", "chain", "data", "jet", "paper", "twice", "place", "great", "unknown", "equation", "case", "nothing", "contradicted", "knotted", "ours", "value", "miss", "lookup", "end", "runtime"]
def kb : Nat → List Bool
  | 0 => [true, false, false, false, false, false, false, false, false, false, false, false, false, false, false, false, true, true, false, false, false, false]
  | 1 => [false, true, false, false, false, false, false, false, false, false, false, false, false, false, false, false, true, true, false, false, false, false]
  | 2 => [false, false, true, false, false, false, false, false, false, false, false, false, false, false, false, false, true, true, false, false, false, false]
  | 3 => [false, false, false, true, false, false, false, false, false, false, false, false, false, false, false, false, true, true, false, false, false, false]
  | 4 => [false, false, false, false, true, false, false, false, false, false, false, false, false, false, false, false, true, true, false, false, false, false]
  | 5 => [false, false, false, false, false, true, false, false, false, false, false, false, false, false, false, false, true, true, false, false, false, false]
  | 6 => [false, false, false, false, false, false, true, false, false, false, false, false, false, false, false, false, true, true, false, false, false, false]
  | 7 => [false, false, false, false, false, false, false, false, false, false, true, false, false, false, false, false, false, false, true, true, false, false]
  | 8 => [false, false, false, false, false, false, false, false, false, false, false, true, false, false, false, false, false, false, true, true, false, false]
  | 9 => [false, false, false, false, false, false, false, false, false, false, false, false, true, false, false, false, false, false, true, true, false, false]
  | 10 => [false, false, false, false, false, false, false, false, false, false, false, false, false, false, true, false, false, false, false, false, true, true]
  | 11 => [false, false, false, false, false, false, false, false, false, false, false, false, false, false, false, true, false, false, false, false, true, true]
  | 12 => [false, false, false, false, false, false, false, true, false, false, false, false, false, false, false, false, true, true, false, false, false, false]
  | 13 => [false, false, false, false, false, false, false, false, true, false, false, false, false, false, false, false, true, true, false, false, false, false]
  | 14 => [false, false, false, false, false, false, false, false, false, true, false, false, false, false, false, false, true, true, false, false, false, false]
  | 15 => [false, false, false, false, false, false, false, false, false, false, false, false, false, true, false, false, false, false, true, true, false, false]
  | _ => []
def bmI : Nat → List Value
  | 0 => [.type "ValueError", .type "Exception", .type "BaseException", .type "object"]
  | 1 => [.type "ValueError", .type "Exception", .type "BaseException", .type "object"]
  | 2 => [.type "ValueError", .type "Exception", .type "BaseException", .type "object"]
  | 3 => [.type "ValueError", .type "Exception", .type "BaseException", .type "object"]
  | 4 => [.type "ValueError", .type "Exception", .type "BaseException", .type "object"]
  | 5 => [.type "ValueError", .type "Exception", .type "BaseException", .type "object"]
  | 6 => [.type "ValueError", .type "Exception", .type "BaseException", .type "object"]
  | 7 => [.type "LookupError", .type "Exception", .type "BaseException", .type "object"]
  | 8 => [.type "LookupError", .type "Exception", .type "BaseException", .type "object"]
  | 9 => [.type "LookupError", .type "Exception", .type "BaseException", .type "object"]
  | 10 => [.type "RuntimeError", .type "Exception", .type "BaseException", .type "object"]
  | 11 => [.type "RuntimeError", .type "Exception", .type "BaseException", .type "object"]
  | 12 => [.type "ValueError", .type "Exception", .type "BaseException", .type "object"]
  | 13 => [.type "ValueError", .type "Exception", .type "BaseException", .type "object"]
  | 14 => [.type "ValueError", .type "Exception", .type "BaseException", .type "object"]
  | 15 => [.type "LookupError", .type "Exception", .type "BaseException", .type "object"]
  | _ => []
def nwI : Nat → String
  | 0 => "ValueError.__new__"
  | 1 => "ValueError.__new__"
  | 2 => "ValueError.__new__"
  | 3 => "ValueError.__new__"
  | 4 => "ValueError.__new__"
  | 5 => "ValueError.__new__"
  | 6 => "ValueError.__new__"
  | 7 => "LookupError.__new__"
  | 8 => "LookupError.__new__"
  | 9 => "LookupError.__new__"
  | 10 => "RuntimeError.__new__"
  | 11 => "RuntimeError.__new__"
  | 12 => "ValueError.__new__"
  | 13 => "ValueError.__new__"
  | 14 => "ValueError.__new__"
  | 15 => "LookupError.__new__"
  | _ => ""
/-- the module's classes: where they stand, what is known of them -/
structure XT (K : PySem.W.Frag) (mg : Str → Option Value) (cx : Nat → Addr) : Prop where
  xc : ∀ i, i < 16 → XC K (cx i) (bmI i) (nwI i)
  qc : ∀ i, i < 16 → 12 ≤ i → PySem.W.excIn K (cx i) (bmI i) (nwI i) = true
  f_0_row : PySem.W.findIn K (.ref (cx 0)) "row" = some none
  f_0_word : PySem.W.findIn K (.ref (cx 0)) "word" = some none
  f_1_number : PySem.W.findIn K (.ref (cx 1)) "number" = some none
  f_2_place : PySem.W.findIn K (.ref (cx 2)) "place" = some none
  f_3_place : PySem.W.findIn K (.ref (cx 3)) "place" = some none
  f_4_place : PySem.W.findIn K (.ref (cx 4)) "place" = some none
  f_5_place : PySem.W.findIn K (.ref (cx 5)) "place" = some none
  f_6_place : PySem.W.findIn K (.ref (cx 6)) "place" = some none
  f_7_name : PySem.W.findIn K (.ref (cx 7)) "name" = some none
  f_8_number : PySem.W.findIn K (.ref (cx 8)) "number" = some none
  f_9_number : PySem.W.findIn K (.ref (cx 9)) "number" = some none
  f_10_number : PySem.W.findIn K (.ref (cx 10)) "number" = some none
  f_11_number : PySem.W.findIn K (.ref (cx 11)) "number" = some none
  kt : ∀ i, i < 16 → (testsOf cx).map (PySem.W.kitOne K (.ref (cx i))) = (kb i).map some
  g_BadRow : mg "BadRow" = some (.ref (cx 0))
  g_BadPolynomial : mg "BadPolynomial" = some (.ref (cx 1))
  g_BadRanking : mg "BadRanking" = some (.ref (cx 2))
  g_BadChain : mg "BadChain" = some (.ref (cx 3))
  g_BadData : mg "BadData" = some (.ref (cx 4))
  g_BadJet : mg "BadJet" = some (.ref (cx 5))
  g_BadPaper : mg "BadPaper" = some (.ref (cx 6))
  g_NoUnknown : mg "NoUnknown" = some (.ref (cx 7))
  g_NoEquation : mg "NoEquation" = some (.ref (cx 8))
  g_NoCase : mg "NoCase" = some (.ref (cx 9))
  g_Contradicted : mg "Contradicted" = some (.ref (cx 10))
  g_Knotted : mg "Knotted" = some (.ref (cx 11))
  g_Twice : mg "Twice" = some (.ref (cx 12))
  g_OutOfPlace : mg "OutOfPlace" = some (.ref (cx 13))
  g_TooGreat : mg "TooGreat" = some (.ref (cx 14))
  g_Nothing : mg "Nothing" = some (.ref (cx 15))
  g_ChainError : mg "ChainError" = some (.ref (cx 16))
  g_MissError : mg "MissError" = some (.ref (cx 17))
  g_CaseError : mg "CaseError" = some (.ref (cx 18))
  n_isinstance : mg "isinstance" = none
  n_ValueError : mg "ValueError" = none
  n_LookupError : mg "LookupError" = none
  n_RuntimeError : mg "RuntimeError" = none
theorem kb_len {i : Nat} (hi : i < 16) : (kb i).length = 22 := (by decide : ∀ i, i < 16 → (kb i).length = 22) i hi
theorem XT.k {K : PySem.W.Frag} {mg : Str → Option Value} {cx : Nat → Addr} (T : XT K mg cx) {i : Nat} (hi : i < 16) (j : Nat) (hj : j < 22) : PySem.W.kitOne K (.ref (cx i)) ((testsOf cx).getD j .none) = some ((kb i).getD j false) := by
  have h := congrArg (fun l => l[j]?) (T.kt i hi)
  have l1 : j < (testsOf cx).length := hj
  have l2 : j < (kb i).length := by rw [kb_len hi]; exact hj
  simp only [List.getElem?_map, List.getElem?_eq_getElem l1, List.getElem?_eq_getElem l2, Option.map_some] at h
  rw [List.getD_eq_getElem?_getD, List.getD_eq_getElem?_getD, List.getElem?_eq_getElem l1, List.getElem?_eq_getElem l2]
  exact Option.some.inj h
/-- what is told of the kinds of the i-th -/
def kinds (i : Nat) : List Str := ((List.range 22).filter fun j => (kb i).getD j false).map fun j => nmOf.getD j Str.empty
def txts (l : List Str) : Pr := LsP (l.map fun x => IsV (.str x))
def spKinds (cx : Nat → Addr) : Sp := fun vs H Q _ => ∃ (i : Nat) (v : V) (B : Hp), i < 16 ∧ vs = [v] ∧ Ex B H ∧ (XK (cx i)).P v B ∧ ∀ u B' H', Gr B H B' H' → (txts (kinds i)).P u B' → Q u H'
section
variable {P : Program} {w : World} {K : PySem.W.Frag} {mg : Str → Option Value} {base : Heap}
def tPair (K : PySem.W.Frag) (nm : Str) (c : V) : TE := tTup (tCons (tC (.str nm)) (tCons (tCB (rXIs K) (tCons (tVar 0) (tCons (tC c) tNil))) tNil))
def prPair (K : PySem.W.Frag) (i j : Nat) : Pr := TuP K [IsV (.str (nmOf.getD j Str.empty)), IsV (.bl ((kb i).getD j false))]
theorem p_pair {cx : Nat → Addr} (T : XT K mg cx) {i : Nat} (hi : i < 16) (j : Nat) (hj : j < 22) {c : V} {σ : L2.St} {H : Hp} {v : V} (h0 : σ[0]? = some (some v)) (hv : (XK (cx i)).P v H) (hc : ∀ u, RelV c u → u = (testsOf cx).getD j .none) :
    EvP (tPair K (nmOf.getD j Str.empty) c) σ H (prPair K i j) :=
  p_tup (q_cons p_c (q_cons (p_xis (T.xc i hi) (p_var h0 hv) p_c hc (T.k hi j hj)) q_nil)) (by show 2 ≤ 100000; decide)
end
/-- what is known of an exception with such fields -/
def excP (C : Addr) (fs : List (Str × Pr)) : Pr := match fs with
  | [] => X0 C
  | f :: r => XF C (f :: r)
theorem exc_k {C : Addr} {fs : List (Str × Pr)} {v : V} {H : Hp} (h : (excP C fs).P v H) : (XK C).P v H := by
  match fs, h with
  | [], h => exact xk_0 h
  | _ :: _, h => exact xk_f h
/-- a caught exception that is kept: from B within H -/
theorem exc_grow {B H : Hp} {a C : Addr} {d : Option Addr} {fs : List (Str × Pr)} (e : Ex B H) (na : H a = none) (hd : ExcD fs d B) : ∃ B', Gr B H B' (upd H a (exw a C d)) ∧ (excP C fs).P (.ref a) B' := by
  have g : Gr B H (upd B a (exw a C d)) (upd H a (exw a C d)) := Gr.new (exw a C d) e na
  refine ⟨_, g, ?_⟩
  cases fs with
  | nil =>
    obtain rfl : d = none := hd
    exact ⟨a, rfl, .inr upd_same⟩
  | cons f r =>
    obtain ⟨dx, vs, rfl, h2, h3, h4⟩ := hd
    exact ⟨a, dx, vs, rfl, .inr upd_same, g.b _ _ h2, h3, h4.m g.b⟩
/-- which field is told -/
def fldOf : Nat → Option Str
  | 1 => some "number"
  | 2 => some "place"
  | 3 => some "place"
  | _ => none
/-- what is told of a refusal -/
def toldP (i : Nat) (fs : List (Str × Pr)) : Pr := match fldOf i, fs with
  | some _, [(_, p)] => LsP [IsV (.str (nmOf.getD i Str.empty)), p]
  | _, _ => LsP [txts (kinds i)]
/-- the deed's refusal, as it is told -/
def EchT (cx : Nat → Addr) (Q : VK) : XK := fun cls d H' => ∃ (i : Nat) (fs : List (Str × Pr)) (B' : Hp), i < 16 ∧ (kb i).getD 16 false = true ∧ cls = .ref (cx i) ∧ Ex B' H' ∧ ExcD fs d B' ∧ (∀ f, fldOf i = some f → ∃ p, fs = [(f, p)]) ∧ ∀ v B2 H2, Gr B' H' B2 H2 → (toldP i fs).P v B2 → Q v H2
def TTold (cx : Nat → Addr) : (XK → Hp → VK → Prop) → Hp → VK → Prop := fun tl H Q => ∀ H1, Ex H H1 → ∀ Q2 : VK, (∀ v H2, Q v H2 → Q2 v H2) → tl (EchT cx Q) H1 Q2
theorem toldP_no {i : Nat} {fs : List (Str × Pr)} (h : fldOf i = none) : toldP i fs = LsP [txts (kinds i)] := by
  unfold toldP
  rw [h]
theorem told_eq : ∀ i, i < 16 → PyData.eqv (.list ((kinds i).map .str)) (.list [.str "ranking", .str "ours", .str "value"]) = decide (i = 2) ∧ PyData.eqv (.list ((kinds i).map .str)) (.list [.str "chain", .str "ours", .str "value"]) = decide (i = 3) ∧ PyData.eqv (.list ((kinds i).map .str)) (.list [.str "polynomial", .str "ours", .str "value"]) = decide (i = 1) ∧ SeqAt.shaped (.list ((kinds i).map .str)) = true := by decide +kernel
theorem fld_no : ∀ i, i < 16 → i ≠ 1 → i ≠ 2 → i ≠ 3 → fldOf i = none := by decide
theorem ps_parX {i j : Nat} {t : TA} {σ : L2.St} {B H : Hp} {p q : Pr} {D : Ends} (a : Ex B H) (h : EvPs t σ B [p, q]) (n : ∀ v w B1 H1, Gr B H B1 H1 → p.P v B1 → q.P w B1 → D.nx ((σ.set i (some v)).set j (some w)) H1) : tPar i j t D σ H := h H a _ fun vs B1 H1 g x => by
  match vs, x with
  | [v, w], x => exact ⟨v, w, rfl, n v w B1 H1 g x.1 x.2.1⟩
theorem five {σ : L2.St} (h : σ.length = 5) : ∃ a b c d e, σ = [a, b, c, d, e] := by
  match σ, h with
  | [a, b, c, d, e], _ => exact ⟨a, b, c, d, e, rfl⟩
end Nd
namespace Nd
set_option autoImplicit false
open PySem PySem.W L2 My Evl LamX
/-! ### which data are good, as the program asks -/
def it (k : Nat) : PyData → PyData
  | .tuple xs => xs.getD k .none
  | _ => .none
def tupN (n : Nat) : PyData → Bool
  | .tuple xs => xs.length == n
  | _ => false
def isTu : PyData → Bool
  | .tuple _ => true
  | _ => false
def intOf : PyData → Int
  | .int i => i
  | _ => 0
def wholeB : PyData → Bool
  | .int _ => true
  | _ => false
def nameB : PyData → Bool
  | .str x => isNmB x
  | _ => false
def dvB (d : PyData) : Bool := tupN 3 d && (nameB (it 0 d) && (wholeB (it 1 d) && (wholeB (it 2 d) && (decide (0 ≤ intOf (it 1 d)) && decide (0 ≤ intOf (it 2 d))))))
def pwB (d : PyData) : Bool := tupN 2 d && (dvB (it 0 d) && (wholeB (it 1 d) && decide (0 < intOf (it 1 d))))
def frB (d : PyData) : Bool := tupN 2 d && (wholeB (it 0 d) && (wholeB (it 1 d) && (decide (0 < intOf (it 1 d)) && decide (Nat.gcd (intOf (it 0 d)).natAbs (intOf (it 1 d)).natAbs = 1))))
def chainB (f : PyData → Bool) : Option PyData → List PyData → Bool
  | _, [] => true
  | ah, x :: r => f x && ((ah.all fun a => dataLt a (it 0 x)) && chainB f (some (it 0 x)) r)
def chainAt (f : PyData → Bool) : Nat → Option PyData → List PyData → Option Nat
  | _, _, [] => none
  | n, ah, x :: r => if (f x && (ah.all fun a => dataLt a (it 0 x))) = true then chainAt f (n + 1) (some (it 0 x)) r else some n
def moB : PyData → Bool
  | .tuple xs => chainB pwB none xs
  | _ => false
def tmB (d : PyData) : Bool := tupN 2 d && (moB (it 0 d) && (frB (it 1 d) && !decide (intOf (it 0 (it 1 d)) = 0)))
def poAt : PyData → Option (Option Nat)
  | .tuple xs => (chainAt tmB 0 none xs).map some
  | _ => some none
def poB (d : PyData) : Bool := (poAt d).isNone
theorem tupN_ex {n : Nat} {d : PyData} (h : tupN n d = true) : ∃ xs, d = .tuple xs ∧ xs.length = n := by
  cases d <;> simp only [tupN] at h <;> try exact absurd h (by decide)
  exact ⟨_, rfl, by simpa using h⟩
theorem tpl2 {d : PyData} (h : tupN 2 d = true) : d = .tuple [it 0 d, it 1 d] := by
  obtain ⟨xs, rfl, hl⟩ := tupN_ex h
  match xs, hl with
  | [a, b], _ => rfl
theorem tpl3 {d : PyData} (h : tupN 3 d = true) : d = .tuple [it 0 d, it 1 d, it 2 d] := by
  obtain ⟨xs, rfl, hl⟩ := tupN_ex h
  match xs, hl with
  | [a, b, c], _ => rfl
theorem wholeB_ex {d : PyData} (h : wholeB d = true) : d = .int (intOf d) := by
  cases d <;> simp only [wholeB] at h <;> try exact absurd h (by decide)
  rfl
theorem nameB_ex {d : PyData} (h : nameB d = true) : ∃ x, d = .str x ∧ IsNm x := by
  cases d <;> simp only [nameB] at h <;> try exact absurd h (by decide)
  exact ⟨_, rfl, h⟩
theorem dvB_ex {d : PyData} (h : dvB d = true) : ∃ u : Dv, d = u.D ∧ IsNm u.n ∧ 0 ≤ u.i ∧ 0 ≤ u.j := by
  unfold dvB at h
  simp only [Bool.and_eq_true, decide_eq_true_eq] at h
  obtain ⟨h0, h1, h2, h3, h4, h5⟩ := h
  obtain ⟨x, hx, hn⟩ := nameB_ex h1
  exact ⟨⟨x, intOf (it 1 d), intOf (it 2 d)⟩, by rw [tpl3 h0, hx, wholeB_ex h2, wholeB_ex h3]; rfl, hn, h4, h5⟩
theorem dvB_of {u : Dv} (hn : IsNm u.n) (hi : 0 ≤ u.i) (hj : 0 ≤ u.j) : dvB u.D = true := by
  show (true && (isNmB u.n && (true && (true && (decide (0 ≤ u.i) && decide (0 ≤ u.j)))))) = true
  rw [show isNmB u.n = true from hn]
  simp [hi, hj]
theorem pwB_ex {d : PyData} (h : pwB d = true) : ∃ x : Dv × Int, d = pwD x ∧ dvB x.1.D = true ∧ 0 < x.2 := by
  unfold pwB at h
  simp only [Bool.and_eq_true, decide_eq_true_eq] at h
  obtain ⟨h0, h1, h2, h3⟩ := h
  obtain ⟨u, hu, _⟩ := dvB_ex h1
  exact ⟨(u, intOf (it 1 d)), by rw [tpl2 h0, hu, wholeB_ex h2]; rfl, by rw [← hu]; exact h1, h3⟩
theorem pwB_of {x : Dv × Int} (h : dvB x.1.D = true) (hp : 0 < x.2) : pwB (pwD x) = true := by
  show (true && (dvB x.1.D && (true && decide (0 < x.2)))) = true
  rw [h]
  simp [hp]
theorem frB_of {f : Fr} (h : FrOk f) : frB (frD f) = true := by
  show (true && (true && (true && (decide (0 < f.2) && decide (Nat.gcd f.1.natAbs f.2.natAbs = 1))))) = true
  simp [h.bot, h.low]
theorem frB_ex {d : PyData} (h : frB d = true) : ∃ f : Fr, d = frD f ∧ FrOk f := by
  unfold frB at h
  simp only [Bool.and_eq_true, decide_eq_true_eq] at h
  obtain ⟨h0, h1, h2, h3, h4⟩ := h
  exact ⟨(intOf (it 0 d), intOf (it 1 d)), by rw [tpl2 h0, wholeB_ex h1, wholeB_ex h2]; rfl, ⟨h3, h4⟩⟩
theorem chainB_all {f : PyData → Bool} : ∀ {xs : List PyData} {ah : Option PyData}, chainB f ah xs = true → ∀ x ∈ xs, f x = true
  | [], _, _, x, hx => absurd hx List.not_mem_nil
  | y :: r, ah, h, x, hx => by
    unfold chainB at h
    simp only [Bool.and_eq_true] at h
    rcases List.mem_cons.mp hx with rfl | hx
    · exact h.1
    · exact chainB_all h.2.2 x hx
theorem list_ex {α : Type} {g : α → PyData} : ∀ {xs : List PyData}, (∀ x ∈ xs, ∃ y, x = g y) → ∃ l : List α, xs = l.map g
  | [], _ => ⟨[], rfl⟩
  | x :: r, h => by
    obtain ⟨y, rfl⟩ := h x List.mem_cons_self
    obtain ⟨l, rfl⟩ := list_ex fun z hz => h z (List.mem_cons_of_mem _ hz)
    exact ⟨y :: l, rfl⟩
theorem moB_ex {d : PyData} (h : moB d = true) : ∃ m : Mo, d = moD m := by
  cases d <;> simp only [moB] at h <;> try exact absurd h (by decide)
  obtain ⟨l, rfl⟩ := list_ex (g := pwD) fun x hx => (pwB_ex (chainB_all h x hx)).imp fun _ k => k.1
  exact ⟨l, rfl⟩
theorem ups_tail {α : Type} {f : α → PyData} {x : α} {l : List α} (h : Ups f (x :: l)) : Ups f l := fun i hi => h (i + 1) (by simpa using hi)
theorem chainB_map {α : Type} {f : PyData → Bool} {g k : α → PyData} (hk : ∀ x, it 0 (g x) = k x) : ∀ {l : List α} {ah : Option PyData}, (∀ x ∈ l, f (g x) = true) → Ups k l → (∀ a x, ah = some a → l.head? = some x → dataLt a (k x) = true) → chainB f ah (l.map g) = true
  | [], _, _, _, _ => by rw [List.map_nil, chainB]
  | x :: l, ah, h, up, hh => by
    rw [List.map_cons, chainB, h x List.mem_cons_self, hk]
    have h1 : (ah.all fun a => dataLt a (k x)) = true := by
      cases ah with
      | none => rfl
      | some a => exact hh a x rfl rfl
    rw [h1, chainB_map hk (fun y hy => h y (List.mem_cons_of_mem _ hy)) (ups_tail up)]
    · rfl
    · rintro a y rfl' hy
      cases rfl'
      cases l with
      | nil => cases hy
      | cons z l =>
        cases hy
        exact up 0 (by simp)
theorem chainAt_iff {f : PyData → Bool} : ∀ {xs : List PyData} {ah : Option PyData} {n : Nat}, (chainAt f n ah xs).isNone = chainB f ah xs
  | [], _, _ => by rw [chainAt, chainB]; rfl
  | x :: r, ah, n => by
    rw [chainAt, chainB]
    cases h : f x && (ah.all fun a => dataLt a (it 0 x)) with
    | true =>
      rw [if_pos rfl, chainAt_iff, ← Bool.and_assoc, h, Bool.true_and]
    | false =>
      rw [if_neg Bool.false_ne_true, ← Bool.and_assoc, h, Bool.false_and]
      rfl
theorem poB_tu (xs : List PyData) : poB (.tuple xs) = chainB tmB none xs := by
  rw [← chainAt_iff (n := 0)]
  show (Option.map some (chainAt tmB 0 none xs)).isNone = _
  cases chainAt tmB 0 none xs <;> rfl
theorem of_B {r : Rk} {u : Dv} (h : r.Ok) (k : u.Of r) : dvB u.D = true := dvB_of (h.nm _ k.n) k.i k.j
theorem moB_of {r : Rk} {m : Mo} (h : r.Ok) (k : MoOk r m) : moB (moD m) = true :=
  chainB_map (g := pwD) (k := fun x => x.1.D) (fun _ => rfl) (fun x hx => pwB_of (of_B h (k.of x hx).1) (k.of x hx).2) k.up fun _ _ e _ => nomatch e
theorem tmB_of {r : Rk} {t : Mo × Fr} (h : r.Ok) (k : MoOk r t.1 ∧ FrOk t.2 ∧ t.2.1 ≠ 0) : tmB (tmD t) = true := by
  show (true && (moB (moD t.1) && (frB (frD t.2) && !decide (t.2.1 = 0)))) = true
  rw [moB_of h k.1, frB_of k.2.1, decide_eq_false k.2.2]
  rfl
theorem poB_of {r : Rk} {p : Po} (h : r.Ok) (k : PoOk r p) : poB (poD p) = true := by
  unfold poD
  rw [poB_tu]
  exact chainB_map (g := tmD) (k := fun t => moD t.1) (fun _ => rfl) (fun t ht => tmB_of h (k.of t ht)) k.up fun _ _ e _ => nomatch e
mutual
/-- no text in it is long -/
def smB : PyData → Bool
  | .str x => decide (x.length ≤ 100000)
  | .tuple xs => smAll xs
  | .list xs => smAll xs
  | _ => true
def smAll : List PyData → Bool
  | [] => true
  | x :: r => smB x && smAll r
end
theorem smAll_mem : ∀ {xs : List PyData}, smAll xs = true → ∀ x ∈ xs, smB x = true
  | [], _, x, hx => absurd hx List.not_mem_nil
  | y :: r, h, x, hx => by
    unfold smAll at h
    rw [Bool.and_eq_true] at h
    rcases List.mem_cons.mp hx with rfl | hx
    · exact h.1
    · exact smAll_mem h.2 x hx
theorem smAll_of : ∀ {xs : List PyData}, (∀ x ∈ xs, smB x = true) → smAll xs = true
  | [], _ => by rw [smAll]
  | y :: r, h => by
    rw [smAll, h y List.mem_cons_self, smAll_of fun x hx => h x (List.mem_cons_of_mem _ hx)]
    rfl
theorem smd_tu {xs : List PyData} (h : smB (.tuple xs) = true) : ∀ x ∈ xs, smB x = true := by
  unfold smB at h
  exact smAll_mem h
theorem smd_non : smB .none = true := by rw [smB] <;> (intro _ z; cases z)
theorem smd_int {i : Int} : smB (.int i) = true := by rw [smB] <;> (intro _ z; cases z)
theorem smd_str {x : Str} (h : x.length ≤ 100000) : smB (.str x) = true := by rw [smB]; exact decide_eq_true h
theorem smd_it {d : PyData} (h : smB d = true) (k : Nat) : smB (it k d) = true := by
  cases d with
  | tuple xs =>
    show smB (xs.getD k .none) = true
    rw [List.getD_eq_getElem?_getD]
    cases e : xs[k]? with
    | none => exact smd_non
    | some x => exact smd_tu h x (List.mem_of_getElem? e)
  | _ => exact smd_non
theorem smd_of {xs : List PyData} (h : ∀ x ∈ xs, smB x = true) : smB (.tuple xs) = true := by
  rw [smB]
  exact smAll_of h
theorem smd_dv {u : Dv} (h : u.n.length ≤ 100000) : smB u.D = true := smd_of fun x hx => by
  rcases List.mem_cons.mp hx with rfl | hx
  · exact smd_str h
  · rcases List.mem_cons.mp hx with rfl | hx
    · exact smd_int
    · obtain rfl := List.mem_singleton.mp hx
      exact smd_int
/-- whether a good derivative is of a ranking -/
def Rk.stB (r : Rk) (u : Dv) : Bool := decide (u.n ∈ r.ns) && (decide (u.j = 0) || decide ((Str.ofString "y") ∈ r.axs))
def dvOf (d : PyData) : Dv := match d with
  | .tuple [.str n, .int i, .int j] => ⟨n, i, j⟩
  | _ => ⟨Str.empty, 0, 0⟩
theorem dvOf_D (u : Dv) : dvOf u.D = u := rfl
def fitsB (r : Rk) (d : PyData) : Bool := dvB d && Rk.stB r (dvOf d)
theorem low_let {c : Nat} : decide (c ∈ (Str.ofString "abcdefghijklmnopqrstuvwxyz").cps.toList) = (decide (97 ≤ c) && decide (c ≤ 122)) := by
  have e : (Str.ofString "abcdefghijklmnopqrstuvwxyz").cps.toList = (List.range 26).map (· + 97) := by decide +kernel
  rw [Bool.eq_iff_iff, decide_eq_true_iff, Bool.and_eq_true, decide_eq_true_iff, decide_eq_true_iff]
  constructor
  · intro h
    rw [e] at h
    obtain ⟨k, hk, rfl⟩ := List.mem_map.mp h
    have := List.mem_range.mp hk
    omega
  · exact fun h => let_low h.1 h.2
theorem all_cps (x : Str) (f : Nat → Bool) : (((List.range x.cps.size).map fun i => f (x.cps.getD i 0)).all id) = x.cps.toList.all f := by
  have : ((List.range x.cps.size).map fun i => f (x.cps.getD i 0)) = x.cps.toList.map f := by
    apply List.ext_getElem?
    intro i
    rw [List.getElem?_map, List.getElem?_map]
    by_cases h : i < x.cps.size
    · rw [List.getElem?_range h, Array.getElem?_toList, Array.getElem?_eq_getElem h]
      simp [Array.getD_eq_getD_getElem?, Array.getElem?_eq_getElem h]
    · rw [List.getElem?_eq_none (by rw [List.length_range]; omega), Array.getElem?_toList, Array.getElem?_eq_none (by omega)]
      rfl
  rw [this, List.all_map]
  rfl
/-- of what may be anything: what a test of it tells -/
def RB (K : PySem.W.Frag) (f : PyData → Bool) : List Pr → Pr → Prop := fun ps p => ∃ (q : Pr) (d : PyData), To K q d ∧ smB d = true ∧ ps = [q] ∧ p = IsV (.bl (f d))
def RB2 (K : PySem.W.Frag) (f : Rk → PyData → Bool) : List Pr → Pr → Prop := fun ps p => ∃ (r : Rk) (q : Pr) (d : PyData), r.Ok ∧ To K q d ∧ smB d = true ∧ ps = [RkP K r, q] ∧ p = IsV (.bl (f r d))
theorem to_id {K : PySem.W.Frag} {d : PyData} : To K (IsD K d) d := fun _ _ h => h
/-! ### data, as what is known -/
section
variable {K : PySem.W.Frag} {te ta tb : TE} {σ : L2.St} {B H : Hp} {q : Pr} {d : PyData} {ds : List PyData} {v : V}
theorem tu_d (h : Dp K H v (.tuple ds)) : (TuP K (ds.map (IsD K))).P v H := by
  cases h with
  | tup a b => exact ⟨_, _, rfl, a, dps_to b⟩
theorem ev_isTu (h : EvP te σ B (IsD K d)) : Ev (tCB (rIsi K) (tCons te (tCons (tC (.ty "tuple")) tNil))) σ B (.bl (isTu d)) :=
  ev_isi h (by cases d <;> (dsimp only [tyS, isTu]; decide +kernel))
theorem et_tupN {n : Nat} (h : EvP te σ B (IsD K d)) : EvT (tOr (tNot (tTest (tCB (rIsi K) (tCons te (tCons (tC (.ty "tuple")) tNil))))) (tTest (tOp rNe (tCB (rLenS K) (tCons te tNil)) (tC (.int (n : Int)))))) σ B (!tupN n d) := by
  refine et_is (et_or (a := !isTu d) (b := !tupN n d) (et_not (et_test (ev_isTu h))) fun e => ?_) ?_
  · obtain ⟨xs, rfl⟩ : ∃ xs, d = .tuple xs := by
      cases d <;> first | exact ⟨_, rfl⟩ | exact absurd e (by simp [isTu])
    refine et_is (et_test (ev_op (ev_lenD h (.inl rfl)) ev_c (rv_ne rfl))) ?_
    show (!decide (V.int (xs.length : Int) = V.int (n : Int))) = !(xs.length == n)
    by_cases q : xs.length = n
    · subst q
      simp
    · have : ¬ V.int (xs.length : Int) = V.int (n : Int) := fun z => q (by cases z; rfl)
      rw [decide_eq_false this]
      simp [q]
  · cases d <;> first | rfl | simp [isTu, tupN]
end
end Nd
namespace Nd
set_option autoImplicit false
open PySem PySem.W L2 My Evl LamX
def rP (us _ws : List Value) : List Value := us
def rPV (vs _zs : List V) : List V := vs
def rZV (vs _zs : List V) : List V := vs ++ [.non]
/-- a class of refusals with an __init__ of its own, of one field, over ValueError -/
structure RP (P : Program) (w : World) (K : PySem.W.Frag) (mg : Str → Option Value) (base : Heap) (x : Str) (C : Addr) (f : Str) (fI : Addr) (fd : FuncData) (gZ : List Value → List Value → List Value) : Prop where
  T : XC K C (bmI 1) (nwI 1)
  rc : RC K C
  m : mg x = some (.ref C)
  iC : PySem.W.findIn K (.ref C) "__init__" = some (some (.ref fI))
  tI : PySem.W.typeIn K (.ref fI) = some (.type "function")
  G : FnOk P w K mg base CX0 1 fI fd ["self", f] (spI1 C f)
  kP : KBn K fd ["self", f] 2 [] rP rPV
  kZ : KBn K fd ["self", f] 1 [] gZ rZV
/-- one without -/
structure RQ (K : PySem.W.Frag) (mg : Str → Option Value) (x : Str) (C : Addr) : Prop where
  q : PySem.W.excIn K C (bmI 13) (nwI 13) = true
  k : PySem.W.keepIn K (.ref C) = true
  rc : RC K C
  m : mg x = some (.ref C)
section
variable {X : Cx} {x f : Str} {C fI : Addr} {fd : FuncData} {gZ : List Value → List Value → List Value} {W : WX} {t : TA} {e : Expr} {p pos pos' : Pos}
theorem ps_raiseP (R : RP X.prog X.w X.K X.mg X.base x C f fI fd gZ) (hc : X.calm = true) (hx : X.ex = []) (tk : Takes X W) (hr : Room 2 X.A) (hg : Gl X x) (ha : PA X [e] t) (hdb : (x == ("__debug__" : Str)) = false := by decide)
    (he : starEach (e :: []) X.env = (false, eval e X.env) :: starEach [] X.env := by rfl) (hpl : (backTo pos (starEach [] X.env)).any (·.1) = false := by rfl) :
    PS X (.Raise (some (.Call (.Name x p) [e] [] pos)) none pos') (fun _ σ H => tXNewN C 1 0 (spI1 C f) rPV t tNil σ H fun y H1 => ∃ (a C' : Addr) (d : Option Addr), y = .ref a ∧ H1 a = some (exo a C' d) ∧ Fr0 X.H_0 a ∧ Raises X (.ref C') ∧ W (.ref C') d σ (delH H1 a)) :=
  ps_raise hc tk (pmk_val hx (pe_xnewP R.T xbV R.iC R.tI R.G hr R.kP (by decide) hg R.m ha hdb he hpl))
theorem ps_raiseZ (R : RP X.prog X.w X.K X.mg X.base x C f fI fd gZ) (hc : X.calm = true) (hx : X.ex = []) (tk : Takes X W) (hr : Room 2 X.A) (hg : Gl X x) (hdb : (x == ("__debug__" : Str)) = false := by decide) :
    PS X (.Raise (some (.Call (.Name x p) [] [] pos)) none pos') (fun _ σ H => tXNewN C 0 0 (spI1 C f) rZV tNil tNil σ H fun y H1 => ∃ (a C' : Addr) (d : Option Addr), y = .ref a ∧ H1 a = some (exo a C' d) ∧ Fr0 X.H_0 a ∧ Raises X (.ref C') ∧ W (.ref C') d σ (delH H1 a)) :=
  ps_raise hc tk (pmk_val hx (pe_xnewZ R.T xbV R.iC R.tI R.G hr R.kZ hg R.m hdb))
theorem ps_raiseQ {m : Str} {j : Nat} {p2 : Pos} (R : RQ X.K X.mg x C) (hc : X.calm = true) (tk : Takes X W) (hg : Gl X x) (hdb : (x == ("__debug__" : Str)) = false := by decide) :
    PS X (.Raise (some (.Call (.Name x p) [.Constant (.str m) j p2] [] pos)) none pos') (fun _ σ H => W (.ref C) none σ H) :=
  ps_raise hc tk (pmk_own F.excBase_ValueError R.q R.m R.k R.rc.r hg hdb)
end
section
variable {X : Cx} {t : TA} {σ : L2.St} {B H H0 : Hp} {p : Pr} {C : Addr} {f : Str} {W : WX}
theorem x_rsP (rc : Raises X (.ref C)) (e : Ex B H) (h0 : Ex H0 H) (h : EvPs t σ B [p]) (q : ∀ d B' H', Gr B H B' H' → ExcD [(f, p)] d B' → W (.ref C) d σ H') :
    tXNewN C 1 0 (spI1 C f) rPV t tNil σ H fun y H1 => ∃ (a C' : Addr) (d : Option Addr), y = .ref a ∧ H1 a = some (exo a C' d) ∧ Fr0 H0 a ∧ Raises X (.ref C') ∧ W (.ref C') d σ (delH H1 a) :=
  x_raise1 (n := 1) (m := 0) (gV := rPV) (f := f) (Q := fun c d H => W c d σ H) rc e h0 h q_nil rfl rfl (fun a vs ws B1 hv _ => by
    match vs, hv with
    | [v], hv => exact ⟨v, rfl, hv.1⟩) q
theorem x_rsZ (rc : Raises X (.ref C)) (e : Ex B H) (h0 : Ex H0 H) (q : ∀ d B' H', Gr B H B' H' → ExcD [(f, IsV .non)] d B' → W (.ref C) d σ H') :
    tXNewN C 0 0 (spI1 C f) rZV tNil tNil σ H fun y H1 => ∃ (a C' : Addr) (d : Option Addr), y = .ref a ∧ H1 a = some (exo a C' d) ∧ Fr0 H0 a ∧ Raises X (.ref C') ∧ W (.ref C') d σ (delH H1 a) :=
  x_raise1 (p := IsV .non) (n := 0) (m := 0) (gV := rZV) (f := f) (Q := fun c d H => W c d σ H) rc e h0 q_nil q_nil rfl rfl (fun a vs ws B1 hv _ => by
    match vs, hv with
    | [], hv => exact ⟨.non, rfl, rfl⟩) q
end
/-- a def of the program's that may raise, as it is called -/
structure CalX (P : Program) (w : World) (K : PySem.W.Frag) (mg : Str → Option Value) (base : Heap) (x : Str) (k : Nat) (ps : List Str) (sp : Sp) (f : Addr) (fd : FuncData) : Prop where
  G : FnOk P w K mg base (L2.CX P w) k f fd ps sp
  m : mg x = some (.ref f)
  k : PySem.W.keepIn K (.ref f) = true
  b : Binds K fd ps []
end Nd
namespace Nd
set_option autoImplicit false
open PySem PySem.W L2 My Evl LamX
/-- the thing ahead of another one: none yet, or such data -/
def AhP (K : PySem.W.Frag) (ah : Option PyData) (y : V) (B : Hp) : Prop := (ah = none ∧ y = .non) ∨ ∃ a, ah = some a ∧ Dp K B y a ∧ ∃ xs, a = .tuple xs
theorem AhP.m {K : PySem.W.Frag} {ah : Option PyData} {y : V} {B B' : Hp} (e : Ex B B') (h : AhP K ah y B) : AhP K ah y B' := h.imp id fun ⟨a, h1, h2, h3⟩ => ⟨a, h1, dp_m e h2, h3⟩
theorem et_ah {K : PySem.W.Frag} {ah : Option PyData} {y : V} {B : Hp} {σ : L2.St} {i : Nat} {te : TE} {d : PyData} (hi : σ[i]? = some (some y)) (h : AhP K ah y B) (he : EvP te σ B (IsD K d)) (al : ∀ a, ah = some a → alike d a = true) (hn : d ≠ .none) (hm : d.depth ≤ 50) :
    EvT (tAnd (tTest (tOp (fun x y H Q => y = V.non ∧ Q (.bl (!decide (x = V.non))) H) (tVar i) (tC .non))) (tTest (tOp (rLeD K) te (tVar i)))) σ B (!ah.all fun a => dataLt a d) := by
  rcases h with ⟨rfl, rfl⟩ | ⟨a, rfl, ha, xs, rfl⟩
  · exact et_is (et_and (a := false) (b := false) (et_test (ev_notN (p_varV hi))) (fun z => nomatch z)) rfl
  · obtain ⟨r, rfl⟩ : ∃ r, y = .ref r := by cases ha; exact ⟨_, rfl⟩
    exact et_is (et_and (a := true) (b := !dataLt (.tuple xs) d) (et_test (ev_notR hi)) fun _ => et_test (ev_leD (K := K) (d := d) (e := .tuple xs) he (p_var hi ha) (al _ rfl) hn (by omega))) rfl
end Nd
namespace Nd
set_option autoImplicit false
open PySem PySem.Spec PySem.W PyProof.Rows L2 My Evl
section
variable {X : Cx}
end
end Nd
namespace Nd
set_option autoImplicit false
open scoped Rat
/-! ### fractions are the rationals -/
def fr (r : Rat) : Int × Int := (r.num, (r.den : Int))
theorem fr_eq {n d : Int} (hd : 0 < d) (hg : Int.gcd n d = 1) : fr (n /. d) = (n, d) := by
  unfold fr
  rw [Rat.num_divInt, Rat.den_divInt, Int.gcd_comm, hg, if_neg (by omega), Int.sign_eq_one_of_pos hd]
  simp
  omega
theorem fr_pos (r : Rat) : 0 < (fr r).2 := by
  have := r.den_pos
  show (0 : Int) < (r.den : Int)
  omega
theorem fr_low (r : Rat) : Int.gcd (fr r).1 (fr r).2 = 1 := by
  have := r.reduced
  show Nat.gcd r.num.natAbs (r.den : Int).natAbs = 1
  rw [Int.natAbs_natCast]
  exact this
theorem fr_val (r : Rat) : (fr r).1 /. (fr r).2 = r := Rat.num_divInt_den r
theorem fr_num0 (r : Rat) : (fr r).1 = 0 ↔ r = 0 := Rat.num_eq_zero
/-- lowest terms of any fraction -/
theorem fr_lowest {n d : Int} (hd : 0 < d) : fr (n /. d) = (n / (Int.gcd n d : Int), d / (Int.gcd n d : Int)) := by
  have g0 : Int.gcd n d ≠ 0 := fun h => by
    have := (Int.gcd_eq_zero_iff.mp h).2
    omega
  have hn := Int.gcd_dvd_left (a := n) (b := d)
  have hd2 := Int.gcd_dvd_right (a := n) (b := d)
  have e : n /. d = (n / (Int.gcd n d : Int)) /. (d / (Int.gcd n d : Int)) := by
    have h1 : (n / (Int.gcd n d : Int)) * (Int.gcd n d : Int) = n := Int.ediv_mul_cancel hn
    have h2 : (d / (Int.gcd n d : Int)) * (Int.gcd n d : Int) = d := Int.ediv_mul_cancel hd2
    have := Rat.divInt_mul_right (n := n / (Int.gcd n d : Int)) (d := d / (Int.gcd n d : Int)) (a := (Int.gcd n d : Int)) (by omega)
    rw [h1, h2] at this
    exact this
  have hp : 0 < d / (Int.gcd n d : Int) := Int.ediv_pos_of_pos_of_dvd hd (by omega) hd2
  rw [e]
  refine fr_eq hp ?_
  exact Int.gcd_ediv_gcd_ediv_gcd (by omega)
end Nd
namespace Nd
set_option autoImplicit false
set_option linter.unusedSectionVars false
/-! ### sums by keys, in order -/
class Od (κ : Type) [DecidableEq κ] where
  lt : κ → κ → Bool
  irr : ∀ a, lt a a = false
  tr : ∀ {a b c}, lt a b = true → lt b c = true → lt a c = true
  tri : ∀ {a b}, a ≠ b → lt a b = true ∨ lt b a = true
open Lean.Grind
section
variable {κ : Type} [DecidableEq κ] {β : Type} [CommRing β]
theorem z_add (a : β) : 0 + a = a := by grind
theorem a_zero (a : β) : a + 0 = a := by grind
/-- what all pairs of a key come to -/
def co : List (κ × β) → κ → β
  | [], _ => 0
  | z :: l, k => (if z.1 = k then z.2 else 0) + co l k
@[simp] theorem co_nil (k : κ) : co ([] : List (κ × β)) k = 0 := rfl
theorem co_cons (z : κ × β) (l : List (κ × β)) (k : κ) : co (z :: l) k = (if z.1 = k then z.2 else 0) + co l k := rfl
theorem co_app : ∀ (l m : List (κ × β)) (k : κ), co (l ++ m) k = co l k + co m k
  | [], m, k => (z_add _).symm
  | z :: l, m, k => by
    rw [List.cons_append, co_cons, co_cons, co_app l m k]
    grind
theorem co_none {k : κ} : ∀ {l : List (κ × β)}, (∀ z ∈ l, z.1 ≠ k) → co l k = 0
  | [], _ => rfl
  | z :: l, h => by
    rw [co_cons, if_neg (h z List.mem_cons_self), co_none fun y hy => h y (List.mem_cons_of_mem _ hy), z_add]
theorem co_one {l : List (κ × β)} (nd : (l.map (·.1)).Nodup) {z : κ × β} (h : z ∈ l) : co l z.1 = z.2 := by
  induction l with
  | nil => cases h
  | cons y l ih =>
    rw [List.map_cons, List.nodup_cons] at nd
    rw [co_cons]
    rcases List.mem_cons.mp h with rfl | h
    · rw [if_pos rfl, co_none (fun x hx e => nd.1 (List.mem_map.mpr ⟨x, hx, e⟩)), a_zero]
    · rw [ih nd.2 h, if_neg (fun e => nd.1 (List.mem_map.mpr ⟨z, h, e.symm⟩)), z_add]
/-- a sum over all pairs of what is additive -/
def lin {γ : Type} [CommRing γ] (f : κ → β → γ) : List (κ × β) → γ
  | [] => 0
  | z :: l => f z.1 z.2 + lin f l
variable [Od κ]
/-- rising, and nothing is nought -/
structure Cn (l : List (κ × β)) : Prop where
  up : l.Pairwise fun a b => Od.lt a.1 b.1 = true
  nz : ∀ z ∈ l, z.2 ≠ 0
theorem Cn.tl {z : κ × β} {l : List (κ × β)} (h : Cn (z :: l)) : Cn l := ⟨(List.pairwise_cons.mp h.up).2, fun y hy => h.nz y (List.mem_cons_of_mem _ hy)⟩
theorem lt_ne {a b : κ} (h : Od.lt a b = true) : a ≠ b := fun e => by
  subst e
  rw [Od.irr] at h
  cases h
theorem Cn.nd {l : List (κ × β)} (h : Cn l) : (l.map (·.1)).Nodup := List.pairwise_map.mpr (h.up.imp fun k => lt_ne k)
theorem Cn.hd {z : κ × β} {l : List (κ × β)} (h : Cn (z :: l)) : co (z :: l) z.1 = z.2 := co_one h.nd List.mem_cons_self
theorem Cn.tl0 {z : κ × β} {l : List (κ × β)} (h : Cn (z :: l)) : co l z.1 = 0 := co_none fun y hy => (lt_ne ((List.pairwise_cons.mp h.up).1 y hy)).symm
theorem Cn.low {y : κ × β} {l : List (κ × β)} {k : κ} (h : Cn (y :: l)) (e : Od.lt k y.1 = true) : co (y :: l) k = 0 := co_none fun x hx => by
  rcases List.mem_cons.mp hx with rfl | hx
  · exact (lt_ne e).symm
  · exact (lt_ne (Od.tr e ((List.pairwise_cons.mp h.up).1 x hx))).symm
theorem cn_ext : ∀ {l m : List (κ × β)}, Cn l → Cn m → (∀ k, co l k = co m k) → l = m
  | [], [], _, _, _ => rfl
  | [], y :: m, _, b, h => absurd ((h y.1).trans b.hd).symm (b.nz y List.mem_cons_self)
  | z :: l, [], a, _, h => absurd (a.hd.symm.trans (h z.1)) (a.nz z List.mem_cons_self)
  | z :: l, y :: m, a, b, h => by
    by_cases e : z.1 = y.1
    · have h2 : z.2 = y.2 := by rw [← a.hd, ← b.hd, h z.1, e]
      have ez : z = y := Prod.ext e h2
      subst ez
      rw [cn_ext a.tl b.tl fun k => ?_]
      by_cases ek : z.1 = k
      · subst ek
        rw [a.tl0, b.tl0]
      · have := h k
        rw [co_cons, co_cons, if_neg ek, z_add, z_add] at this
        exact this
    · rcases Od.tri e with k | k
      · exact absurd (a.hd.symm.trans ((h z.1).trans (b.low k))) (a.nz z List.mem_cons_self)
      · exact absurd (b.hd.symm.trans ((h y.1).symm.trans (a.low k))) (b.nz y List.mem_cons_self)
def ins [DecidableEq β] (k : κ) (v : β) : List (κ × β) → List (κ × β)
  | [] => if v = 0 then [] else [(k, v)]
  | z :: l => if z.1 = k then (if z.2 + v = 0 then l else (k, z.2 + v) :: l) else if Od.lt k z.1 = true then (if v = 0 then z :: l else (k, v) :: z :: l) else z :: ins k v l
variable [DecidableEq β]
/-- the sums by keys: rising, none of them nought -/
def cf (l : List (κ × β)) : List (κ × β) := l.foldr (fun z a => ins z.1 z.2 a) []
theorem ins_mem {k : κ} {v : β} {x : κ × β} : ∀ {l : List (κ × β)}, x ∈ ins k v l → x.1 = k ∨ x ∈ l
  | [], h => by
    unfold ins at h
    split at h
    · cases h
    · exact .inl (by rw [List.mem_singleton.mp h])
  | z :: l, h => by
    unfold ins at h
    split at h
    · split at h
      · exact .inr (List.mem_cons_of_mem _ h)
      · rcases List.mem_cons.mp h with rfl | h
        · exact .inl rfl
        · exact .inr (List.mem_cons_of_mem _ h)
    · split at h
      · split at h
        · exact .inr h
        · rcases List.mem_cons.mp h with rfl | h
          · exact .inl rfl
          · exact .inr h
      · rcases List.mem_cons.mp h with rfl | h
        · exact .inr List.mem_cons_self
        · exact (ins_mem h).imp_right (List.mem_cons_of_mem _)
theorem cn_ins {k : κ} {v : β} : ∀ {l : List (κ × β)}, Cn l → Cn (ins k v l)
  | [], _ => by
    unfold ins
    split
    · exact ⟨.nil, fun _ h => by cases h⟩
    · rename_i e
      exact ⟨List.pairwise_singleton _ _, fun z h => by rw [List.mem_singleton.mp h]; exact e⟩
  | z :: l, h => by
    have hp := List.pairwise_cons.mp h.up
    unfold ins
    split
    · rename_i e
      split
      · exact h.tl
      · rename_i n
        exact ⟨List.pairwise_cons.mpr ⟨fun y hy => e ▸ hp.1 y hy, hp.2⟩, fun y hy => by
          rcases List.mem_cons.mp hy with rfl | hy
          · exact n
          · exact h.nz y (List.mem_cons_of_mem _ hy)⟩
    · rename_i e
      split
      · rename_i lt
        split
        · exact h
        · rename_i n
          exact ⟨List.pairwise_cons.mpr ⟨fun y hy => by
            rcases List.mem_cons.mp hy with rfl | hy
            · exact lt
            · exact Od.tr lt (hp.1 y hy), h.up⟩, fun y hy => by
            rcases List.mem_cons.mp hy with rfl | hy
            · exact n
            · exact h.nz y hy⟩
      · rename_i nl
        have ih := cn_ins (k := k) (v := v) h.tl
        refine ⟨List.pairwise_cons.mpr ⟨fun y hy => ?_, ih.up⟩, fun y hy => ?_⟩
        · rcases ins_mem hy with a | a
          · rw [a]
            rcases Od.tri e with b | b
            · exact b
            · exact absurd b nl
          · exact hp.1 y a
        · rcases List.mem_cons.mp hy with rfl | hy
          · exact h.nz _ List.mem_cons_self
          · exact ih.nz y hy
theorem lin_ins {γ : Type} [CommRing γ] {f : κ → β → γ} (f0 : ∀ k, f k 0 = 0) (fa : ∀ k a b, f k (a + b) = f k a + f k b) {k : κ} {v : β} : ∀ l : List (κ × β), lin f (ins k v l) = lin f l + f k v
  | [] => by
    unfold ins
    split
    · rename_i e
      rw [e, f0]
      exact (a_zero _).symm
    · show f k v + 0 = 0 + f k v
      grind
  | z :: l => by
    unfold ins
    split
    · rename_i e
      split
      · rename_i n
        show lin f l = f z.1 z.2 + lin f l + f k v
        have : f k (z.2 + v) = 0 := by rw [n, f0]
        rw [fa] at this
        rw [e]
        have h2 : f k z.2 + lin f l + f k v = (f k z.2 + f k v) + lin f l := by grind
        rw [h2, this, z_add]
      · show f k (z.2 + v) + lin f l = f z.1 z.2 + lin f l + f k v
        rw [fa, e]
        grind
    · split
      · split
        · rename_i n
          rw [n, f0, a_zero]
        · show f k v + (f z.1 z.2 + lin f l) = f z.1 z.2 + lin f l + f k v
          grind
      · show f z.1 z.2 + lin f (ins k v l) = f z.1 z.2 + lin f l + f k v
        rw [lin_ins f0 fa l]
        grind
theorem cn_cf : ∀ l : List (κ × β), Cn (cf l)
  | [] => ⟨.nil, fun _ h => by cases h⟩
  | z :: l => cn_ins (cn_cf l)
theorem lin_cf {γ : Type} [CommRing γ] {f : κ → β → γ} (f0 : ∀ k, f k 0 = 0) (fa : ∀ k a b, f k (a + b) = f k a + f k b) : ∀ l : List (κ × β), lin f (cf l) = lin f l
  | [] => rfl
  | z :: l => by
    show lin f (ins z.1 z.2 (cf l)) = f z.1 z.2 + lin f l
    rw [lin_ins f0 fa, lin_cf f0 fa l]
    grind
theorem co_lin (k : κ) : ∀ l : List (κ × β), co l k = lin (fun k' (v : β) => if k' = k then v else 0) l
  | [] => rfl
  | z :: l => by
    rw [co_cons, co_lin k l]
    rfl
theorem co_cf (l : List (κ × β)) (k : κ) : co (cf l) k = co l k := by
  rw [co_lin, co_lin, lin_cf]
  · intro k'
    split <;> rfl
  · intro k' a b
    split
    · rfl
    · exact (z_add _).symm
theorem cf_ext {l m : List (κ × β)} (h : ∀ k, co l k = co m k) : cf l = cf m := cn_ext (cn_cf l) (cn_cf m) fun k => by rw [co_cf, co_cf, h k]
theorem cf_cn {l : List (κ × β)} (h : Cn l) : cf l = l := cn_ext (cn_cf l) h fun k => co_cf l k
theorem cf_eq {l m : List (κ × β)} (h : Cn l) (e : ∀ k, co l k = co m k) : l = cf m := cn_ext h (cn_cf m) fun k => by rw [co_cf, e k]
theorem ins_len {k : κ} {v : β} : ∀ l : List (κ × β), (ins k v l).length ≤ l.length + 1
  | [] => by
    unfold ins
    split
    · exact Nat.zero_le _
    · exact Nat.le_refl _
  | z :: l => by
    have := ins_len (k := k) (v := v) l
    unfold ins
    split
    · split
      · rw [List.length_cons]; omega
      · rw [List.length_cons, List.length_cons]; omega
    · split
      · split
        · omega
        · exact Nat.le_refl _
      · rw [List.length_cons, List.length_cons]; omega
theorem cf_len : ∀ l : List (κ × β), (cf l).length ≤ l.length
  | [] => Nat.le_refl _
  | z :: l => Nat.le_trans (ins_len _) (by rw [List.length_cons]; exact Nat.succ_le_succ (cf_len l))
theorem cf_mem {l : List (κ × β)} {z : κ × β} (h : z ∈ cf l) : z.2 = co l z.1 := by rw [← co_cf, co_one (cn_cf l).nd h]
theorem cf_key {z : κ × β} : ∀ {l : List (κ × β)}, z ∈ cf l → z.1 ∈ l.map (·.1)
  | [], h => by cases h
  | y :: l, h => by
    rcases ins_mem (l := cf l) h with a | a
    · rw [a]
      exact List.mem_cons_self
    · exact List.mem_cons_of_mem _ (cf_key a)
end
end Nd
namespace Nd
set_option autoImplicit false
set_option linter.unusedSectionVars false
open scoped Rat
/-! ### how great the numbers are -/
/-- r times D is whole -/
def Wh (D : Nat) (r : Rat) : Prop := ∃ z : Int, r * ((D : Int) : Rat) = (z : Rat)
def ab (D : Nat) (r : Rat) : Nat := (r * ((D : Int) : Rat)).num.natAbs
theorem ab_of {D : Nat} {r : Rat} {z : Int} (h : r * ((D : Int) : Rat) = (z : Rat)) : ab D r = z.natAbs := by
  unfold ab
  rw [h, Rat.num_intCast]
theorem wh_nul {D : Nat} : Wh D 0 := ⟨0, by rw [Rat.zero_mul]; rfl⟩
theorem ab_nul {D : Nat} : ab D 0 = 0 := by rw [ab_of (z := 0) (by rw [Rat.zero_mul]; rfl)]; rfl
theorem wh_add {D : Nat} {r s : Rat} (h : Wh D r) (k : Wh D s) : Wh D (r + s) ∧ ab D (r + s) ≤ ab D r + ab D s := by
  obtain ⟨a, ha⟩ := h
  obtain ⟨b, hb⟩ := k
  have e : (r + s) * ((D : Int) : Rat) = ((a + b : Int) : Rat) := by rw [Rat.add_mul, ha, hb, Rat.intCast_add]
  refine ⟨⟨_, e⟩, ?_⟩
  rw [ab_of e, ab_of ha, ab_of hb]
  exact Int.natAbs_add_le a b
theorem wh_mul {D E : Nat} {r s : Rat} (h : Wh D r) (k : Wh E s) : Wh (D * E) (r * s) ∧ ab (D * E) (r * s) = ab D r * ab E s := by
  obtain ⟨a, ha⟩ := h
  obtain ⟨b, hb⟩ := k
  have e : (r * s) * (((D * E : Nat) : Int) : Rat) = ((a * b : Int) : Rat) := by
    rw [Rat.intCast_mul, ← ha, ← hb, Int.natCast_mul, Rat.intCast_mul]
    grind
  refine ⟨⟨_, e⟩, ?_⟩
  rw [ab_of e, ab_of ha, ab_of hb, Int.natAbs_mul]
theorem wh_c {c : Nat} : Wh c 1 ∧ ab c 1 = c := by
  have e : (1 : Rat) * ((c : Int) : Rat) = ((c : Int) : Rat) := Rat.one_mul _
  exact ⟨⟨_, e⟩, by rw [ab_of e]; rfl⟩
theorem wh_up {D : Nat} (c : Nat) {r : Rat} (h : Wh D r) : Wh (D * c) r ∧ ab (D * c) r = ab D r * c := by
  have := wh_mul h (wh_c (c := c)).1
  rw [Rat.mul_one, wh_c.2] at this
  exact this
theorem ab_small {D : Nat} (hD : 0 < D) {r : Rat} (h : Wh D r) : r.num.natAbs ≤ ab D r ∧ r.den ≤ D := by
  obtain ⟨z, hz⟩ := h
  rw [ab_of hz]
  have dp := r.den_pos
  have e0 : r = z /. (D : Int) := by
    have h1 : ((D : Int) : Rat) ≠ 0 := by
      intro h
      have := Rat.intCast_inj.mp (h.trans rfl : ((D : Int) : Rat) = ((0 : Int) : Rat))
      omega
    rw [Rat.divInt_eq_div, ← hz, Rat.mul_div_cancel h1]
  have e1 : r.num * (D : Int) = z * (r.den : Int) := by
    have h1 : r.num /. (r.den : Int) = z /. (D : Int) := (Rat.num_divInt_den r).trans e0
    exact (Rat.divInt_eq_divInt_iff (by omega) (by omega)).mp h1
  have e2 : r.num.natAbs * D = z.natAbs * r.den := by
    have := congrArg Int.natAbs e1
    rw [Int.natAbs_mul, Int.natAbs_mul, Int.natAbs_natCast, Int.natAbs_natCast] at this
    exact this
  have dv : r.den ∣ D := by
    have : r.den ∣ r.num.natAbs * D := ⟨z.natAbs, by rw [e2, Nat.mul_comm]⟩
    exact (Nat.Coprime.symm r.reduced).dvd_of_dvd_mul_left this
  refine ⟨?_, Nat.le_of_dvd hD dv⟩
  obtain ⟨c, hc⟩ := dv
  have hc0 : 0 < c := by
    rcases Nat.eq_zero_or_pos c with h | h
    · rw [h] at hc
      omega
    · exact h
  have : z.natAbs = r.num.natAbs * c := by
    have h3 : r.den * z.natAbs = r.den * (r.num.natAbs * c) := by
      rw [Nat.mul_comm r.den z.natAbs, ← e2, hc, Nat.mul_left_comm]
    exact Nat.eq_of_mul_eq_mul_left dp h3
  rw [this]
  exact Nat.le_mul_of_pos_right _ hc0
section
variable {κ : Type} [DecidableEq κ]
def wt (D : Nat) (p : List (κ × Rat)) : Nat := (p.map fun t => ab D t.2).sum
structure Lim (D N : Nat) (p : List (κ × Rat)) : Prop where
  w : ∀ t ∈ p, Wh D t.2
  s : wt D p ≤ N
variable {D E N M : Nat} {p q : List (κ × Rat)}
theorem wt_cons (t : κ × Rat) : wt D (t :: p) = ab D t.2 + wt D p := by unfold wt; rw [List.map_cons, List.sum_cons]
theorem wt_app : wt D (p ++ q) = wt D p + wt D q := by unfold wt; rw [List.map_append, List.sum_append]
theorem Lim.le (h : Lim D N p) (k : N ≤ M) : Lim D M p := ⟨h.w, Nat.le_trans h.s k⟩
theorem Lim.nil : Lim D N ([] : List (κ × Rat)) := ⟨fun _ h => (by cases h), Nat.zero_le _⟩
theorem Lim.app (h : Lim D N p) (k : Lim D M q) : Lim D (N + M) (p ++ q) := ⟨fun t ht => by
  rcases List.mem_append.mp ht with a | a
  · exact h.w t a
  · exact k.w t a, by rw [wt_app]; exact Nat.add_le_add h.s k.s⟩
theorem Lim.l (h : Lim D N (p ++ q)) : Lim D N p := ⟨fun t ht => h.w t (List.mem_append_left _ ht), by have := h.s; rw [wt_app] at this; omega⟩
theorem Lim.r (h : Lim D N (p ++ q)) : Lim D N q := ⟨fun t ht => h.w t (List.mem_append_right _ ht), by have := h.s; rw [wt_app] at this; omega⟩
theorem Lim.at (h : Lim D N p) {t : κ × Rat} (ht : t ∈ p) : Wh D t.2 ∧ ab D t.2 ≤ N := by
  refine ⟨h.w t ht, Nat.le_trans ?_ h.s⟩
  obtain ⟨a, b, rfl⟩ := List.append_of_mem ht
  rw [wt_app, wt_cons]
  omega
theorem Lim.co (h : Lim D N p) (k : κ) : Wh D (co p k) ∧ ab D (co p k) ≤ N := by
  suffices ∀ p : List (κ × Rat), (∀ t ∈ p, Wh D t.2) → Wh D (Nd.co p k) ∧ ab D (Nd.co p k) ≤ wt D p by
    obtain ⟨a, b⟩ := this p h.w
    exact ⟨a, Nat.le_trans b h.s⟩
  intro p hp
  induction p with
  | nil => exact ⟨wh_nul, by rw [co_nil, ab_nul]; exact Nat.zero_le _⟩
  | cons t p ih =>
    obtain ⟨i1, i2⟩ := ih fun x hx => hp x (List.mem_cons_of_mem _ hx)
    have h1 := hp t List.mem_cons_self
    rw [co_cons, wt_cons]
    by_cases e : t.1 = k
    · rw [if_pos e]
      obtain ⟨j1, j2⟩ := wh_add h1 i1
      exact ⟨j1, by omega⟩
    · rw [if_neg e]
      obtain ⟨j1, j2⟩ := wh_add (wh_nul (D := D)) i1
      rw [ab_nul] at j2
      exact ⟨j1, by omega⟩
theorem Lim.up (h : Lim D N p) (c : Nat) : Lim (D * c) (N * c) p := by
  refine ⟨fun t ht => (wh_up c (h.w t ht)).1, Nat.le_trans (Nat.le_of_eq ?_) (Nat.mul_le_mul_right c h.s)⟩
  have hw := h.w
  clear h
  induction p with
  | nil => unfold wt; simp
  | cons t p ih =>
    rw [wt_cons, wt_cons, (wh_up c (hw t List.mem_cons_self)).2, ih fun x hx => hw x (List.mem_cons_of_mem _ hx), Nat.add_mul]
theorem Lim.map {ι : Type} [DecidableEq ι] {f : κ × Rat → ι × Rat} {c : Nat} (h : Lim D N p) (hf : ∀ t ∈ p, Wh D t.2 → Wh E (f t).2 ∧ ab E (f t).2 ≤ ab D t.2 * c) : Lim E (N * c) (p.map f) := by
  refine ⟨fun x hx => ?_, Nat.le_trans ?_ (Nat.mul_le_mul_right c h.s)⟩
  · obtain ⟨t, ht, rfl⟩ := List.mem_map.mp hx
    exact (hf t ht (h.w t ht)).1
  · have hw := h.w
    clear h
    induction p with
    | nil => unfold wt; simp
    | cons t p ih =>
      rw [List.map_cons, wt_cons, wt_cons, Nat.add_mul]
      exact Nat.add_le_add (hf t List.mem_cons_self (hw t List.mem_cons_self)).2 (ih (fun x hx => hf x (List.mem_cons_of_mem _ hx)) fun x hx => hw x (List.mem_cons_of_mem _ hx))
theorem Lim.filter (h : Lim D N p) (f : κ × Rat → Bool) : Lim D N (p.filter f) := by
  refine ⟨fun t ht => h.w t (List.mem_filter.mp ht).1, Nat.le_trans ?_ h.s⟩
  clear h
  induction p with
  | nil => exact Nat.le_refl _
  | cons t p ih =>
    rw [List.filter_cons, wt_cons]
    split
    · rw [wt_cons]
      omega
    · omega
variable [Od κ]
theorem lim_ins {k : κ} {v : Rat} (hv : Wh D v) (hw : ∀ t ∈ p, Wh D t.2) : (∀ t ∈ ins k v p, Wh D t.2) ∧ wt D (ins k v p) ≤ ab D v + wt D p := by
  induction p with
  | nil =>
    unfold ins
    split
    · exact ⟨fun _ h => (by cases h), Nat.zero_le _⟩
    · exact ⟨fun t h => by rw [List.mem_singleton.mp h]; exact hv, by rw [wt_cons]; exact Nat.le_refl _⟩
  | cons t p ih =>
    obtain ⟨i1, i2⟩ := ih fun x hx => hw x (List.mem_cons_of_mem _ hx)
    have h0 := hw t List.mem_cons_self
    have h1 : ∀ x ∈ p, Wh D x.2 := fun x hx => hw x (List.mem_cons_of_mem _ hx)
    obtain ⟨j1, j2⟩ := wh_add h0 hv
    unfold ins
    rw [wt_cons]
    split
    · split
      · exact ⟨h1, by omega⟩
      · refine ⟨fun x hx => ?_, by rw [wt_cons]; dsimp only; omega⟩
        rcases List.mem_cons.mp hx with rfl | hx
        · exact j1
        · exact h1 x hx
    · split
      · split
        · exact ⟨hw, by rw [wt_cons]; omega⟩
        · refine ⟨fun x hx => ?_, by rw [wt_cons, wt_cons]; exact Nat.le_refl _⟩
          rcases List.mem_cons.mp hx with rfl | hx
          · exact hv
          · exact hw x hx
      · refine ⟨fun x hx => ?_, by rw [wt_cons]; omega⟩
        rcases List.mem_cons.mp hx with rfl | hx
        · exact h0
        · exact i1 x hx
theorem Lim.cf (h : Lim D N p) : Lim D N (cf p) := by
  suffices ∀ p : List (κ × Rat), (∀ t ∈ p, Wh D t.2) → (∀ t ∈ Nd.cf p, Wh D t.2) ∧ wt D (Nd.cf p) ≤ wt D p by
    obtain ⟨a, b⟩ := this p h.w
    exact ⟨a, Nat.le_trans b h.s⟩
  intro p hp
  induction p with
  | nil => exact ⟨hp, Nat.le_refl _⟩
  | cons t p ih =>
    obtain ⟨i1, i2⟩ := ih fun x hx => hp x (List.mem_cons_of_mem _ hx)
    obtain ⟨j1, j2⟩ := lim_ins (k := t.1) (hp t List.mem_cons_self) i1
    refine ⟨j1, Nat.le_trans j2 ?_⟩
    rw [wt_cons]
    omega
end
/-- limits under which all is done -/
structure LimB (D N : Nat) : Prop where
  p : 0 < D
  d : D < 2 ^ 4000
  n : N < 2 ^ 4000
end Nd
namespace Nd
set_option autoImplicit false
open PySem PySem.W L2 My Evl PyProof.Rows Lean.Grind
/-! ### derivatives and monomials in order -/
instance : Od Dv where
  lt u v := dataLt u.D v.D
  irr u := lex_irrefl _
  tr h k := lex_trans _ _ _ h k
  tri {u v} h := dlt_ne (alike_dv u v) (by rw [eqv_dv0, decide_eq_false h])
instance : Od Mo where
  lt m n := dataLt (moD m) (moD n)
  irr m := lex_irrefl _
  tr h k := lex_trans _ _ _ h k
  tri {m n} h := dlt_ne (alike_mo m n) (by rw [eqv_mo, decide_eq_false h])
abbrev Pq := List (Mo × Rat)
/-- a monomial as it should be -/
structure MoC (m : Mo) : Prop where
  c : Cn m
  p : ∀ x ∈ m, 0 < x.2
structure PoC (p : Pq) : Prop where
  c : Cn p
  m : ∀ t ∈ p, MoC t.1
def tq (t : Mo × Rat) : Mo × Fr := (t.1, fr t.2)
def toPo (p : Pq) : Po := p.map tq
/-- monomials together -/
def mm (m n : Mo) : Mo := cf (m ++ n)
theorem co_nn {m : Mo} (h : ∀ x ∈ m, 0 ≤ x.2) (u : Dv) : 0 ≤ co m u := by
  induction m with
  | nil => exact Int.le_refl 0
  | cons x m ih =>
    rw [co_cons]
    have h1 := ih fun y hy => h y (List.mem_cons_of_mem _ hy)
    have h2 := h x List.mem_cons_self
    split
    · exact Int.add_nonneg h2 h1
    · exact Int.add_nonneg (Int.le_refl 0) h1
theorem moc_cf {m : Mo} (h : ∀ u, 0 ≤ co m u) : MoC (cf m) := ⟨cn_cf m, fun x hx => by
  have h1 := cf_mem hx
  have h2 := h x.1
  have h3 : x.2 ≠ 0 := (cn_cf m).nz x hx
  omega⟩
theorem mm_nil {m : Mo} (h : MoC m) : mm [] m = m := cf_cn h.c
theorem poc_cf {p : Pq} (h : ∀ t ∈ p, MoC t.1) : PoC (cf p) := ⟨cn_cf p, fun t ht => by
  obtain ⟨y, hy, e⟩ := List.mem_map.mp (cf_key ht)
  exact e ▸ h y hy⟩
theorem poc_nil : PoC [] := ⟨⟨.nil, fun _ h => by cases h⟩, fun _ h => by cases h⟩
/-- each number times r -/
def scP (p : Pq) (r : Rat) : Pq := p.map fun t => (t.1, t.2 * r)
/-- all terms of a product, one by one -/
def rowP (t : Mo × Rat) (q : Pq) : Pq := q.map fun s => (mm t.1 s.1, t.2 * s.2)
def mulR (p q : Pq) : Pq := p.flatMap fun t => rowP t q
def addP (p q : Pq) : Pq := cf (p ++ q)
def mulP (p q : Pq) : Pq := cf (mulR p q)
theorem mem_row {t : Mo × Rat} {q : Pq} {z : Mo × Rat} (h : z ∈ rowP t q) : ∃ s ∈ q, z.1 = mm t.1 s.1 := by
  obtain ⟨s, hs, rfl⟩ := List.mem_map.mp h
  exact ⟨s, hs, rfl⟩
theorem poc_add {p q : Pq} (h : PoC p) (k : PoC q) : PoC (addP p q) := poc_cf fun t ht => by
  rcases List.mem_append.mp ht with a | a
  · exact h.m t a
  · exact k.m t a
theorem one_mul {p : Pq} (h : PoC p) : mulP [([], 1)] p = p := by
  unfold mulP
  have : mulR [([], 1)] p = p := by
    show rowP ([], 1) p ++ [] = p
    rw [List.append_nil]
    unfold rowP
    conv => rhs; rw [← List.map_id p]
    refine List.map_congr_left fun s hs => ?_
    show (mm [] s.1, (1 : Rat) * s.2) = s
    rw [mm_nil (h.m s hs), Rat.one_mul]
  rw [this]
  exact cf_cn h.c
theorem addP_len (p q : Pq) : (addP p q).length ≤ p.length + q.length := Nat.le_trans (cf_len _) (Nat.le_of_eq (List.length_append ..))
/-! ### deriving -/
end Nd
namespace Nd
set_option autoImplicit false
open PySem PySem.Spec PySem.W PySem.Calls PyProof.Rows L2 My Evl
/-! ### dicts by nested keys: read -/
theorem at_look {k : NestedKey} {xs : List NV} {us : List Value} (r : Vals (xs.map (·.2.2)) us) {d : V} {u : Value} (rd : RelV d u) :
    RelV ((look xs k).getD d) (((atKey (lay xs us) k).map (·.2)).getD u) := by
  obtain ⟨_, h2, h3⟩ := at_lay (k := k) r
  cases e : look xs k with
  | none =>
    rw [h3 e]
    exact rd
  | some v =>
    obtain ⟨b, u', hu, rv⟩ := h2 v e
    rw [hu]
    exact rv
section
variable {X : Cx} {o i f : Expr} {pos apos cpos : Pos} {td ty tx : TE}
/-- d[k] -/
def tDGetN (P : Program) (w : World) (K : PySem.W.Frag) (td ty : TE) : TE := fun σ H Q => td σ H fun x H1 => ty σ H1 fun y H2 => ∃ (d a : Addr) (xs : List NV) (k : NestedKey) (v : V), x = .ref d ∧ y = .ref a ∧ H2 d = some (DN P w d xs) ∧ KeysOk K H2 xs ∧ KeyAt K H2 a k ∧ look xs k = some v ∧ Q v H2
theorem isD_n {pins : List (Addr × Obj)} {σ : L2.St} {H : Hp} {s : Shared} {d : Addr} {xs : List NV} (I : Inv X pins σ H s) (h : H d = some (DN X.prog X.w d xs)) : s.TypeIs (.ref d) "dict" ∧ ∃ ob, s.heap.get? d = some ob ∧ ob.ExactDict := by
  obtain ⟨_, _, _, ob, _, _, _, h1, h2, _⟩ := (I.hok d _ h).1
  exact ⟨⟨ob, h1, h2.1⟩, ob, h1, h2⟩
theorem pe_dgetN (hu : X.A.units + 9 < cLine) (ho : PE X o td) (hi : PE X i ty) (hs : NoSl i) : PE X (.Subscript o i pos) (tDGetN X.prog X.w X.K td ty) := by
  constructor
  intro pins s σ H Q I h
  refine subD_of PySem.F.slot_dict_getitem.lookup hs (thn (ho.run pins s σ H _ I h) fun u s1 z => ?_)
  obtain ⟨x, H1, I1, rx, q1⟩ := z
  refine thn (hi.run pins s1 σ H1 _ I1 q1) fun iv s2 z => ?_
  obtain ⟨y, H2, I2, ry, d, a, xs, k, v, ex, ey, hd, hk, hkey, hl, q⟩ := z
  subst ex ey
  obtain rfl : u = Value.ref d := rx
  obtain rfl : iv = Value.ref a := ry
  obtain ⟨z1, z2, us, r, m⟩ := dn_of I2 hd hk
  obtain ⟨_, h2, _⟩ := at_lay (k := k) r
  obtain ⟨b, u', hu', rv⟩ := h2 v hl
  refine ⟨(isD_n I2 hd).1, wpAny_getItem_heap (knd := nestedKind X.prog X.w) (by show X.A.units + 1 + 8 < cLine; omega) (key_is I2 hkey) m hu' ?_⟩
  exact ⟨v, H2, I2.tok _, rv, q⟩
/-- d.get(k, x) -/
def tDGet2N (P : Program) (w : World) (K : PySem.W.Frag) (td ty tx : TE) : TE := fun σ H Q => td σ H fun x H1 => ∃ d, x = .ref d ∧ (∃ xs, H1 d = some (DN P w d xs)) ∧ ty σ H1 fun y H2 => tx σ H2 fun z H3 =>
  ∃ (a : Addr) (xs : List NV) (k : NestedKey), y = .ref a ∧ H3 d = some (DN P w d xs) ∧ KeysOk K H3 xs ∧ KeyAt K H3 a k ∧ Q ((look xs k).getD z) H3
theorem pe_dget2N (hu : X.A.units + 9 < cLine) (ho : PE X o td) (he : PE X i ty) (hf : PE X f tx) (m : M2 X o "get" apos i f cpos) : PE X (.Call (.Attribute o "get" apos) [i, f] [] cpos) (tDGet2N X.prog X.w X.K td ty tx) := by
  constructor
  intro pins s σ H Q I h
  refine wpAny_Call_method m.base m.few m.line PySem.F.plainAttrs_dict PySem.F.slot_dict_get PySem.F.type_dict_get (thn (ho.run pins s σ H _ I h) fun u s1 z => ?_)
  obtain ⟨x, H1, I1, rx, d, ex, ⟨xs0, hd0⟩, q1⟩ := z
  subst ex
  obtain rfl : u = Value.ref d := rx
  obtain ⟨t1, ob, t2, t3⟩ := isD_n I1 hd0
  refine ⟨t1, fun b e => by cases e; exact ⟨ob, t2, t3.2.1⟩, ?_⟩
  rw [m.trees]
  refine callWith_builtin rfl (evalArgs_plain (spliced_cons (thn (he.run pins s1 σ H1 _ I1 q1) fun iv s2 z => ?_)))
  obtain ⟨y, H2, I2, ry, q2⟩ := z
  refine spliced_cons (thn (hf.run pins s2 σ H2 _ I2 q2) fun fv s3 z => spliced_nil ?_)
  obtain ⟨zv, H3, I3, rz, a, xs, k, ey, hd, hk, hkey, q⟩ := z
  subst ey
  obtain rfl : iv = Value.ref a := ry
  obtain ⟨z1, z2, us, r, mm⟩ := dn_of I3 hd hk
  refine call_meetsIn PySem.F.slot_dict_get mm.typeIs PySem.F.entry_dict_get (PySem.F.args_dict_get_3 _ _ _) (meetsH_dict_get_default (nestedKind X.prog X.w) d a z1 fv) ⟨by show X.A.units + 1 + 8 < cLine; omega, k, _, key_is I3 hkey, mm, ?_⟩
  exact ⟨_, H3, I3.tok _, at_look r rz, q⟩
end
end Nd
namespace Nd
set_option autoImplicit false
open PySem PySem.Spec PySem.W PySem.Calls PyProof.Rows L2 My Evl
/-! ### dicts by nested keys: comprehensions -/
section
variable {X : Cx}
end
end Nd
namespace Nd
set_option autoImplicit false
open PySem PySem.W L2 My Evl Lean.Grind
/-! ### what a dict by nested keys holds -/
structure Ky (K : PySem.W.Frag) (κ : Type) where
  kp : κ → Pr
  kd : κ → PyData
  to : ∀ k, To K (kp k) (kd k)
  rf : ∀ {k : κ} {v : V} {H : Hp}, (kp k).P v H → ∃ a, v = .ref a
  ks : ∀ k, keyish (kd k) = true
  inj : ∀ {a b : κ}, nk (kd a) = nk (kd b) → a = b
  dp : ∀ k, (nk (kd k)).depth ≤ 8
def kyD (K : PySem.W.Frag) : Ky K Dv := ⟨DvP, Dv.D, to_dv, fun ⟨a, h, _⟩ => ⟨a, h⟩, fun u => by simp [Dv.D, keyish, keyishAll], nk_inj, deep_nk⟩
section
variable {κ β : Type} [DecidableEq κ]
def KG {K : PySem.W.Frag} (ky : Ky K κ) (vp : β → Pr) : List (κ × β) → List NV → Hp → Prop
  | [], [], _ => True
  | z :: zs, x :: xs, B => (x.1 = nk (ky.kd z.1) ∧ (ky.kp z.1).P (.ref x.2.1) B ∧ (vp z.2).P x.2.2 B) ∧ KG ky vp zs xs B
  | [], _ :: _, _ => False
  | _ :: _, [], _ => False
def hasG (zs : List (κ × β)) (k : κ) : Bool := zs.any fun z => decide (z.1 = k)
def putG (zs : List (κ × β)) (k : κ) (v : β) : List (κ × β) := if hasG zs k = true then zs.map fun z => if z.1 = k then (z.1, v) else z else zs ++ [(k, v)]
def valG (zs : List (κ × β)) (k : κ) : Option β := (zs.find? fun z => decide (z.1 = k)).map (·.2)
variable {K : PySem.W.Frag} {ky : Ky K κ} {vp : β → Pr} {B B' H : Hp}
theorem KG.m (e : Ex B B') : ∀ {zs : List (κ × β)} {xs : List NV}, KG ky vp zs xs B → KG ky vp zs xs B'
  | [], [], _ => trivial
  | _ :: _, _ :: _, h => ⟨⟨h.1.1, (ky.kp _).m e h.1.2.1, (vp _).m e h.1.2.2⟩, KG.m e h.2⟩
theorem KG.len : ∀ {zs : List (κ × β)} {xs : List NV}, KG ky vp zs xs B → xs.length = zs.length
  | [], [], _ => rfl
  | _ :: _, _ :: _, h => congrArg Nat.succ (KG.len h.2)
theorem KG.at : ∀ {zs : List (κ × β)} {xs : List NV} {i : Nat} {x : NV}, KG ky vp zs xs B → xs[i]? = some x → ∃ z, zs[i]? = some z ∧ x.1 = nk (ky.kd z.1) ∧ (ky.kp z.1).P (.ref x.2.1) B ∧ (vp z.2).P x.2.2 B
  | [], [], i, x, _, h => by simp at h
  | z :: _, y :: _, 0, x, h, e => by
    obtain rfl := Option.some.inj e
    exact ⟨z, rfl, h.1⟩
  | _ :: _, _ :: _, i + 1, x, h, e => KG.at (i := i) h.2 e
theorem KG.has (k : κ) : ∀ {zs : List (κ × β)} {xs : List NV}, KG ky vp zs xs B → hasN xs (nk (ky.kd k)) = hasG zs k
  | [], [], _ => rfl
  | z :: zs, x :: xs, h => by
    have ih := KG.has k h.2
    unfold hasN hasG at *
    rw [List.any_cons, List.any_cons, ih, h.1.1]
    congr 1
    rw [Bool.eq_iff_iff, decide_eq_true_eq, decide_eq_true_eq]
    exact ⟨ky.inj, fun e => by rw [e]⟩
theorem KG.app : ∀ {zs ys : List (κ × β)} {xs us : List NV}, KG ky vp zs xs B → KG ky vp ys us B → KG ky vp (zs ++ ys) (xs ++ us) B
  | [], _, [], _, _, h => h
  | _ :: _, _, _ :: _, _, a, h => ⟨a.1, KG.app a.2 h⟩
theorem KG.set {k : κ} {f : β} {v : V} (hf : (vp f).P v B) : ∀ {zs : List (κ × β)} {xs : List NV}, KG ky vp zs xs B → KG ky vp (zs.map fun z => if z.1 = k then (z.1, f) else z) (xs.map fun x => if x.1 = nk (ky.kd k) then (x.1, x.2.1, v) else x) B
  | [], [], _ => trivial
  | z :: zs, x :: xs, h => by
    refine ⟨?_, KG.set hf h.2⟩
    dsimp only
    by_cases e : z.1 = k
    · rw [if_pos e, if_pos (by rw [h.1.1, e])]
      exact ⟨h.1.1, h.1.2.1, hf⟩
    · rw [if_neg e, if_neg (fun q => e (ky.inj (h.1.1.symm.trans q)))]
      exact h.1
theorem KG.put {k : κ} {f : β} {a : Addr} {v : V} {zs : List (κ × β)} {xs : List NV} (h : KG ky vp zs xs B) (ha : (ky.kp k).P (.ref a) B) (hf : (vp f).P v B) : KG ky vp (putG zs k f) (putN xs (nk (ky.kd k)) a v) B := by
  unfold putG putN
  rw [h.has k]
  cases hasG zs k with
  | true => exact h.set hf
  | false => exact h.app ⟨⟨rfl, ha, hf⟩, trivial⟩
theorem Ky.at_ {k : κ} {a : Addr} (ky : Ky K κ) (h : (ky.kp k).P (.ref a) H) : KeyAt K H a (nk (ky.kd k)) := ⟨ky.kd k, ky.to k _ _ h, ky.ks k, rfl, ky.dp k⟩
theorem KG.ok {zs : List (κ × β)} {xs : List NV} (h : KG ky vp zs xs B) (e : Ex B H) : KeysOk K H xs := fun x hx => by
  obtain ⟨i, hi⟩ := List.mem_iff_getElem?.mp hx
  obtain ⟨z, _, h1, h2, _⟩ := (h.m e).at hi
  rw [h1]
  exact ky.at_ h2
theorem KG.look (k : κ) : ∀ {zs : List (κ × β)} {xs : List NV}, KG ky vp zs xs B → (valG zs k = none ∧ look xs (nk (ky.kd k)) = none) ∨ ∃ f v, valG zs k = some f ∧ look xs (nk (ky.kd k)) = some v ∧ (vp f).P v B
  | [], [], _ => .inl ⟨rfl, rfl⟩
  | z :: zs, x :: xs, h => by
    have ih := KG.look k h.2
    unfold valG Nd.look at *
    rw [List.find?_cons, List.find?_cons]
    by_cases e : z.1 = k
    · rw [_root_.decide_eq_true e, _root_.decide_eq_true (by rw [h.1.1, e])]
      exact .inr ⟨_, _, rfl, rfl, h.1.2.2⟩
    · rw [decide_eq_false e, decide_eq_false (fun q => e (ky.inj (h.1.1.symm.trans q)))]
      exact ih
theorem hasG_mem {zs : List (κ × β)} {k : κ} : hasG zs k = true ↔ k ∈ zs.map (·.1) := by
  unfold hasG
  rw [List.any_eq_true, List.mem_map]
  exact ⟨fun ⟨z, h, e⟩ => ⟨z, h, of_decide_eq_true e⟩, fun ⟨z, h, e⟩ => ⟨z, h, _root_.decide_eq_true e⟩⟩
theorem putG_keys (zs : List (κ × β)) (k : κ) (f : β) : (putG zs k f).map (·.1) = if hasG zs k = true then zs.map (·.1) else zs.map (·.1) ++ [k] := by
  unfold putG
  split
  · rw [List.map_map]
    refine List.map_congr_left fun z _ => ?_
    show (if z.1 = k then (z.1, f) else z).1 = z.1
    split <;> rfl
  · rw [List.map_append]
    rfl
theorem putG_nd {zs : List (κ × β)} {k : κ} {f : β} (h : (zs.map (·.1)).Nodup) : ((putG zs k f).map (·.1)).Nodup := by
  rw [putG_keys]
  split
  · exact h
  · rename_i e
    rw [List.nodup_append]
    exact ⟨h, by simp, fun a ha b hb => by
      rw [List.mem_singleton.mp hb]
      rintro rfl
      exact e (hasG_mem.mpr ha)⟩
theorem putG_len {zs : List (κ × β)} {k : κ} {f : β} : (putG zs k f).length ≤ zs.length + 1 := by
  unfold putG
  split
  · rw [List.length_map]
    omega
  · rw [List.length_append]
    exact Nat.le_refl _
variable [CommRing β]
theorem val_co {zs : List (κ × β)} (nd : (zs.map (·.1)).Nodup) (k : κ) : (valG zs k).getD 0 = co zs k := by
  induction zs with
  | nil => rfl
  | cons z zs ih =>
    rw [List.map_cons, List.nodup_cons] at nd
    unfold valG at *
    rw [List.find?_cons, co_cons]
    by_cases e : z.1 = k
    · rw [_root_.decide_eq_true e, if_pos e, co_none (fun y hy q => nd.1 (List.mem_map.mpr ⟨y, hy, q.trans e.symm⟩)), a_zero]
      rfl
    · rw [decide_eq_false e, if_neg e, z_add]
      exact ih nd.2
theorem val_no {zs : List (κ × β)} {k : κ} : valG zs k = none ↔ hasG zs k = false := by
  unfold valG hasG
  rw [Option.map_eq_none_iff, List.find?_eq_none, List.any_eq_false]
theorem put_co {zs : List (κ × β)} (nd : (zs.map (·.1)).Nodup) (k : κ) (f : β) (j : κ) : co (putG zs k f) j = if k = j then f else co zs j := by
  unfold putG
  cases e : hasG zs k with
  | false =>
    rw [if_neg Bool.false_ne_true, co_app, co_cons, co_nil, a_zero]
    have h0 : co zs k = 0 := co_none fun z hz q => by
      have : hasG zs k = true := hasG_mem.mpr (List.mem_map.mpr ⟨z, hz, q⟩)
      rw [e] at this
      cases this
    dsimp only
    by_cases q : k = j
    · rw [if_pos q, if_pos q, ← q, h0, z_add]
    · rw [if_neg q, if_neg q, a_zero]
  | true =>
    rw [if_pos rfl]
    have hm : ∃ z ∈ zs, z.1 = k := List.mem_map.mp (hasG_mem.mp e)
    clear e
    by_cases q : k = j
    · subst q
      rw [if_pos rfl]
      obtain ⟨z, hz, rfl⟩ := hm
      have hz2 : (z.1, f) ∈ zs.map fun y => if y.1 = z.1 then (y.1, f) else y := List.mem_map.mpr ⟨z, hz, by rw [if_pos rfl]⟩
      refine co_one ?_ hz2
      have := putG_nd (k := z.1) (f := f) nd
      unfold putG at this
      rw [if_pos (hasG_mem.mpr (List.mem_map.mpr ⟨z, hz, rfl⟩))] at this
      exact this
    · rw [if_neg q]
      clear nd hm
      induction zs with
      | nil => rfl
      | cons z zs ih =>
        rw [List.map_cons, co_cons, co_cons, ih]
        by_cases e : z.1 = k
        · rw [if_pos e, if_neg (by rw [e]; exact q), if_neg (by rw [e]; exact q)]
        · rw [if_neg e]
/-- r more at k -/
def addG (zs : List (κ × β)) (k : κ) (r : β) : List (κ × β) := putG zs k (co zs k + r)
theorem addG_co {zs : List (κ × β)} (nd : (zs.map (·.1)).Nodup) (k : κ) (r : β) (j : κ) : co (addG zs k r) j = co (zs ++ [(k, r)]) j := by
  unfold addG
  rw [put_co nd, co_app, co_cons, co_nil, a_zero]
  dsimp only
  by_cases q : k = j
  · rw [if_pos q, if_pos q, q]
  · rw [if_neg q, if_neg q, a_zero]
/-- all of l, one by one -/
def addAll (zs l : List (κ × β)) : List (κ × β) := l.foldl (fun zs z => addG zs z.1 z.2) zs
theorem addAll_nd : ∀ {l zs : List (κ × β)}, (zs.map (·.1)).Nodup → ((addAll zs l).map (·.1)).Nodup
  | [], _, h => h
  | _ :: l, _, h => addAll_nd (l := l) (putG_nd h)
theorem addAll_co : ∀ {l zs : List (κ × β)}, (zs.map (·.1)).Nodup → ∀ j, co (addAll zs l) j = co (zs ++ l) j
  | [], zs, _, j => by rw [List.append_nil]; rfl
  | z :: l, zs, h, j => by
    show co (addAll (addG zs z.1 z.2) l) j = _
    rw [addAll_co (zs := addG zs z.1 z.2) (putG_nd h), co_app, addG_co h, co_app, co_app, co_cons, co_cons, co_nil]
    grind
theorem addAll_len : ∀ {l zs : List (κ × β)}, (addAll zs l).length ≤ zs.length + l.length
  | [], zs => Nat.le_refl _
  | z :: l, zs => by
    have h1 := addAll_len (l := l) (zs := addG zs z.1 z.2)
    have h2 : (addG zs z.1 z.2).length ≤ zs.length + 1 := putG_len
    show (addAll (addG zs z.1 z.2) l).length ≤ _
    rw [List.length_cons]
    omega
theorem addAll_app (zs l m : List (κ × β)) : addAll zs (l ++ m) = addAll (addAll zs l) m := List.foldl_append
end
end Nd
namespace Nd
set_option autoImplicit false
open PySem PySem.Spec PySem.W PySem.Calls PyProof.Rows L2 My Evl
/-! ### d.items() walked, d a dict by nested keys that is locked -/
end Nd
namespace Nd
set_option autoImplicit false
open PySem PySem.W L2 My Evl
/-! ### a dict under way: made at H0, at d -/
section
variable {κ β : Type} [DecidableEq κ] {P : Program} {w : World} {K : PySem.W.Frag} {ky : Ky K κ} {vp : β → Pr}
structure DcAt (P : Program) (w : World) {K : PySem.W.Frag} (ky : Ky K κ) (vp : β → Pr) (B H0 : Hp) (d : Addr) (zs : List (κ × β)) (Bi H : Hp) : Prop where
  g : Gr B H0 Bi (wo d H)
  at_ : ∃ xs, H d = some (DN P w d xs) ∧ KG ky vp zs xs Bi
/-- a dict that holds this, as it is known -/
def DcP (P : Program) (w : World) {K : PySem.W.Frag} (ky : Ky K κ) (vp : β → Pr) (zs : List (κ × β)) : Pr :=
  ⟨fun v B => ∃ (d : Addr) (xs : List NV) (B0 : Hp), v = .ref d ∧ B d = some (DN P w d xs) ∧ B0 d = none ∧ Ex B0 B ∧ KG ky vp zs xs B0, fun e h => by
    obtain ⟨d, xs, B0, h1, h2, h3, h4, h5⟩ := h
    exact ⟨d, xs, B0, h1, e _ _ h2, h3, h4.trans e, h5⟩⟩
variable {B H0 Bi B2 H H2 : Hp} {d : Addr} {zs : List (κ × β)} {k : κ} {f f0 : β} {σ : L2.St} {D : Ends} {te ta tb ty tx tv : TE} {t tr : TA} {i : Nat} {p q : Pr} {ps qs : List Pr} {v : V}
theorem DcAt.ex (A : DcAt P w ky vp B H0 d zs Bi H) : Ex Bi H := A.g.c.trans wo_ex
theorem DcAt.no (A : DcAt P w ky vp B H0 d zs Bi H) : Bi d = none := wo_none A.g.c
theorem DcAt.on (A : DcAt P w ky vp B H0 d zs Bi H) : H d ≠ none := by
  obtain ⟨xs, h, _⟩ := A.at_
  rw [h]
  exact fun z => nomatch z
theorem DcAt.step (A : DcAt P w ky vp B H0 d zs Bi H) (k : Gr Bi H B2 H2) : DcAt P w ky vp B H0 d zs B2 H2 := by
  obtain ⟨xs, h, al⟩ := A.at_
  exact ⟨A.g.side A.on k, xs, k.a _ _ h, al.m k.b⟩
theorem DcAt.new (e : Ex B H) (hd : H d = none) : DcAt P w ky vp B H d [] B (upd H d (DN P w d [])) := ⟨by rw [wo_new hd]; exact Gr.refl e, [], upd_same, trivial⟩
theorem DcAt.put {xs : List NV} {a : Addr} (A : DcAt P w ky vp B H0 d zs Bi H) (h : H d = some (DN P w d xs)) (hx : KG ky vp zs xs Bi) (hk : (ky.kp k).P (.ref a) Bi) (hf : (vp f).P v Bi) :
    DcAt P w ky vp B H0 d (putG zs k f) Bi (upd H d (DN P w d (putN xs (nk (ky.kd k)) a v))) := ⟨by rw [wo_upd]; exact A.g, _, upd_same, hx.put hk hf⟩
theorem DcAt.fin (A : DcAt P w ky vp B H0 d zs Bi H) (h0 : H0 d = none) : ∃ B', Gr B H0 B' H ∧ (DcP P w ky vp zs).P (.ref d) B' := by
  obtain ⟨xs, hd, al⟩ := A.at_
  have hB := A.no
  refine ⟨upd Bi d (DN P w d xs), ⟨A.g.a.trans wo_ex, A.g.b.trans (Ex.new hB), fun b o e => ?_, fun x hb hh => ?_, fun z b qs q => ?_⟩, d, xs, Bi, rfl, upd_same, hB, Ex.new hB, al⟩
  · by_cases n : b = d
    · subst n
      rw [upd_same] at e
      rw [hd]
      exact e
    · rw [upd_ne n] at e
      exact A.ex _ _ e
  · have n : x ≠ d := fun z => hh (by rw [z]; exact h0)
    rw [upd_ne n]
    exact A.g.d x hb hh
  · by_cases n : b = d
    · subst n
      rw [upd_same] at q
      cases q
    · rw [upd_ne n] at q
      exact A.g.e z b qs q
/-- an expression while such a dict is under way, it stays -/
def EvA (P : Program) (w : World) {K : PySem.W.Frag} (ky : Ky K κ) (vp : β → Pr) (B H0 : Hp) (d : Addr) (zs : List (κ × β)) (Bi : Hp) (te : TE) (σ : L2.St) (p : Pr) : Prop :=
  ∀ B1 H1, Ex Bi B1 → DcAt P w ky vp B H0 d zs B1 H1 → ∀ Q : VK, (∀ v B2 H2, Ex B1 B2 → DcAt P w ky vp B H0 d zs B2 H2 → p.P v B2 → Q v H2) → te σ H1 Q
theorem a_ev (h : EvP te σ Bi p) : EvA P w ky vp B H0 d zs Bi te σ p := fun B1 H1 e A Q q => (h.mono e) H1 A.ex Q fun v B2 H2 g pv => q v B2 H2 g.b (A.step g) pv
theorem a_op {r : R2} {x y z : V} (ha : EvA P w ky vp B H0 d zs Bi ta σ (IsV x)) (hb : EvA P w ky vp B H0 d zs Bi tb σ (IsV y)) (hr : ∀ (H : Hp) (Q : VK), Q z H → r x y H Q) : EvA P w ky vp B H0 d zs Bi (tOp r ta tb) σ (IsV z) := fun B1 H1 e A Q q =>
  ha B1 H1 e A _ fun v B2 H2 e2 A2 pv => hb B2 H2 (e.trans e2) A2 _ fun u B3 H3 e3 A3 pu => by
    obtain rfl : v = x := pv
    obtain rfl : u = y := pu
    exact hr H3 Q (q z B3 H3 (e2.trans e3) A3 rfl)
/-- d.get(k, x) -/
theorem a_get2 (hs : σ[i]? = some (some (.ref d))) (hk : EvP ty σ Bi (ky.kp k)) (hf : EvP tx σ Bi (vp f0)) : EvA P w ky vp B H0 d zs Bi (tDGet2N P w K (tVar i) ty tx) σ (vp ((valG zs k).getD f0)) := fun B1 H1 e A Q q => by
  refine ⟨.ref d, hs, d, rfl, ?_, (hk.mono e) H1 A.ex _ fun y B2 H2 g py => ?_⟩
  · obtain ⟨xs, hx, _⟩ := A.at_
    exact ⟨xs, hx⟩
  have A2 := A.step g
  obtain ⟨a, rfl⟩ := ky.rf py
  refine (hf.mono (e.trans g.b)) H2 A2.ex _ fun u B3 H3 g3 pu => ?_
  have A3 := A2.step g3
  obtain ⟨xs, hx, al⟩ := A3.at_
  refine ⟨a, xs, _, rfl, hx, al.ok A3.ex, ky.at_ ((ky.kp k).m (g3.b.trans A3.ex) py), ?_⟩
  rcases al.look k with ⟨h1, h2⟩ | ⟨f', v, h1, h2, h3⟩
  · rw [h2]
    refine q u B3 H3 (g.b.trans g3.b) A3 ?_
    rw [h1]
    exact pu
  · rw [h2]
    refine q v B3 H3 (g.b.trans g3.b) A3 ?_
    rw [h1]
    exact h3
/-- d[k] = e -/
theorem ps_put (hs : σ[i]? = some (some (.ref d))) (A : DcAt P w ky vp B H0 d zs Bi H) (hv : EvA P w ky vp B H0 d zs Bi tv σ (vp f)) (hk : EvP ty σ Bi (ky.kp k)) (hl : zs.length < 100000)
    (q : ∀ B2 H2, Ex Bi B2 → DcAt P w ky vp B H0 d (putG zs k f) B2 H2 → D.nx σ H2) : sNPut P w K (tVar i) ty tv D σ H :=
  hv Bi H (Ex.refl Bi) A _ fun v B2 H2 e2 A2 pv => by
    refine ⟨.ref d, hs, (hk.mono e2) H2 A2.ex _ fun y B3 H3 g py => ?_⟩
    have A3 := A2.step g
    obtain ⟨xs, hx, al⟩ := A3.at_
    obtain ⟨a, rfl⟩ := ky.rf py
    exact ⟨d, a, xs, _, rfl, rfl, hx, al.ok A3.ex, ky.at_ ((ky.kp k).m A3.ex py), by rw [al.len]; exact hl, q B3 _ (e2.trans g.b) (A3.put hx al py ((vp f).m g.b pv))⟩
/-- {} -/
theorem dc_nul (e : Ex B H) (q : ∀ d H2, H d = none → DcAt P w ky vp B H d [] B H2 → D.nx (σ.set i (some (.ref d))) H2) : tAsg (tDNewN P w) (gName i) D σ H := fun d hd => q d _ hd (DcAt.new e hd)
end
end Nd
namespace Nd
set_option autoImplicit false
open PySem PySem.W L2 My Evl
section
variable {κ β : Type} [DecidableEq κ] {P : Program} {w : World} {K : PySem.W.Frag} {ky : Ky K κ} {vp : β → Pr}
variable {B H : Hp} {σ : L2.St} {te tk tv : TE} {g : TG} {tt : TT} {vs : List Nat} {ps : List Pr} {Q : VK}
end
end Nd
namespace Nd
set_option autoImplicit false
open PySem PySem.Spec PySem.W PySem.Calls PyProof.Rows L2 My Evl
/-! ### sorted of a list, by data -/
section
variable {X : Cx}
end
end Nd
namespace Nd
set_option autoImplicit false
open PySem PySem.W L2 My Evl PyProof.Rows
section
variable {te : TE} {σ : L2.St} {B H : Hp} {K : PySem.W.Frag} {ps : List Pr}
end
/-! ### sorting by data, any things -/
section
variable {α : Type}
def leZ (pd : α → PyData) (s t : α) : Bool := !dataLt (pd t) (pd s)
def srtZ (pd : α → PyData) (zs : List α) : List α := zs.mergeSort (leZ pd)
theorem byKey_Z {H : Hp} (pp : α → Pr) (pd : α → PyData) {xs : List V} {us : List α} (h : AllP (us.map pp) xs H) : AllP ((srtZ pd us).map pp) (byKey xs (us.map pd)) H := by
  have hl : xs.length = us.length := by
    have := h.len
    rw [List.length_map] at this
    exact this
  have e1 : xs.zip (us.map pd) = (xs.zip us).map fun p => (p.1, pd p.2) := zip_pairs _ hl
  have e2 : ((xs.zip us).mergeSort fun p q => leZ pd p.2 q.2).map (fun p => (p.1, pd p.2)) = (xs.zip (us.map pd)).mergeSort (dataLe false (·.2)) := by
    rw [e1]
    refine List.map_mergeSort fun p _ q _ => ?_
    rw [dataLe_eq]
    rfl
  have e3 : ((xs.zip us).mergeSort fun p q => leZ pd p.2 q.2).map (·.2) = srtZ pd us := by
    have := List.map_mergeSort (r := fun p q : V × α => leZ pd p.2 q.2) (s := leZ pd) (f := fun p : V × α => p.2) (l := xs.zip us) (fun _ _ _ _ => rfl)
    rw [this, List.map_snd_zip (by omega)]
    rfl
  have e4 : byKey xs (us.map pd) = ((xs.zip us).mergeSort fun p q => leZ pd p.2 q.2).map (·.1) := by
    unfold byKey
    rw [← e2, List.map_map]
    rfl
  rw [e4, ← e3]
  exact AllP.ofG pp fun p hp => AllP.zipG pp h p ((List.mergeSort_perm _ _).mem_iff.mp hp)
theorem leZ_tot (pd : α → PyData) (s t : α) : (leZ pd s t || leZ pd t s) = true := by
  unfold leZ
  cases h : dataLt (pd t) (pd s) with
  | false => rfl
  | true =>
    rw [dlt_as h]
    rfl
theorem leZ_tr (pd : α → PyData) (s t u : α) (h : leZ pd s t = true) (k : leZ pd t u = true) : leZ pd s u = true := by
  unfold leZ at *
  cases e : dataLt (pd u) (pd s) with
  | false => rfl
  | true =>
    rcases dlt_tr (y := pd t) e with a | a
    · rw [a] at k; cases k
    · rw [a] at h; cases h
theorem srtZ_perm (pd : α → PyData) (zs : List α) : (srtZ pd zs).Perm zs := List.mergeSort_perm zs _
end
section
variable {κ β : Type} [DecidableEq κ] [Od κ] [Lean.Grind.CommRing β] [DecidableEq β]
end
open Classical in
section
variable {C H : Hp}
end
end Nd
namespace My
set_option autoImplicit false
open PySem PySem.Spec PySem.W PySem.Calls PyProof.Rows L2 Evl NdefX LamX
section
variable {X : Cx} {pins : List (Addr × Obj)} {σ : L2.St} {A : Around} {f S I l : Addr} {fo : Obj} {R : Result → Shared → Prop} {xs : List V} {ks : List PyData} {H0 : Hp}
end
end My
namespace My
set_option autoImplicit false
open PySem PySem.Spec PySem.W PySem.Calls PyProof.Rows L2 Evl NdefX LamX
end My
namespace Nd
set_option autoImplicit false
open PySem PySem.Spec PySem.W PySem.Calls PyProof.Rows L2 My Evl
/-- put one by one -/
def putsN (nv : List NV) : List NV := nv.foldl (fun xs z => putN xs z.1 z.2.1 z.2.2) []
theorem puts_len (nv : List NV) : (putsN nv).length ≤ nv.length := by
  suffices ∀ (l xs : List NV), (l.foldl (fun xs z => putN xs z.1 z.2.1 z.2.2) xs).length ≤ xs.length + l.length by
    have := this nv []
    rw [List.length_nil, Nat.zero_add] at this
    exact this
  intro l
  induction l with
  | nil => exact fun xs => Nat.le_refl _
  | cons z l ih =>
    intro xs
    have h1 := ih (putN xs z.1 z.2.1 z.2.2)
    have h2 := put_len (xs := xs) (k := z.1) (a := z.2.1) (v := z.2.2)
    rw [List.foldl_cons, List.length_cons]
    omega
theorem lay_all : ∀ {l xs : List NV} {us ws : List Value}, Vals (xs.map (·.2.2)) us → Vals (l.map (·.2.2)) ws → ∃ qs, Vals ((l.foldl (fun xs z => putN xs z.1 z.2.1 z.2.2) xs).map (·.2.2)) qs ∧ storedAllH (lay xs us) (lay l ws) = lay (l.foldl (fun xs z => putN xs z.1 z.2.1 z.2.2) xs) qs
  | [], xs, us, _, r, .nil => ⟨us, r, rfl⟩
  | z :: l, xs, us, w :: ws, r, .cons rz rl => by
    obtain ⟨qs, h1, h2⟩ := lay_store (k := z.1) (a := z.2.1) r rz
    obtain ⟨ps, h3, h4⟩ := lay_all (l := l) h1 rl
    refine ⟨ps, h3, ?_⟩
    rw [List.foldl_cons, ← h4]
    show storedAllH (storedH (lay xs us) z.1 z.2.1 w) (lay l ws) = _
    rw [h2]
section
variable {X : Cx}
/-- the pairs that a tuple holds -/
def PairsN (K : PySem.W.Frag) (H : Hp) (xs : List V) (nv : List NV) : Prop := xs.length = nv.length ∧ ∀ (i : Nat) (x : V) (z : NV), xs[i]? = some x → nv[i]? = some z → ∃ T, x = .ref T ∧ SqT K H T [.ref z.2.1, z.2.2] ∧ KeyAt K H z.2.1 z.1
def rDictN (P : Program) (w : World) (K : PySem.W.Frag) : List V → Hp → VK → Prop := fun vs H Q => ∃ (a : Addr) (o : Obj) (xs : List V) (nv : List NV), vs = [.ref a] ∧ H a = some (.frz o (.tup xs)) ∧ o.dict = none ∧ PairsN K H xs nv ∧ ∀ d, H d = none → Q (.ref d) (upd H d (DN P w d (putsN nv)))
theorem pairs_vals {pins : List (Addr × Obj)} {σ : L2.St} {H : Hp} {s : Shared} (I : Inv X pins σ H s) : ∀ {xs : List V} {nv : List NV} {its : List Value}, PairsN X.K H xs nv → Vals xs its → ∃ (Ts : Nat → Addr) (us : List Value), Vals (nv.map (·.2.2)) us ∧
    ∀ (j : Nat) (z : NV) (u : Value), nv[j]? = some z → us[j]? = some u → its[j]? = some (.ref (Ts j)) ∧ s.heap.IsTuple (Ts j) #[.ref z.2.1, u]
  | [], [], [], _, .nil => ⟨fun _ => 0, [], .nil, fun j z u h => by simp at h⟩
  | [], _ :: _, _, h, _ => by have := h.1; simp at this
  | _ :: _, [], _, h, _ => by have := h.1; simp at this
  | x :: xs, z :: nv, _ :: its, h, .cons r rr => by
    obtain ⟨T, rfl, hT, _⟩ := h.2 0 x z rfl rfl
    obtain ⟨Ts, us, h1, h2⟩ := pairs_vals I (xs := xs) (nv := nv) ⟨by have := h.1; simpa using this, fun i y w e1 e2 => h.2 (i + 1) y w e1 e2⟩ rr
    obtain ⟨its2, rv, tp, _⟩ := I.tuple hT
    obtain ⟨k0, u0, rfl, rk, ru⟩ := vals2 rv
    obtain rfl : k0 = Value.ref z.2.1 := rk
    obtain rfl := (show _ = Value.ref T from r)
    refine ⟨fun j => match j with | 0 => T | j + 1 => Ts j, u0 :: us, .cons ru h1, fun j w u e1 e2 => ?_⟩
    cases j with
    | zero =>
      obtain rfl := Option.some.inj e1
      obtain rfl := Option.some.inj e2
      exact ⟨rfl, tp⟩
    | succ j => exact h2 j w u e1 e2
theorem call_dictN (hc : X.calm = true) (hu : X.A.units + 10 < cLine) : CallR X (.type "dict") (rDictN X.prog X.w X.K) := by
  intro pins s σ H xs us Q I r q
  obtain ⟨a, o, xs, nv, rfl, ha, hod, hp, q⟩ := q
  obtain ⟨u, rfl, rx⟩ := vals1 r
  obtain rfl : u = Value.ref a := rx
  obtain ⟨ho, hz, its, rv, o2, ho2, hcl, n, hdat⟩ := I.hok a _ ha
  rw [ho] at ho2
  obtain rfl := Option.some.inj ho2
  obtain ⟨Ts, ws, rw_, ht⟩ := pairs_vals I hp rv
  have lw := vlen rw_
  have lx := hp.1
  have li := rv.length
  -- the pairs as values
  let ps : List (Value × Value) := (lay nv ws).map fun y => (.ref y.2.1, y.2.2)
  have lp : ps.length = nv.length := by rw [List.length_map, lay_len lw]
  have pat : ∀ (j : Nat) (y : NestedKey × Addr × Value), (lay nv ws)[j]? = some y → ∃ (z : NV), nv[j]? = some z ∧ ws[j]? = some y.2.2 ∧ z.1 = y.1 ∧ z.2.1 = y.2.1 := fun j y hy => by
    obtain ⟨z, w, hz, hw, rfl⟩ := lay_at hy
    exact ⟨z, hz, hw, rfl, rfl⟩
  have PA := PairArg.tuple (prog := X.prog) (w := X.w) a its.toArray Ts ps
  refine call_dict_pairsH (knd := nestedKind X.prog X.w) (ps := lay nv ws) PA (I.ok.hd hc) (by show X.A.units + 1 + 1 + 8 < cLine; omega) ⟨⟨o, n, ho, hcl, hod, hdat⟩, by rw [List.size_toArray, lp, ← lx, li], fun j k v hj => ?_⟩ ⟨by rw [lp, lay_len lw], fun i k v hj => ?_⟩ (fun h' hk y hy => ?_) (by rw [lp, ← lx]; exact hz) fun h' tk m' hk => ?_
  · rw [List.getElem?_map] at hj
    obtain ⟨y, hy, e⟩ := Option.map_eq_some_iff.mp hj
    obtain ⟨rfl, rfl⟩ : Value.ref y.2.1 = k ∧ y.2.2 = v := ⟨congrArg Prod.fst e, congrArg Prod.snd e⟩
    obtain ⟨z, hz, hw, e1, e2⟩ := pat j y hy
    obtain ⟨h1, h2⟩ := ht j z _ hz hw
    rw [List.getElem?_toArray, ← e2]
    exact ⟨h1, .inl h2⟩
  · have hj : ps[i]? = some (k, v) := hj
    rw [List.getElem?_map] at hj
    obtain ⟨y, hy, e⟩ := Option.map_eq_some_iff.mp hj
    obtain ⟨rfl, rfl⟩ : Value.ref y.2.1 = k ∧ y.2.2 = v := ⟨congrArg Prod.fst e, congrArg Prod.snd e⟩
    exact ⟨y.1, y.2.1, hy, rfl⟩
  · obtain ⟨j, hj⟩ := List.mem_iff_getElem?.mp hy
    obtain ⟨z, hz, _, e1, e2⟩ := pat j y hj
    have hjx : j < xs.length := by
      have := (List.getElem?_eq_some_iff.mp hz).1
      omega
    obtain ⟨T, _, _, hkey⟩ := hp.2 j _ z (List.getElem?_eq_getElem hjx) hz
    have I2 : Inv X pins σ H { s with heap := h' } := I.kept (t' := s.toks) fun b ob e => hk b ob (Nat.ne_of_lt (Heap.lt_size e)) (fun h => nomatch h) e
    have := key_is I2 hkey
    rw [e1, e2] at this
    exact this
  · obtain ⟨qs, h1, h2⟩ := lay_all (l := nv) (xs := []) (us := []) .nil rw_
    have h2 : storedAllH [] (lay nv ws) = lay (putsN nv) qs := h2
    rw [h2] at m'
    have hm : (s.heap.objs.size == sysModules) = false := beq_eq_false_iff_ne.mpr (Nat.ne_of_gt I.big)
    have hl := puts_len nv
    exact ⟨.ref s.heap.objs.size, upd H s.heap.objs.size (DN X.prog X.w s.heap.objs.size (putsN nv)), I.laid (t' := tk) (fun b ob e => hk b ob (fun h => nomatch h) e) (Nat.le_refl _) (dn_ok (dn_to hm (by omega) h1 m')), rfl, q _ (I.hok.fresh (Nat.le_refl _))⟩
end
/-! ### a tuple, its object known as it stands -/
def FuP (ps : List Pr) : Pr := ⟨fun v H => ∃ a o xs, v = .ref a ∧ H a = some (.frz o (.tup xs)) ∧ o.dict = none ∧ AllP ps xs H, fun e ⟨a, o, xs, h1, h2, h3, h4⟩ => ⟨a, o, xs, h1, e _ _ h2, h3, h4.m e⟩⟩
theorem fu_tu {K : PySem.W.Frag} {ps : List Pr} {v : V} {H : Hp} (h : (FuP ps).P v H) : (TuP K ps).P v H := by
  obtain ⟨a, o, xs, rfl, h2, _, h4⟩ := h
  exact ⟨a, xs, rfl, .inl (.inr ⟨o, h2⟩), h4⟩
theorem p_tupFu {t : TA} {σ : L2.St} {B : Hp} {ps : List Pr} (h : EvPs t σ B ps) (hl : ps.length ≤ 100000) : EvP (tTupF t) σ B (FuP ps) := fun H1 a Q k =>
  h H1 a _ fun vs B2 H2 g b => ⟨sz_of (by rw [b.len]; exact hl), fun r o hr ho => k _ _ _ (g.trans (Gr.new (.frz o (.tup vs)) g.c hr)) ⟨r, o, vs, rfl, upd_same, ho, b.m (Ex.new (fresh_back g.c hr))⟩⟩
/-- tuple(list), the new tuple known as it stands -/
theorem p_tupOfF {te : TE} {σ : L2.St} {B : Hp} {ps : List Pr} {K : PySem.W.Frag} (h : EvP te σ B (LqP K ps)) :
    EvP (tCB (fun xs H Q => ∃ p ys, xs = [.ref p] ∧ SqL K H p ys ∧ ∀ l o, H l = none → o.dict = none → Q (.ref l) (upd H l (.frz o (.tup ys)))) (tCons te tNil)) σ B (FuP ps) := fun H1 a Q k => h H1 a _ fun v B2 H2 g x => by
  obtain ⟨l, xs, rfl, hl, al⟩ := x
  exact ⟨l, xs, rfl, ex_l g.c hl, fun m o hm ho => k _ _ _ (g.trans (Gr.new (.frz o (.tup xs)) g.c hm)) ⟨m, o, xs, rfl, upd_same, ho, al.m (Ex.new (fresh_back g.c hm))⟩⟩
section
variable {κ β : Type} [DecidableEq κ] {P : Program} {w : World} {K : PySem.W.Frag} {ky : Ky K κ} {vp : β → Pr}
def putsG (zs : List (κ × β)) : List (κ × β) := zs.foldl (fun a z => putG a z.1 z.2) []
theorem putsG_eq {zs : List (κ × β)} (nd : (zs.map (·.1)).Nodup) : putsG zs = zs := by
  suffices ∀ l a : List (κ × β), ((a ++ l).map (·.1)).Nodup → l.foldl (fun a z => putG a z.1 z.2) a = a ++ l by exact this zs [] nd
  intro l
  induction l with
  | nil => exact fun a _ => (List.append_nil a).symm
  | cons z l ih =>
    intro a h
    rw [List.foldl_cons]
    have no : hasG a z.1 = false := by
      cases e : hasG a z.1 with
      | false => rfl
      | true =>
        exfalso
        have := hasG_mem.mp e
        rw [List.map_append, List.nodup_append] at h
        exact h.2.2 _ this _ (List.mem_map.mpr ⟨z, List.mem_cons_self, rfl⟩) rfl
    have e : putG a z.1 z.2 = a ++ [z] := by
      unfold putG
      rw [no, if_neg Bool.false_ne_true]
    rw [e, ih (a ++ [z]) (by rw [List.append_assoc]; exact h), List.append_assoc]
    rfl
/-- what the tuple's pairs are -/
theorem pairs_of_fu {B H : Hp} (e : Ex B H) : ∀ {zs : List (κ × β)} {xs : List V}, AllP (zs.map fun z => TuP K [ky.kp z.1, vp z.2]) xs B → ∃ nv : List NV, PairsN K H xs nv ∧ ∀ (a : List (κ × β)) (c : List NV), KG ky vp a c B → KG ky vp (zs.foldl (fun a z => putG a z.1 z.2) a) (nv.foldl (fun xs z => putN xs z.1 z.2.1 z.2.2) c) B
  | [], [], _ => ⟨[], ⟨rfl, fun i x z h => by simp at h⟩, fun a c h => h⟩
  | z :: zs, x :: xs, h => by
    obtain ⟨nv, h1, h2⟩ := pairs_of_fu e (zs := zs) (xs := xs) h.2
    obtain ⟨T, ys, rfl, hT, al⟩ := h.1
    match ys, al with
    | [y1, y2], al =>
      obtain ⟨m1, m2, _⟩ := al
      obtain ⟨b, rfl⟩ := ky.rf m1
      refine ⟨(nk (ky.kd z.1), b, y2) :: nv, ⟨by rw [List.length_cons, List.length_cons, h1.1], fun i x w e1 e2 => ?_⟩, fun a c hk => ?_⟩
      · cases i with
        | zero =>
          obtain rfl := Option.some.inj e1
          obtain rfl := Option.some.inj e2
          exact ⟨T, rfl, ex_t e hT, ky.at_ ((ky.kp z.1).m e m1)⟩
        | succ i => exact h1.2 i x w e1 e2
      · rw [List.foldl_cons, List.foldl_cons]
        exact h2 _ _ (hk.put m1 m2)
/-- name = dict(pairs) -/
theorem ps_dictN {B H : Hp} {σ : L2.St} {te : TE} {D : Ends} {i : Nat} {zs : List (κ × β)} (a : Ex B H) (h : EvP te σ B (FuP (zs.map fun z => TuP K [ky.kp z.1, vp z.2]))) (nd : (zs.map (·.1)).Nodup)
    (q : ∀ d B2 H2, H d = none → Ex B B2 → DcAt P w ky vp B H d zs B2 H2 → D.nx (σ.set i (some (.ref d))) H2) : tAsg (tCB (rDictN P w K) (tCons te tNil)) (gName i) D σ H :=
  h H a _ fun v B2 H2 g b => by
    obtain ⟨l, o, xs, rfl, hl, ho, al⟩ := b
    obtain ⟨nv, h1, h2⟩ := pairs_of_fu (ky := ky) (vp := vp) g.c al
    refine ⟨l, o, xs, nv, rfl, g.c _ _ hl, ho, h1, fun d hd => ?_⟩
    refine q d B2 _ (fresh_back g.a hd) g.b ⟨by rw [wo_new hd]; exact g, _, upd_same, ?_⟩
    have := h2 [] [] trivial
    have e : zs.foldl (fun a z => putG a z.1 z.2) [] = zs := putsG_eq nd
    rw [e] at this
    exact this
end
end Nd
namespace PySem.W
set_option autoImplicit false
open PySem PySem.Calls PyProof.Rows PySem.SeqAt
theorem keyLt'_general (x y : Value) : keyLt' general' x y = oneLt' false x y := rfl
section
variable {prog : Program} {w : World} {A : Around} {E : Value → Shared → Prop} {s : Shared}
/-- the call of tuple's own __lt__, as sorting makes it -/
theorem call_tuple_lt {Q : Value → Shared → Prop} {l b : Addr} {items items2 : Array Value} {e r : Nat → Bool} (hl : s.heap.IsTuple l items) (hb : s.heap.IsTuple b items2)
    (he : ∀ j (h1 : j < items.size) (h2 : j < items2.size), EqAt A.in1 s items[j] items2[j] (e j)) (hr : ∀ j (h1 : j < items.size) (h2 : j < items2.size), e j = false → RcLt A.in1 s items[j] items2[j] (r j))
    (h : Q (.bool (firstLt e r (decide (items.size < items2.size)) (List.range (min items.size items2.size)))) s) : wpAny (model prog w) A (call (.builtin "tuple.__lt__") [.ref l, .ref b]) Q E s := by
  obtain ⟨⟨cls, dd, data, sl⟩, ho, hc, n, hd⟩ := id hl
  obtain ⟨⟨cls2, dd2, data2, sl2⟩, ho2, hc2, n2, hd2⟩ := id hb
  simp only at hc hd hc2 hd2
  subst hc hd hc2 hd2
  exact call_meets F.slot_tuple_lt ⟨_, ho, rfl⟩ F.entry_tuple_lt (F.args_tuple_lt_2 _ _) (tuple_ltAt l b items items2 n n2 dd dd2 sl sl2 e r) ⟨ho, ho2, he, hr, h⟩
theorem oneLt_tup {xs ys : List PyData} {a b : Value} {as bs : List Addr} {Q : Bool → Shared → Prop} (ra : Reads s.heap a (.tuple xs) as) (rb : Reads s.heap b (.tuple ys) bs) (h : alike (.tuple xs) (.tuple ys) = true)
    (hu : A.units + min (PyData.tuple xs).depth (PyData.tuple ys).depth < cLine) (hq : Q (dataLt (.tuple xs) (.tuple ys)) s) : wpAny (model prog w) A (oneLt' true a b) Q E s := by
  have hal : alikeAll xs ys = true := by simpa [alike] using h
  cases ra with
  | @tuple l o vs n _ as₁ h1 h2 h3 h4 =>
    cases rb with
    | @tuple l' o' vs' n' _ bs₁ k1 k2 k3 k4 =>
      have n1 : vs.size = xs.length := by simpa using SeqAt.ReadsAll.length _ _ _ h4
      have n2 : vs'.size = ys.length := by simpa using SeqAt.ReadsAll.length _ _ _ k4
      rw [dataLt_tuple, ← firstLt_toks xs ys hal, ← n1, ← n2] at hq
      rw [oneLt'_eq]
      simp only [if_true]
      refine wpAny_bind (wpAny_cRoomFor (room_here hu) ?_)
      refine wpAny_bind (wpAny_callSpecialIfBound?_slot (T := "tuple") ⟨_, h1, h2⟩ F.slot_tuple_lt (call_tuple_lt (e := pairEq xs ys) (r := fun j => dataLt (xs.getD j .none) (ys.getD j .none)) ⟨_, h1, h2, _, h3⟩ ⟨_, k1, k2, _, k3⟩ (fun j j1 j2 => ?_) (fun j j1 j2 hj => ?_) ?_))
      · have := eqAt_alikeAll xs ys A.in1 s vs.toList vs'.toList _ _ h4 k4 hal (room_in hu) j (by simpa using j1) (by simpa using j2)
        simpa using this
      · have := rcLt_alikeAll xs ys A.in1 s vs.toList vs'.toList _ _ h4 k4 hal (room_in hu) j (by simpa using j1) (by simpa using j2) hj
        simpa using this
      · exact wpAny_truthy_bool hq
theorem each_right {α β : Type} {R : α → β → Prop} : ∀ {as : List α} {bs : List β}, EachIs R as bs → ∀ b ∈ bs, ∃ a ∈ as, R a b
  | _, _, .nil, b, h => absurd h (by simp)
  | _, _, .cons (a := x) h t, b, hb => by
    rcases List.mem_cons.mp hb with rfl | hb
    · exact ⟨x, List.mem_cons_self .., h⟩
    · obtain ⟨a, ha, r⟩ := each_right t b hb
      exact ⟨a, List.mem_cons_of_mem _ ha, r⟩
theorem tup_first {h : Heap} {xs : List PyData} {v : Value} {as : List Addr} (r : Reads h v (.tuple xs) as) : ∃ a o vs n, v = .ref a ∧ h.get? a = some o ∧ o.cls = .type "tuple" ∧ o.data = .seq vs n ∧ (vs[0]?.isSome = true ↔ xs ≠ []) := by
  cases r with
  | @tuple l o vs n _ as₁ h1 h2 h3 h4 =>
    have n1 : vs.size = xs.length := by simpa using SeqAt.ReadsAll.length _ _ _ h4
    refine ⟨l, o, vs, n, rfl, h1, h2, h3, ?_⟩
    cases xs with
    | nil =>
      have : vs[0]? = none := Array.getElem?_eq_none (by rw [n1]; exact Nat.le_refl _)
      rw [this]
      simp
    | cons x r =>
      have : vs[0]? = some (vs[0]'(by rw [n1]; exact Nat.succ_pos _)) := Array.getElem?_eq_getElem _
      rw [this]
      simp
theorem each_firsts {M : Model} : ∀ {vs : List Value} {ds : List PyData}, EachIs (fun v d => ∃ as, Reads s.heap v d as) vs ds → (∀ d ∈ ds, ∃ xs, d = .tuple xs) →
    ∃ fs : List (Option Value), (∀ (Q : List (Option Value) → Shared → Prop), Q fs s → wpAny M A (vs.mapM firstOfTuple') Q E s) ∧ EachIs (fun f d => f.isSome = true ↔ d ≠ .tuple []) fs ds
  | _, _, .nil, _ => ⟨[], fun Q q => by rw [List.mapM_nil]; exact wpAny_pure q, .nil⟩
  | _, _, .cons (b := d) ⟨as, r⟩ t, ht => by
    obtain ⟨fs, h1, h2⟩ := each_firsts (M := M) t fun d hd => ht d (List.mem_cons_of_mem _ hd)
    obtain ⟨xs, rfl⟩ := ht d (List.mem_cons_self ..)
    obtain ⟨a, o, vs, n, rfl, ho, hc, hd, hf⟩ := tup_first r
    refine ⟨vs[0]? :: fs, fun Q q => ?_, .cons ?_ h2⟩
    · rw [List.mapM_cons]
      refine wpAny_bind ?_
      rw [kas_first_eq]
      refine wpAny_bind (Looks.here (show Looks M s.heap (typeOf (.ref a)) o.cls from (Looks.ld ho).andThen .now) ?_)
      rw [hc, if_neg (by first | decide | simp)]
      refine wpAny_bind (listItems_at ho hd (wpAny_pure ?_))
      exact wpAny_bind (h1 (fun bs s' => wpAny M A (pure (vs[0]? :: bs)) Q E s') (wpAny_pure q))
    · rw [hf]
      constructor
      · intro h e
        injection e with e
        exact h e
      · intro h e
        exact h (by rw [e])
/-- tuples, some of them empty, can be sorted -/
theorem SortsAt.tups {vs : List Value} {ds : List PyData} (e : EachIs (fun v d => ∃ as, Reads s.heap v d as) vs ds) (hal : AllAlike ds) (hk : ∀ d ∈ ds, ∃ xs, d = PyData.tuple xs) (hu : ∀ d, d ∈ ds → A.units + d.depth < cLine) : SortsAt prog w A s (dataKind s.heap ds) vs := by
  by_cases hne : ∀ d ∈ ds, d ≠ PyData.tuple []
  · refine SortsAt.data e hal (.inl fun d hd => ?_) hu
    obtain ⟨xs, rfl⟩ := hk d hd
    cases xs with
    | nil => exact absurd rfl (hne _ hd)
    | cons x r => exact ⟨x, r, rfl⟩
  · have room : ∀ {d d' : PyData}, d ∈ ds → A.units + min d.depth d'.depth < cLine := fun {d d'} hd => Nat.lt_of_le_of_lt (Nat.add_le_add_left (Nat.min_le_left _ _) _) (hu d hd)
    have hsome : ∃ d ∈ ds, d = PyData.tuple [] := Classical.byContradiction fun hn => hne fun d hd he => hn ⟨d, hd, he⟩
    have kind : ∃ f : Bool, ∀ (E : Value → Shared → Prop) {Q : SortKind → Shared → Prop}, Q (cond f general' oneType') s → wpAny (model prog w) A (keyKind' vs.toArray) Q E s := by
      obtain ⟨fs, -, h2⟩ := each_firsts (A := A) (E := fun _ _ => True) (M := model prog w) e hk
      have hnall : (fs.toArray.all fun x => x.isSome) = false := by
        rw [List.all_toArray, List.all_eq_false]
        obtain ⟨d, hd, he⟩ := hsome
        obtain ⟨f, hf, hfd⟩ := each_right h2 d hd
        exact ⟨f, hf, fun q => hfd.mp q he⟩
      refine ⟨(fs.toArray[0]?.bind id).isSome, fun E Q hq => ?_⟩
      obtain ⟨fs', h1, h2'⟩ := each_firsts (A := A) (E := E) (M := model prog w) e hk
      rw [keyKind'_eq, List.mapM_toArray, map_eq_pure_bind]
      refine wpAny_bind (wpAny_bind (h1 _ (wpAny_pure ?_)))
      have hnall' : (fs'.toArray.all fun x => x.isSome) = false := by
        rw [List.all_toArray, List.all_eq_false]
        obtain ⟨d, hd, he⟩ := hsome
        obtain ⟨f, hf, hfd⟩ := each_right h2' d hd
        exact ⟨f, hf, fun q => hfd.mp q he⟩
      rw [hnall']
      rw [if_neg Bool.false_ne_true]
      have hsame : (fs'.toArray[0]?.bind id).isSome = (fs.toArray[0]?.bind id).isSome := by
        cases h2 with
        | nil =>
          cases h2'
          rfl
        | cons a b =>
          cases h2' with
          | cons a' b' =>
            simp only [List.getElem?_toArray, List.getElem?_cons_zero, Option.bind_some, id]
            rw [Bool.eq_iff_iff]
            exact a'.trans a.symm
      rw [hsame]
      cases hb : (fs.toArray[0]?.bind id).isSome with
      | true =>
        rw [hb] at hq
        rw [if_pos rfl]
        exact wpAny_pure hq
      | false =>
        rw [hb] at hq
        rw [if_neg Bool.false_ne_true]
        have looks : ∀ v ∈ vs, Looks (model prog w) s.heap (typeOf v) (Value.type "tuple") := fun v hv => by
          obtain ⟨d, hd, as, r⟩ := e.left v hv
          obtain ⟨xs, rfl⟩ := hk d hd
          exact looks_reads r
        have hpos : 0 < vs.length := by
          obtain ⟨d, hd, he⟩ := hsome
          obtain ⟨v, hv, -⟩ := each_right e d hd
          exact List.length_pos_of_mem hv
        rw [oneTypeOnly'_eq, List.mapM_toArray, map_eq_pure_bind]
        refine wpAny_bind (wpAny_bind (wpAny_bind (kas_mapM (r := Value.type "tuple") _ (fun v hv Q' hq => (looks v hv).here hq) (wpAny_pure ?_))))
        have hall : ((List.map (fun _ => Value.type "tuple") vs).toArray.all fun x => x == Value.type "tuple") = true := by
          simp only [List.all_toArray, List.all_map, List.all_eq_true]
          intro _ _
          rfl
        have h0 : (List.map (fun _ => Value.type "tuple") vs).toArray[0]? = some (Value.type "tuple") := by
          cases vs with
          | nil => exact absurd hpos (Nat.lt_irrefl _)
          | cons v vs => simp
        rw [h0]
        simp only [hall, if_true]
        exact wpAny_pure (wpAny_pure hq)
    obtain ⟨f, hkind⟩ := kind
    refine ⟨fun v hv => ?_, cond f general' oneType', ?_, fun _ E Q hq => hkind E hq⟩
    · obtain ⟨d, hd, as, r⟩ := e.left v hv
      exact ⟨_, dataKind_some hal hd r⟩
    · intro E x y a b Q ha hb hq
      obtain ⟨d, as, hd, ra, rfl⟩ := dataKind_inv ha
      obtain ⟨d', as', hd', rb, rfl⟩ := dataKind_inv hb
      obtain ⟨xs, rfl⟩ := hk d hd
      obtain ⟨ys, rfl⟩ := hk d' hd'
      cases f with
      | true =>
        show wpAny (model prog w) A (keyLt' general' x y) Q E s
        rw [keyLt'_general]
        exact oneLt_alike (fun h => absurd h Bool.false_ne_true) ra rb (hal _ hd _ hd') (fun h => nomatch h) (room hd) hq
      | false =>
        show wpAny (model prog w) A (keyLt' oneType' x y) Q E s
        rw [keyLt'_oneType]
        exact oneLt_tup ra rb (hal _ hd _ hd') (room hd) hq
end
end PySem.W
-- PART2
namespace Nd
set_option autoImplicit false
open PySem PySem.Spec PySem.W PySem.Calls PyProof.Rows L2 My Evl
section
variable {X : Cx} {pins : List (Addr × Obj)} {σ : L2.St} {H : Hp} {s : Shared} {A : Around} {E : Value → Shared → Prop}
/-- sorted(d) of a dict by tuples -/
theorem sorted_dictM {d : Addr} {ks : List PyData} {as : List Addr} {Q : VK} (I : Inv X pins σ H s) (hh : A.in1.handled = none) {o : Obj} {es : Array DictEntry} {ep : Nat} (lo : (d == sysModules) = false)
    (ho : s.heap.get? d = some o) (ex : o.ExactDict) (hd : o.data = .dict es ep) (hes : es.toList.map (·.key) = as.map Value.ref) (hz : as.length ≤ sizeLine)
    (hl : ks.length = as.length) (hal : AllAlike ks) (hsk : ∀ d ∈ ks, ∃ xs, d = PyData.tuple xs) (hu : ∀ d, d ∈ ks → A.units + 2 + d.depth < cLine) (dp : DpAll X.K H (as.map V.ref) ks)
    (q : ∀ a, H a = none → Q (.ref a) (upd H a (.lst (byKey (as.map V.ref) ks)))) :
    wpAny (model X.prog X.w) A (call (.builtin "sorted") [.ref d]) (EP X pins σ Q) E s := by
  have hsz : es.size = as.length := by simpa using congrArg List.length hes
  refine call_function_entry_kw kind_sorted plain_sorted entry_sorted (args_sorted1 _) ?_
  unfold Builtin.«sorted»
  refine wpAny_bind (m := checkCount "sorted" 1 1 _) (wpAny_pure ?_)
  refine wpAny_bind (kdu_collect (A := A.in1) (KdlSrc.rawDict (es := es) (ep := ep) lo) hh ⟨o, ho, ex, hd⟩ (by omega) fun h1 tk acc hk hacc => ?_)
  have hA : acc.toList = as.map Value.ref := by
    apply List.ext_getElem?
    intro i
    by_cases hi : i < as.length
    · have hi2 : i < acc.size := by rw [hacc.1]; omega
      obtain ⟨hi3, e⟩ := hacc.2 i acc[i] (by rw [Array.getElem?_eq_getElem hi2])
      have e2 : (es.toList.map (·.key))[i]? = some es[i].key := by
        rw [List.getElem?_map, List.getElem?_eq_getElem (by simpa using hi3)]
        simp
      rw [← hes, e2, ← e]
      simp [hi2]
    · rw [List.getElem?_eq_none (by rw [Array.length_toList, hacc.1]; omega), List.getElem?_eq_none (by rw [List.length_map]; omega)]
  rw [hA]
  refine wpAny_bind (wpAny_newList ?_ (by rw [List.length_map]; exact hz))
  have I1 := I.kept (t' := tk) (h' := h1) hk
  have I2 := I1.kept (t' := tk) (h' := h1.push (seqObj "list" (as.map Value.ref).toArray 0)) (fun c o e => Heap.get?_push_of_some _ e)
  have at1 : (h1.push (seqObj "list" (as.map Value.ref).toArray 0)).get? h1.objs.size = some (seqObj "list" (as.map Value.ref).toArray 0) := Heap.get?_push_size _ rfl
  have hl' : ks.length = (as.map V.ref).length := by rw [List.length_map]; exact hl
  have vl : (byKey (as.map V.ref) ks).length ≤ sizeLine := by
    show (((as.map V.ref).zip ks).mergeSort (dataLe false (·.2)) |>.map (·.1)).length ≤ _
    rw [List.length_map, List.length_mergeSort, List.length_zip, List.length_map]
    omega
  have ev : EachIs (fun u d => ∃ bs, Reads (sortingHeap (h1.push (seqObj "list" (as.map Value.ref).toArray 0)) h1.objs.size (as.map Value.ref)) u d bs) (as.map Value.ref) ks :=
    (dps_each I1 (My.vals_refs as) dp).mono fun u d ⟨bs, r⟩ => ⟨bs, Reads.keeps (fun b o e => sortingHeap_old (Nat.ne_of_lt (Heap.lt_size e)) (Heap.get?_push_of_some _ e)) r⟩
  have ez := zip_snd hl'
  have er := each_zip ev hl'
  have out := sortVals_data (enc := fun p : V × PyData => p.2) false (vals_each (h := s.heap) (My.vals_refs as) hl') er (by rw [ez]; exact hal)
  obtain ⟨c, at3⟩ := sortedHeap_at (vs := as.map Value.ref) (out := (sortVals (dataKind (sortingHeap (h1.push (seqObj "list" (as.map Value.ref).toArray 0)) h1.objs.size (as.map Value.ref)) (((as.map V.ref).zip ks).map fun p => p.2)) false (as.map Value.ref) (as.map Value.ref)).toArray) at1
  refine wpAny_bind (wpAny_holding (wpAny_call_entry_kw slot_list_sort ⟨_, at1, rfl⟩ entry_list_sort ?_ (args_list_sort _)))
  refine list_sort_vals (s := { s with heap := h1.push (seqObj "list" (as.map Value.ref).toArray 0), toks := tk }) (κ := dataKind (sortingHeap (h1.push (seqObj "list" (as.map Value.ref).toArray 0)) h1.objs.size (as.map Value.ref)) (((as.map V.ref).zip ks).map fun p => p.2)) at1 ?_ (by rw [List.length_map]; exact hz) ?_
  · rw [ez]
    exact SortsAt.tups (s := { s with heap := sortingHeap (h1.push (seqObj "list" (as.map Value.ref).toArray 0)) h1.objs.size (as.map Value.ref), toks := tk }) ev hal hsk hu
  · refine ⟨_, rfl, wpAny_pure ⟨_, rfl, .ref h1.objs.size, _, free2 (b := h1.objs.size + 1) (t' := tk) I2 (Fre.of I1 (Nat.le_refl _)) (Fre.of I1 (Nat.le_succ h1.objs.size)) (I1.hok.fresh (Nat.le_refl _)) (I1.hok.fresh (Nat.le_succ _)) (fun x o n1 n2 e => (sortedHeap_old n1 (Heap.lt_size e)).trans e) ⟨vl, _, c, each_vals out, at3⟩, rfl, q _ (I1.hok.fresh (Nat.le_refl _))⟩⟩
end
section
variable {X : Cx} {pins : List (Addr × Obj)} {σ : L2.St} {H : Hp} {s : Shared}
/-- sorted(e), e a dict by nested keys -/
def tSortM (P : Program) (w : World) (K : PySem.W.Frag) (te : TE) : TE := fun σ H Q => te σ H fun v H1 => ∃ (d : Addr) (xs : List NV) (ks : List PyData), v = .ref d ∧ H1 d = some (DN P w d xs) ∧ ks.length = xs.length ∧ PySem.W.AllAlike ks ∧ (∀ d ∈ ks, ∃ xs, d = PyData.tuple xs) ∧ (∀ e, e ∈ ks → e.depth ≤ 50) ∧
  DpAll K H1 (xs.map fun x => V.ref x.2.1) ks ∧ ∀ a, H1 a = none → Q (.ref a) (upd H1 a (.lst (byKey (xs.map fun x => V.ref x.2.1) ks)))
theorem pe_sortM {te : TE} {e : Expr} {p pos : Pos} {k : Nat} (hr : Room k X.A) (hg : Gl X "sorted") (hm : X.mg "sorted" = none) (he : PE X e te)
    (na : starEach [e] X.env = (false, eval e X.env) :: starEach [] X.env := by rfl) : PE X (.Call (.Name "sorted" p) [e] [] pos) (tSortM X.prog X.w X.K te) := by
  refine ⟨fun pins s σ H Q I h => ?_⟩
  refine PyProof.Rows.Call_ (ld_blt I hg hm (u := .builtin "sorted") (by decide +kernel) ?_)
  refine PyProof.Rows.callWith_builtin1 (PyProof.Rows.args_cons (thn (he.run pins s σ H _ I h) fun u s1 ⟨v, H1, I1, r1, q1⟩ => PyProof.Rows.args_nil ?_) na) na rfl
  obtain ⟨d, xs, ks, rfl, hd, a1, a2, a3, a4, a5, a6⟩ := q1
  obtain rfl : u = Value.ref d := r1
  have un := hr.un
  obtain ⟨z1, z2, us, o, es, ep, rr, e1, e2, e3, e4, e5⟩ := (I1.hok d _ hd).1
  have em : (xs.map fun x => V.ref x.2.1) = (xs.map (·.2.1)).map V.ref := by rw [List.map_map]; rfl
  rw [em] at a5
  simp only [em] at a6
  exact sorted_dictM (E := X.xe) I1 (show X.A.in1.handled = none from hr.hd) z1 e1 e2 e3 (as := xs.map (·.2.1)) (by rw [e4, lay_ref (vlen rr)]) (by rw [List.length_map]; exact z2) (by rw [a1, List.length_map]) a2 a3 (fun d hd => by
    have := a4 d hd
    omega) a5 a6
end
end Nd
local macro_rules | `(tactic| walk_at "cond") => `(tactic| (refine My.isP ?_; first
  | decide
  | omega
  | (dsimp only; first | omega | decide)
  | exact ⟨by decide, by decide, by decide⟩
  | exact ⟨by decide, by decide⟩
  | exact ⟨by omega, by omega⟩
  | exact Or.inl ⟨by omega, by omega⟩
  | exact Or.inr ⟨by omega, by omega⟩))
local macro_rules | `(tactic| walk_at "go") => `(tactic| repeat (first
  | refine ⟨_, _, rfl, rfl, (by (walk_at "cond"); done), ?_⟩
  | refine ⟨_, _, rfl, rfl, ?_⟩
  | refine ⟨_, rfl, ?_⟩
  | refine ⟨rfl, ?_⟩
  | refine ⟨⟨_, rfl⟩, ?_⟩))
namespace K12
set_option autoImplicit false
open PySem PySem.W L2 Evl My Nd
def topS (i : Nat) : Stmt := PySem.Challenge.pw_rankedchains_k18_whole_derived_and_princ.main.body.getD i (.Pass ⟨0, 0, 0, 0⟩)
def Ramong : List Pr → Pr → Prop := fun ps p => ∃ t l m : Int, ps = [IsV (.int t), IsV (.int l), IsV (.int m)] ∧ p = IsV (.bl (decide (l ≤ t) && decide (t ≤ m)))
def Raxis : List Pr → Pr → Prop := fun ps p => ∃ x : Str, ps = [IsV (.str x)] ∧ x ∈ [("x" : Str), "y"] ∧ p = IsV (.bl true)
def RnamesA (K : PySem.W.Frag) : List Pr → Pr → Prop := fun ps p => ∃ r : Rk, r.Ok ∧ ps = [NmP r.ns] ∧ p = IsV (.bl true)
def RaxesA (K : PySem.W.Frag) : List Pr → Pr → Prop := fun ps p => ∃ r : Rk, ps = [IsD K (.tuple (r.axs.map .str))] ∧ p = IsV (.bl true)
def Rrd (K : PySem.W.Frag) (q : Rk → Dv → Pr) : List Pr → Pr → Prop := fun ps p => ∃ (r : Rk) (u : Dv), r.Ok ∧ u.Of r ∧ ps = [RkP K r, DvP u] ∧ p = q r u
theorem all1 {p : Pr} {vs : List V} {H : Hp} (h : AllP [p] vs H) : ∃ v, vs = [v] ∧ p.P v H := by
  match vs, h with
  | [v], h => exact ⟨v, rfl, h.1⟩
theorem all2 {p q : Pr} {vs : List V} {H : Hp} (h : AllP [p, q] vs H) : ∃ v u, vs = [v, u] ∧ p.P v H ∧ q.P u H := by
  match vs, h with
  | [v, u], h => exact ⟨v, u, rfl, h.1, h.2.1⟩
theorem all3 {p q r : Pr} {vs : List V} {H : Hp} (h : AllP [p, q, r] vs H) : ∃ v u t, vs = [v, u, t] ∧ p.P v H ∧ q.P u H ∧ r.P t H := by
  match vs, h with
  | [v, u, t], h => exact ⟨v, u, t, rfl, h.1, h.2.1, h.2.2.1⟩
theorem dec_axes (r : Rk) : ([PyData.tuple [.str "x"], .tuple [.str "x", .str "y"], .tuple [.str "y", .str "x"]].any fun z => PyData.eqv z (.tuple (r.axs.map .str))) = true := by
  have : ∀ a : Fin 3, ([PyData.tuple [.str "x"], .tuple [.str "x", .str "y"], .tuple [.str "y", .str "x"]].any fun z => PyData.eqv z (.tuple ((axsOf a).map .str))) = true := by decide +kernel
  exact this r.ax
section
variable {P : Program} {w : World} {K : PySem.W.Frag} {mg : Str → Option Value} {base : Heap}

/-- is_whole -/
abbrev s_is_whole : Stmt := topS 25
abbrev N_is_whole : List Str := ["thing"]
theorem sc_is_whole : FnScope N_is_whole ["thing"] (defScope s_is_whole) := ⟨rfl, rfl, rfl, by decide +kernel, rfl, by decide +kernel, by decide +kernel⟩
theorem ok_is_whole {f : Addr} {fd : FuncData} (F : Fun K "is_whole" "is_whole" s_is_whole f fd)   (n_isinstance : mg "isinstance" = none) (n_int : mg "int" = none) (n_bool : mg "bool" = none)  :
    FnOk P w K mg base CX0 2 f fd ["thing"] (spP (RB K wholeB)) := by
  refine F.ok sc_is_whole (spP_len (by rintro _ _ ⟨_, _, _, _, rfl, rfl⟩; rfl)) (fun cdv A outer s H vs Q E hr h => ?_)
  obtain ⟨B, ps, p, eB, hv, ⟨qd, d, tq, hs, rfl, rfl⟩, q⟩ := h
  obtain ⟨v, rfl, h1⟩ := all1 hv
  have hu := hu_of hr
  refine ⟨_, (pss_one (ps_ret (pe_and (pe_callB call_isi (by rfl) n_isinstance (by decide +kernel) (pa_cons (pv 0) (pa_cons (pe_bltn (v := .ty "int") (u := .type "int") (by rfl) n_int (by decide +kernel) rfl) pa_nil))) (pe_one (pe_not (pe_callB call_isi (by rfl) n_isinstance (by decide +kernel) (pa_cons (pv 0) (pa_cons (pe_bltn (v := .ty "bool") (u := .type "bool") (by rfl) n_bool (by decide +kernel) rfl) pa_nil)))))))), ?_⟩
  have hd : EvP (tVar 0) [some v] B (IsD K d) := p_to (p_var rfl h1) tq
  refine My.ps_ret eB (p_ev (v := .bl (wholeB d)) (ev_is (ev_andV (a := (match d with | .int _ => true | .bool _ => true | _ => false)) (b := (match d with | .bool _ => false | _ => true)) (ev_isi (K := K) hd ?_) fun _ => ev_is (ev_notV (a := (match d with | .bool _ => true | _ => false)) (ev_isi (K := K) hd ?_)) ?_) ?_)) fun v B1 H1 g hp => q v B1 H1 g hp
  · cases d <;> (dsimp only [tyS]; decide +kernel)
  · cases d <;> (dsimp only [tyS]; decide +kernel)
  · cases d <;> rfl
  · cases d <;> rfl

/-- is_name -/
abbrev s_is_name : Stmt := topS 27
abbrev N_is_name : List Str := ["thing", "sign"]
theorem sc_is_name : FnScope N_is_name ["thing"] (defScope s_is_name) := ⟨rfl, rfl, rfl, by decide +kernel, rfl, by decide +kernel, by decide +kernel⟩
theorem ok_is_name {f : Addr} {fd : FuncData} (F : Fun K "is_name" "is_name" s_is_name f fd)   (n_isinstance : mg "isinstance" = none) (n_str : mg "str" = none) (n_len : mg "len" = none) (n_all : mg "all" = none) {tk1 tk2 : Nat} (g_MOST_LETTERS : mg "MOST_LETTERS" = some (.int 8 tk1)) (g_LETTERS : mg "LETTERS" = some (.str "abcdefghijklmnopqrstuvwxyz" tk2)) :
    FnOk P w K mg base CX0 2 f fd ["thing"] (spP (RB K nameB)) := by
  refine F.ok sc_is_name (spP_len (by rintro _ _ ⟨_, _, _, _, rfl, rfl⟩; rfl)) (fun cdv A outer s H vs Q E hr h => ?_)
  obtain ⟨B, ps, p, eB, hv, ⟨qd, d, tq, hs, rfl, rfl⟩, q⟩ := h
  obtain ⟨v, rfl, h1⟩ := all1 hv
  have hu := hu_of hr
  refine ⟨_, (pss_cons (ps_if (PW.pt (pw_or (pt_not (pt_val (pe_callB call_isi (by rfl) n_isinstance (by decide +kernel) (pa_cons (pv 0) (pa_cons (pe_bltn (v := .ty "str") (u := .type "str") (by rfl) n_str (by decide +kernel) rfl) pa_nil))))) (pw_or1 (pt_not (pt_chain op_le op_le pe_int (pe_callB call_len_str (by rfl) n_len (by decide +kernel) (pa_cons (pv 0) pa_nil)) (pe_glob (by rfl) (v := .int 8) g_MOST_LETTERS ⟨_, rfl⟩)))))) (pss_one (ps_ret pe_bl)) pss_nil)
    (pss_one (ps_ret (pe_callB (cr_all rfl) (by rfl) n_all (by decide +kernel) (pa_cons (pe_lc (own := [("sign", 1)]) rfl sc_is_name.nd (pi_str (pv 0)) (blkOk_by (N := N_is_name) (sc := defScope s_is_name) (by decide +kernel)) (fun _ _ _ _ _ => (pg_name (i := 1) sc_is_name.nd rfl (Or.inl rfl))) (fun _ _ _ _ _ => pts_nil) (fun _ _ _ _ _ => (pe_cmpR op_in_sign (pv 1) (pe_glob (by rfl) (v := .str "abcdefghijklmnopqrstuvwxyz") g_LETTERS ⟨_, rfl⟩) (by rfl)))) pa_nil))))), ?_⟩
  have hd : Dp K B v d := tq _ _ h1
  have isS : Ev (tCB (rIsi K) (tCons (tVar 0) (tCons (tC (.ty "str")) tNil))) [some v] B (.bl (match d with | .str _ => true | _ => false)) := ev_isi (K := K) (p_var (p := IsD K d) rfl hd) (by cases d <;> (dsimp only [tyS]; decide +kernel))
  by_cases hx : ∃ x, d = .str x
  · obtain ⟨x, rfl⟩ := hx
    obtain rfl : v = .str x := by cases hd; rfl
    have hl : x.length ≤ 100000 := by
      have := hs
      unfold smB at this
      exact of_decide_eq_true this
    cases hb : decide ((1 : Int) ≤ (x.length : Int)) && decide ((x.length : Int) ≤ 8) with
    | false =>
      refine ps_ifT eB (et_is (et_or (a := false) (b := true) (et_is (et_not (et_test isS)) rfl) fun _ => et_is (et_not (et_test (ev_chain (r1 := fun i j => decide (i ≤ j)) (r2 := fun i j => decide (i ≤ j)) ev_c (ev_lenS (x := x) (ev_var rfl) hl) ev_c))) (by rw [hb]; rfl)) rfl) fun H1 e1 => ?_
      refine My.ps_ret (eB.trans e1) (p_c (v := .bl false)) fun v B1 H2 g hp => q v B1 H2 ((Gr.wide eB e1).trans g) ?_
      have : nameB (.str x) = false := by
        show (decide (1 ≤ x.length) && decide (x.length ≤ 8) && _) = false
        have e1 : (decide (1 ≤ x.length) && decide (x.length ≤ 8)) = false := by
          rw [← hb]
          congr 1 <;> (apply decide_eq_decide.mpr; omega)
        rw [e1]
        rfl
      rw [this]
      exact hp
    | true =>
      refine ps_ifN eB (et_is (et_or (a := false) (b := false) (et_is (et_not (et_test isS)) rfl) fun _ => et_is (et_not (et_test (ev_chain (r1 := fun i j => decide (i ≤ j)) (r2 := fun i j => decide (i ≤ j)) ev_c (ev_lenS (x := x) (ev_var rfl) hl) ev_c))) (by rw [hb]; rfl)) rfl) fun H1 e1 => ?_
      dsimp only
      simp only [Bool.and_eq_true, decide_eq_true_eq] at hb
      refine My.ps_ret (eB.trans e1) (p_ev (v := .bl (nameB (.str x))) (ev_is (ev_allL (K := K) (bs := (List.range x.cps.size).map fun i => decide (x.cps.getD i 0 ∈ (Str.ofString "abcdefghijklmnopqrstuvwxyz").cps.toList)) ?_) ?_)) fun v B1 H2 g hp => q v B1 H2 ((Gr.wide eB e1).trans g) hp
      rotate_left
      · rw [all_cps x fun c => decide (c ∈ (Str.ofString "abcdefghijklmnopqrstuvwxyz").cps.toList)]
        refine congrArg V.bl ?_
        show _ = isNmB x
        unfold isNmB
        rw [decide_eq_true (show 1 ≤ x.length by omega), decide_eq_true (show x.length ≤ 8 by omega)]
        exact congrArg (x.cps.toList.all) (funext fun c => low_let)
      rw [List.map_map]
      refine p_lcA (K := K) (src_str (x := x) (ev_var rfl)) (by show x.length ≤ _; omega) (fun i => .bool (decide (x.cps.getD i 0 ∈ (Str.ofString "abcdefghijklmnopqrstuvwxyz").cps.toList))) fun i v B1 hi e pv => ?_
      obtain rfl : v = .str (oneS x i) := pv
      exact ⟨[some (.str x), some (.str (oneS x i))], rfl, fun H2 Q e q => q, ed_bl (ev_sign (c := x.cps.getD i 0) (z := "abcdefghijklmnopqrstuvwxyz") (ev_var rfl) ev_c)⟩
  · have hn : nameB d = false := by cases d <;> first | rfl | exact absurd ⟨_, rfl⟩ hx
    refine ps_ifT eB (et_is (et_or (a := true) (b := true) (et_is (et_not (et_test isS)) (by cases d <;> first | rfl | exact absurd ⟨_, rfl⟩ hx)) fun z => nomatch z) rfl) fun H1 e1 => ?_
    refine My.ps_ret (eB.trans e1) (p_c (v := .bl false)) fun v B1 H2 g hp => q v B1 H2 ((Gr.wide eB e1).trans g) ?_
    rw [hn]
    exact hp

/-- is_axis -/
abbrev s_is_axis : Stmt := topS 28
abbrev N_is_axis : List Str := ["thing"]
theorem sc_is_axis : FnScope N_is_axis ["thing"] (defScope s_is_axis) := ⟨rfl, rfl, rfl, by decide +kernel, rfl, by decide +kernel, by decide +kernel⟩
theorem ok_is_axis {f : Addr} {fd : FuncData} (F : Fun K "is_axis" "is_axis" s_is_axis f fd)   (n_isinstance : mg "isinstance" = none) (n_str : mg "str" = none) {aA : Addr} (g_AXES : mg "AXES" = some (.ref aA)) (v_AXES : ∀ H, Dp K H (.ref aA) (.tuple ([("x" : Str), "y"].map .str))) :
    FnOk P w K mg base CX0 1 f fd ["thing"] (spP Raxis) := by
  refine F.ok sc_is_axis (spP_len (by rintro _ _ ⟨x, rfl, _, rfl⟩; rfl)) (fun cdv A outer s H vs Q E hr h => ?_)
  obtain ⟨B, ps, p, eB, hv, ⟨x, rfl, hx, rfl⟩, q⟩ := h
  obtain ⟨v, rfl, h1⟩ := all1 hv
  obtain rfl : v = .str x := h1
  have hu := hu_of hr
  refine ⟨_, (pss_one (ps_ret (pe_and (pe_callB call_isi (by rfl) n_isinstance (by decide +kernel) (pa_cons (pv 0) (pa_cons (pe_bltn (v := .ty "str") (u := .type "str") (by rfl) n_str (by decide +kernel) rfl) pa_nil))) (pe_one (pe_cmpR op_in_seq (pv 0) (pe_glob (by rfl) (v := .ref aA) g_AXES rfl) (by rfl)))))), ?_⟩
  refine ps_ret eB (p_ev (v := .bl true) (ev_andV (a := true) (b := true) (ev_isi (K := K) (d := .str x) (ed_st (ev_var rfl)) k_ss) fun _ => ev_is (ev_inT (neg := false) (ys := ["x", "y"]) (ev_var rfl) (ed_ref (v_AXES B))) ?_)) fun v B1 H1 g hp => q v B1 H1 g hp
  simp only [Bool.false_eq_true, if_false]
  rw [decide_eq_true hx]

end
end K12
namespace K12
set_option autoImplicit false
open PySem PySem.W L2 Evl My Nd
section
variable {P : Program} {w : World} {K : PySem.W.Frag} {mg : Str → Option Value} {base : Heap}
/-- is_derivative -/
abbrev s_is_derivative : Stmt := topS 32
abbrev N_is_derivative : List Str := ["thing", "name", "by_x", "by_y"]
theorem sc_is_derivative : FnScope N_is_derivative ["thing"] (defScope s_is_derivative) := ⟨rfl, rfl, rfl, by decide +kernel, rfl, by decide +kernel, by decide +kernel⟩
theorem ok_is_derivative {f : Addr} {fd : FuncData} (F : Fun K "is_derivative" "is_derivative" s_is_derivative f fd)  {f_is_name : Addr} {d_is_name : FuncData} (c_is_name : Cal P w K mg base "is_name" 2 ["thing"] (spP (RB K nameB)) f_is_name d_is_name) {f_is_whole : Addr} {d_is_whole : FuncData} (c_is_whole : Cal P w K mg base "is_whole" 2 ["thing"] (spP (RB K wholeB)) f_is_whole d_is_whole) (n_isinstance : mg "isinstance" = none) (n_tuple : mg "tuple" = none) (n_len : mg "len" = none)  :
    FnOk P w K mg base CX0 3 f fd ["thing"] (spP (RB K dvB)) := by
  refine F.ok sc_is_derivative (spP_len (by rintro _ _ ⟨_, _, _, _, rfl, rfl⟩; rfl)) (fun cdv A outer s H vs Q E hr h => ?_)
  obtain ⟨B, ps, p, eB, hv, ⟨qd, d, tq, hs, rfl, rfl⟩, q⟩ := h
  obtain ⟨v, rfl, h1⟩ := all1 hv
  have hu := hu_of hr
  refine ⟨_, (pss_cons (ps_if (PW.pt (pw_or (pt_not (pt_val (pe_callB call_isi (by rfl) n_isinstance (by decide +kernel) (pa_cons (pv 0) (pa_cons (pe_bltn (v := .ty "tuple") (u := .type "tuple") (by rfl) n_tuple (by decide +kernel) rfl) pa_nil))))) (pw_or1 (pt_cmpR op_ne (pe_callB call_len_seq (by rfl) n_len (by decide +kernel) (pa_cons (pv 0) pa_nil)) pe_int (nomark _))))) (pss_one (ps_ret pe_bl)) pss_nil)
    (pss_cons (ps_asg (pv 0) (pg_tup (by rfl) (pgs_cons (pg_name (i := 1) sc_is_derivative.nd rfl (by first | exact .inl rfl | exact .inr rfl)) (pgs_cons (pg_name (i := 2) sc_is_derivative.nd rfl (by first | exact .inl rfl | exact .inr rfl)) (pgs_cons (pg_name (i := 3) sc_is_derivative.nd rfl (by first | exact .inl rfl | exact .inr rfl)) pgs_nil)))))
    (pss_one (ps_ret (pe_and (pe_call c_is_name.G (hr.mono (by decide)) (by rfl) c_is_name.m c_is_name.k c_is_name.b .nil pass0 (pa_cons (pv 1) pa_nil)) (pe_and (pe_call c_is_whole.G (hr.mono (by decide)) (by rfl) c_is_whole.m c_is_whole.k c_is_whole.b .nil pass0 (pa_cons (pv 2) pa_nil)) (pe_and (pe_call c_is_whole.G (hr.mono (by decide)) (by rfl) c_is_whole.m c_is_whole.k c_is_whole.b .nil pass0 (pa_cons (pv 3) pa_nil)) (pe_and (pe_cmpR op_ge (pv 2) pe_int (nomark _)) (pe_one (pe_cmpR op_ge (pv 3) pe_int (nomark _))))))))))), ?_⟩
  have hd : Dp K B v d := tq _ _ h1
  cases ht : tupN 3 d with
  | false =>
    refine ps_ifT eB (et_is (et_tupN (n := 3) (p_var (p := IsD K d) rfl hd)) (by rw [ht]; rfl)) fun H1 e1 => ?_
    refine My.ps_ret (eB.trans e1) (p_c (v := .bl false)) fun v B1 H2 g hp => q v B1 H2 ((Gr.wide eB e1).trans g) ?_
    rw [show dvB d = false from by unfold dvB; rw [ht]; rfl]
    exact hp
  | true =>
    refine ps_ifN eB (et_is (et_tupN (n := 3) (p_var (p := IsD K d) rfl hd)) (by rw [ht]; rfl)) fun H1 e1 => ?_
    dsimp only
    have s0 := smd_it hs 0
    have s1 := smd_it hs 1
    have s2 := smd_it hs 2
    have ed : dvB d = (nameB (it 0 d) && (wholeB (it 1 d) && (wholeB (it 2 d) && (decide (0 ≤ intOf (it 1 d)) && decide (0 ≤ intOf (it 2 d)))))) := by unfold dvB; rw [ht]; rfl
    refine ps_un3 (K := K) (eB.trans e1) (p_var (p := IsD K (.tuple [it 0 d, it 1 d, it 2 d])) rfl (by rw [← tpl3 ht]; exact hd)) fun w1 w2 w3 B2 H2 g2 n1 n2 n3 => ?_
    dsimp only
    refine My.ps_ret g2.c (p_ev (v := .bl (dvB d)) (ev_is (ev_andV (a := nameB (it 0 d)) (b := (wholeB (it 1 d) && (wholeB (it 2 d) && (decide (0 ≤ intOf (it 1 d)) && decide (0 ≤ intOf (it 2 d)))))) (ev_p (p_callP (ps := [IsD K (it 0 d)]) (q_cons (p_var rfl n1) q_nil) ⟨_, _, to_id, s0, rfl, rfl⟩)) fun _ =>
      ev_andV (ev_p (p_callP (ps := [IsD K (it 1 d)]) (q_cons (p_var rfl n2) q_nil) ⟨_, _, to_id, s1, rfl, rfl⟩)) fun k1 => ev_andV (ev_p (p_callP (ps := [IsD K (it 2 d)]) (q_cons (p_var rfl n3) q_nil) ⟨_, _, to_id, s2, rfl, rfl⟩)) fun k2 =>
      ev_andV (ev_op (ev_in (K := K) (p_var (p := IsD K (.int (intOf (it 1 d)))) rfl (by rw [← wholeB_ex k1]; exact n2))) ev_c rv_I0) fun _ => ev_op (ev_in (K := K) (p_var (p := IsD K (.int (intOf (it 2 d)))) rfl (by rw [← wholeB_ex k2]; exact n3))) ev_c rv_I0) (by rw [ed]))) fun v B3 H3 g hp => q v B3 H3 (((Gr.wide eB e1).trans g2).trans g) hp

/-- _are_names -/
abbrev s__are_names : Stmt := topS 45
abbrev N__are_names : List Str := ["thing", "name"]
theorem sc__are_names : FnScope N__are_names ["thing"] (defScope s__are_names) := ⟨rfl, rfl, rfl, by decide +kernel, rfl, by decide +kernel, by decide +kernel⟩
theorem ok__are_names {f : Addr} {fd : FuncData} (F : Fun K "_are_names" "_are_names" s__are_names f fd)  {f_is_name : Addr} {d_is_name : FuncData} (c_is_name : Cal P w K mg base "is_name" 2 ["thing"] (spP (RB K nameB)) f_is_name d_is_name) (n_isinstance : mg "isinstance" = none) (n_tuple : mg "tuple" = none) (n_len : mg "len" = none) (n_all : mg "all" = none) (n_set : mg "set" = none) {tk1 : Nat} (g_MOST_NAMES : mg "MOST_NAMES" = some (.int 3 tk1)) :
    FnOk P w K mg base CX0 3 f fd ["thing"] (spP (RnamesA K)) := by
  refine F.ok sc__are_names (spP_len (by rintro _ _ ⟨r, _, rfl, rfl⟩; rfl)) (fun cdv A outer s H vs Q E hr h => ?_)
  obtain ⟨B, ps, p, eB, hv, ⟨r, hr0, rfl, rfl⟩, q⟩ := h
  obtain ⟨v, rfl, h1⟩ := all1 hv
  have hu := hu_of hr
  refine ⟨_, (pss_cons (ps_if (PW.pt (pw_or (pt_not (pt_val (pe_callB call_isi (by rfl) n_isinstance (by decide +kernel) (pa_cons (pv 0) (pa_cons (pe_bltn (v := .ty "tuple") (u := .type "tuple") (by rfl) n_tuple (by decide +kernel) rfl) pa_nil))))) (pw_or1 (pt_not (pt_chain op_le op_le pe_int (pe_callB call_len_seq (by rfl) n_len (by decide +kernel) (pa_cons (pv 0) pa_nil)) (pe_glob (by rfl) (v := .int 3) g_MOST_NAMES ⟨_, rfl⟩)))))) (pss_one (ps_ret pe_bl)) pss_nil)
    (pss_one (ps_ret (pe_and (pe_callB (cr_all rfl) (by rfl) n_all (by decide +kernel) (pa_cons (pe_lc (own := [("name", 1)]) rfl sc__are_names.nd (pi_tup (pv 0)) (blkOk_by (N := N__are_names) (sc := defScope s__are_names) (by decide +kernel)) (fun _ _ _ _ _ => (pg_name (i := 1) sc__are_names.nd rfl (Or.inl rfl))) (fun _ _ _ _ _ => pts_nil) (fun _ _ _ _ _ => (pe_call c_is_name.G (hr.mono (by decide)) (by rfl) c_is_name.m c_is_name.k c_is_name.b .nil pass0 (pa_cons (pv 1) pa_nil)))) pa_nil)) (pe_one (pe_cmpR op_eq (pe_lenSetT rfl (by rfl) n_len (by rfl) n_set (pv 0)) (pe_callB call_len_seq (by rfl) n_len (by decide +kernel) (pa_cons (pv 0) pa_nil)) (nomark _))))))), ?_⟩
  have hne := hr0.ne
  have hle := hr0.le
  refine ps_ifN eB (et_is (et_or (a := false) (b := false) (et_is (et_not (et_test (ev_isi (K := K) (d := .tuple (r.ns.map .str)) (ed_nm (p_var rfl h1)) k_tt))) rfl) fun _ => et_is (et_not (et_test (ev_chain (r1 := fun i j => decide (i ≤ j)) (r2 := fun i j => decide (i ≤ j)) ev_c (ev_lenD (K := K) (ed_nm (p_var rfl h1)) (.inl rfl)) ev_c))) (by simp; omega)) rfl) fun H1 e1 => ?_
  dsimp only
  refine My.ps_ret (eB.trans e1) (p_ev (v := .bl true) (ev_is (ev_andV (a := true) (b := true) (ev_is (ev_allL (K := K) (bs := (List.range (r.ns.map PyData.str).length).map fun _ => true) ?_) ?_) fun _ => ev_is (ev_op (ev_lenSet (xs := r.ns) (p_var rfl h1) hr0.nd (by omega)) (ev_lenD (K := K) (ed_nm (p_var rfl h1)) (.inl rfl)) (rv_eq rfl)) (by simp)) rfl)) fun v B1 H2 g hp => q v B1 H2 ((Gr.wide eB e1).trans g) hp
  rotate_left
  · simp
  rw [List.map_map]
  refine p_lcA (K := K) (src_tup (ed_nm (p_var rfl h1))) (by rw [List.length_map]; omega) (fun _ => .bool true) fun i v1 B1 hi e pv => ?_
  rw [List.length_map] at hi
  have ed : (r.ns.map PyData.str).getD i .none = .str r.ns[i] := by
    rw [List.getD_eq_getElem?_getD, List.getElem?_map, List.getElem?_eq_getElem hi]
    rfl
  obtain rfl : v1 = .str r.ns[i] := by
    have pv : Dp K B1 v1 ((r.ns.map PyData.str).getD i .none) := pv
    rw [ed] at pv
    cases pv
    rfl
  refine ⟨[some v, some (.str r.ns[i])], rfl, fun H2 Q e q => q, ed_bl (ev_p (p_callP (ps := [IsV (.str r.ns[i])]) (q_cons (p_varV rfl) q_nil) ⟨_, .str r.ns[i], to_str, smd_str (by have := (nm_facts (hr0.nm _ (List.getElem_mem hi))).2.1; omega), rfl, by rw [show nameB (.str r.ns[i]) = true from hr0.nm _ (List.getElem_mem hi)]⟩))⟩

/-- _are_axes -/
abbrev s__are_axes : Stmt := topS 46
abbrev N__are_axes : List Str := ["thing", "axis"]
theorem sc__are_axes : FnScope N__are_axes ["thing"] (defScope s__are_axes) := ⟨rfl, rfl, rfl, by decide +kernel, rfl, by decide +kernel, by decide +kernel⟩
theorem ax_len (r : Rk) : r.axs.length ≤ 2 := by
  have : ∀ a : Fin 3, (axsOf a).length ≤ 2 := by decide +kernel
  exact this r.ax
theorem ax_mem (r : Rk) : ∀ x ∈ r.axs, x ∈ [("x" : Str), "y"] := by
  have : ∀ a : Fin 3, ∀ x ∈ axsOf a, x ∈ [("x" : Str), "y"] := by decide +kernel
  exact this r.ax
theorem ax_shaped (r : Rk) : SeqAt.shaped (.tuple (r.axs.map .str)) = true := by
  have : ∀ a : Fin 3, SeqAt.shaped (.tuple ((axsOf a).map .str)) = true := by decide +kernel
  exact this r.ax
theorem ok__are_axes {f : Addr} {fd : FuncData} (F : Fun K "_are_axes" "_are_axes" s__are_axes f fd)  {f_is_axis : Addr} {d_is_axis : FuncData} (c_is_axis : Cal P w K mg base "is_axis" 1 ["thing"] (spP Raxis) f_is_axis d_is_axis) (n_isinstance : mg "isinstance" = none) (n_tuple : mg "tuple" = none) (n_all : mg "all" = none) {aL : Addr} (g_ALL : mg "AXES_ALL" = some (.ref aL)) (v_ALL : ∀ H, Dp K H (.ref aL) (.tuple [PyData.tuple [.str "x"], .tuple [.str "x", .str "y"], .tuple [.str "y", .str "x"]])) :
    FnOk P w K mg base CX0 2 f fd ["thing"] (spP (RaxesA K)) := by
  refine F.ok sc__are_axes (spP_len (by rintro _ _ ⟨r, rfl, rfl⟩; rfl)) (fun cdv A outer s H vs Q E hr h => ?_)
  obtain ⟨B, ps, p, eB, hv, ⟨r, rfl, rfl⟩, q⟩ := h
  obtain ⟨v, rfl, h1⟩ := all1 hv
  have hu := hu_of hr
  refine ⟨_, (pss_one (ps_ret (pe_and (pe_callB call_isi (by rfl) n_isinstance (by decide +kernel) (pa_cons (pv 0) (pa_cons (pe_bltn (v := .ty "tuple") (u := .type "tuple") (by rfl) n_tuple (by decide +kernel) rfl) pa_nil))) (pe_and (pe_callB (cr_all rfl) (by rfl) n_all (by decide +kernel) (pa_cons (pe_lc (own := [("axis", 1)]) rfl sc__are_axes.nd (pi_tup (pv 0)) (blkOk_by (N := N__are_axes) (sc := defScope s__are_axes) (by decide +kernel)) (fun _ _ _ _ _ => (pg_name (i := 1) sc__are_axes.nd rfl (Or.inl rfl))) (fun _ _ _ _ _ => pts_nil) (fun _ _ _ _ _ => (pe_call c_is_axis.G (hr.mono (by decide)) (by rfl) c_is_axis.m c_is_axis.k c_is_axis.b .nil pass0 (pa_cons (pv 1) pa_nil)))) pa_nil)) (pe_one (pe_cmpR (op_inT (by have h := hr.un; show (A.deeper _).units + 65 < cLine; omega)) (pv 0) (pe_glob (by rfl) (v := .ref aL) g_ALL rfl) (by rfl))))))), ?_⟩
  refine My.ps_ret eB (p_ev (v := .bl true) (ev_is (ev_andV (a := true) (b := true && true) (ev_isi (K := K) (d := .tuple (r.axs.map .str)) (ed_var rfl h1) k_tt) fun _ => ev_andV (ev_is (ev_allL (K := K) (bs := (List.range (r.axs.map PyData.str).length).map fun _ => true) ?_) ?_) fun _ => ev_is (ev_inDT (ed_var rfl h1) (ed_ref (v_ALL B)) (ax_shaped r) (by decide +kernel)) ?_) rfl)) fun v B1 H2 g hp => q v B1 H2 g hp
  · rw [List.map_map]
    have hl := ax_len r
    refine p_lcA (K := K) (src_tup (ed_var rfl h1)) (by rw [List.length_map]; omega) (fun _ => .bool true) fun i v1 B1 hi e pv => ?_
    rw [List.length_map] at hi
    have ed : (r.axs.map PyData.str).getD i .none = .str r.axs[i] := by
      rw [List.getD_eq_getElem?_getD, List.getElem?_map, List.getElem?_eq_getElem hi]
      rfl
    obtain rfl : v1 = .str r.axs[i] := by
      have pv : Dp K B1 v1 ((r.axs.map PyData.str).getD i .none) := pv
      rw [ed] at pv
      cases pv
      rfl
    refine ⟨[some v, some (.str r.axs[i])], rfl, fun H2 Q e q => q, ed_bl (ev_p (p_callP (ps := [IsV (.str r.axs[i])]) (q_cons (p_varV rfl) q_nil) ⟨r.axs[i], rfl, ax_mem r _ (List.getElem_mem hi), rfl⟩))⟩
  · simp
  · rw [dec_axes]

/-- need_ranking -/
abbrev s_need_ranking : Stmt := topS 44
abbrev N_need_ranking : List Str := ["ranking", "sort", "names", "axes"]
theorem sc_need_ranking : FnScope N_need_ranking ["ranking"] (defScope s_need_ranking) := ⟨rfl, rfl, rfl, by decide +kernel, rfl, by decide +kernel, by decide +kernel⟩
theorem srt_mem (r : Rk) : r.srt ∈ [("total" : Str), "names"] := by
  unfold Rk.srt
  cases r.tot <;> simp
def RrkO (K : PySem.W.Frag) (CR : Addr) : List Pr → Out → Prop := fun ps o => (∃ r : Rk, r.Ok ∧ ps = [RkP K r] ∧ o = .ret (IsV .non)) ∨ ∃ (qd : Pr) (d : PyData), To K qd d ∧ tupN 3 d = false ∧ ps = [qd] ∧ o = .exc CR [("place", IsV .non)]
theorem ok_need_ranking {f : Addr} {fd : FuncData} (F : Fun K "need_ranking" "need_ranking" s_need_ranking f fd)  {f__are_names : Addr} {d__are_names : FuncData} (c__are_names : Cal P w K mg base "_are_names" 3 ["thing"] (spP (RnamesA K)) f__are_names d__are_names) {f__are_axes : Addr} {d__are_axes : FuncData} (c__are_axes : Cal P w K mg base "_are_axes" 2 ["thing"] (spP (RaxesA K)) f__are_axes d__are_axes) (n_isinstance : mg "isinstance" = none) (n_tuple : mg "tuple" = none) (n_len : mg "len" = none) (n_str : mg "str" = none) {aS : Addr} (g_SORTS : mg "SORTS" = some (.ref aS)) (v_SORTS : ∀ H, Dp K H (.ref aS) (.tuple ([("total" : Str), "names"].map .str))) {aBR i_BR : Addr} {d_BR : FuncData} {gZ_BR : List Value → List Value → List Value} (R_BR : RP P w K mg base "BadRanking" aBR "place" i_BR d_BR gZ_BR) :
    FnOk P w K mg base (L2.CX P w) 4 f fd ["ranking"] (spO (RrkO K aBR)) := by
  refine F.okX sc_need_ranking (spO_len (by rintro _ _ (⟨r, _, rfl, rfl⟩ | ⟨_, _, _, _, rfl, rfl⟩) <;> rfl)) (fun cdv A outer s H vs Q E hr h => ?_)
  obtain ⟨B, ps, o, eB, hv, ho, q⟩ := h
  have hu := hu_of hr
  have tk : Takes (cxOf (L2.CX P w) P w K mg base N_need_ranking "need_ranking" (defScope s_need_ranking) f cdv A outer s H E) (fun cls d _ H => E cls d H) := L2.takes_of rfl rfl rfl rfl
  refine ⟨_, (pss_cons (ps_if (PW.pt (pw_or (pt_not (pt_val (pe_callB call_isi (by rfl) n_isinstance (by decide +kernel) (pa_cons (pv 0) (pa_cons (pe_bltn (v := .ty "tuple") (u := .type "tuple") (by rfl) n_tuple (by decide +kernel) rfl) pa_nil))))) (pw_or1 (pt_cmpR op_ne (pe_callB call_len_seq (by rfl) n_len (by decide +kernel) (pa_cons (pv 0) pa_nil)) pe_int (nomark _))))) (pss_one (ps_raiseZ R_BR rfl rfl tk (hr.mono (by decide)) (by rfl))) pss_nil)
    (pss_cons (ps_asg (pv 0) (pg_tup (by rfl) (pgs_cons (pg_name (i := 1) sc_need_ranking.nd rfl (by first | exact .inl rfl | exact .inr rfl)) (pgs_cons (pg_name (i := 2) sc_need_ranking.nd rfl (by first | exact .inl rfl | exact .inr rfl)) (pgs_cons (pg_name (i := 3) sc_need_ranking.nd rfl (by first | exact .inl rfl | exact .inr rfl)) pgs_nil)))))
    (pss_cons (ps_if (PW.pt (pw_or (pt_not (pt_val (pe_callB call_isi (by rfl) n_isinstance (by decide +kernel) (pa_cons (pv 1) (pa_cons (pe_bltn (v := .ty "str") (u := .type "str") (by rfl) n_str (by decide +kernel) rfl) pa_nil))))) (pw_or1 (pt_cmpR op_notIn_seq (pv 1) (pe_glob (by rfl) (v := .ref aS) g_SORTS rfl) (by rfl))))) (pss_one ps_never) pss_nil)
    (pss_cons (ps_if (pt_not (pt_val (pe_call c__are_names.G (hr.mono (by decide)) (by rfl) c__are_names.m c__are_names.k c__are_names.b .nil pass0 (pa_cons (pv 2) pa_nil)))) (pss_one ps_never) pss_nil)
    (pss_one (ps_if (pt_not (pt_val (pe_call c__are_axes.G (hr.mono (by decide)) (by rfl) c__are_axes.m c__are_axes.k c__are_axes.b .nil pass0 (pa_cons (pv 3) pa_nil)))) (pss_one ps_never) pss_nil)))))), ?_⟩
  rcases ho with ⟨r, hr0, rfl, rfl⟩ | ⟨qd, d, tq, ht, rfl, rfl⟩
  · obtain ⟨v, rfl, h1⟩ := all1 hv
    refine ps_ifN eB (et_is (et_or (a := false) (b := false) (et_is (et_not (et_test (ev_isi (K := K) (d := r.D) (ed_rk (p_var rfl h1)) k_tt))) rfl) fun _ => et_is (et_test (ev_op (ev_lenD (K := K) (ed_rk (p_var rfl h1)) (.inl rfl)) ev_c (rv_ne rfl))) rfl) rfl) fun H1 e1 => ?_
    dsimp only
    refine ps_unR (K := K) (eB.trans e1) (p_var rfl h1) fun v2 v3 B2 H2 g2 n2 n3 => ?_
    dsimp only
    refine ps_ifN g2.c (et_is (et_or (a := false) (b := false) (et_is (et_not (et_test (ev_isi (K := K) (d := .str r.srt) (ed_st (ev_var rfl)) k_ss))) rfl) fun _ => et_is (et_test (ev_inT (neg := true) (ys := ["total", "names"]) (ev_var rfl) (ed_ref (v_SORTS B2)))) ?_) rfl) fun H3 e3 => ?_
    · rw [if_pos rfl, decide_eq_true (srt_mem r)]
      rfl
    dsimp only
    refine ps_ifN (g2.c.trans e3) (et_is (et_not (et_test (ev_p (p_callP (ps := [NmP r.ns]) (q_cons (p_var rfl n2) q_nil) ⟨r, hr0, rfl, rfl⟩)))) rfl) fun H4 e4 => ?_
    dsimp only
    refine ps_ifN ((g2.c.trans e3).trans e4) (et_is (et_not (et_test (ev_p (p_callP (ps := [IsD K (.tuple (r.axs.map .str))]) (q_cons (p_var rfl n3) q_nil) ⟨r, rfl, rfl⟩)))) rfl) fun H5 e5 => ?_
    exact q .non B2 H5 ((Gr.wide eB e1).trans (g2.trans (Gr.wide g2.c ((e3.trans e4).trans e5)))) rfl
  · obtain ⟨v, rfl, h1⟩ := all1 hv
    refine ps_ifT eB (et_is (et_tupN (n := 3) (p_var (p := IsD K d) rfl (tq _ _ h1))) (by rw [ht]; rfl)) fun H1 e1 => ?_
    exact x_rsZ (W := fun cls d _ H => E cls d H) R_BR.rc.r (eB.trans e1) e1 fun d2 B2 H2 g hd => q d2 B2 H2 ((Gr.wide eB e1).trans g) hd

/-- _stands_there -/
abbrev s__stands_there : Stmt := topS 49
abbrev N__stands_there : List Str := ["ranking", "derivative", "_", "names", "axes", "name", "by_y"]
theorem sc__stands_there : FnScope N__stands_there ["ranking", "derivative"] (defScope s__stands_there) := ⟨rfl, rfl, rfl, by decide +kernel, rfl, by decide +kernel, by decide +kernel⟩
def Rst (K : PySem.W.Frag) : List Pr → Pr → Prop := fun ps p => ∃ (r : Rk) (qd : Pr) (u : Dv), To K qd u.D ∧ ps = [RkP K r, qd] ∧ p = IsV (.bl (Rk.stB r u))
theorem ok__stands_there {f : Addr} {fd : FuncData} (F : Fun K "_stands_there" "_stands_there" s__stands_there f fd)     :
    FnOk P w K mg base CX0 1 f fd ["ranking", "derivative"] (spP (Rst K)) := by
  refine F.ok sc__stands_there (spP_len (by rintro _ _ ⟨r, _, u, _, rfl, rfl⟩; rfl)) (fun cdv A outer s H vs Q E hr h => ?_)
  obtain ⟨B, ps, p, eB, hv, ⟨r, qd, u, tq, rfl, rfl⟩, q⟩ := h
  obtain ⟨v1, v2, rfl, h1, h2⟩ := all2 hv
  have hu := hu_of hr
  refine ⟨_, (pss_cons (ps_asg (pv 0) (pg_tup (by rfl) (pgs_cons (pg_name (i := 2) sc__stands_there.nd rfl (by first | exact .inl rfl | exact .inr rfl)) (pgs_cons (pg_name (i := 3) sc__stands_there.nd rfl (by first | exact .inl rfl | exact .inr rfl)) (pgs_cons (pg_name (i := 4) sc__stands_there.nd rfl (by first | exact .inl rfl | exact .inr rfl)) pgs_nil)))))
    (pss_cons (ps_asg (pv 1) (pg_tup (by rfl) (pgs_cons (pg_name (i := 5) sc__stands_there.nd rfl (by first | exact .inl rfl | exact .inr rfl)) (pgs_cons (pg_name (i := 2) sc__stands_there.nd rfl (by first | exact .inl rfl | exact .inr rfl)) (pgs_cons (pg_name (i := 6) sc__stands_there.nd rfl (by first | exact .inl rfl | exact .inr rfl)) pgs_nil)))))
    (pss_one (ps_ret (pe_and (pe_cmpR op_in_seq (pv 5) (pv 3) (by rfl)) (pe_one (pe_or (pe_cmpR op_eq (pv 6) pe_int (nomark _)) (pe_one (pe_cmpR op_in_seq pe_str (pv 4) (by rfl)))))))))), ?_⟩
  refine ps_unR (K := K) eB (p_var rfl h1) fun w2 w3 B2 H2 g2 n2 n3 => ?_
  dsimp only
  refine ps_un3 (K := K) g2.c (p_var (p := IsD K (.tuple [.str u.n, .int u.i, .int u.j])) rfl (dp_m g2.b (tq _ _ h2))) fun z1 z2 z3 B3 H3 g3 k1 k2 k3 => ?_
  obtain rfl : z1 = .str u.n := by cases k1; rfl
  obtain rfl : z3 = .int u.j := by cases k3; rfl
  dsimp only
  have m2 := nm_d (K := K) ((NmP r.ns).m g3.b n2)
  have m3 := dp_m g3.b n3
  refine My.ps_ret g3.c (p_ev (v := .bl (Rk.stB r u)) (ev_is (ev_andV (a := decide (u.n ∈ r.ns)) (b := decide (u.j = 0) || decide ((Str.ofString "y") ∈ r.axs)) (ev_is (ev_inT (neg := false) (ys := r.ns) (ev_var rfl) (ed_var rfl m2)) ?_) fun _ => ev_orV (ev_is (ev_op (ev_var rfl) ev_c (rv_eq rfl)) ?_) fun _ => ev_is (ev_inT (neg := false) (ys := r.axs) ev_c (ed_var rfl m3)) ?_) ?_)) fun v B4 H4 g hp => q v B4 H4 ((g2.trans g3).trans g) hp
  · rw [if_neg Bool.false_ne_true]
  · by_cases e : u.j = 0 <;> simp [e]
  · rw [if_neg Bool.false_ne_true]
  · rfl

/-- derivative_fits -/
abbrev s_derivative_fits : Stmt := topS 47
abbrev N_derivative_fits : List Str := ["ranking", "thing"]
theorem sc_derivative_fits : FnScope N_derivative_fits ["ranking", "thing"] (defScope s_derivative_fits) := ⟨rfl, rfl, rfl, by decide +kernel, rfl, by decide +kernel, by decide +kernel⟩
theorem ok_derivative_fits {f : Addr} {fd : FuncData} (F : Fun K "derivative_fits" "derivative_fits" s_derivative_fits f fd)  {f_is_derivative : Addr} {d_is_derivative : FuncData} (c_is_derivative : Cal P w K mg base "is_derivative" 3 ["thing"] (spP (RB K dvB)) f_is_derivative d_is_derivative) {f__stands_there : Addr} {d__stands_there : FuncData} (c__stands_there : Cal P w K mg base "_stands_there" 1 ["ranking", "derivative"] (spP (Rst K)) f__stands_there d__stands_there)   :
    FnOk P w K mg base CX0 4 f fd ["ranking", "thing"] (spP (RB2 K fitsB)) := by
  refine F.ok sc_derivative_fits (spP_len (by rintro _ _ ⟨r, _, _, _, _, _, rfl, rfl⟩; rfl)) (fun cdv A outer s H vs Q E hr h => ?_)
  obtain ⟨B, ps, p, eB, hv, ⟨r, qd, d, hr0, tq, hs, rfl, rfl⟩, q⟩ := h
  obtain ⟨v1, v2, rfl, h1, h2⟩ := all2 hv
  have hu := hu_of hr
  refine ⟨_, (pss_one (ps_ret (pe_and (pe_call c_is_derivative.G (hr.mono (by decide)) (by rfl) c_is_derivative.m c_is_derivative.k c_is_derivative.b .nil pass0 (pa_cons (pv 1) pa_nil)) (pe_one (pe_call c__stands_there.G (hr.mono (by decide)) (by rfl) c__stands_there.m c__stands_there.k c__stands_there.b .nil pass0 (pa_cons (pv 0) (pa_cons (pv 1) pa_nil))))))), ?_⟩
  refine My.ps_ret eB (p_ev (v := .bl (fitsB r d)) (ev_andV (a := dvB d) (b := Rk.stB r (dvOf d)) (ev_p (p_callP (ps := [qd]) (q_cons (p_var rfl h2) q_nil) ⟨_, _, tq, hs, rfl, rfl⟩)) fun k => ev_p (p_callP (ps := [RkP K r, qd]) (q_cons (p_var rfl h1) (q_cons (p_var rfl h2) q_nil)) ?_))) fun v B4 H4 g hp => q v B4 H4 g hp
  obtain ⟨u, rfl, _⟩ := dvB_ex k
  exact ⟨r, qd, u, tq, rfl, rfl⟩

/-- need_derivative -/
abbrev s_need_derivative : Stmt := topS 50
abbrev N_need_derivative : List Str := ["ranking", "thing"]
theorem sc_need_derivative : FnScope N_need_derivative ["ranking", "thing"] (defScope s_need_derivative) := ⟨rfl, rfl, rfl, by decide +kernel, rfl, by decide +kernel, by decide +kernel⟩
def outB (C : Addr) (b : Bool) : Out := if b = true then .ret (IsV .non) else .exc C []
def RndO (K : PySem.W.Frag) (C : Addr) : List Pr → Out → Prop := fun ps o => ∃ (r : Rk) (qd : Pr) (d : PyData), r.Ok ∧ To K qd d ∧ smB d = true ∧ ps = [RkP K r, qd] ∧ o = outB C (fitsB r d)
theorem ok_need_derivative {f : Addr} {fd : FuncData} (F : Fun K "need_derivative" "need_derivative" s_need_derivative f fd) {aOP : Addr} {f_derivative_fits : Addr} {d_derivative_fits : FuncData} (c_derivative_fits : Cal P w K mg base "derivative_fits" 4 ["ranking", "thing"] (spP (RB2 K fitsB)) f_derivative_fits d_derivative_fits)  (R_OP : RQ K mg "OutOfPlace" aOP) :
    FnOk P w K mg base (L2.CX P w) 5 f fd ["ranking", "thing"] (spO (RndO K aOP)) := by
  refine F.okX sc_need_derivative (spO_len (by rintro _ _ ⟨_, _, _, _, _, _, rfl, rfl⟩; rfl)) (fun cdv A outer s H vs Q E hr h => ?_)
  obtain ⟨B, ps, o, eB, hv, ⟨r, qd, d, hr0, tq, hs, rfl, rfl⟩, q⟩ := h
  obtain ⟨v1, v2, rfl, h1, h2⟩ := all2 hv
  have hu := hu_of hr
  have tk : Takes (cxOf (L2.CX P w) P w K mg base N_need_derivative "need_derivative" (defScope s_need_derivative) f cdv A outer s H E) (fun cls d _ H => E cls d H) := L2.takes_of rfl rfl rfl rfl
  refine ⟨_, (pss_one (ps_if (pt_not (pt_val (pe_call c_derivative_fits.G (hr.mono (by decide)) (by rfl) c_derivative_fits.m c_derivative_fits.k c_derivative_fits.b .nil pass0 (pa_cons (pv 0) (pa_cons (pv 1) pa_nil))))) (pss_one (ps_raiseQ R_OP rfl tk (by rfl))) pss_nil)), ?_⟩
  have tst := et_not (et_test (ev_p (p_callP (R := RB2 K fitsB) (p := IsV (.bl (fitsB r d))) (σ := [some v1, some v2]) (ps := [RkP K r, qd]) (q_cons (p_var (i := 0) rfl h1) (q_cons (p_var (i := 1) rfl h2) q_nil)) ⟨r, qd, d, hr0, tq, hs, rfl, rfl⟩)))
  cases e : fitsB r d with
  | true =>
    rw [e] at tst q
    refine ps_ifN eB (et_is tst rfl) fun H1 e1 => ?_
    exact q .non B H1 (Gr.wide eB e1) rfl
  | false =>
    rw [e] at tst q
    refine My.ps_ifT eB (et_is tst rfl) fun H1 e1 => ?_
    exact q none B H1 (Gr.wide eB e1) rfl

/-- rank_key -/
abbrev s_rank_key : Stmt := topS 51
abbrev N_rank_key : List Str := ["ranking", "derivative", "sort", "names", "axes", "name", "by_x", "by_y", "ahead", "first"]
theorem sc_rank_key : FnScope N_rank_key ["ranking", "derivative"] (defScope s_rank_key) := ⟨rfl, rfl, rfl, by decide +kernel, rfl, by decide +kernel, by decide +kernel⟩
theorem key_len (r : Rk) (u : Dv) : (r.key u).length = 3 := by
  unfold Rk.key
  cases r.tot <;> rfl
theorem ax_first (r : Rk) : atI (r.axs.map PyData.str) 0 = some (.str (r.axs.getD 0 "")) := by
  have : ∀ a : Fin 3, atI ((axsOf a).map PyData.str) 0 = some (.str ((axsOf a).getD 0 "")) := by
    intro a
    match a with
    | 0 => rfl
    | 1 => rfl
    | 2 => rfl
  exact this r.ax
theorem ax_dec (r : Rk) : decide (V.str (r.axs.getD 0 "") = V.str "x") = decide (r.ax ≠ 2) := by
  have : ∀ a : Fin 3, decide (V.str ((axsOf a).getD 0 "") = V.str "x") = decide (a ≠ 2) := by
    intro a
    match a with
    | 0 => simp [axsOf]
    | 1 => simp [axsOf]
    | 2 => simp [axsOf]; decide +kernel
  exact this r.ax
theorem ok_rank_key {f : Addr} {fd : FuncData} (F : Fun K "rank_key" "rank_key" s_rank_key f fd)     :
    FnOk P w K mg base CX0 1 f fd ["ranking", "derivative"] (spP (Rrd K fun r u => IsD K (.tuple ((r.key u).map .int)))) := by
  refine F.ok sc_rank_key (spP_len (by rintro _ _ ⟨r, u, _, _, rfl, rfl⟩; rfl)) (fun cdv A outer s H vs Q E hr h => ?_)
  obtain ⟨B, ps, p, eB, hv, ⟨r, u, hr0, hu0, rfl, rfl⟩, q⟩ := h
  obtain ⟨v1, v2, rfl, h1, h2⟩ := all2 hv
  have hu := hu_of hr
  refine ⟨_, (pss_cons (ps_asg (pv 0) (pg_tup (by rfl) (pgs_cons (pg_name (i := 2) sc_rank_key.nd rfl (by first | exact .inl rfl | exact .inr rfl)) (pgs_cons (pg_name (i := 3) sc_rank_key.nd rfl (by first | exact .inl rfl | exact .inr rfl)) (pgs_cons (pg_name (i := 4) sc_rank_key.nd rfl (by first | exact .inl rfl | exact .inr rfl)) pgs_nil)))))
    (pss_cons (ps_asg (pv 1) (pg_tup (by rfl) (pgs_cons (pg_name (i := 5) sc_rank_key.nd rfl (by first | exact .inl rfl | exact .inr rfl)) (pgs_cons (pg_name (i := 6) sc_rank_key.nd rfl (by first | exact .inl rfl | exact .inr rfl)) (pgs_cons (pg_name (i := 7) sc_rank_key.nd rfl (by first | exact .inl rfl | exact .inr rfl)) pgs_nil)))))
    (pss_cons (ps_set (i := 8) sc_rank_key.nd rfl (by first | exact .inl rfl | exact .inr rfl) (pe_un un_neg (pe_tupIndex (pv 3) (pv 5))))
    (pss_cons (ps_set (i := 9) sc_rank_key.nd rfl (by first | exact .inl rfl | exact .inr rfl) (pe_ifExp (pt_cmpR op_eq (pe_ix ix_tup (pv 4) pe_int (fun _ _ => rfl)) pe_str (nomark _)) (pv 6) (pv 7)))
    (pss_cons (ps_if (pt_cmpR op_eq (pv 2) pe_str (nomark _)) (pss_one (ps_ret (pe_tup (pa_cons (pe_op op_add (pv 6) (pv 7)) (pa_cons (pv 9) (pa_cons (pv 8) pa_nil)))))) pss_nil)
    (pss_one (ps_ret (pe_tup (pa_cons (pv 8) (pa_cons (pe_op op_add (pv 6) (pv 7)) (pa_cons (pv 9) pa_nil))))))))))), ?_⟩
  refine ps_unR (K := K) eB (p_var rfl h1) fun w2 w3 B2 H2 g2 n2 n3 => ?_
  dsimp only
  refine ps_unD (K := K) g2.c (p_var rfl ((DvP u).m g2.b h2)) fun B3 H3 g3 => ?_
  dsimp only
  have m2 := (NmP r.ns).m g3.b n2
  have m3 := dp_m g3.b n3
  refine ps_asgN (fun x => [some v1, some v2, some (.str r.srt), some w2, some w3, some (.str u.n), some (.int u.i), some (.int u.j), some x, none]) g3.c (p_ev (v := .int (r.ahead u)) (ev_un (ev_tupIx (p_var rfl m2) (ev_var rfl) hu0.n) ru_neg)) (fun x B4 H4 g4 hx => ?_) (fun _ => rfl)
  obtain rfl : x = .int (r.ahead u) := hx
  dsimp only
  refine ps_asgN (fun x => [some v1, some v2, some (.str r.srt), some w2, some w3, some (.str u.n), some (.int u.i), some (.int u.j), some (.int (r.ahead u)), some x]) g4.c (p_ev (v := .int (r.first u)) (ev_if (b := decide (r.ax ≠ 2)) (et_is (et_test (ev_op (ev_st (ed_ixT (ed_var rfl (dp_m g4.b m3)) ev_c (ax_first r))) ev_c (rv_eq rfl))) (ax_dec r)) (fun hb => ev_is (ev_var rfl) (by unfold Rk.first; rw [if_neg (of_decide_eq_true hb)])) fun hb => ev_is (ev_var rfl) (by unfold Rk.first; rw [if_pos (Decidable.not_not.mp (of_decide_eq_false hb))]))) (fun x B5 H5 g5 hx => ?_) (fun _ => rfl)
  obtain rfl : x = .int (r.first u) := hx
  dsimp only
  have gg := (g2.trans g3).trans (g4.trans g5)
  have srt : EvT (tTest (tOp rEq (tVar 2) (tC (.str "total")))) [some v1, some v2, some (.str r.srt), some w2, some w3, some (.str u.n), some (.int u.i), some (.int u.j), some (.int (r.ahead u)), some (.int (r.first u))] B5 r.tot :=
    et_is (et_test (ev_op (ev_var rfl) ev_c (rv_eq rfl))) (by unfold Rk.srt; cases r.tot <;> decide +kernel)
  cases ht : r.tot with
  | true =>
    rw [ht] at srt
    refine My.ps_ifT g5.c srt fun H6 e6 => ?_
    refine My.ps_ret (g5.c.trans e6) (ed_tup (ds := (r.key u).map .int) ?_ (by rw [List.length_map, key_len]; decide)) fun v B7 H7 g7 hp => q v B7 H7 ((gg.trans (Gr.wide g5.c e6)).trans g7) hp
    have : r.key u = [u.i + u.j, r.first u, r.ahead u] := by unfold Rk.key; rw [ht, if_pos rfl]
    rw [this]
    exact q_cons (ed_in (ev_op (ev_var rfl) (ev_var rfl) rv_I0)) (q_cons (ed_in (ev_var rfl)) (q_cons (ed_in (ev_var rfl)) q_nil))
  | false =>
    rw [ht] at srt
    refine ps_ifN g5.c srt fun H6 e6 => ?_
    dsimp only
    refine My.ps_ret (g5.c.trans e6) (ed_tup (ds := (r.key u).map .int) ?_ (by rw [List.length_map, key_len]; decide)) fun v B7 H7 g7 hp => q v B7 H7 ((gg.trans (Gr.wide g5.c e6)).trans g7) hp
    have : r.key u = [r.ahead u, u.i + u.j, r.first u] := by unfold Rk.key; rw [ht, if_neg Bool.false_ne_true]
    rw [this]
    exact q_cons (ed_in (ev_var rfl)) (q_cons (ed_in (ev_op (ev_var rfl) (ev_var rfl) rv_I0)) (q_cons (ed_in (ev_var rfl)) q_nil))

end
end K12
namespace K12
set_option autoImplicit false
open PySem PySem.W L2 Evl My Nd
section
variable {P : Program} {w : World} {K : PySem.W.Frag} {mg : Str → Option Value} {base : Heap}

/-- is_fraction -/
abbrev s_is_fraction : Stmt := topS 30
abbrev N_is_fraction : List Str := ["thing", "top", "bottom"]
theorem sc_is_fraction : FnScope N_is_fraction ["thing"] (defScope s_is_fraction) := ⟨rfl, rfl, rfl, by decide +kernel, rfl, by decide +kernel, by decide +kernel⟩
theorem ok_is_fraction {f : Addr} {fd : FuncData} (F : Fun K "is_fraction" "is_fraction" s_is_fraction f fd)  {f_is_whole : Addr} {d_is_whole : FuncData} (c_is_whole : Cal P w K mg base "is_whole" 2 ["thing"] (spP (RB K wholeB)) f_is_whole d_is_whole) (n_isinstance : mg "isinstance" = none) (n_tuple : mg "tuple" = none) (n_len : mg "len" = none) (g_gcd : mg "gcd" = some (.builtin "math.gcd")) :
    FnOk P w K mg base CX0 3 f fd ["thing"] (spP (RB K frB)) := by
  refine F.ok sc_is_fraction (spP_len (by rintro _ _ ⟨_, _, _, _, rfl, rfl⟩; rfl)) (fun cdv A outer s H vs Q E hr h => ?_)
  obtain ⟨B, ps, p, eB, hv, ⟨qd, d, tq, hs, rfl, rfl⟩, q⟩ := h
  obtain ⟨v, rfl, h1⟩ := all1 hv
  have hu := hu_of hr
  refine ⟨_, (pss_cons (ps_if (PW.pt (pw_or (pt_not (pt_val (pe_callB call_isi (by rfl) n_isinstance (by decide +kernel) (pa_cons (pv 0) (pa_cons (pe_bltn (v := .ty "tuple") (u := .type "tuple") (by rfl) n_tuple (by decide +kernel) rfl) pa_nil))))) (pw_or1 (pt_cmpR op_ne (pe_callB call_len_seq (by rfl) n_len (by decide +kernel) (pa_cons (pv 0) pa_nil)) pe_int (nomark _))))) (pss_one (ps_ret pe_bl)) pss_nil)
    (pss_cons (ps_asg (pv 0) (pg_tup (by rfl) (pgs_cons (pg_name (i := 1) sc_is_fraction.nd rfl (by first | exact .inl rfl | exact .inr rfl)) (pgs_cons (pg_name (i := 2) sc_is_fraction.nd rfl (by first | exact .inl rfl | exact .inr rfl)) pgs_nil))))
    (pss_one (ps_ret (pe_and (pe_call c_is_whole.G (hr.mono (by decide)) (by rfl) c_is_whole.m c_is_whole.k c_is_whole.b .nil pass0 (pa_cons (pv 1) pa_nil)) (pe_and (pe_call c_is_whole.G (hr.mono (by decide)) (by rfl) c_is_whole.m c_is_whole.k c_is_whole.b .nil pass0 (pa_cons (pv 2) pa_nil)) (pe_and (pe_cmpR op_gt (pv 2) pe_int (nomark _)) (pe_one (pe_cmpR op_eq (pe_callBfun cr_gcd (by rfl) g_gcd (pa_cons (pv 1) (pa_cons (pv 2) pa_nil))) pe_int (nomark _)))))))))), ?_⟩
  have hd : Dp K B v d := tq _ _ h1
  cases ht : tupN 2 d with
  | false =>
    refine ps_ifT eB (et_is (et_tupN (n := 2) (p_var (p := IsD K d) rfl hd)) (by rw [ht]; rfl)) fun H1 e1 => ?_
    refine My.ps_ret (eB.trans e1) (p_c (v := .bl false)) fun v B1 H2 g hp => q v B1 H2 ((Gr.wide eB e1).trans g) ?_
    rw [show frB d = false from by unfold frB; rw [ht]; rfl]
    exact hp
  | true =>
    refine ps_ifN eB (et_is (et_tupN (n := 2) (p_var (p := IsD K d) rfl hd)) (by rw [ht]; rfl)) fun H1 e1 => ?_
    dsimp only
    have s0 := smd_it hs 0
    have s1 := smd_it hs 1
    have ed : frB d = (wholeB (it 0 d) && (wholeB (it 1 d) && (decide (0 < intOf (it 1 d)) && decide (Nat.gcd (intOf (it 0 d)).natAbs (intOf (it 1 d)).natAbs = 1)))) := by unfold frB; rw [ht]; rfl
    refine ps_un2 (K := K) (p := IsD K (it 0 d)) (q := IsD K (it 1 d)) (eB.trans e1) (p_var (p := TuP K [IsD K (it 0 d), IsD K (it 1 d)]) rfl (by rw [tpl2 ht] at hd; exact tu_d hd)) fun w1 w2 B2 H2 g2 n1 n2 => ?_
    dsimp only
    refine My.ps_ret g2.c (p_ev (v := .bl (frB d)) (ev_is (ev_andV (a := wholeB (it 0 d)) (b := wholeB (it 1 d) && (decide (0 < intOf (it 1 d)) && decide (Nat.gcd (intOf (it 0 d)).natAbs (intOf (it 1 d)).natAbs = 1))) (ev_p (p_callP (ps := [IsD K (it 0 d)]) (q_cons (p_var rfl n1) q_nil) ⟨_, _, to_id, s0, rfl, rfl⟩)) fun k0 =>
      ev_andV (ev_p (p_callP (ps := [IsD K (it 1 d)]) (q_cons (p_var rfl n2) q_nil) ⟨_, _, to_id, s1, rfl, rfl⟩)) fun k1 => ev_andV (ev_op (ev_in (K := K) (p_var (p := IsD K (.int (intOf (it 1 d)))) rfl (by rw [← wholeB_ex k1]; exact n2))) ev_c rv_I0) fun _ => ev_is (ev_op (ev_gcd (ev_in (K := K) (p_var (p := IsD K (.int (intOf (it 0 d)))) rfl (by rw [← wholeB_ex k0]; exact n1))) (ev_in (K := K) (p_var (p := IsD K (.int (intOf (it 1 d)))) rfl (by rw [← wholeB_ex k1]; exact n2)))) ev_c (rv_eq rfl)) ?_) (by rw [ed]))) fun v B3 H3 g hp => q v B3 H3 (((Gr.wide eB e1).trans g2).trans g) hp
    refine congrArg V.bl ?_
    apply decide_eq_decide.mpr
    constructor
    · intro z
      have := V.int.inj z
      omega
    · intro z
      rw [z]
      rfl

/-- _is_powered -/
abbrev s__is_powered : Stmt := topS 34
abbrev N__is_powered : List Str := ["thing", "derivative", "power"]
theorem sc__is_powered : FnScope N__is_powered ["thing"] (defScope s__is_powered) := ⟨rfl, rfl, rfl, by decide +kernel, rfl, by decide +kernel, by decide +kernel⟩
theorem ok__is_powered {f : Addr} {fd : FuncData} (F : Fun K "_is_powered" "_is_powered" s__is_powered f fd)  {f_is_derivative : Addr} {d_is_derivative : FuncData} (c_is_derivative : Cal P w K mg base "is_derivative" 3 ["thing"] (spP (RB K dvB)) f_is_derivative d_is_derivative) {f_is_whole : Addr} {d_is_whole : FuncData} (c_is_whole : Cal P w K mg base "is_whole" 2 ["thing"] (spP (RB K wholeB)) f_is_whole d_is_whole) (n_isinstance : mg "isinstance" = none) (n_tuple : mg "tuple" = none) (n_len : mg "len" = none)  :
    FnOk P w K mg base CX0 4 f fd ["thing"] (spP (RB K pwB)) := by
  refine F.ok sc__is_powered (spP_len (by rintro _ _ ⟨_, _, _, _, rfl, rfl⟩; rfl)) (fun cdv A outer s H vs Q E hr h => ?_)
  obtain ⟨B, ps, p, eB, hv, ⟨qd, d, tq, hs, rfl, rfl⟩, q⟩ := h
  obtain ⟨v, rfl, h1⟩ := all1 hv
  have hu := hu_of hr
  refine ⟨_, (pss_cons (ps_if (PW.pt (pw_or (pt_not (pt_val (pe_callB call_isi (by rfl) n_isinstance (by decide +kernel) (pa_cons (pv 0) (pa_cons (pe_bltn (v := .ty "tuple") (u := .type "tuple") (by rfl) n_tuple (by decide +kernel) rfl) pa_nil))))) (pw_or1 (pt_cmpR op_ne (pe_callB call_len_seq (by rfl) n_len (by decide +kernel) (pa_cons (pv 0) pa_nil)) pe_int (nomark _))))) (pss_one (ps_ret pe_bl)) pss_nil)
    (pss_cons (ps_asg (pv 0) (pg_tup (by rfl) (pgs_cons (pg_name (i := 1) sc__is_powered.nd rfl (by first | exact .inl rfl | exact .inr rfl)) (pgs_cons (pg_name (i := 2) sc__is_powered.nd rfl (by first | exact .inl rfl | exact .inr rfl)) pgs_nil))))
    (pss_one (ps_ret (pe_and (pe_call c_is_derivative.G (hr.mono (by decide)) (by rfl) c_is_derivative.m c_is_derivative.k c_is_derivative.b .nil pass0 (pa_cons (pv 1) pa_nil)) (pe_and (pe_call c_is_whole.G (hr.mono (by decide)) (by rfl) c_is_whole.m c_is_whole.k c_is_whole.b .nil pass0 (pa_cons (pv 2) pa_nil)) (pe_one (pe_cmpR op_gt (pv 2) pe_int (nomark _))))))))), ?_⟩
  have hd : Dp K B v d := tq _ _ h1
  cases ht : tupN 2 d with
  | false =>
    refine ps_ifT eB (et_is (et_tupN (n := 2) (p_var (p := IsD K d) rfl hd)) (by rw [ht]; rfl)) fun H1 e1 => ?_
    refine My.ps_ret (eB.trans e1) (p_c (v := .bl false)) fun v B1 H2 g hp => q v B1 H2 ((Gr.wide eB e1).trans g) ?_
    rw [show pwB d = false from by unfold pwB; rw [ht]; rfl]
    exact hp
  | true =>
    refine ps_ifN eB (et_is (et_tupN (n := 2) (p_var (p := IsD K d) rfl hd)) (by rw [ht]; rfl)) fun H1 e1 => ?_
    dsimp only
    have s0 := smd_it hs 0
    have s1 := smd_it hs 1
    have ed : pwB d = (dvB (it 0 d) && (wholeB (it 1 d) && decide (0 < intOf (it 1 d)))) := by unfold pwB; rw [ht]; rfl
    refine ps_un2 (K := K) (p := IsD K (it 0 d)) (q := IsD K (it 1 d)) (eB.trans e1) (p_var (p := TuP K [IsD K (it 0 d), IsD K (it 1 d)]) rfl (by rw [tpl2 ht] at hd; exact tu_d hd)) fun w1 w2 B2 H2 g2 n1 n2 => ?_
    dsimp only
    refine My.ps_ret g2.c (p_ev (v := .bl (pwB d)) (ev_is (ev_andV (a := dvB (it 0 d)) (b := wholeB (it 1 d) && decide (0 < intOf (it 1 d))) (ev_p (p_callP (ps := [IsD K (it 0 d)]) (q_cons (p_var rfl n1) q_nil) ⟨_, _, to_id, s0, rfl, rfl⟩)) fun k0 =>
      ev_andV (ev_p (p_callP (ps := [IsD K (it 1 d)]) (q_cons (p_var rfl n2) q_nil) ⟨_, _, to_id, s1, rfl, rfl⟩)) fun k1 => ev_op (ev_in (K := K) (p_var (p := IsD K (.int (intOf (it 1 d)))) rfl (by rw [← wholeB_ex k1]; exact n2))) ev_c rv_I0) (by rw [ed]))) fun v B3 H3 g hp => q v B3 H3 (((Gr.wide eB e1).trans g2).trans g) hp

/-- is_monomial -/
abbrev s_is_monomial : Stmt := topS 33
abbrev N_is_monomial : List Str := ["thing", "ahead", "pair"]
theorem sc_is_monomial : FnScope N_is_monomial ["thing"] (defScope s_is_monomial) := ⟨rfl, rfl, rfl, by decide +kernel, rfl, by decide +kernel, by decide +kernel⟩
theorem ok_is_monomial {f : Addr} {fd : FuncData} (F : Fun K "is_monomial" "is_monomial" s_is_monomial f fd)  {f__is_powered : Addr} {d__is_powered : FuncData} (c__is_powered : Cal P w K mg base "_is_powered" 4 ["thing"] (spP (RB K pwB)) f__is_powered d__is_powered) (n_isinstance : mg "isinstance" = none) (n_tuple : mg "tuple" = none)  :
    FnOk P w K mg base CX0 5 f fd ["thing"] (spP (RB K moB)) := by
  refine F.ok sc_is_monomial (spP_len (by rintro _ _ ⟨_, _, _, _, rfl, rfl⟩; rfl)) (fun cdv A outer s H vs Q E hr h => ?_)
  obtain ⟨B, ps, p, eB, hv, ⟨qd, d, tq, hs, rfl, rfl⟩, q⟩ := h
  obtain ⟨v, rfl, h1⟩ := all1 hv
  have hu := hu_of hr
  refine ⟨_, (pss_cons (ps_if (pt_not (pt_val (pe_callB call_isi (by rfl) n_isinstance (by decide +kernel) (pa_cons (pv 0) (pa_cons (pe_bltn (v := .ty "tuple") (u := .type "tuple") (by rfl) n_tuple (by decide +kernel) rfl) pa_nil))))) (pss_one (ps_ret pe_bl)) pss_nil)
    (pss_cons (ps_set (i := 1) sc_is_monomial.nd rfl (by first | exact .inl rfl | exact .inr rfl) pe_non)
    (pss_cons (ps_for PassesOwn.never rfl (pi_tup (pv 0)) (pg_name (i := 2) sc_is_monomial.nd rfl (by first | exact .inl rfl | exact .inr rfl))
      (pss_cons (ps_if (PW.pt (pw_or (pt_not (pt_val (pe_call c__is_powered.G (hr.mono (by decide)) (by rfl) c__is_powered.m c__is_powered.k c__is_powered.b .nil pass0 (pa_cons (pv 2) pa_nil)))) (pw_or1 (PW.pt (pw_and (pt_cmpR op_notN (pv 1) pe_non (nomark _)) (pw_and1 (pt_cmpR (op_leD (by have h := hr.un; show (A.deeper _).units + 65 < cLine; omega)) (pe_ix ix_tup (pv 2) pe_int (fun _ _ => rfl)) (pv 1) (nomark _)))))))) (pss_one (ps_ret pe_bl)) pss_nil)
    (pss_one (ps_set (i := 1) sc_is_monomial.nd rfl (by first | exact .inl rfl | exact .inr rfl) (pe_ix ix_tup (pv 2) pe_int (fun _ _ => rfl))))))
    (pss_one (ps_ret pe_bl))))), ?_⟩
  have hd : Dp K B v d := tq _ _ h1
  by_cases hx : ∃ xs, d = .tuple xs
  rotate_left
  · have hn : isTu d = false ∧ moB d = false := by cases d <;> first | exact ⟨rfl, rfl⟩ | exact absurd ⟨_, rfl⟩ hx
    refine ps_ifT eB (et_is (et_not (et_test (ev_isTu (p_var (p := IsD K d) rfl hd)))) (by rw [hn.1]; rfl)) fun H1 e1 => ?_
    refine My.ps_ret (eB.trans e1) (p_c (v := .bl false)) fun v B1 H2 g hp => q v B1 H2 ((Gr.wide eB e1).trans g) ?_
    rw [hn.2]
    exact hp
  obtain ⟨xs, rfl⟩ := hx
  refine ps_ifN eB (et_is (et_not (et_test (ev_isTu (p_var (p := IsD K (.tuple xs)) rfl hd)))) rfl) fun H1 e1 => ?_
  dsimp only
  refine ps_asgN (fun x => [some v, some x, none]) (eB.trans e1) (p_c (v := .non)) (fun x B2 H2 g2 hx => ?_) (fun _ => rfl)
  obtain rfl : x = .non := hx
  dsimp only
  refine ps_forS g2.c (src_tu (p_var rfl (tu_d (dp_m g2.b hd)))) fun B3 H3 g3 => ?_
  refine ⟨fun i σ H4 => ∃ B4, Gr B3 H3 B4 H4 ∧ ∃ x y ah, σ = [some v, some y, x] ∧ AhP K ah y B4 ∧ (∀ a, ah = some a → ∃ u : Dv, a = u.D) ∧ chainB pwB none xs = chainB pwB ah (xs.drop i), ⟨B3, Gr.refl g3.c, none, .non, none, rfl, .inl ⟨rfl, rfl⟩, (fun _ z => nomatch z), rfl⟩, fun i σ H4 _ h => ?_, fun i v2 σ H4 hi pv px => ?_, fun σ H4 pv => ?_⟩
  · obtain ⟨B4, g4, _⟩ := h
    exact g4.b.trans g4.c
  · obtain ⟨B4, g4, x, y, ah, rfl, ha, hu, hc⟩ := pv
    rw [List.length_map] at hi
    rw [getD_map hi] at px
    have px4 := dp_m g4.b (show Dp K B3 v2 xs[i] from px)
    have sx := smd_tu hs xs[i] (List.getElem_mem hi)
    rw [List.drop_eq_getElem_cons hi, chainB] at hc
    have one : Ev (tCall (spP (RB K pwB)) [] E0 (tCons (tVar 2) tNil)) [some v, some y, some v2] B4 (.bl (pwB xs[i])) := ev_p (p_callP (ps := [IsD K xs[i]]) (q_cons (p_var rfl px4) q_nil) ⟨_, _, to_id, sx, rfl, rfl⟩)
    cases hp : pwB xs[i] with
    | false =>
      refine ps_ifT g4.c (et_is (et_or (a := true) (b := true) (et_is (et_not (et_test one)) (by rw [hp]; rfl)) fun z => nomatch z) rfl) fun H5 e5 => ?_
      refine My.ps_ret (g4.c.trans e5) (p_c (v := .bl false)) fun v5 B5 H5 g5 hv5 => q v5 B5 H5 ((((Gr.wide eB e1).trans g2).trans (g3.trans (g4.trans (Gr.wide g4.c e5)))).trans g5) ?_
      rw [show moB (.tuple xs) = false from by show chainB pwB none xs = false; rw [hc, hp]; rfl]
      exact hv5
    | true =>
      obtain ⟨z, hz, hz1, hz2⟩ := pwB_ex hp
      have p0 : EvP (tVar 2) [some v, some y, some v2] B4 (TuP K [IsD K z.1.D, IsD K (.int z.2)]) := p_var rfl (tu_d (ds := [z.1.D, .int z.2]) (by rw [hz] at px4; exact px4))
      have test := et_ah (K := K) (d := z.1.D) (σ := [some v, some y, some v2]) (i := 1) rfl ha (p_ixT p0 (p_c (v := .int 0)) rfl) (fun a ea => by obtain ⟨u, rfl⟩ := hu a ea; exact alike_dv _ _) (fun z => nomatch z) (by rw [deep_dv]; omega)
      have ei : it 0 xs[i] = z.1.D := by rw [hz]; rfl
      cases hb : ah.all fun a => dataLt a z.1.D with
      | false =>
        refine ps_ifT g4.c (et_is (et_or (a := false) (b := true) (et_is (et_not (et_test one)) (by rw [hp]; rfl)) fun _ => et_is test (by rw [hb]; rfl)) rfl) fun H5 e5 => ?_
        refine My.ps_ret (g4.c.trans e5) (p_c (v := .bl false)) fun v5 B5 H5 g5 hv5 => q v5 B5 H5 ((((Gr.wide eB e1).trans g2).trans (g3.trans (g4.trans (Gr.wide g4.c e5)))).trans g5) ?_
        rw [show moB (.tuple xs) = false from by show chainB pwB none xs = false; rw [hc, hp, ei, hb]; rfl]
        exact hv5
      | true =>
        refine ps_ifN g4.c (et_is (et_or (a := false) (b := false) (et_is (et_not (et_test one)) (by rw [hp]; rfl)) fun _ => et_is test (by rw [hb]; rfl)) rfl) fun H5 e5 => ?_
        dsimp only
        refine ps_asgN (fun x => [some v, some x, some v2]) (g4.c.trans e5) (p_ixT (K := K) (p := IsD K z.1.D) p0 p_c rfl) (fun x6 B6 H6 g6 hx6 => ?_) (fun _ => rfl)
        refine ⟨B6, (g4.trans (Gr.wide g4.c e5)).trans g6, some v2, x6, some z.1.D, rfl, .inr ⟨_, rfl, hx6, _, rfl⟩, (fun a ea => by cases ea; exact ⟨_, rfl⟩), ?_⟩
        rw [hc, hp, ei, hb]
        rfl
  · obtain ⟨B4, g4, x, y, ah, rfl, ha, hu, hc⟩ := pv
    dsimp only
    refine My.ps_ret g4.c (p_c (v := .bl true)) fun v5 B5 H5 g5 hp => ?_
    refine q v5 B5 H5 ((((Gr.wide eB e1).trans g2).trans (g3.trans g4)).trans g5) ?_
    rw [show moB (.tuple xs) = true from by show chainB pwB none xs = true; rw [hc, List.drop_eq_nil_of_le (by rw [List.length_map]; exact Nat.le_refl _)]; rfl]
    exact hp

/-- _is_term -/
abbrev s__is_term : Stmt := topS 35
abbrev N__is_term : List Str := ["thing", "monomial", "number"]
theorem sc__is_term : FnScope N__is_term ["thing"] (defScope s__is_term) := ⟨rfl, rfl, rfl, by decide +kernel, rfl, by decide +kernel, by decide +kernel⟩
theorem ok__is_term {f : Addr} {fd : FuncData} (F : Fun K "_is_term" "_is_term" s__is_term f fd)  {f_is_monomial : Addr} {d_is_monomial : FuncData} (c_is_monomial : Cal P w K mg base "is_monomial" 5 ["thing"] (spP (RB K moB)) f_is_monomial d_is_monomial) {f_is_fraction : Addr} {d_is_fraction : FuncData} (c_is_fraction : Cal P w K mg base "is_fraction" 3 ["thing"] (spP (RB K frB)) f_is_fraction d_is_fraction) (n_isinstance : mg "isinstance" = none) (n_tuple : mg "tuple" = none) (n_len : mg "len" = none)  :
    FnOk P w K mg base CX0 6 f fd ["thing"] (spP (RB K tmB)) := by
  refine F.ok sc__is_term (spP_len (by rintro _ _ ⟨_, _, _, _, rfl, rfl⟩; rfl)) (fun cdv A outer s H vs Q E hr h => ?_)
  obtain ⟨B, ps, p, eB, hv, ⟨qd, d, tq, hs, rfl, rfl⟩, q⟩ := h
  obtain ⟨v, rfl, h1⟩ := all1 hv
  have hu := hu_of hr
  refine ⟨_, (pss_cons (ps_if (PW.pt (pw_or (pt_not (pt_val (pe_callB call_isi (by rfl) n_isinstance (by decide +kernel) (pa_cons (pv 0) (pa_cons (pe_bltn (v := .ty "tuple") (u := .type "tuple") (by rfl) n_tuple (by decide +kernel) rfl) pa_nil))))) (pw_or1 (pt_cmpR op_ne (pe_callB call_len_seq (by rfl) n_len (by decide +kernel) (pa_cons (pv 0) pa_nil)) pe_int (nomark _))))) (pss_one (ps_ret pe_bl)) pss_nil)
    (pss_cons (ps_asg (pv 0) (pg_tup (by rfl) (pgs_cons (pg_name (i := 1) sc__is_term.nd rfl (by first | exact .inl rfl | exact .inr rfl)) (pgs_cons (pg_name (i := 2) sc__is_term.nd rfl (by first | exact .inl rfl | exact .inr rfl)) pgs_nil))))
    (pss_one (ps_ret (pe_and (pe_call c_is_monomial.G (hr.mono (by decide)) (by rfl) c_is_monomial.m c_is_monomial.k c_is_monomial.b .nil pass0 (pa_cons (pv 1) pa_nil)) (pe_and (pe_call c_is_fraction.G (hr.mono (by decide)) (by rfl) c_is_fraction.m c_is_fraction.k c_is_fraction.b .nil pass0 (pa_cons (pv 2) pa_nil)) (pe_one (pe_cmpR op_ne (pe_ix ix_tup (pv 2) pe_int (fun _ _ => rfl)) pe_int (nomark _))))))))), ?_⟩
  have hd : Dp K B v d := tq _ _ h1
  cases ht : tupN 2 d with
  | false =>
    refine ps_ifT eB (et_is (et_tupN (n := 2) (p_var (p := IsD K d) rfl hd)) (by rw [ht]; rfl)) fun H1 e1 => ?_
    refine My.ps_ret (eB.trans e1) (p_c (v := .bl false)) fun v B1 H2 g hp => q v B1 H2 ((Gr.wide eB e1).trans g) ?_
    rw [show tmB d = false from by unfold tmB; rw [ht]; rfl]
    exact hp
  | true =>
    refine ps_ifN eB (et_is (et_tupN (n := 2) (p_var (p := IsD K d) rfl hd)) (by rw [ht]; rfl)) fun H1 e1 => ?_
    dsimp only
    have s0 := smd_it hs 0
    have s1 := smd_it hs 1
    have ed : tmB d = (moB (it 0 d) && (frB (it 1 d) && !decide (intOf (it 0 (it 1 d)) = 0))) := by unfold tmB; rw [ht]; rfl
    refine ps_un2 (K := K) (p := IsD K (it 0 d)) (q := IsD K (it 1 d)) (eB.trans e1) (p_var (p := TuP K [IsD K (it 0 d), IsD K (it 1 d)]) rfl (by rw [tpl2 ht] at hd; exact tu_d hd)) fun w1 w2 B2 H2 g2 n1 n2 => ?_
    dsimp only
    refine My.ps_ret g2.c (p_ev (v := .bl (tmB d)) (ev_is (ev_andV (a := moB (it 0 d)) (b := frB (it 1 d) && !decide (intOf (it 0 (it 1 d)) = 0)) (ev_p (p_callP (ps := [IsD K (it 0 d)]) (q_cons (p_var rfl n1) q_nil) ⟨_, _, to_id, s0, rfl, rfl⟩)) fun k0 =>
      ev_andV (ev_p (p_callP (ps := [IsD K (it 1 d)]) (q_cons (p_var rfl n2) q_nil) ⟨_, _, to_id, s1, rfl, rfl⟩)) fun k1 => ?_) (by rw [ed]))) fun v B3 H3 g hp => q v B3 H3 (((Gr.wide eB e1).trans g2).trans g) hp
    obtain ⟨f, hf, _⟩ := frB_ex k1
    rw [hf] at n2 ⊢
    refine ev_is (ev_op (ev_in (K := K) (p_ixT (K := K) (p := IsD K (.int f.1)) (p_var (p := TuP K [IsD K (.int f.1), IsD K (.int f.2)]) rfl (tu_d (ds := [.int f.1, .int f.2]) n2)) p_c rfl)) ev_c (rv_ne rfl)) ?_
    show V.bl (!decide (V.int f.1 = V.int 0)) = V.bl (!decide (f.1 = 0))
    by_cases z : f.1 = 0 <;> simp [z]

/-- need_polynomial -/
abbrev s_need_polynomial : Stmt := topS 36
abbrev N_need_polynomial : List Str := ["thing", "ahead", "number", "pair"]
theorem sc_need_polynomial : FnScope N_need_polynomial ["thing"] (defScope s_need_polynomial) := ⟨rfl, rfl, rfl, by decide +kernel, rfl, by decide +kernel, by decide +kernel⟩
def poO (C : Addr) : Option (Option Nat) → Out
  | none => .ret (IsV .non)
  | some none => .exc C [("number", IsV .non)]
  | some (some n) => .exc C [("number", IsV (.int (n : Nat)))]
def RpoO (K : PySem.W.Frag) (C : Addr) : List Pr → Out → Prop := fun ps o => ∃ (qd : Pr) (d : PyData), To K qd d ∧ smB d = true ∧ ps = [qd] ∧ o = poO C (poAt d)
theorem ok_need_polynomial {f : Addr} {fd : FuncData} (F : Fun K "need_polynomial" "need_polynomial" s_need_polynomial f fd)  {f__is_term : Addr} {d__is_term : FuncData} (c__is_term : Cal P w K mg base "_is_term" 6 ["thing"] (spP (RB K tmB)) f__is_term d__is_term) (n_isinstance : mg "isinstance" = none) (n_tuple : mg "tuple" = none) (n_enumerate : mg "enumerate" = none) {aBP i_BP : Addr} {d_BP : FuncData} {gZ_BP : List Value → List Value → List Value} (R_BP : RP P w K mg base "BadPolynomial" aBP "number" i_BP d_BP gZ_BP) :
    FnOk P w K mg base (L2.CX P w) 7 f fd ["thing"] (spO (RpoO K aBP)) := by
  refine F.okX sc_need_polynomial (spO_len (by rintro _ _ ⟨_, _, _, _, rfl, rfl⟩; rfl)) (fun cdv A outer s H vs Q E hr h => ?_)
  obtain ⟨B, ps, o, eB, hv, ⟨qd, d, tq, hs, rfl, rfl⟩, q⟩ := h
  obtain ⟨v, rfl, h1⟩ := all1 hv
  have hu := hu_of hr
  have tk : Takes (cxOf (L2.CX P w) P w K mg base N_need_polynomial "need_polynomial" (defScope s_need_polynomial) f cdv A outer s H E) (fun cls d _ H => E cls d H) := L2.takes_of rfl rfl rfl rfl
  refine ⟨_, (pss_cons (ps_if (pt_not (pt_val (pe_callB call_isi (by rfl) n_isinstance (by decide +kernel) (pa_cons (pv 0) (pa_cons (pe_bltn (v := .ty "tuple") (u := .type "tuple") (by rfl) n_tuple (by decide +kernel) rfl) pa_nil))))) (pss_one (ps_raiseZ R_BP rfl rfl tk (hr.mono (by decide)) (by rfl))) pss_nil)
    (pss_cons (ps_set (i := 1) sc_need_polynomial.nd rfl (by first | exact .inl rfl | exact .inr rfl) pe_non)
    (pss_one (ps_for (L2.passes_of rfl) rfl (pi_enumT (by rfl) n_enumerate (pa_cons (pv 0) pa_nil)) (pg_tup (by rfl) (pgs_cons (pg_name (i := 2) sc_need_polynomial.nd rfl (by first | exact .inl rfl | exact .inr rfl)) (pgs_cons (pg_name (i := 3) sc_need_polynomial.nd rfl (by first | exact .inl rfl | exact .inr rfl)) pgs_nil)))
      (pss_cons (ps_if (PW.pt (pw_or (pt_not (pt_val (pe_call c__is_term.G (hr.mono (by decide)) (by rfl) c__is_term.m c__is_term.k c__is_term.b .nil pass0 (pa_cons (pv 3) pa_nil)))) (pw_or1 (PW.pt (pw_and (pt_cmpR op_notN (pv 1) pe_non (nomark _)) (pw_and1 (pt_cmpR (op_leD (by have h := hr.un; show (A.deeper _).units + 65 < cLine; omega)) (pe_ix ix_tup (pv 3) pe_int (fun _ _ => rfl)) (pv 1) (nomark _)))))))) (pss_one (ps_raiseP R_BP rfl rfl tk (hr.mono (by decide)) (by rfl) (pa_cons (pv 2) pa_nil))) pss_nil)
    (pss_one (ps_set (i := 1) sc_need_polynomial.nd rfl (by first | exact .inl rfl | exact .inr rfl) (pe_ix ix_tup (pv 3) pe_int (fun _ _ => rfl))))))))), ?_⟩
  have hd : Dp K B v d := tq _ _ h1
  by_cases hx : ∃ xs, d = .tuple xs
  rotate_left
  · have hn : isTu d = false ∧ poAt d = some none := by cases d <;> first | exact ⟨rfl, rfl⟩ | exact absurd ⟨_, rfl⟩ hx
    refine ps_ifT eB (et_is (et_not (et_test (ev_isTu (p_var (p := IsD K d) rfl hd)))) (by rw [hn.1]; rfl)) fun H1 e1 => ?_
    rw [hn.2] at q
    exact x_rsZ (W := fun cls d _ H => E cls d H) R_BP.rc.r (eB.trans e1) e1 fun d2 B2 H2 g hd => q d2 B2 H2 ((Gr.wide eB e1).trans g) hd
  obtain ⟨xs, rfl⟩ := hx
  have q : OutOk (poO aBP ((chainAt tmB 0 none xs).map some)) B H Q E := q
  refine ps_ifN eB (et_is (et_not (et_test (ev_isTu (p_var (p := IsD K (.tuple xs)) rfl hd)))) rfl) fun H1 e1 => ?_
  dsimp only
  refine ps_asgN (fun x => [some v, some x, none, none]) (eB.trans e1) (p_c (v := .non)) (fun x B2 H2 g2 hx => ?_) (fun _ => rfl)
  obtain rfl : x = .non := hx
  dsimp only
  refine ps_forE g2.c (src_enT (K := K) (ps := xs.map (IsD K)) (q_cons (p_var rfl (tu_d (dp_m g2.b hd))) q_nil)) fun B3 H3 g3 => ?_
  refine ⟨fun i σ H4 => ∃ B4, Gr B3 H3 B4 H4 ∧ ∃ n x y ah, σ = [some v, some y, n, x] ∧ AhP K ah y B4 ∧ (∀ a, ah = some a → ∃ m : Mo, a = moD m) ∧ chainAt tmB 0 none xs = chainAt tmB i ah (xs.drop i), ⟨B3, Gr.refl g3.c, none, none, .non, none, rfl, .inl ⟨rfl, rfl⟩, (fun _ z => nomatch z), rfl⟩, fun i σ H4 _ h => ?_, fun i v2 T σ H4 hi pv px hT => ?_, fun σ H4 pv => ?_⟩
  · obtain ⟨B4, g4, _⟩ := h
    exact g4.b.trans g4.c
  · obtain ⟨B4, g4, n, x, y, ah, rfl, ha, hu, hc⟩ := pv
    rw [List.length_map] at hi
    rw [getD_map hi] at px
    have px4 := dp_m g4.b (show Dp K B3 v2 xs[i] from px)
    have sx := smd_tu hs xs[i] (List.getElem_mem hi)
    rw [List.drop_eq_getElem_cons hi, chainAt] at hc
    refine ⟨T, _, rfl, st_of upd_same, rfl, _, _, rfl, _, _, rfl, rfl, ?_⟩
    have g5 := g4.trans (Gr.wide g4.c (Ex.new (o := .tup [.int (i : Nat), v2]) hT))
    have gs := ((Gr.wide eB e1).trans g2).trans (g3.trans g5)
    dsimp only
    have one : Ev (tCall (spP (RB K tmB)) [] E0 (tCons (tVar 3) tNil)) [some v, some y, some (.int (i : Nat)), some v2] B4 (.bl (tmB xs[i])) := ev_p (p_callP (ps := [IsD K xs[i]]) (q_cons (p_var rfl px4) q_nil) ⟨_, _, to_id, sx, rfl, rfl⟩)
    have bad : ∀ (X5 : Cx), Raises X5 (.ref aBP) → ∀ (H5 : Hp) (e5 : Ex _ H5), (tmB xs[i] && (ah.all fun a => dataLt a (it 0 xs[i]))) = false → _ := fun X5 r5 H5 e5 hf => x_rsP (X := X5) (C := aBP) (f := "number") (W := fun cls d _ H => E cls d H) (σ := [some v, some y, some (.int (i : Nat)), some v2]) (t := tCons (tVar 2) tNil) (p := IsV (.int (i : Nat))) r5 (g5.c.trans e5) (gs.a.trans e5) (q_cons (p_varV rfl) q_nil) fun d2 B2 H2 g hd => by
      rw [hc, if_neg (by rw [hf]; exact Bool.false_ne_true)] at q
      exact q d2 B2 H2 ((gs.trans (Gr.wide g5.c e5)).trans g) hd
    cases hp : tmB xs[i] with
    | false =>
      refine ps_ifT g5.c (et_is (et_or (a := true) (b := true) (et_is (et_not (et_test one)) (by rw [hp]; rfl)) fun z => nomatch z) rfl) fun H5 e5 => ?_
      exact bad _ R_BP.rc.r H5 e5 (by rw [hp]; rfl)
    | true =>
      obtain ⟨w1, w2, hz⟩ : ∃ w1 w2, xs[i] = .tuple [w1, w2] := ⟨_, _, tpl2 (by unfold tmB at hp; exact (Bool.and_eq_true_iff.mp hp).1)⟩
      have ei : it 0 xs[i] = w1 := by rw [hz]; rfl
      obtain ⟨m, hm⟩ : ∃ m : Mo, w1 = moD m := by
        rw [← ei]
        unfold tmB at hp
        simp only [Bool.and_eq_true] at hp
        exact moB_ex hp.2.1
      subst hm
      have p0 : EvP (tVar 3) [some v, some y, some (.int (i : Nat)), some v2] B4 (TuP K [IsD K (moD m), IsD K w2]) := p_var rfl (tu_d (ds := [moD m, w2]) (by rw [hz] at px4; exact px4))
      have test := et_ah (K := K) (d := moD m) (σ := [some v, some y, some (.int (i : Nat)), some v2]) (i := 1) rfl ha (p_ixT p0 (p_c (v := .int 0)) rfl) (fun a ea => by obtain ⟨u, rfl⟩ := hu a ea; exact alike_mo _ _) (fun z => nomatch z) (by have := deep_mo m; omega)
      cases hb : ah.all fun a => dataLt a (moD m) with
      | false =>
        refine ps_ifT g5.c (et_is (et_or (a := false) (b := true) (et_is (et_not (et_test one)) (by rw [hp]; rfl)) fun _ => et_is test (by rw [hb]; rfl)) rfl) fun H5 e5 => ?_
        exact bad _ R_BP.rc.r H5 e5 (by rw [ei, hb, Bool.and_false])
      | true =>
        refine ps_ifN g5.c (et_is (et_or (a := false) (b := false) (et_is (et_not (et_test one)) (by rw [hp]; rfl)) fun _ => et_is test (by rw [hb]; rfl)) rfl) fun H5 e5 => ?_
        dsimp only
        refine ps_asgN (fun x => [some v, some x, some (.int (i : Nat)), some v2]) (g5.c.trans e5) (p_ixT (K := K) (p := IsD K (moD m)) p0 p_c rfl) (fun x6 B6 H6 g6 hx6 => ?_) (fun _ => rfl)
        refine ⟨B6, (g5.trans (Gr.wide g5.c e5)).trans g6, some (.int (i : Nat)), some v2, x6, some (moD m), rfl, .inr ⟨_, rfl, hx6, _, rfl⟩, (fun a ea => by cases ea; exact ⟨_, rfl⟩), ?_⟩
        rw [hc, if_pos (by rw [hp, ei, hb]; rfl), ei]
  · obtain ⟨B4, g4, n, x, y, ah, rfl, ha, hu, hc⟩ := pv
    rw [hc, List.drop_eq_nil_of_le (by rw [List.length_map]; exact Nat.le_refl _)] at q
    exact q .non B4 H4 (((Gr.wide eB e1).trans g2).trans (g3.trans g4)) rfl

/-- is_polynomial -/
abbrev s_is_polynomial : Stmt := topS 37
abbrev N_is_polynomial : List Str := ["thing"]
theorem sc_is_polynomial : FnScope N_is_polynomial ["thing"] (defScope s_is_polynomial) := ⟨rfl, rfl, rfl, by decide +kernel, rfl, by decide +kernel, by decide +kernel⟩
theorem ok_is_polynomial {f : Addr} {fd : FuncData} (F : Fun K "is_polynomial" "is_polynomial" s_is_polynomial f fd) {aBP : Addr} {f_need_polynomial : Addr} {d_need_polynomial : FuncData} (c_need_polynomial : CalX P w K mg base "need_polynomial" 7 ["thing"] (spO (RpoO K aBP)) f_need_polynomial d_need_polynomial)  (g_BadPolynomial : mg "BadPolynomial" = some (.ref aBP)) (x_BP : PySem.W.exmOne K (.ref aBP) (.ref aBP) = some true) :
    FnOk P w K mg base CX0 8 f fd ["thing"] (spP (RB K poB)) := by
  refine F.ok sc_is_polynomial (spP_len (by rintro _ _ ⟨_, _, _, _, rfl, rfl⟩; rfl)) (fun cdv A outer s H vs Q E hr h => ?_)
  obtain ⟨B, ps, p, eB, hv, ⟨qd, d, tq, hs, rfl, rfl⟩, q⟩ := h
  obtain ⟨v, rfl, h1⟩ := all1 hv
  have hu := hu_of hr
  refine ⟨_, (pss_cons (ps_try_only (tb := fun W => tDrop (tCallS (spO (RpoO K aBP)) (WE W) (tCons (tVar 0) tNil))) (ts := fun _ _ _ => tRet (tC (.bl false))) (Wout := fun _ _ _ _ => False) rfl rfl ⟨rfl, by decide, Or.inl g_BadPolynomial⟩ L2.takes0 (fun W pn xe tk _ => pss_one (ps_expr (pe_callS c_need_polynomial.G (hr.mono (by decide)) (by rfl) c_need_polynomial.m c_need_polynomial.k c_need_polynomial.b (fun σ => passAt tk σ) (pa_cons (pv 0) pa_nil)))) (fun _ _ _ _ _ _ _ => pss_one (ps_ret pe_bl)))
    (pss_one (ps_ret pe_bl))), ?_⟩
  cases hp : poAt d with
  | none =>
    refine o_call (E := WE _) eB (q_cons (p_var rfl h1) q_nil) ⟨qd, d, tq, hs, rfl, rfl⟩ ?_
    rw [hp]
    intro v1 B1 H1 g1 _
    dsimp only
    refine My.ps_ret g1.c (p_c (v := .bl true)) fun v5 B5 H5 g5 hv5 => q v5 B5 H5 (g1.trans g5) ?_
    rw [show poB d = true from by unfold poB; rw [hp]; rfl]
    exact hv5
  | some n =>
    refine o_call (E := WE _) eB (q_cons (p_var rfl h1) q_nil) ⟨qd, d, tq, hs, rfl, rfl⟩ ?_
    rw [hp]
    have fin : ∀ (B1 H1 : Hp), Gr B H B1 H1 → Q (.bl false) H1 := fun B1 H1 g1 => q _ B1 H1 g1 (by rw [show poB d = false from by unfold poB; rw [hp]; rfl]; rfl)
    cases n with
    | none => exact fun d2 B1 H1 g1 _ => ⟨true, x_BP, fun _ a _ => fin B1 H1 g1, fun z => nomatch z⟩
    | some n => exact fun d2 B1 H1 g1 _ => ⟨true, x_BP, fun _ a _ => fin B1 H1 g1, fun z => nomatch z⟩

end
end K12
namespace K12
set_option autoImplicit false
open PySem PySem.W L2 Evl My Nd
section
variable {P : Program} {w : World} {K : PySem.W.Frag} {mg : Str → Option Value} {base : Heap}

/-- way_to -/
abbrev s_way_to : Stmt := topS 58
abbrev N_way_to : List Str := ["one", "other"]
theorem sc_way_to : FnScope N_way_to ["one", "other"] (defScope s_way_to) := ⟨rfl, rfl, rfl, by decide +kernel, rfl, by decide +kernel, by decide +kernel⟩
theorem ok_way_to {f : Addr} {fd : FuncData} (F : Fun K "way_to" "way_to" s_way_to f fd)     :
    FnOk P w K mg base CX0 1 f fd ["one", "other"] (spP (Rway K)) := by
  refine F.ok sc_way_to (spP_len (by rintro _ _ ⟨a, b, rfl, rfl⟩; rfl)) (fun cdv A outer s H vs Q E hr h => ?_)
  obtain ⟨B, ps, p, eB, hv, ⟨a, b, rfl, rfl⟩, q⟩ := h
  obtain ⟨v1, v2, rfl, h1, h2⟩ := all2 hv
  have hu := hu_of hr
  refine ⟨_, (pss_cons (ps_if (PW.pt (pw_or (pt_cmpR op_ne (pe_ix ix_tup (pv 0) pe_int (fun _ _ => rfl)) (pe_ix ix_tup (pv 1) pe_int (fun _ _ => rfl)) (nomark _)) (pw_or (pt_cmpR op_lt (pe_ix ix_tup (pv 1) pe_int (fun _ _ => rfl)) (pe_ix ix_tup (pv 0) pe_int (fun _ _ => rfl)) (nomark _)) (pw_or1 (pt_cmpR op_lt (pe_ix ix_tup (pv 1) pe_int (fun _ _ => rfl)) (pe_ix ix_tup (pv 0) pe_int (fun _ _ => rfl)) (nomark _)))))) (pss_one (ps_ret pe_non)) pss_nil)
    (pss_one (ps_ret (pe_tup (pa_cons (pe_op op_sub (pe_ix ix_tup (pv 1) pe_int (fun _ _ => rfl)) (pe_ix ix_tup (pv 0) pe_int (fun _ _ => rfl))) (pa_cons (pe_op op_sub (pe_ix ix_tup (pv 1) pe_int (fun _ _ => rfl)) (pe_ix ix_tup (pv 0) pe_int (fun _ _ => rfl))) pa_nil)))))), ?_⟩
  have ix : ∀ (B' : Hp), Ex B B' → ∀ (d : Dv) (i : Nat) (v : V), (DvP d).P v B → ([some v1, some v2] : L2.St)[i]? = some (some v) → Ev (tOp (rIxT K) (tVar i) (tC (.int 0))) [some v1, some v2] B' (.str d.n) ∧ Ev (tOp (rIxT K) (tVar i) (tC (.int 1))) [some v1, some v2] B' (.int d.i) ∧ Ev (tOp (rIxT K) (tVar i) (tC (.int 2))) [some v1, some v2] B' (.int d.j) := fun B' e d i v pd hi =>
    ⟨ev_st (K := K) (ed_ixT (ed_dv (p_var hi ((DvP d).m e pd))) ev_c rfl), ev_in (K := K) (ed_ixT (ed_dv (p_var hi ((DvP d).m e pd))) ev_c rfl), ev_in (K := K) (ed_ixT (ed_dv (p_var hi ((DvP d).m e pd))) ev_c rfl)⟩
  obtain ⟨a0, a1, a2⟩ := ix B (Ex.refl B) a 0 v1 h1 rfl
  obtain ⟨b0, b1, b2⟩ := ix B (Ex.refl B) b 1 v2 h2 rfl
  have tst := et_or (et_test (ev_op a0 b0 (rv_ne rfl))) fun _ => et_or (et_test (ev_op (r := rI0 fun i j => .bl (decide (i < j))) b1 a1 rv_I0)) fun _ => et_test (ev_op (r := rI0 fun i j => .bl (decide (i < j))) b2 a2 rv_I0)
  cases hw : wayB a b with
  | false =>
    refine My.ps_ifT eB (et_is tst ?_) fun H1 e1 => ?_
    · unfold wayB at hw
      by_cases c1 : a.n = b.n
      · by_cases c2 : a.i ≤ b.i
        · by_cases c3 : a.j ≤ b.j
          · simp [c1, c2, c3] at hw
          · simp [c1, show b.j < a.j by omega]
        · simp [c1, show b.i < a.i by omega]
      · simp [c1]
    · refine My.ps_ret (eB.trans e1) (p_c (v := .non)) fun v B3 H3 g hp => q v B3 H3 ((Gr.wide eB e1).trans g) ?_
      unfold wayP
      rw [hw, if_neg Bool.false_ne_true]
      exact hp
  | true =>
    have hw2 := hw
    unfold wayB at hw2
    simp only [Bool.and_eq_true, decide_eq_true_eq] at hw2
    refine ps_ifN eB (et_is tst ?_) fun H1 e1 => ?_
    · simp [hw2.1, show ¬ b.i < a.i by omega, show ¬ b.j < a.j by omega]
    · dsimp only
      refine My.ps_ret (eB.trans e1) (p_tup (K := K) (ps := [IsV (.int (b.i - a.i)), IsV (.int (b.j - a.j))]) (q_cons (p_ev (ev_op b1 a1 rv_I0)) (q_cons (p_ev (ev_op b2 a2 rv_I0)) q_nil)) (by show 2 ≤ 100000; decide)) fun v B3 H3 g hp => q v B3 H3 ((Gr.wide eB e1).trans g) ?_
      unfold wayP
      rw [hw, if_pos rfl]
      exact hp

/-- first_by -/
abbrev s_first_by : Stmt := topS 66
abbrev N_first_by : List Str := ["chain", "derivative", "number", "leader", "_"]
theorem sc_first_by : FnScope N_first_by ["chain", "derivative"] (defScope s_first_by) := ⟨rfl, rfl, rfl, by decide +kernel, rfl, by decide +kernel, by decide +kernel⟩
theorem ok_first_by {f : Addr} {fd : FuncData} (F : Fun K "first_by" "first_by" s_first_by f fd)  {f_way_to : Addr} {d_way_to : FuncData} (c_way_to : Cal P w K mg base "way_to" 1 ["one", "other"] (spP (Rway K)) f_way_to d_way_to) (n_enumerate : mg "enumerate" = none)  :
    FnOk P w K mg base CX0 2 f fd ["chain", "derivative"] (spP (Rfst K)) := by
  refine F.ok sc_first_by (spP_len (by rintro _ _ ⟨c, u, rfl, rfl⟩; rfl)) (fun cdv A outer s H vs Q E hr h => ?_)
  obtain ⟨B, ps, p, eB, hv, ⟨c, u, rfl, rfl⟩, q⟩ := h
  obtain ⟨v1, v2, rfl, h1, h2⟩ := all2 hv
  have hu := hu_of hr
  refine ⟨_, (pss_cons (ps_for PassesOwn.never rfl (pi_enumT (by rfl) n_enumerate (pa_cons (pv 0) pa_nil)) (pg_tup (by rfl) (pgs_cons (pg_name (i := 2) sc_first_by.nd rfl (by first | exact .inl rfl | exact .inr rfl)) (pgs_cons (pg_tup (by rfl) (pgs_cons (pg_name (i := 3) sc_first_by.nd rfl (by first | exact .inl rfl | exact .inr rfl)) (pgs_cons (pg_name (i := 4) sc_first_by.nd rfl (by first | exact .inl rfl | exact .inr rfl)) pgs_nil))) pgs_nil)))
      (pss_one (ps_if (pt_cmpR op_notN (pe_call c_way_to.G (hr.mono (by decide)) (by rfl) c_way_to.m c_way_to.k c_way_to.b .nil pass0 (pa_cons (pv 3) (pa_cons (pv 1) pa_nil))) pe_non (nomark _)) (pss_one (ps_ret (pv 2))) pss_nil)))
    (pss_one (ps_ret pe_non))), ?_⟩
  refine ps_forE eB (src_enT (K := K) (ps := c.map (lkP K)) (q_cons (p_var rfl h1) q_nil)) fun B3 H3 g3 => ?_
  refine ⟨fun i σ H4 => ∃ B4, Gr B3 H3 B4 H4 ∧ ∃ n l x, σ = [some v1, some v2, n, l, x] ∧ ∀ k (_ : k < i) (hk : k < c.length), wayB (c[k]'hk).1 u = false, ⟨B3, Gr.refl g3.c, none, none, none, rfl, fun k hk => absurd hk (Nat.not_lt_zero k)⟩, fun i σ H4 _ h => ?_, fun i v3 T σ H4 hi pv px hT => ?_, fun σ H4 pv => ?_⟩
  · obtain ⟨B4, g4, _⟩ := h
    exact g4.b.trans g4.c
  · obtain ⟨B4, g4, n, l, x, rfl, ha⟩ := pv
    rw [List.length_map] at hi
    rw [getD_map hi] at px
    obtain ⟨p3, xs, rfl, hp3, al⟩ := (lkP K c[i]).m g4.b px
    obtain ⟨y1, y2, rfl, m1, m2⟩ := all2 al
    have g5 := g4.trans (Gr.wide g4.c (Ex.new (o := .tup [.int (i : Nat), .ref p3]) hT))
    refine ⟨T, _, rfl, st_of upd_same, rfl, _, _, rfl, _, _, rfl, p3, _, rfl, ex_t g5.c hp3, rfl, _, _, rfl, _, _, rfl, rfl, rfl, ?_⟩
    have g5 := g4.trans (Gr.wide g4.c (Ex.new (o := .tup [.int (i : Nat), .ref p3]) hT))
    have tst : EvT (tTest (tOp (fun x y H Q => y = V.non ∧ Q (.bl (!decide (x = V.non))) H) (tCall (spP (Rway K)) [] E0 (tCons (tVar 3) (tCons (tVar 1) tNil))) (tC .non))) [some v1, some v2, some (.int (i : Nat)), some y1, some y2] B4 (wayB c[i].1 u) :=
      et_test (ev_way (K := K) (p_callP (ps := [DvP c[i].1, DvP u]) (q_cons (p_var rfl m1) (q_cons (p_var rfl ((DvP u).m (g3.b.trans g4.b) h2)) q_nil)) ⟨_, _, rfl, rfl⟩))
    cases hw : wayB c[i].1 u with
    | true =>
      rw [hw] at tst
      refine My.ps_ifT g5.c tst fun H5 e5 => ?_
      refine My.ps_ret (g5.c.trans e5) (p_varV rfl) fun v B6 H6 g6 hp => ?_
      refine q v B6 H6 ((g3.trans (g5.trans (Gr.wide g5.c e5))).trans g6) ?_
      have : fstI c u = some i := by
        unfold fstI
        rw [List.findIdx?_eq_some_iff_getElem]
        exact ⟨hi, hw, fun j hj => by rw [ha j hj (Nat.lt_trans hj hi)]; exact Bool.false_ne_true⟩
      rw [this]
      exact hp
    | false =>
      rw [hw] at tst
      refine ps_ifN g5.c tst fun H5 e5 => ?_
      refine ⟨B4, g5.trans (Gr.wide g5.c e5), _, _, _, rfl, fun k hk hkc => ?_⟩
      rcases Nat.lt_succ_iff_lt_or_eq.mp hk with h | rfl
      · exact ha k h hkc
      · exact hw
  · obtain ⟨B4, g4, n, l, x, rfl, ha⟩ := pv
    dsimp only
    refine My.ps_ret g4.c (p_c (v := .non)) fun v B6 H6 g6 hp => ?_
    refine q v B6 H6 ((g3.trans g4).trans g6) ?_
    have : fstI c u = none := by
      unfold fstI
      rw [List.findIdx?_eq_none_iff]
      intro y hy
      obtain ⟨k, hk, rfl⟩ := List.mem_iff_getElem.mp hy
      exact ha k (by rw [List.length_map]; exact hk) hk
    rw [this]
    exact hp

/-- _refuse_first -/
abbrev s__refuse_first : Stmt := topS 60
abbrev N__refuse_first : List Str := ["word", "fits", "number", "fit"]
theorem sc__refuse_first : FnScope N__refuse_first ["word", "fits"] (defScope s__refuse_first) := ⟨rfl, rfl, rfl, by decide +kernel, rfl, by decide +kernel, by decide +kernel⟩
theorem ok__refuse_first {f : Addr} {fd : FuncData} (F : Fun K "_refuse_first" "_refuse_first" s__refuse_first f fd)   (n_enumerate : mg "enumerate" = none)  :
    FnOk P w K mg base CX0 1 f fd ["word", "fits"] (spP (Rref K)) := by
  refine F.ok sc__refuse_first (spP_len (by rintro _ _ ⟨x, n, rfl, rfl⟩; rfl)) (fun cdv A outer s H vs Q E hr h => ?_)
  obtain ⟨B, ps, p, eB, hv, ⟨x, n, rfl, rfl⟩, q⟩ := h
  obtain ⟨v1, v2, rfl, h1, h2⟩ := all2 hv
  have hu := hu_of hr
  refine ⟨_, (pss_one (ps_for PassesOwn.never rfl (pi_enum (by rfl) n_enumerate (pa_cons (pv 1) pa_nil)) (pg_tup (by rfl) (pgs_cons (pg_name (i := 2) sc__refuse_first.nd rfl (by first | exact .inl rfl | exact .inr rfl)) (pgs_cons (pg_name (i := 3) sc__refuse_first.nd rfl (by first | exact .inl rfl | exact .inr rfl)) pgs_nil)))
      (pss_one (ps_if (pt_not (pt_val (pv 3))) (pss_one ps_never) pss_nil)))), ?_⟩
  refine ps_forE eB (src_enL (K := K) (ps := List.replicate n (IsV (.bl true))) (q_cons (p_var rfl h2) q_nil)) fun B3 H3 g3 => ?_
  refine ⟨fun i σ H4 => ∃ B4, Gr B3 H3 B4 H4 ∧ ∃ y z, σ = [some v1, some v2, y, z], ⟨B3, Gr.refl g3.c, none, none, rfl⟩, fun i σ H4 _ h => ?_, fun i v3 T σ H4 hi pv px hT => ?_, fun σ H4 pv => ?_⟩
  · obtain ⟨B4, g4, _⟩ := h
    exact g4.b.trans g4.c
  · obtain ⟨B4, g4, y, z, rfl⟩ := pv
    rw [List.length_replicate] at hi
    have : (List.replicate n (IsV (.bl true))).getD i (IsV .non) = IsV (.bl true) := by
      rw [List.getD_eq_getElem?_getD, List.getElem?_replicate, if_pos hi]
      rfl
    rw [this] at px
    obtain rfl : v3 = .bl true := px
    have g5 := g4.trans (Gr.wide g4.c (Ex.new (o := .tup [.int (i : Nat), .bl true]) hT))
    refine ⟨T, _, rfl, st_of upd_same, rfl, _, _, rfl, _, _, rfl, rfl, ?_⟩
    refine ps_ifN g5.c (et_is (et_not (et_test (ev_var (v := .bl true) rfl))) rfl) fun H5 e5 => ?_
    exact ⟨B4, g5.trans (Gr.wide g5.c e5), _, _, rfl⟩
  · obtain ⟨B4, g4, y, z, rfl⟩ := pv
    exact q .non B4 H4 (g3.trans g4) rfl

/-- derivatives_in -/
abbrev s_derivatives_in : Stmt := topS 38
abbrev N_derivatives_in : List Str := ["one", "found", "monomial", "_", "derivative"]
theorem sc_derivatives_in : FnScope N_derivatives_in ["one"] (defScope s_derivatives_in) := ⟨rfl, rfl, rfl, by decide +kernel, rfl, by decide +kernel, by decide +kernel⟩
theorem ok_derivatives_in {f : Addr} {fd : FuncData} (F : Fun K "derivatives_in" "derivatives_in" s_derivatives_in f fd)   (n_tuple : mg "tuple" = none) (n_sorted : mg "sorted" = none)  :
    FnOk P w K mg base CX0 1 f fd ["one"] (spP (Rdin K)) := by
  refine F.ok sc_derivatives_in (spP_len (by rintro _ _ ⟨c, _, rfl, rfl⟩; rfl)) (fun cdv A outer s H vs Q E hr h => ?_)
  obtain ⟨B, ps, p, eB, hv, ⟨c, hc, rfl, rfl⟩, q⟩ := h
  obtain ⟨v, rfl, h1⟩ := all1 hv
  have hu := hu_of hr
  refine ⟨_, (pss_cons (ps_set (i := 1) sc_derivatives_in.nd rfl (by first | exact .inl rfl | exact .inr rfl) pe_dnewN)
    (pss_cons (ps_for PassesOwn.never rfl (pi_tup (pv 0)) (pg_tup (by rfl) (pgs_cons (pg_name (i := 2) sc_derivatives_in.nd rfl (by first | exact .inl rfl | exact .inr rfl)) (pgs_cons (pg_name (i := 3) sc_derivatives_in.nd rfl (by first | exact .inl rfl | exact .inr rfl)) pgs_nil)))
      (pss_one (ps_for PassesOwn.never rfl (pi_tup (pv 2)) (pg_tup (by rfl) (pgs_cons (pg_name (i := 4) sc_derivatives_in.nd rfl (by first | exact .inl rfl | exact .inr rfl)) (pgs_cons (pg_name (i := 3) sc_derivatives_in.nd rfl (by first | exact .inl rfl | exact .inr rfl)) pgs_nil)))
      (pss_one (ps_dputN (by have h := hr.un; show (A.deeper _).units + 9 < cLine; omega) (pv 1) (pv 4) pe_bl rfl)))))
    (pss_one (ps_ret (pe_callTy call_tuple_of (by rfl) n_tuple (by decide +kernel) (pa_cons (pe_sortN hr (by rfl) n_sorted (pv 1)) pa_nil)))))), ?_⟩
  intro d hd
  have hBd : B d = none := fresh_back eB hd
  dsimp only
  refine ps_forV (Ex.mut eB hBd) rfl h1 ?_
  refine ⟨fun i σ H4 => Ex H H4 ∧ Ex B H4 ∧ ∃ xs, H4 d = some (DN P w d xs) ∧ KeyL ((dvs (c.take i)).foldl addD []) xs B ∧ ∃ x y z, σ = [some v, some (.ref d), x, y, z], ⟨Ex.new hd, Ex.mut eB hBd, [], upd_same, ⟨rfl, trivial⟩, none, none, none, rfl⟩, fun i σ H4 _ h => h.2.1, fun i v2 σ H4 hi pv px => ?_, fun σ H4 pv => ?_⟩
  · obtain ⟨x2, x1, xs, h4, kl, x, y, z, rfl⟩ := pv
    rw [List.length_map] at hi
    rw [getD_map hi] at px
    obtain ⟨p3, ys, rfl, hp3, al⟩ := px
    obtain ⟨y1, y2, rfl, m1, m2⟩ := all2 al
    refine ⟨p3, _, rfl, ex_t x1 hp3, rfl, _, _, rfl, _, _, rfl, rfl, ?_⟩
    refine ps_forV x1 rfl m1 ?_
    refine ⟨fun j σ H5 => Ex H H5 ∧ Ex B H5 ∧ ∃ xs, H5 d = some (DN P w d xs) ∧ KeyL ((dvs (c.take i) ++ (c[i].1.take j).map (·.1)).foldl addD []) xs B ∧ ∃ x y z, σ = [some v, some (.ref d), x, y, z], ⟨x2, x1, xs, h4, by simpa using kl, _, _, _, rfl⟩, fun j σ H5 _ h => h.2.1, fun j v3 σ H5 hj pv px => ?_, fun σ H5 pv => ?_⟩
    · obtain ⟨w2, w1, xs, h5, kl, x, y, z, rfl⟩ := pv
      rw [List.length_map] at hj
      rw [getD_map hj] at px
      obtain ⟨p4, zs, rfl, hp4, al4⟩ := px
      obtain ⟨z1, z2, rfl, n1, n2⟩ := all2 al4
      obtain ⟨a, rfl, ha⟩ := n1
      have n1 : (DvP (c[i].1[j]).1).P (.ref a) B := ⟨a, rfl, ha⟩
      refine ⟨p4, _, rfl, ex_t w1 hp4, rfl, _, _, rfl, _, _, rfl, rfl, ?_⟩
      have hb := fold_len (dvs (c.take i) ++ (c[i].1.take j).map (·.1)) []
      have hb2 := dvs_le hi j
      have hb3 := kl.len
      rw [List.length_nil, Nat.zero_add] at hb
      refine ⟨_, rfl, _, rfl, d, a, xs, nk (c[i].1[j]).1.D, rfl, rfl, h5, kl.ok w1, (key_dv n1).ex w1, by omega, ?_⟩
      refine ⟨Ex.mut w2 hd, Ex.mut w1 hBd, _, upd_same, ?_, _, _, _, rfl⟩
      have e : c[i].1.take (j + 1) = c[i].1.take j ++ [c[i].1[j]] := by
        rw [List.take_add_one, List.getElem?_eq_getElem hj]
        rfl
      rw [e, List.map_append, ← List.append_assoc, List.foldl_append]
      exact kl.put n1
    · obtain ⟨w2, w1, xs, h5, kl, x, y, z, rfl⟩ := pv
      rw [List.length_map, List.take_length] at kl
      refine ⟨w2, w1, xs, h5, ?_, _, _, _, rfl⟩
      rw [dvs_take hi]
      exact kl
  · obtain ⟨x2, x1, xs, h4, kl, x, y, z, rfl⟩ := pv
    rw [List.length_map, List.take_length] at kl
    have hn := kl.len
    have ka := kl.refs.m x1
    refine ⟨.ref d, rfl, d, xs, (dedD (dvs c)).map Dv.D, rfl, h4, by rw [List.length_map]; exact hn.symm, AllAlike.of fun u v => alike_dv u v, Sortable.tuples fun u => ⟨_, _, rfl⟩, fun e he => ?_, dps_dv ka, fun a ha => ⟨a, _, rfl, .inl ⟨sq_of upd_same, fun l hl => ?_⟩⟩⟩
    · obtain ⟨u, _, rfl⟩ := List.mem_map.mp he
      rw [deep_dv]
      decide
    · have e5 : Ex H (upd H4 a (.lst (byKey (xs.map fun x => V.ref x.2.1) ((dedD (dvs c)).map Dv.D)))) := x2.trans (Ex.new ha)
      exact q (.ref l) _ _ ((Gr.wide eB e5).trans (Gr.new (.tup (byKey (xs.map fun x => V.ref x.2.1) ((dedD (dvs c)).map Dv.D))) (eB.trans e5) hl)) ⟨l, _, rfl, st_of upd_same, (byKey_dv kl.refs).m (Ex.new (fresh_back (eB.trans e5) hl))⟩

end
end K12
namespace K12
set_option autoImplicit false
open PySem PySem.W L2 Evl My Nd
theorem in_len {c : Po} (h : (dvs c).length ≤ 1000) : (dvsIn c).length ≤ 1000 := by
  have := fold_len (dvs c) []
  unfold dvsIn srtD
  rw [List.length_mergeSort]
  unfold dedD
  rw [List.length_nil] at this
  omega
theorem po_dv {r : Rk} {c : Po} (h : PoOk r c) : ∀ u ∈ dvs c, u.Of r := fun u hu => by
  obtain ⟨t, ht, hm⟩ := List.mem_flatMap.mp hu
  obtain ⟨x, hx, rfl⟩ := List.mem_map.mp hm
  exact ((h.of t ht).1.of x hx).1
def Rpr (K : PySem.W.Frag) : List Pr → Pr → Prop := fun ps p => ∃ (r : Rk) (x : Dv × Po), r.Ok ∧ x.1.Of r ∧ PoOk r x.2 ∧ (dvs x.2).length ≤ 1000 ∧ ps = [RkP K r, lkP K x] ∧ p = IsV (.bl true)
def Rdo (K : PySem.W.Frag) : List Pr → Pr → Prop := fun ps p => ∃ (u : Dv) (us : List Dv), us.length ≤ 1000 ∧ ps = [DvP u, LqP K (us.map DvP)] ∧ p = IsV (.bl (us.any fun v => wayB v u))
def Rbl (K : PySem.W.Frag) : List Pr → Pr → Prop := fun ps p => ∃ (r : Rk) (c : Po) (u : Dv), r.Ok ∧ PoOk r c ∧ (dvs c).length ≤ 1000 ∧ (∀ d ∈ dvs c, r.lt d u) ∧ ps = [RkP K r, poP K c, IsD K (r.keyD u)] ∧ p = IsV (.bl true)
def Rfo (K : PySem.W.Frag) : List Pr → Pr → Prop := fun ps p => ∃ (l : Ch) (c : Po), (dvs c).length ≤ 1000 ∧ (∀ d ∈ dvs c, fstI l d = none) ∧ ps = [chP K l, poP K c] ∧ p = IsV (.bl true)
section
variable {te ta tb : TE} {σ : L2.St} {B H : Hp} {ps : List Pr} {K : PySem.W.Frag} {t : TA}
theorem ev_isN0 {v : V} (h : Ev ta σ B v) : Ev (tOp (fun x y H Q => y = V.non ∧ Q (.bl (decide (x = V.non))) H) ta (tC .non)) σ B (.bl (decide (v = V.non))) := fun H1 a Q k =>
  h H1 a _ fun H2 e2 => ⟨rfl, k H2 e2⟩
theorem all_true (n : Nat) : ((List.range n).map fun _ => true).all id = true := by
  rw [List.all_map, List.all_eq_true]
  intro _ _
  rfl
theorem ev_allT {n : Nat} (h : EvP te σ B (IsD K (.list ((List.range n).map fun _ => .bool true)))) : Ev (tCB (rAll K) (tCons te tNil)) σ B (.bl true) :=
  ev_is (ev_allL (K := K) (bs := (List.range n).map fun _ => true) (by rw [List.map_map]; exact h)) (by rw [all_true])
theorem ev_anyL {bs : List Bool} (h : EvP te σ B (IsD K (.list (bs.map .bool)))) : Ev (tCB (rAny K) (tCons te tNil)) σ B (.bl (bs.any id)) := fun H1 a Q k =>
  h H1 a _ fun v B2 H2 g x => by
    cases x with
    | lst y z =>
      have := dps_bls z
      subst this
      exact ⟨_, bs, rfl, ex_l g.c y, k H2 g.a⟩
end
section
variable {P : Program} {w : World} {K : PySem.W.Frag} {mg : Str → Option Value} {base : Heap}

/-- polynomial_fits -/
abbrev s_polynomial_fits : Stmt := topS 48
abbrev N_polynomial_fits : List Str := ["ranking", "thing", "derivative"]
theorem sc_polynomial_fits : FnScope N_polynomial_fits ["ranking", "thing"] (defScope s_polynomial_fits) := ⟨rfl, rfl, rfl, by decide +kernel, rfl, by decide +kernel, by decide +kernel⟩
def RpfG (K : PySem.W.Frag) : List Pr → Pr → Prop := fun ps p => (∃ (r : Rk) (qd : Pr) (d : PyData), To K qd d ∧ smB d = true ∧ poB d = false ∧ ps = [RkP K r, qd] ∧ p = IsV (.bl false)) ∨
  ∃ (r : Rk) (c : Po), poB (poD c) = true ∧ smB (poD c) = true ∧ (dvs c).length ≤ 1000 ∧ ps = [RkP K r, poP K c] ∧ p = IsV (.bl ((dvsIn c).all (Rk.stB r)))
theorem range_map {α β : Type} (l : List α) (f : α → β) (x0 : α) : ((List.range l.length).map fun i => f (l.getD i x0)) = l.map f := by
  apply List.ext_getElem?
  intro i
  rw [List.getElem?_map, List.getElem?_map]
  by_cases h : i < l.length
  · rw [List.getElem?_range h, List.getElem?_eq_getElem h]
    simp [List.getD_eq_getElem?_getD, List.getElem?_eq_getElem h]
  · rw [List.getElem?_eq_none (by rw [List.length_range]; omega), List.getElem?_eq_none (by omega)]
    rfl
theorem ok_polynomial_fits {f : Addr} {fd : FuncData} (F : Fun K "polynomial_fits" "polynomial_fits" s_polynomial_fits f fd)  {f_is_polynomial : Addr} {d_is_polynomial : FuncData} (c_is_polynomial : Cal P w K mg base "is_polynomial" 8 ["thing"] (spP (RB K poB)) f_is_polynomial d_is_polynomial) {f_derivatives_in : Addr} {d_derivatives_in : FuncData} (c_derivatives_in : Cal P w K mg base "derivatives_in" 1 ["one"] (spP (Rdin K)) f_derivatives_in d_derivatives_in) {f__stands_there : Addr} {d__stands_there : FuncData} (c__stands_there : Cal P w K mg base "_stands_there" 1 ["ranking", "derivative"] (spP (Rst K)) f__stands_there d__stands_there) (n_all : mg "all" = none)  :
    FnOk P w K mg base CX0 9 f fd ["ranking", "thing"] (spP (RpfG K)) := by
  refine F.ok sc_polynomial_fits (spP_len (by rintro _ _ (⟨r, _, _, _, _, _, rfl, rfl⟩ | ⟨r, _, _, _, _, rfl, rfl⟩) <;> rfl)) (fun cdv A outer s H vs Q E hr h => ?_)
  obtain ⟨B, ps, p, eB, hv, ho, q⟩ := h
  have hu := hu_of hr
  refine ⟨_, (pss_cons (ps_if (pt_not (pt_val (pe_call c_is_polynomial.G (hr.mono (by decide)) (by rfl) c_is_polynomial.m c_is_polynomial.k c_is_polynomial.b .nil pass0 (pa_cons (pv 1) pa_nil)))) (pss_one (ps_ret pe_bl)) pss_nil)
    (pss_one (ps_ret (pe_callB (cr_all rfl) (by rfl) n_all (by decide +kernel) (pa_cons (pe_lc (own := [("derivative", 2)]) rfl sc_polynomial_fits.nd (pi_tup (pe_call c_derivatives_in.G (hr.mono (by decide)) (by rfl) c_derivatives_in.m c_derivatives_in.k c_derivatives_in.b .nil pass0 (pa_cons (pv 1) pa_nil))) (blkOk_by (N := N_polynomial_fits) (sc := defScope s_polynomial_fits) (by decide +kernel)) (fun _ _ _ _ _ => (pg_name (i := 2) sc_polynomial_fits.nd rfl (Or.inl rfl))) (fun _ _ _ _ _ => pts_nil) (fun _ _ _ _ _ => (pe_call c__stands_there.G (hr.mono (by decide)) (by rfl) c__stands_there.m c__stands_there.k c__stands_there.b .nil pass0 (pa_cons (pv 0) (pa_cons (pv 2) pa_nil))))) pa_nil))))), ?_⟩
  rcases ho with ⟨r, qd, d, tq, hs, hb, rfl, rfl⟩ | ⟨r, c, hb, hs, hl, rfl, rfl⟩
  · obtain ⟨v1, v2, rfl, h1, h2⟩ := all2 hv
    refine My.ps_ifT eB (et_is (et_not (et_test (ev_p (p_callP (ps := [qd]) (q_cons (p_var rfl h2) q_nil) ⟨_, _, tq, hs, rfl, rfl⟩)))) (by rw [hb]; rfl)) fun H1 e1 => ?_
    exact My.ps_ret (eB.trans e1) (p_c (v := .bl false)) fun v B1 H2 g hp => q v B1 H2 ((Gr.wide eB e1).trans g) hp
  obtain ⟨v1, v2, rfl, h1, h2⟩ := all2 hv
  refine ps_ifN eB (et_is (et_not (et_test (ev_p (p_callP (ps := [poP K c]) (q_cons (p_var rfl h2) q_nil) ⟨_, _, to_po c, hs, rfl, rfl⟩)))) (by rw [hb]; rfl)) fun H1 e1 => ?_
  dsimp only
  refine My.ps_ret (eB.trans e1) (p_ev (v := .bl ((dvsIn c).all (Rk.stB r))) (ev_is (ev_allL (K := K) (bs := (dvsIn c).map (Rk.stB r)) ?_) (by rw [List.all_map]; rfl))) fun v B3 H3 g hp => q v B3 H3 ((Gr.wide eB e1).trans g) hp
  rw [← range_map (dvsIn c) (Rk.stB r) ⟨Str.empty, 0, 0⟩, List.map_map]
  have hn : ((dvsIn c).map DvP).length = (dvsIn c).length := List.length_map _
  rw [← hn]
  refine p_lcA (K := K) (src_tu (p_callP (ps := [poP K c]) (q_cons (p_var rfl h2) q_nil) ⟨c, hl, rfl, rfl⟩)) (by have := in_len hl; rw [List.length_map]; omega) (fun i => .bool (Rk.stB r ((dvsIn c).getD i ⟨Str.empty, 0, 0⟩))) fun i v4 B1 hi e pv => ?_
  rw [List.length_map] at hi
  rw [getD_map hi] at pv
  rw [List.getD_eq_getElem?_getD, List.getElem?_eq_getElem hi, Option.getD_some]
  refine ⟨[some v1, some v2, some v4], rfl, fun H2 Q e q => q, ed_bl (ev_p (p_callP (ps := [RkP K r, DvP (dvsIn c)[i]]) (q_cons (p_var rfl ((RkP K r).m e h1)) (q_cons (p_var rfl pv) q_nil)) ⟨r, _, _, to_dv _, rfl, rfl⟩))⟩

end
end K12
namespace Nd
set_option autoImplicit false
open PySem PySem.W L2 My Evl
open scoped Rat
def rtP (K : PySem.W.Frag) (r : Rat) : Pr := frP K (fr r)
theorem lg {n k : Nat} (h : n < 2 ^ k) : n.log2 ≤ k := by
  by_cases e : n = 0
  · subst e
    rw [Nat.log2_zero]
    exact Nat.zero_le _
  · exact Nat.le_of_lt ((Nat.log2_lt e).mpr h)
section
variable {te ta tb : TE} {σ : L2.St} {B : Hp} {K : PySem.W.Frag} {r s : Rat}
theorem ev_top (h : EvP te σ B (rtP K r)) : Ev (tOp (rIxT K) te (tC (.int 0))) σ B (.int (fr r).1) := ev_p (p_ixT h p_c rfl)
theorem ev_bot (h : EvP te σ B (rtP K r)) : Ev (tOp (rIxT K) te (tC (.int 1))) σ B (.int (fr r).2) := ev_p (p_ixT h p_c rfl)
theorem ev_mulW {i j : Int} {k : Nat} (ha : Ev ta σ B (.int i)) (hb : Ev tb σ B (.int j)) (hi : i.natAbs.log2 ≤ k) (hj : j.natAbs.log2 ≤ k) (hk : k ≤ 100000 := by decide) : Ev (tOp (rI CMulW fun i j => .int (i * j)) ta tb) σ B (.int (i * j)) := ev_op ha hb (rv_I (by show _ + _ < _; omega))
theorem ev_divW {i j : Int} (ha : Ev ta σ B (.int i)) (hb : Ev tb σ B (.int j)) (h : 0 < j ∧ j.natAbs.log2 < 9000) : Ev (tOp (rI CDivW fun i j => .int (i / j)) ta tb) σ B (.int (i / j)) := ev_op ha hb (rv_I h)
theorem ev_addI {i j : Int} (ha : Ev ta σ B (.int i)) (hb : Ev tb σ B (.int j)) : Ev (tOp (rI0 fun i j => .int (i + j)) ta tb) σ B (.int (i + j)) := ev_op ha hb rv_I0
end
end Nd
namespace K12
set_option autoImplicit false
open PySem PySem.W L2 Evl My Nd
section
variable {P : Program} {w : World} {K : PySem.W.Frag} {mg : Str → Option Value} {base : Heap}



end
end K12
namespace Nd
set_option autoImplicit false
open PySem PySem.W L2 My Evl
section
variable {P : Program} {w : World} {K : PySem.W.Frag} {B H0 Bi B2 H H2 : Hp} {d : Addr} {zs : Pq} {σ : L2.St} {D : Ends} {te ta tb : TE} {i : Nat} {m : Mo} {r : Rat}
end
section
variable {κ β : Type} [DecidableEq κ] {P : Program} {w : World} {K : PySem.W.Frag} {ky : Ky K κ} {vp : β → Pr} {B H0 Bi H : Hp} {d : Addr} {zs : List (κ × β)} {σ : L2.St} {D : Ends} {te : TE} {tu tw : TS} {b : Bool}
end
section
variable {κ β : Type} [DecidableEq κ] {P : Program} {w : World} {K : PySem.W.Frag} {ky : Ky K κ} {vp : β → Pr} {B H0 Bi H : Hp} {d : Addr} {i : Nat} {v : V} {σ : L2.St} {ps : List Pr} {D : Ends} {g : TG} {tbd : TS}
/-- a loop over a tuple while a dict is under way -/
theorem ps_forD (Z : Nat → List (κ × β)) (S : Nat → L2.St → Prop)
    (A : DcAt P w ky vp B H0 d (Z 0) Bi H) (s0 : S 0 σ) (hi : σ[i]? = some (some v)) (h : (TuP K ps).P v Bi)
    (st : ∀ j p v' σ' B' H', ps[j]? = some p → Ex Bi B' → S j σ' → DcAt P w ky vp B H0 d (Z j) B' H' → p.P v' B' → ∀ N : L2.St → Hp → Prop, (∀ σ3 B3 H3, S (j + 1) σ3 → Ex B' B3 → DcAt P w ky vp B H0 d (Z (j + 1)) B3 H3 → N σ3 H3) →
      g v' σ' H' fun σ2 H2 => tbd { D with nx := N, ct := N, bk := D.nx } σ2 H2)
    (q : ∀ σ' B' H', Ex Bi B' → S ps.length σ' → DcAt P w ky vp B H0 d (Z ps.length) B' H' → D.nx σ' H') : tFor (iTup K (tVar i)) g tbd D σ H := by
  obtain ⟨l, xs, rfl, hx, al⟩ := h
  refine ⟨_, hi, l, rfl, ⟨xs, ex_t A.ex hx⟩, ?_⟩
  have w' := walk_tup (K := K) (a := l) (xs := xs)
  rw [al.len] at w'
  refine for_it w' (fun j σ' H' => S j σ' ∧ ∃ B', Ex Bi B' ∧ DcAt P w ky vp B H0 d (Z j) B' H') ⟨s0, Bi, Ex.refl Bi, A⟩ (fun j σ' H' _ pv => ?_) (fun j x σ' H' H2 _ pv y => ?_) fun σ' H' pv => ?_
  · obtain ⟨_, B', e', A'⟩ := pv
    exact ex_t (e'.trans A'.ex) hx
  · obtain ⟨hs, B', e', A'⟩ := pv
    obtain ⟨rfl, y2⟩ := y
    obtain ⟨p, hp, k2⟩ := al.get y2
    exact st j p x σ' B' _ hp e' hs A' (p.m e' k2) _ fun σ3 B3 H3 h1 h2 h3 => ⟨h1, B3, e'.trans h2, h3⟩
  · obtain ⟨hs, B', e', A'⟩ := pv
    exact q σ' B' H' e' hs A'
end
/-- (monomial, number) unpacked -/
theorem tup2 {K : PySem.W.Frag} {p q : Pr} {v : V} {B H : Hp} (h : (TuP K [p, q]).P v B) (e : Ex B H) : ∃ a x y, v = .ref a ∧ SqT K H a [x, y] ∧ p.P x B ∧ q.P y B := by
  obtain ⟨a, xs, rfl, hx, al⟩ := h
  obtain ⟨x, y, rfl, h1, h2⟩ := K12.all2 al
  exact ⟨a, x, y, rfl, ex_t e hx, h1, h2⟩
end Nd
namespace K12
set_option autoImplicit false
open PySem PySem.W L2 Evl My Nd
section
variable {P : Program} {w : World} {K : PySem.W.Frag} {mg : Str → Option Value} {base : Heap}



end
end K12
namespace Nd
set_option autoImplicit false
open PySem PySem.W L2 My Evl
theorem range_pick {α β : Type} (k : α → Bool) (f : α → β) (d : β) : ∀ l : List α, ((List.range l.length).filter fun i => (l[i]?.map k).getD false).map (fun i => (l[i]?.map f).getD d) = (l.filter k).map f
  | [] => rfl
  | x :: l => by
    have ih := range_pick k f d l
    rw [List.length_cons, List.range_succ_eq_map, List.filter_cons, List.filter_map, List.filter_cons]
    have e1 : ((fun i => ((x :: l)[i]?.map k).getD false) ∘ Nat.succ) = fun i => (l[i]?.map k).getD false := by
      funext i
      simp
    rw [e1]
    have e2 : List.map (fun i => ((x :: l)[i]?.map f).getD d) (List.map Nat.succ (List.filter (fun i => (l[i]?.map k).getD false) (List.range l.length))) = (l.filter k).map f := by
      rw [← ih, List.map_map]
      refine List.map_congr_left fun i _ => ?_
      simp
    cases hk : k x with
    | true => simp [hk, e2]
    | false => simp [hk, e2]
end Nd
namespace K12
set_option autoImplicit false
open PySem PySem.W L2 Evl My Nd
section
variable {P : Program} {w : World} {K : PySem.W.Frag} {mg : Str → Option Value} {base : Heap}



end
end K12
namespace Nd
set_option autoImplicit false
open PySem PySem.W L2 My Evl
/-! ### limits of products and derivatives -/
/-- the degree -/
def dg (m : Mo) : Nat := (m.map fun y => y.2.natAbs).sum
/-! ### one factor less -/
/-! ### tuples cut and joined -/
section
variable {te ta tb : TE} {σ : L2.St} {B : Hp} {K : PySem.W.Frag} {ps qs : List Pr} {p : Pr}
theorem AllP.drop {H : Hp} : ∀ {ps : List Pr} {vs : List V} (n : Nat), AllP ps vs H → AllP (ps.drop n) (vs.drop n) H
  | _, _, 0, h => h
  | [], [], _ + 1, _ => trivial
  | _ :: _, _ :: _, n + 1, h => AllP.drop n h.2
end
end Nd
namespace K12
set_option autoImplicit false
open PySem PySem.W L2 Evl My Nd
section
variable {P : Program} {w : World} {K : PySem.W.Frag} {mg : Str → Option Value} {base : Heap}




end
end K12
namespace Nd
set_option autoImplicit false
open PySem PySem.W L2 My Evl
theorem Lim.pre {κ : Type} [DecidableEq κ] {D N : Nat} {p q : List (κ × Rat)} (h : Lim D N (p ++ q)) (i : Nat) : Lim D N (p ++ q.take i) := by
  have e : p ++ q = (p ++ q.take i) ++ q.drop i := by rw [List.append_assoc, List.take_append_drop]
  rw [e] at h
  exact h.l
end Nd
namespace K12
set_option autoImplicit false
open PySem PySem.W L2 Evl My Nd
section
variable {P : Program} {w : World} {K : PySem.W.Frag} {mg : Str → Option Value} {base : Heap}




end
end K12
namespace K12
set_option autoImplicit false
open PySem PySem.W L2 Evl My Nd
section
variable {P : Program} {w : World} {K : PySem.W.Frag} {mg : Str → Option Value} {base : Heap}


end
end K12
namespace Nd
set_option autoImplicit false
open PySem PySem.W L2 My Evl
/-! ### a list of dicts under way -/
def woS (S : List Addr) (H : Hp) : Hp := fun b => if b ∈ S then none else H b
theorem woS_ne {S : List Addr} {b : Addr} {H : Hp} (n : b ∉ S) : woS S H b = H b := if_neg n
theorem woS_some {S : List Addr} {b : Addr} {H : Hp} {o : HO} (h : woS S H b = some o) : b ∉ S ∧ H b = some o := by
  unfold woS at h
  split at h
  · cases h
  · rename_i n
    exact ⟨n, h⟩
theorem woS_ex {S : List Addr} {H : Hp} : Ex (woS S H) H := fun _ _ e => (woS_some e).2
theorem woS_none {B H : Hp} {S : List Addr} (e : Ex B (woS S H)) {b : Addr} (hb : b ∈ S) : B b = none := by
  cases q : B b with
  | none => rfl
  | some o => exact absurd hb (woS_some (e _ _ q)).1
theorem gr_sideS {B H B1 H1 B2 H2 : Hp} {S : List Addr} (g : Gr B H B1 (woS S H1)) (hD : ∀ d ∈ S, H1 d ≠ none) (k : Gr B1 H1 B2 H2) : Gr B H B2 (woS S H2) :=
  ⟨fun b o e => by
    obtain ⟨n, q⟩ := woS_some (g.a b o e)
    rw [woS_ne n]
    exact k.a b o q, g.b.trans k.b, fun b o e => by
    have n : b ∉ S := fun z => by
      have := k.d b (woS_none g.c z) (hD b z)
      rw [e] at this
      cases this
    rw [woS_ne n]
    exact k.c b o e, fun x hb hh => k.d x (g.d x hb hh) (has woS_ex (has g.a hh)), fun z => k.e (g.e z)⟩
section
variable {κ β : Type} [DecidableEq κ]
structure LdAt (P : Program) (w : World) {K : PySem.W.Frag} (ky : Ky K κ) (vp : β → Pr) (B H0 : Hp) (L : Addr) (n : Nat) (Z : Nat → List (κ × β)) (Bi H : Hp) : Prop where
  ex_ : ∃ ds : List Addr, Gr B H0 Bi (woS (L :: ds) H) ∧ H L = some (.lst (ds.map .ref)) ∧ (L :: ds).Nodup ∧ ds.length = n ∧ (∀ (k : Nat) (d : Addr), ds[k]? = some d → ∃ xs, H d = some (DN P w d xs) ∧ KG ky vp (Z k) xs Bi) ∧ ∀ d ∈ L :: ds, H0 d = none
variable {P : Program} {w : World} {K : PySem.W.Frag} {ky : Ky K κ} {vp : β → Pr} {B H0 Bi B2 H H2 : Hp} {L : Addr} {n : Nat} {Z Z' : Nat → List (κ × β)} {σ : L2.St} {D : Ends} {i : Nat} {ty tv tj : TE} {k : κ} {f : β} {j : Nat}
theorem LdAt.ex (A : LdAt P w ky vp B H0 L n Z Bi H) : Ex Bi H := by
  obtain ⟨ds, g, _⟩ := A.ex_
  exact g.c.trans woS_ex
theorem ld_on {ds : List Addr} (h1 : H L = some (.lst (ds.map .ref))) (h2 : ∀ (k : Nat) (d : Addr), ds[k]? = some d → ∃ xs, H d = some (DN P w d xs) ∧ KG ky vp (Z k) xs Bi) : ∀ d ∈ L :: ds, H d ≠ none := fun d hd => by
  rcases List.mem_cons.mp hd with rfl | hd
  · rw [h1]
    exact fun z => nomatch z
  · obtain ⟨k, hk⟩ := List.mem_iff_getElem?.mp hd
    obtain ⟨xs, h, _⟩ := h2 k d hk
    rw [h]
    exact fun z => nomatch z
theorem LdAt.step (A : LdAt P w ky vp B H0 L n Z Bi H) (q : Gr Bi H B2 H2) : LdAt P w ky vp B H0 L n Z B2 H2 := by
  obtain ⟨ds, g, h1, h2, h3, h4, h5⟩ := A.ex_
  exact ⟨ds, gr_sideS g (ld_on h1 h4) q, q.a _ _ h1, h2, h3, fun k d hk => by
    obtain ⟨xs, h, al⟩ := h4 k d hk
    exact ⟨xs, q.a _ _ h, al.m q.b⟩, h5⟩
theorem LdAt.lst (A : LdAt P w ky vp B H0 L n Z Bi H) : ∃ xs, H L = some (.lst xs) ∧ xs.length = n := by
  obtain ⟨ds, g, h1, h2, h3, _⟩ := A.ex_
  exact ⟨_, h1, by rw [List.length_map]; exact h3⟩
theorem LdAt.fin (A : LdAt P w ky vp B H0 L n Z Bi H) : ∃ B', Gr B H0 B' H ∧ (LsP ((List.range n).map fun k => DcP P w ky vp (Z k))).P (.ref L) B' := by
  obtain ⟨ds, g, h1, h2, h3, h4, h5⟩ := A.ex_
  have on := ld_on h1 h4
  have inS : ∀ x, x ∈ L :: ds → (fun x => if x ∈ L :: ds then H x else Bi x) x = H x := fun x hx => if_pos hx
  have up : Ex Bi (fun x => if x ∈ L :: ds then H x else Bi x) := fun b o e => by
    have n : b ∉ L :: ds := fun z => by
      rw [woS_none g.c z] at e
      cases e
    show (if b ∈ L :: ds then H b else Bi b) = some o
    rw [if_neg n]
    exact e
  refine ⟨fun x => if x ∈ L :: ds then H x else Bi x, ⟨g.a.trans woS_ex, g.b.trans up, fun b o e => ?_, fun x hb hh => ?_, fun z b qs q => ?_⟩, L, ds.map .ref, rfl, (inS L List.mem_cons_self).trans h1, ?_⟩
  · by_cases m : b ∈ L :: ds
    · exact (inS b m).symm.trans e
    · have e : (if b ∈ L :: ds then H b else Bi b) = some o := e
      rw [if_neg m] at e
      exact A.ex _ _ e
  · have m : x ∉ L :: ds := fun z => hh (h5 x z)
    show (if x ∈ L :: ds then H x else Bi x) = none
    rw [if_neg m]
    exact g.d x hb hh
  · by_cases m : b ∈ L :: ds
    · have q2 : H b = some (.tbl qs) := (inS b m).symm.trans q
      rcases List.mem_cons.mp m with rfl | m
      · rw [h1] at q2
        cases q2
      · obtain ⟨k, hk⟩ := List.mem_iff_getElem?.mp m
        obtain ⟨xs, h, _⟩ := h4 k b hk
        rw [h] at q2
        cases q2
    · have q : (if b ∈ L :: ds then H b else Bi b) = some (.tbl qs) := q
      rw [if_neg m] at q
      exact g.e z b qs q
  · refine AllP.ix (by rw [List.length_map, List.length_map, List.length_range, h3]) fun k p v hp hv => ?_
    rw [List.getElem?_map] at hp hv
    obtain ⟨d, hd, rfl⟩ := Option.map_eq_some_iff.mp hv
    obtain ⟨k', hk', rfl⟩ := Option.map_eq_some_iff.mp hp
    obtain ⟨_, e⟩ := List.getElem?_eq_some_iff.mp hk'
    rw [List.getElem_range] at e
    subst e
    obtain ⟨xs, x1, x2⟩ := h4 k d hd
    have dm : d ∈ L :: ds := List.mem_cons_of_mem _ (List.mem_of_getElem? hd)
    exact ⟨d, xs, Bi, rfl, (inS d dm).trans x1, woS_none g.c dm, up, x2⟩
end
/-! ### loops while something is under way -/
section
variable {K : PySem.W.Frag} {Bi H : Hp} {i : Nat} {v : V} {σ : L2.St} {ps : List Pr} {D : Ends} {g : TG} {tbd : TS}
end
end Nd
namespace Nd
set_option autoImplicit false
open PySem PySem.W L2 My Evl
/-! ### by powers of one derivative -/
theorem take_snoc {α : Type} {p : List α} {i : Nat} {t : α} (h : p[i]? = some t) : p.take (i + 1) = p.take i ++ [t] := by
  rw [List.take_add_one, h]
  rfl
/-! the walk over one monomial -/
end Nd
namespace K12
set_option autoImplicit false
open PySem PySem.W L2 Evl My Nd
section
variable {P : Program} {w : World} {K : PySem.W.Frag} {mg : Str → Option Value} {base : Heap}


end
end K12
namespace K12
set_option autoImplicit false
open PySem PySem.W L2 Evl My Nd
section
variable {P : Program} {w : World} {K : PySem.W.Frag} {mg : Str → Option Value} {base : Heap}


end
end K12
namespace Nd
set_option autoImplicit false
open PySem PySem.W L2 My Evl LamX NdefX PyProof.Rows
/-! ### the greatest by keys -/
section
variable {α : Type}
end
/-! ### leaders -/
structure IsLead (r : Rk) (us : List Dv) (u : Dv) : Prop where
  m : u ∈ us
  g : ∀ v ∈ us, v = u ∨ r.lt v u
/-! ### polynomials of a ranking, within limits -/
def Sz (b : Nat) (p : Pq) : Prop := ∃ D N, 0 < D ∧ D < 2 ^ b ∧ N < 2 ^ b ∧ Lim D N p
structure PG (r : Rk) (p : Pq) : Prop where
  c : PoC p
  of : ∀ t ∈ p, ∀ y ∈ t.1, y.1.Of r
  dg : ∀ t ∈ p, Nd.dg t.1 ≤ 10
  ln : p.length ≤ 100
  sz : Sz 1000 p
theorem mo_len {m : Mo} (h : MoC m) : m.length ≤ dg m := by
  have hp := h.p
  clear h
  induction m with
  | nil => exact Nat.le_refl _
  | cons y m ih =>
    have h1 := hp y List.mem_cons_self
    have h2 := ih fun x hx => hp x (List.mem_cons_of_mem _ hx)
    unfold dg at *
    rw [List.map_cons, List.sum_cons, List.length_cons]
    omega
theorem ups_of {α : Type} {R : α → α → Prop} {f : α → PyData} (hR : ∀ {a b}, R a b → dataLt (f a) (f b) = true) {l : List α} (h : l.Pairwise R) : Ups f l := fun i hi => hR (List.pairwise_iff_getElem.mp h i (i + 1) (by omega) hi (by omega))
theorem moOk_of {r : Rk} {m : Mo} (h : MoC m) (of : ∀ y ∈ m, y.1.Of r) : MoOk r m := ⟨fun x hx => ⟨of x hx, h.p x hx⟩, ups_of (R := fun a b => Od.lt a.1 b.1 = true) (fun h => h) h.c.up⟩
theorem PG.ok {r : Rk} {p : Pq} (h : PG r p) : PoOk r (toPo p) := by
  refine ⟨fun t ht => ?_, ?_⟩
  · obtain ⟨s, hs, rfl⟩ := List.mem_map.mp ht
    exact ⟨moOk_of (h.c.m s hs) (h.of s hs), ⟨fr_pos s.2, fr_low s.2⟩, fun e => h.c.c.nz s hs ((fr_num0 s.2).mp e)⟩
  · refine ups_of (R := fun a b => Od.lt a.1 b.1 = true) (fun h => h) ?_
    unfold toPo
    rw [List.pairwise_map]
    exact h.c.c.up
theorem dvs_to (p : Pq) : dvs (toPo p) = p.flatMap fun t => t.1.map (·.1) := by
  unfold dvs toPo
  rw [List.flatMap_map]
  rfl
theorem PG.dvs {r : Rk} {p : Pq} (h : PG r p) : (Nd.dvs (toPo p)).length ≤ 1000 := by
  have : ∀ l : Pq, (∀ t ∈ l, t.1.length ≤ 10) → (l.flatMap fun t => t.1.map (·.1)).length ≤ 10 * l.length := by
    intro l hl
    induction l with
    | nil => exact Nat.le_refl _
    | cons t l ih =>
      rw [List.flatMap_cons, List.length_append, List.length_map, List.length_cons]
      have := ih fun x hx => hl x (List.mem_cons_of_mem _ hx)
      have := hl t List.mem_cons_self
      omega
  rw [dvs_to]
  have h1 := this p fun t ht => Nat.le_trans (mo_len (h.c.m t ht)) (h.dg t ht)
  have := h.ln
  omega
end Nd
namespace K12
set_option autoImplicit false
open PySem PySem.W L2 Evl My Nd LamX NdefX
section
variable {P : Program} {w : World} {K : PySem.W.Frag} {mg : Str → Option Value} {base : Heap} {T : List (Addr × Str)}

end
end K12
namespace K12
open PySem L2 My
/-- a draw's state at d -/
def DSt (H : Hp) (d : Addr) (n : Nat) : Prop := ∃ l c t : Int, H d = some (.dK [(.inr "left", .int l), (.inr "cell", .int c), (.inr "turns", .int t)]) ∧ 0 ≤ l ∧ 0 ≤ t ∧ t ≤ n
/-- all but d as it was -/
def SameBut (d : Addr) (H H' : Hp) : Prop := ∀ b o, b ≠ d → H b = some o → H' b = some o
def spMixed : Sp := fun vs H Q _ => ∃ c k : Int, vs = [.int c, .int k] ∧ 0 ≤ k ∧ k ≤ 2 ^ 40 ∧ ∀ (m : Int) (H' : Hp), 0 ≤ m → m < 2147483647 → Same H H' → Q (.int m) H'
def spDraw : Sp := fun vs H Q _ => ∃ c k : Int, vs = [.int c, .int k] ∧ 0 ≤ k ∧ k ≤ 1000 ∧ ∀ (d : Addr) (H' : Hp), H d = none → DSt H' d 1000000 → Same H H' → Q (.ref d) H'
def spDigit : Sp := fun vs H Q _ => ∃ (d : Addr) (z : Int) (n : Nat), vs = [.ref d, .int z] ∧ 0 < z ∧ z < 1073741824 ∧ DSt H d n ∧ n ≤ 2 ^ 39 ∧ ∀ (m : Int) (H' : Hp), 0 ≤ m → m < z → DSt H' d (n + 4) → SameBut d H H' → Q (.int m) H'

abbrev s_Lmixed : Stmt := topS 68
abbrev N_Lmixed : List Str := ["_law_cell", "_law_k", "_law_mixed_here"]
theorem sc_Lmixed : FnScope N_Lmixed ["_law_cell", "_law_k"] (defScope s_Lmixed) := ⟨rfl, rfl, rfl, by decide +kernel, rfl, by decide +kernel, by decide +kernel⟩
abbrev s_Ldraw : Stmt := topS 69
abbrev N_Ldraw : List Str := ["_law_cell", "_law_k"]
theorem sc_Ldraw : FnScope N_Ldraw ["_law_cell", "_law_k"] (defScope s_Ldraw) := ⟨rfl, rfl, rfl, by decide +kernel, rfl, by decide +kernel, by decide +kernel⟩
section
variable {P : Program} {w : World} {K : PySem.W.Frag} {mg : Str → Option Value} {base : Heap}
theorem ok_Lmixed {f : Addr} {fd : FuncData} (F : Fun K "_law_mixed" "_law_mixed" s_Lmixed f fd) : FnOk P w K mg base CX0 1 f fd ["_law_cell", "_law_k"] spMixed := by
  refine F.ok sc_Lmixed (fun vs H Q E h => ?_) (fun cdv A outer s H vs Q E hr h => ?_)
  · obtain ⟨c, k, rfl, _⟩ := h
    rfl
  · obtain ⟨c, k, rfl, hk0, hk, q⟩ := h
    refine ⟨_, (pss_cons (ps_set (i := 2) sc_Lmixed.nd rfl (by first | exact .inl rfl | exact .inr rfl) (pe_op op_add (pe_op op_add (pe_op op_mod (pv 0) (pe_ix ix_list (pe_lst (pa_cons pe_int (pa_cons pe_int (pa_cons pe_int (pa_cons pe_int pa_nil))))) (pe_op op_mod (pv 1) pe_int) (fun _ _ => rfl))) (pe_op op_mul pe_int (pv 1))) pe_int))
    (pss_one (ps_ret (pe_op op_mod (pe_op op_mul (pe_op op_mod (pe_op op_mul (pv 2) (pv 2)) pe_int) pe_int) pe_int)))), ?_⟩
    walk_at "go"
    refine ⟨My.small (by decide), fun p hp => ?_⟩
    walk_at "go"
    obtain ⟨v, hv, e⟩ := My.atIn [V.int 1000000007, V.int 998244353, V.int 2147483629, V.int 1000000009] (k % 4) (by omega) (by show k % 4 < 4; omega)
    obtain ⟨y, rfl, hy⟩ : ∃ y, v = V.int y ∧ 0 < y ∧ y < 2147483647 := by
      simp only [List.mem_cons, List.not_mem_nil, or_false] at hv
      rcases hv with rfl | rfl | rfl | rfl <;> exact ⟨_, rfl, by decide⟩

    refine ⟨p, _, _, _, rfl, rfl, My.lstNew, e, ?_⟩
    have h1 := Int.emod_nonneg c (b := y) (by omega)
    have h2 := Int.emod_lt_of_pos c (b := y) (by omega)
    refine ⟨_, _, rfl, rfl, hy.1, ?_⟩
    walk_at "go"
    exact q _ _ (Int.emod_nonneg _ (by decide)) (Int.emod_lt_of_pos _ (by decide)) (My.new hp)
theorem ok_Ldraw {f : Addr} {fd : FuncData} (F : Fun K "_law_draw" "_law_draw" s_Ldraw f fd) : FnOk P w K mg base CX0 1 f fd ["_law_cell", "_law_k"] spDraw := by
  refine F.ok sc_Ldraw (fun vs H Q E h => ?_) (fun cdv A outer s H vs Q E hr h => ?_)
  · obtain ⟨c, k, rfl, _⟩ := h
    rfl
  · obtain ⟨c, k, rfl, hk0, hk, q⟩ := h
    have hu := hu_of hr
    refine ⟨_, (pss_one (ps_ret (pe_disp (pps_cons pe_str (pe_ifExp (pt_cmpR op_ge (pv 0) (pe_op op_pow pe_int pe_int) (nomark _)) (pv 0) pe_int) (pps_cons pe_str (pv 0) (pps_cons pe_str (pe_op op_mul pe_int (pv 1)) pps_nil))) rfl rfl (by simp) (by decide)))), ?_⟩
    intro p hp
    walk_at "go"
    refine ite2 (fun h => ?_) (fun h => ?_)
    · walk_at "go"
      refine ⟨upd_same, [(.inr "left", .int c), (.inr "cell", .int c), (.inr "turns", .int (1000 * k))], rfl, (by show 3 ≤ 15; decide), ?_⟩
      refine q _ _ hp ⟨c, c, 1000 * k, ?_, ?_, by omega, by omega⟩ ?_
      · rw [upd_same]; rfl
      · have := of_decide_eq_true h
        simp at this
        omega
      · exact My.new2 hp
    · walk_at "go"
      refine ⟨upd_same, [(.inr "left", .int 0), (.inr "cell", .int c), (.inr "turns", .int (1000 * k))], rfl, (by show 3 ≤ 15; decide), ?_⟩
      refine q _ _ hp ⟨0, c, 1000 * k, ?_, by omega, by omega, by omega⟩ ?_
      · rw [upd_same]; rfl
      · exact My.new2 hp
theorem sb_trans {d : Addr} {H H1 H2 : Hp} (a : SameBut d H H1) (b : SameBut d H1 H2) : SameBut d H H2 := fun c o n e => b c o n (a c o n e)
theorem sb_same {d : Addr} {H H1 : Hp} (a : Same H H1) : SameBut d H H1 := fun c o _ e => a c o e
theorem sb_upd {d : Addr} {H : Hp} {o : HO} : SameBut d H (upd H d o) := fun c u n e => by rw [upd_ne n]; exact e
theorem dget_left {H : Hp} {d : Addr} {a b c : V} (h : H d = some (.dK [(.inr "left", a), (.inr "cell", b), (.inr "turns", c)])) : DGet H d (.str "left") (some a) := DGet.k (k := .inr "left") h
theorem dget_cell {H : Hp} {d : Addr} {a b c : V} (h : H d = some (.dK [(.inr "left", a), (.inr "cell", b), (.inr "turns", c)])) : DGet H d (.str "cell") (some b) := DGet.k (k := .inr "cell") h
theorem dget_turns {H : Hp} {d : Addr} {a b c : V} (h : H d = some (.dK [(.inr "left", a), (.inr "cell", b), (.inr "turns", c)])) : DGet H d (.str "turns") (some c) := DGet.k (k := .inr "turns") h
theorem dput_left {H : Hp} {d : Addr} {a b c v : V} (h : H d = some (.dK [(.inr "left", a), (.inr "cell", b), (.inr "turns", c)])) : DPut H d (.str "left") v (upd H d (.dK [(.inr "left", v), (.inr "cell", b), (.inr "turns", c)])) := DPut.k (k := .inr "left") h (by show 3 < sizeLine; decide)
theorem dput_turns {H : Hp} {d : Addr} {a b c v : V} (h : H d = some (.dK [(.inr "left", a), (.inr "cell", b), (.inr "turns", c)])) : DPut H d (.str "turns") v (upd H d (.dK [(.inr "left", a), (.inr "cell", b), (.inr "turns", v)])) := DPut.k (k := .inr "turns") h (by show 3 < sizeLine; decide)

abbrev s_Ldigit : Stmt := topS 70
abbrev N_Ldigit : List Str := ["_law_state", "_law_size", "_law_j", "_law_found"]
theorem sc_Ldigit : FnScope N_Ldigit ["_law_state", "_law_size"] (defScope s_Ldigit) := ⟨rfl, rfl, rfl, by decide +kernel, rfl, by decide +kernel, by decide +kernel⟩
theorem ok_Ldigit {f fM : Addr} {fd fdM : FuncData} (F : Fun K "_law_digit" "_law_digit" s_Ldigit f fd) (G : FnOk P w K mg base CX0 1 fM fdM ["_law_cell", "_law_k"] spMixed)
    (n_range : mg "range" = none) (m_Lmixed : mg "_law_mixed" = some (.ref fM)) (k_Lmixed : PySem.W.keepIn K (.ref fM) = true) (b_Lmixed : Binds K fdM ["_law_cell", "_law_k"] []) : FnOk P w K mg base CX0 2 f fd ["_law_state", "_law_size"] spDigit := by
  refine F.ok sc_Ldigit (fun vs H Q E h => ?_) (fun cdv A outer s H vs Q E hr h => ?_)
  · obtain ⟨d, z, n, rfl, _⟩ := h
    rfl
  · obtain ⟨d, z, n, rfl, hz, hz2, ⟨l, c, t, hd, hl, ht, htn⟩, hn, q⟩ := h
    have hu := hu_of hr
    refine ⟨_, (pss_cons (ps_if (pt_cmpR op_eq (pe_dget hu (pv 0) pe_str (fun _ _ => rfl)) pe_int (nomark _)) (pss_one (ps_for PassesOwn.never rfl (pi_range1 (by rfl) n_range (pa_cons pe_int pa_nil)) (pg_name (i := 2) sc_Ldigit.nd rfl (by first | exact .inl rfl | exact .inr rfl))
      (pss_cons (ps_dput hu (pv 0) pe_str (pe_op op_add (pe_dget hu (pv 0) pe_str (fun _ _ => rfl)) pe_int) rfl)
    (pss_one (ps_dput hu (pv 0) pe_str (pe_op op_add (pe_op op_mul (pe_dget hu (pv 0) pe_str (fun _ _ => rfl)) pe_int) (pe_call G (hr.mono (by decide)) (by rfl) m_Lmixed k_Lmixed b_Lmixed .nil pass0 (pa_cons (pe_dget hu (pv 0) pe_str (fun _ _ => rfl)) (pa_cons (pe_dget hu (pv 0) pe_str (fun _ _ => rfl)) pa_nil)))) rfl))))) pss_nil)
    (pss_cons (ps_set (i := 3) sc_Ldigit.nd rfl (by first | exact .inl rfl | exact .inr rfl) (pe_op op_mod (pe_dget hu (pv 0) pe_str (fun _ _ => rfl)) (pv 1)))
    (pss_cons (ps_dput hu (pv 0) pe_str (pe_op op_fdiv (pe_dget hu (pv 0) pe_str (fun _ _ => rfl)) (pv 1)) rfl)
    (pss_one (ps_ret (pv 3)))))), ?_⟩
    -- what follows the if, from any state
    have rest : ∀ (x : Option V) (l t : Int) (H1 : Hp), H1 d = some (.dK [(.inr "left", .int l), (.inr "cell", .int c), (.inr "turns", .int t)]) → 0 ≤ l → 0 ≤ t → t ≤ (n + 4 : Nat) → SameBut d H H1 →
      ∀ D : Ends, D.rt = Q → tSeq (tAsg (tOp (rI (fun _ j => 0 < j) fun i j => .int (i % j)) (tDGet (tVar 0) (tC (.str "left"))) (tVar 1)) (gName 3)) (tSeq (sDPut (tVar 0) (tC (.str "left")) (tOp (rI CDiv fun i j => .int (i / j)) (tDGet (tVar 0) (tC (.str "left"))) (tVar 1))) (tRet (tVar 3))) D [some (.ref d), some (.int z), x, none] H1 := by
      intro x l t H1 h1 hl ht htn sb D hD
      walk_at "go"
      refine ⟨_, _, rfl, dget_left h1, ?_⟩
      walk_at "go"
      refine ⟨_, _, rfl, dget_left h1, ?_⟩
      walk_at "go"
      refine ⟨_, _, rfl, dput_left h1, ?_⟩
      walk_at "go"
      show D.rt _ _
      rw [hD]
      exact q _ _ (Int.emod_nonneg _ (by omega)) (Int.emod_lt_of_pos _ hz) ⟨_, _, _, upd_same, Int.ediv_nonneg hl (by omega), ht, htn⟩ (sb_trans sb sb_upd)
    walk_at "go"
    refine ⟨_, _, rfl, dget_left hd, ?_⟩
    walk_at "go"
    refine ite2 (fun h => ?_) (fun h => ?_)
    · walk_at "go"
      refine ⟨by decide, by decide, for_range (lo := 0) (n := 4) (fun i σ H1 => ∃ (x : Option V) (l t : Int), σ = [some (.ref d), some (.int z), x, none] ∧ H1 d = some (.dK [(.inr "left", .int l), (.inr "cell", .int c), (.inr "turns", .int t)]) ∧ 0 ≤ l ∧ 0 ≤ t ∧ t ≤ (n + i : Nat) ∧ SameBut d H H1)
        ⟨none, l, t, rfl, hd, hl, ht, by omega, fun c o n e => e⟩ ?_ ?_⟩
      · rintro i σ H1 hi ⟨x, l1, t1, rfl, h1, hl1, ht1, ht2, sb⟩
        walk_at "go"
        refine ⟨_, _, rfl, dget_turns h1, ?_⟩
        walk_at "go"
        refine ⟨_, _, rfl, dput_turns h1, ?_⟩
        walk_at "go"
        refine ⟨_, _, rfl, dget_left upd_same, ?_⟩
        walk_at "go"
        refine ⟨_, _, rfl, dget_cell upd_same, ?_⟩
        walk_at "go"
        refine ⟨_, _, rfl, dget_turns upd_same, ?_⟩
        refine ⟨c, t1 + 1, rfl, by omega, by omega, fun m H2 hm0 hm1 S => ?_⟩
        walk_at "go"
        refine ⟨_, _, rfl, dput_left (S _ _ upd_same), ?_⟩
        refine ⟨_, _, _, rfl, upd_same, ?_, by omega, by omega, sb_trans sb (sb_trans sb_upd (sb_trans (sb_same S) sb_upd))⟩
        have := Int.mul_nonneg hl1 (by decide : (0 : Int) ≤ 2147483647)
        omega
      · rintro σ H1 ⟨x, l1, t1, rfl, h1, hl1, ht1, ht2, sb⟩
        exact rest x l1 t1 H1 h1 hl1 ht1 ht2 sb _ rfl
    · exact rest none l t H hd hl ht (by omega) (fun c o n e => e) _ rfl
end
end K12
namespace K12
open PySem L2 My
def one (c : Nat) : Str := ⟨#[c]⟩
theorem strExt {x y : Str} (h : x.cps.toList = y.cps.toList) : x = y := by
  obtain ⟨a⟩ := x
  obtain ⟨b⟩ := y
  exact congrArg Str.mk (Array.toList_inj.mp h)
theorem append_list (x y : Str) : (x ++ y).cps.toList = x.cps.toList ++ y.cps.toList := by
  show (x.cps ++ y.cps).toList = _
  exact Array.toList_append
theorem join_ones : ∀ cs : List Nat, Str.join (Str.ofString "") (cs.map one) = ⟨cs.toArray⟩
  | [] => rfl
  | [c] => rfl
  | c :: c' :: cs => by
    have ih := join_ones (c' :: cs)
    show one c ++ Str.ofString "" ++ Str.join (Str.ofString "") ((c' :: cs).map one) = _
    rw [ih]
    apply strExt
    rw [append_list, append_list]
    have : (Str.ofString "").cps.toList = [] := by decide +kernel
    rw [this]
    simp [one]
theorem txt_ones (cs : List Nat) : Txt.join (Str.ofString "") (cs.map one) = ⟨cs.toArray⟩ := by
  show Builtin.Str.glued _ _ = _
  rw [StrLaws.glued_eq_join]
  exact join_ones cs
theorem nm_ones {cs : List Nat} (h1 : 1 ≤ cs.length) (h2 : cs.length ≤ 8) (h3 : ∀ c ∈ cs, 97 ≤ c ∧ c ≤ 122) : IsNm ⟨cs.toArray⟩ := by
  unfold My.IsNm My.isNmB
  have : (Str.mk cs.toArray).length = cs.length := by show cs.toArray.size = _; simp
  rw [this]
  simp only [Bool.and_eq_true, decide_eq_true_eq, List.all_eq_true]
  exact ⟨⟨h1, h2⟩, fun c hc => h3 c (by simpa using hc)⟩
def spWord : Sp := fun vs H Q _ => ∃ (d : Addr) (n : Nat), vs = [.ref d] ∧ DSt H d n ∧ n ≤ 2 ^ 38 ∧ ∀ (x : Str) (H' : Hp), IsNm x → DSt H' d (n + 50) → SameBut d H H' → Q (.str x) H'
theorem DSt.le {H : Hp} {d : Addr} {n m : Nat} (h : DSt H d n) (k : n ≤ m) : DSt H d m := by
  obtain ⟨l, c, t, a, b, e, f⟩ := h
  exact ⟨l, c, t, a, b, e, by omega⟩
theorem DSt.same {H H' : Hp} {d : Addr} {n : Nat} (h : DSt H d n) (k : Same H H') : DSt H' d n := by
  obtain ⟨l, c, t, a, b⟩ := h
  exact ⟨l, c, t, k _ _ a, b⟩
theorem DSt.ne {H : Hp} {d p : Addr} {n : Nat} (h : DSt H d n) (k : H p = none) : d ≠ p := by
  obtain ⟨l, c, t, a, b⟩ := h
  exact ne_of_none a k
theorem DSt.upd {H : Hp} {d p : Addr} {n : Nat} {o : HO} (h : DSt H d n) (k : d ≠ p) : DSt (upd H p o) d n := by
  obtain ⟨l, c, t, a, b⟩ := h
  exact ⟨l, c, t, by rw [upd_ne k]; exact a, b⟩
theorem len_ones (cs : List Nat) : ((cs.map one).map (·.length)).sum = cs.length := by
  induction cs with
  | nil => rfl
  | cons c r ih =>
    simp only [List.map_cons, List.sum_cons, List.length_cons, ih]
    show 1 + r.length = _
    omega
theorem sb_new {d p : Addr} {H H1 : Hp} {o : HO} (a : SameBut d H H1) (h : H p = none) : SameBut d H (upd H1 p o) := fun c u n e => by
  rw [upd_ne (ne_of_none e h)]
  exact a c u n e
theorem sb_free {d p : Addr} {H H1 : Hp} (a : SameBut d H H1) (n : p ≠ d) (h : H1 p = none) : H p = none := by
  cases e : H p with
  | none => rfl
  | some o =>
    rw [a p o n e] at h
    cases h
abbrev s_Lword : Stmt := topS 79
abbrev N_Lword : List Str := ["_law_state", "_law_signs", "_law_j", "_law_some"]
theorem sc_Lword : FnScope N_Lword ["_law_state"] (defScope s_Lword) := ⟨rfl, rfl, rfl, by decide +kernel, rfl, by decide +kernel, by decide +kernel⟩
section
variable {P : Program} {w : World} {K : PySem.W.Frag} {mg : Str → Option Value} {base : Heap}
theorem ok_Lword {f fD : Addr} {fd fdD : FuncData} (F : Fun K "_law_word" "_law_word" s_Lword f fd) (G : FnOk P w K mg base CX0 2 fD fdD ["_law_state", "_law_size"] spDigit)
    (n_range : mg "range" = none) (m_Ldigit : mg "_law_digit" = some (.ref fD)) (k_Ldigit : PySem.W.keepIn K (.ref fD) = true) (b_Ldigit : Binds K fdD ["_law_state", "_law_size"] []) : FnOk P w K mg base CX0 3 f fd ["_law_state"] spWord := by
  refine F.ok sc_Lword (fun vs H Q E h => ?_) (fun cdv A outer s H vs Q E hr h => ?_)
  · obtain ⟨d, n, rfl, _⟩ := h
    rfl
  · obtain ⟨d, n, rfl, hd, hn, q⟩ := h
    have hu := hu_of hr
    refine ⟨_, (pss_cons (ps_setLc (i := 1) (own := [("_law_j", 2)]) rfl sc_Lword.nd rfl rfl (sw_true rfl rfl rfl (by decide +kernel)) (pi_range1 (by rfl) n_range (pa_cons (pe_op op_add pe_int (pe_call G (hr.mono (by decide)) (by rfl) m_Ldigit k_Ldigit b_Ldigit .nil pass0 (pa_cons (pv 0) (pa_cons pe_int pa_nil)))) pa_nil)) (blkOk_by (N := N_Lword) (sc := defScope s_Lword) (by decide +kernel)) (fun _ _ _ _ _ => (pg_name (i := 2) sc_Lword.nd rfl (by first | exact .inl rfl | exact .inr rfl))) (fun _ _ _ _ _ => pts_nil) (fun _ _ _ _ _ => (pe_ix ix_str pe_str (pe_call G (hr.mono (by decide)) (by rfl) m_Ldigit k_Ldigit b_Ldigit .nil pass0 (pa_cons (pv 0) (pa_cons pe_int pa_nil))) (fun _ _ => rfl))))
    (pss_cons (ps_set (i := 3) sc_Lword.nd rfl (by first | exact .inl rfl | exact .inr rfl) (pe_lst (pa_cons (pe_join pe_str (pv 1)) (pa_cons (pe_join pe_str (pe_slice sl_list (pv 1) po_none (po_some pe_int))) (pa_cons pe_str (pa_cons pe_str (pa_cons pe_str (pa_cons pe_str (pa_cons pe_str (pa_cons pe_str (pa_cons pe_str (pa_cons pe_str (pa_cons pe_str (pa_cons pe_str pa_nil))))))))))))))
    (pss_one (ps_ret (pe_ix ix_list (pv 3) (pe_call G (hr.mono (by decide)) (by rfl) m_Ldigit k_Ldigit b_Ldigit .nil pass0 (pa_cons (pv 0) (pa_cons pe_int pa_nil))) (fun _ _ => rfl)))))), ?_⟩
    walk_at "go"
    refine ⟨d, 8, n, rfl, by decide, by decide, hd, by omega, fun m H1 m0 m1 hd1 S1 => ?_⟩
    walk_at "go"
    have hdD : ∀ {D : Addr}, H1 D = none → d ≠ D := fun e => hd1.ne e
    refine ⟨by omega, by omega, fun D hD => lc_range (lo := 0) (n := (1 + m).toNat) (fun i H2 => DSt H2 d (n + 4 + 4 * i) ∧ SameBut d H H2 ∧ ∃ cs : List Nat, H2 D = some (.lst ((cs.map one).map V.str)) ∧ cs.length = i ∧ ∀ c ∈ cs, 97 ≤ c ∧ c ≤ 122)
      ⟨hd1.upd (hdD hD), sb_trans S1 (sb_same (My.new hD)), [], upd_same, rfl, fun c h => absurd h (List.not_mem_nil)⟩ ?_ ?_⟩
    · rintro i H2 hi ⟨h1, S2, cs, h2, h3, h4⟩
      walk_at "go"
      dsimp only [tYes]
      walk_at "go"
      refine ⟨d, 26, _, rfl, by decide, by decide, h1, by omega, fun c H3 c0 c1 hd3 S3 => ?_⟩
      have h26 : (Str.ofString "abcdefghijklmnopqrstuvwxyz").cps.toList.length = 26 := by decide +kernel
      obtain ⟨u, hu1, e⟩ := My.atIn ((Str.ofString "abcdefghijklmnopqrstuvwxyz").cps.toList) c c0 (by omega)
      have hu2 : ∀ u ∈ (Str.ofString "abcdefghijklmnopqrstuvwxyz").cps.toList, 97 ≤ u ∧ u ≤ 122 := by decide +kernel
      refine ⟨_, _, u, rfl, rfl, by decide +kernel, e, ?_⟩
      have hne : D ≠ d := (hdD hD).symm
      refine ⟨_, S3 _ _ hne h2, by rw [List.length_map, List.length_map, h3]; exact small1000 (by omega), (hd3.upd hne.symm).le (by omega), sb_new (sb_trans S2 S3) (sb_free S1 hne hD), cs ++ [u], by rw [upd_same, List.map_append, List.map_append]; rfl, by rw [List.length_append, h3]; rfl, ?_⟩
      intro c hc
      rcases List.mem_append.mp hc with hc | hc
      · exact h4 c hc
      · rw [List.mem_singleton.mp hc]
        exact hu2 _ hu1
    · rintro H2 ⟨h1, S2, cs, h2, h3, h4⟩
      have hne : D ≠ d := (hdD hD).symm
      have hDH := sb_free S1 hne hD
      walk_at "go"
      refine ⟨_, _, cs.map one, rfl, rfl, .inl (SqL.of h2), ?_, ?_⟩
      · rw [len_ones, h3]
        have : (Str.ofString "").length = 0 := by decide +kernel
        rw [this]
        omega
      rw [txt_ones]
      walk_at "go"
      refine ⟨_, _, rfl, SqL.of h2, fun p hp => ?_⟩
      rw [show (2 : Int) = ((2 : Nat) : Int) from rfl, My.cutTo, ← List.map_take, ← List.map_take]
      walk_at "go"
      refine ⟨_, _, (cs.take 2).map one, rfl, rfl, .inl My.lstNew, ?_, ?_⟩
      · rw [len_ones, List.length_take]
        have : (Str.ofString "").length = 0 := by decide +kernel
        rw [this]
        omega
      rw [txt_ones]
      walk_at "go"
      refine ⟨My.small (by show 12 ≤ 1000; decide), fun r hr' => ?_⟩
      walk_at "go"
      have hpH : H p = none := sb_free S2 (h1.ne hp).symm hp
      have h1' := h1.upd (o := .lst (((cs.take 2).map one).map V.str)) (h1.ne hp)
      have hrH : H r = none := sb_free (sb_new S2 hpH) (h1'.ne hr').symm hr'
      refine ⟨d, 12, _, rfl, by decide, by decide, h1'.upd (h1'.ne hr'), by omega, fun c H3 c0 c1 hd3 S3 => ?_⟩
      obtain ⟨v, hv, e⟩ := My.atIn [V.str ⟨cs.toArray⟩, V.str ⟨(cs.take 2).toArray⟩, V.str "u", V.str "v", V.str "w", V.str "x", V.str "y", V.str "total", V.str "names", V.str "case", V.str "axes", V.str "tell"] c c0 c1
      refine ⟨r, _, _, _, rfl, rfl, SqL.of (S3 _ _ (h1'.ne hr').symm upd_same), e, ?_⟩
      obtain ⟨x, rfl, hx⟩ : ∃ x, v = V.str x ∧ IsNm x := by
        simp only [List.mem_cons, List.not_mem_nil, or_false] at hv
        rcases hv with rfl | rfl | rfl | rfl | rfl | rfl | rfl | rfl | rfl | rfl | rfl | rfl
        · exact ⟨_, rfl, nm_ones (by omega) (by omega) h4⟩
        · exact ⟨_, rfl, nm_ones (by rw [List.length_take]; omega) (by rw [List.length_take]; omega) fun c hc => h4 c (List.mem_of_mem_take hc)⟩
        all_goals exact ⟨_, rfl, (by unfold My.IsNm; decide +kernel)⟩
      exact q x H3 hx (hd3.le (by omega)) (sb_trans (sb_new (sb_new S2 hpH) hrH) S3)
end
end K12

namespace K12
set_option autoImplicit false
open PySem PySem.W L2 Evl My LamX
/-- what a draw leaves: the state's dict at d changed, all else kept; B' known behind, without d -/
structure GrD (d : Addr) (B H B' H' : Hp) : Prop where
  s : SameBut d H H'
  b : Ex B B'
  c : Ex B' H'
  d : B' d = none
  n : NoTab B → NoTab B'
  f : ∀ x, B x = none → H x ≠ none → B' x = none
theorem GrD.refl {d : Addr} {B H : Hp} (e : Ex B H) (h : B d = none) : GrD d B H B H := ⟨fun _ _ _ e => e, Ex.refl B, e, h, id, fun _ h _ => h⟩
theorem GrD.trans {d : Addr} {B H B1 H1 B2 H2 : Hp} (g : GrD d B H B1 H1) (k : GrD d B1 H1 B2 H2) : GrD d B H B2 H2 := ⟨sb_trans g.s k.s, g.b.trans k.b, k.c, k.d, fun z => k.n (g.n z), fun x hb hh => if n : x = d then n ▸ k.d else k.f x (g.f x hb hh) (by cases e : H x with | none => exact absurd e hh | some o => rw [g.s x o n e]; exact fun z => nomatch z)⟩
theorem ex_sb {d : Addr} {B H H' : Hp} (e : Ex B H) (h : B d = none) (s : SameBut d H H') : Ex B H' := fun b o k => s b o (ne_of_none k h) (e b o k)
theorem GrD.same {d : Addr} {B H H' : Hp} (e : Ex B H) (h : B d = none) (s : SameBut d H H') : GrD d B H B H' := ⟨s, Ex.refl B, ex_sb e h s, h, id, fun _ h _ => h⟩
theorem GrD.gr {d : Addr} {B H B' H' : Hp} {n : Nat} (g : Gr B H B' H') (h : B d = none) (hd : DSt H d n) : GrD d B H B' H' := ⟨fun b o _ e => g.a b o e, g.b, g.c, g.d d h (by obtain ⟨l, c, t, e, _⟩ := hd; rw [e]; exact fun z => nomatch z), g.e, fun x hb hh => g.d x hb hh⟩
theorem DSt.ex {H H' : Hp} {d : Addr} {n : Nat} (h : DSt H d n) (e : Ex H H') : DSt H' d n := by
  obtain ⟨l, c, t, a, b⟩ := h
  exact ⟨l, c, t, e _ _ a, b⟩
def lets8 : List Str := signsOf "uvwpqrst"
theorem lets_nm : ∀ y ∈ lets8, My.IsNm y := by
  unfold My.IsNm
  decide +kernel
theorem lets_u : ("u" : Str) ∈ lets8 ∧ ("v" : Str) ∈ lets8 ∧ ("w" : Str) ∈ lets8 := by decide +kernel
theorem free_one {xs : List Str} (h : xs.length ≤ 2) : ∃ y ∈ lets8, y ∉ xs := by
  obtain ⟨h1, h2, h3⟩ := lets_u
  have n1 : ("u" : Str) ≠ "v" := by decide +kernel
  have n2 : ("u" : Str) ≠ "w" := by decide +kernel
  have n3 : ("v" : Str) ≠ "w" := by decide +kernel
  by_cases a : ("u" : Str) ∈ xs
  · by_cases b : ("v" : Str) ∈ xs
    · by_cases c : ("w" : Str) ∈ xs
      · exfalso
        match xs, h with
        | [], _ => exact (List.not_mem_nil a).elim
        | [x], _ =>
          rw [List.mem_singleton] at a b
          exact n1 (a.trans b.symm)
        | [x, y], _ =>
          simp only [List.mem_cons, List.not_mem_nil, or_false] at a b c
          rcases a with a | a <;> rcases b with b | b <;> rcases c with c | c <;> first | exact n1 (a.trans b.symm) | exact n2 (a.trans c.symm) | exact n3 (b.trans c.symm)
      · exact ⟨_, h3, c⟩
    · exact ⟨_, h2, b⟩
  · exact ⟨_, h1, a⟩
theorem all_strs {H : Hp} : ∀ ys : List Str, AllP (ys.map fun y => IsV (.str y)) (ys.map V.str) H
  | [] => trivial
  | y :: ys => ⟨rfl, all_strs ys⟩
def spNames : Sp := fun vs H Q _ => ∃ (d : Addr) (n m : Nat), vs = [.ref d, .int (m : Int)] ∧ m ≤ 3 ∧ DSt H d n ∧ n ≤ 2 ^ 37 ∧ ∀ (p : Addr) (xs : List Str) (H' : Hp), H p = none → H' p = some (.lst (xs.map V.str)) → xs.length = m → xs.Nodup → (∀ x ∈ xs, My.IsNm x) → DSt H' d (n + 200) → SameBut d H H' → p ≠ d → Q (.ref p) H'
section
variable {P : Program} {w : World} {K : PySem.W.Frag} {mg : Str → Option Value} {base : Heap}

/-- _law_names -/
abbrev s_Lnames : Stmt := topS 80
abbrev N_Lnames : List Str := ["_law_state", "_law_many", "_law_found", "_law_j", "_law_some", "_law_one"]
theorem sc_Lnames : FnScope N_Lnames ["_law_state", "_law_many"] (defScope s_Lnames) := ⟨rfl, rfl, rfl, by decide +kernel, rfl, by decide +kernel, by decide +kernel⟩
theorem ok_Lnames {f : Addr} {fd : FuncData} (F : Fun K "_law_names" "_law_names" s_Lnames f fd)  {f_Lword : Addr} {d_Lword : FuncData} (c_Lword : Cal P w K mg base "_law_word" 3 ["_law_state"] spWord f_Lword d_Lword) (n_range : mg "range" = none) (n_list : mg "list" = none)  :
    FnOk P w K mg base CX0 4 f fd ["_law_state", "_law_many"] spNames := by
  refine F.ok sc_Lnames (fun vs H Q E h => by obtain ⟨d, n, m, rfl, _⟩ := h; rfl) (fun cdv A outer s H vs Q E hr h => ?_)
  obtain ⟨d, n, m, rfl, hm, hd, hn, q⟩ := h
  have hu := hu_of hr
  refine ⟨_, (pss_cons (ps_set (i := 2) sc_Lnames.nd rfl (by first | exact .inl rfl | exact .inr rfl) (pe_lst pa_nil))
    (pss_cons (ps_for PassesOwn.never rfl (pi_range1 (by rfl) n_range (pa_cons (pv 1) pa_nil)) (pg_name (i := 3) sc_Lnames.nd rfl (by first | exact .inl rfl | exact .inr rfl))
      (pss_cons (ps_set (i := 4) sc_Lnames.nd rfl (by first | exact .inl rfl | exact .inr rfl) (pe_op op_cat (pe_lst (pa_cons (pe_call c_Lword.G (hr.mono (by decide)) (by rfl) c_Lword.m c_Lword.k c_Lword.b .nil pass0 (pa_cons (pv 0) pa_nil)) pa_nil)) (pe_callTy (call_listS rfl) (by rfl) n_list (by decide +kernel) (pa_cons pe_str pa_nil))))
    (pss_cons (ps_setLc (i := 4) (tt := tTest (tOp (rIn K true) (tVar 5) (tVar 2))) (own := [("_law_one", 5)]) rfl sc_Lnames.nd rfl rfl (sw_true rfl rfl rfl (by decide +kernel)) (pi_list (pv 4)) (blkOk_by (N := N_Lnames) (sc := defScope s_Lnames) (by decide +kernel)) (fun _ _ _ _ _ => (pg_name (i := 5) sc_Lnames.nd rfl (Or.inl rfl))) (fun _ _ _ _ _ => (pts_one (pt_cmpR op_notIn_seq (pv 5) (pv 2) (by rfl)))) (fun _ _ _ _ _ => (pv 5)))
    (pss_one (ps_expr (pe_bm PySem.F.plainAttrs_list PySem.F.slot_list_append PySem.F.type_list_append mt_append (pv 2) (pa_cons (pe_ix ix_list (pv 4) pe_int (fun _ _ => rfl)) pa_nil)))))))
    (pss_one (ps_ret (pv 2))))), ?_⟩
  refine ⟨by decide, fun l hl => ?_⟩
  have ld : d ≠ l := hd.ne hl
  dsimp only
  refine ⟨.int (m : Int), rfl, (m : Int), rfl, by omega, by omega, for_range (lo := 0) (n := m) (fun i σ H1 => ∃ (xs : List Str) (x3 x4 x5 : Option V), σ = [some (.ref d), some (.int m), some (.ref l), x3, x4, x5] ∧ H1 l = some (.lst (xs.map V.str)) ∧ xs.length = i ∧ xs.Nodup ∧ (∀ x ∈ xs, My.IsNm x) ∧ DSt H1 d (n + 60 * i) ∧ SameBut d H H1)
    ⟨[], none, none, none, rfl, upd_same, rfl, List.nodup_nil, fun x h => absurd h List.not_mem_nil, (hd.upd ld).le (by omega), sb_same (My.new hl)⟩ ?_ ?_⟩
  · rintro i σ H1 hi ⟨xs, x3, x4, x5, rfl, hL, hlen, hnd, hnm, hd1, S1⟩
    refine ⟨.ref d, rfl, d, n + 60 * i, rfl, hd1, by omega, fun x H2 hx hd2 S2 => ?_⟩
    have hL2 := S2 l _ ld.symm hL
    refine ⟨My.small (by show 1 ≤ 1000; decide), fun p1 hp1 => ?_⟩
    refine ⟨"uvwpqrst", rfl, by decide +kernel, fun p2 hp2 => ?_⟩
    have n12 : p1 ≠ p2 := ne_of_none upd_same hp2
    have h1at : upd (upd H2 p1 (.lst [.str x])) p2 (.lst (lets8.map V.str)) p1 = some (.lst [.str x]) := by rw [upd_ne n12, upd_same]
    refine ⟨p1, p2, [.str x], lets8.map V.str, rfl, rfl, h1at, upd_same, ?_, fun p3 hp3 => ?_⟩
    · exact sz_of (by have : (lets8.map V.str).length = 8 := by decide +kernel
                      rw [this]; show 1 + 8 ≤ 100000; decide)
    have e23 : Ex H2 (upd (upd (upd H2 p1 (.lst [.str x])) p2 (.lst (lets8.map V.str))) p3 (.lst ([.str x] ++ lets8.map V.str))) := ((Ex.new hp1).trans (Ex.new hp2)).trans (Ex.new hp3)
    show gName 4 (V.ref p3) _ (upd (upd (upd H2 p1 (.lst [.str x])) p2 (.lst (lets8.map V.str))) p3 (.lst ([.str x] ++ lets8.map V.str))) _
    generalize hH3 : upd (upd (upd H2 p1 (.lst [.str x])) p2 (.lst (lets8.map V.str))) p3 (.lst ([.str x] ++ lets8.map V.str)) = H3 at e23
    have h3at : H3 p3 = some (.lst ((x :: lets8).map V.str)) := by rw [← hH3]; exact upd_same
    have hL3 := e23 _ _ hL2
    dsimp only
    have hstr : (x :: lets8).length = 9 := by
      rw [List.length_cons]
      decide +kernel
    have lc := p_lcS (tt := tTest (tOp (rIn K true) (tVar 5) (tVar 2))) (te := tVar 5) (g := gName 5) (vs := [5]) (σ := [some (.ref d), some (.int m), some (.ref l), some (.int (0 + (i : Nat))), some (.ref p3), x5]) (B := H3)
      (src_lq (K := K) (te := tVar 4) (ps := (x :: lets8).map fun y => IsV (.str y)) (p_var rfl ⟨p3, _, rfl, sq_of h3at, all_strs _⟩)) (by rw [List.length_map, hstr]; decide) (fun k => !decide ((x :: lets8).getD k "" ∈ xs)) (fun k => IsV (.str ((x :: lets8).getD k ""))) fun k v B1 hk e1 pv => by
        rw [List.length_map] at hk
        have hv : v = .str ((x :: lets8).getD k "") := by
          have : (((x :: lets8).map fun y => IsV (.str y)).getD k (IsV .non)).P v B1 := pv
          rw [List.getD_eq_getElem?_getD, List.getElem?_map, List.getElem?_eq_getElem hk] at this
          rw [List.getD_eq_getElem?_getD, List.getElem?_eq_getElem hk]
          exact this
        subst hv
        refine ⟨[some (.ref d), some (.int m), some (.ref l), some (.int (0 + (i : Nat))), some (.ref p3), some (.str ((x :: lets8).getD k ""))], rfl, fun H4 Q e q => q, et_is (et_test (ev_op (ev_var rfl) (ev_var rfl) (rv_niL (sq_of (e1 _ _ hL3)) rfl (My.flat_strs xs)))) (by rw [inV_strs]), fun _ => p_varV rfl⟩
    dsimp only [gName, tSeq, tAsg, List.set_cons_succ, List.set_cons_zero, List.map_cons, List.map_nil]
    refine lc H3 (Ex.refl H3) _ fun v B4 H4 g4 hv => ?_
    obtain ⟨p4, ys, rfl, h4, h5⟩ := hv
    have e24 := e23.trans g4.a
    obtain ⟨k, L, hkL⟩ : ∃ k L, (List.range ((x :: lets8).map fun y => IsV (.str y)).length).filter (fun k => !decide ((x :: lets8).getD k "" ∈ xs)) = k :: L := by
      obtain ⟨y, hy, hny⟩ := free_one (xs := xs) (by omega)
      obtain ⟨k, hk⟩ := List.mem_iff_getElem?.mp (List.mem_cons_of_mem x hy)
      have hkl : k < (x :: lets8).length := (List.getElem?_eq_some_iff.mp hk).1
      have : k ∈ (List.range ((x :: lets8).map fun y => IsV (.str y)).length).filter (fun k => !decide ((x :: lets8).getD k "" ∈ xs)) := by
        rw [List.mem_filter, List.mem_range, List.length_map]
        refine ⟨hkl, ?_⟩
        rw [List.getD_eq_getElem?_getD, hk]
        simp [hny]
      cases hf : (List.range ((x :: lets8).map fun y => IsV (.str y)).length).filter (fun k => !decide ((x :: lets8).getD k "" ∈ xs)) with
      | nil =>
        rw [hf] at this
        exact (List.not_mem_nil this).elim
      | cons a b => exact ⟨a, b, rfl⟩
    rw [hkL] at h5
    have hk : k < (x :: lets8).length ∧ (x :: lets8).getD k "" ∉ xs := by
      have : k ∈ (List.range ((x :: lets8).map fun y => IsV (.str y)).length).filter (fun k => !decide ((x :: lets8).getD k "" ∈ xs)) := by rw [hkL]; exact List.mem_cons_self
      rw [List.mem_filter, List.mem_range, List.length_map] at this
      exact ⟨this.1, by simpa using this.2⟩
    have hnk : My.IsNm ((x :: lets8).getD k "") := by
      rw [List.getD_eq_getElem?_getD, List.getElem?_eq_getElem hk.1]
      rcases List.mem_cons.mp (List.getElem_mem hk.1) with e | e
      · show My.IsNm (x :: lets8)[k]
        rw [e]
        exact hx
      · exact lets_nm _ e
    match ys, h5 with
    | y :: ys, h5 =>
      obtain rfl : y = .str ((x :: lets8).getD k "") := h5.1
      have hL4 := g4.a _ _ hL3
      refine ⟨.ref l, rfl, .inl ⟨rfl, _, sq_of hL4⟩, .ref p4, rfl, p4, _, 0, _, rfl, rfl, sq_of (g4.c _ _ h4), (show atI _ ((0 : Nat) : Int) = _ from atI_nat rfl), l, _, _, rfl, rfl, hL4, sz_lt (by rw [List.length_map]; omega), ?_⟩
      have hd4 : DSt H4 d (n + 60 * i + 50) := hd2.ex e24
      refine ⟨xs ++ [(x :: lets8).getD k ""], _, _, _, rfl, by rw [upd_same, List.map_append]; rfl, by rw [List.length_append, hlen]; rfl, ?_, ?_, (hd4.upd ld).le (by omega), ?_⟩
      · rw [List.nodup_append]
        exact ⟨hnd, by simp, fun a ha b hb => by
          rw [List.mem_singleton.mp hb]
          rintro rfl
          exact hk.2 ha⟩
      · intro y hy
        rcases List.mem_append.mp hy with hy | hy
        · exact hnm y hy
        · rw [List.mem_singleton.mp hy]
          exact hnk
      · intro b o hb e
        have hbl : b ≠ l := ne_of_none e hl
        rw [upd_ne hbl]
        exact e24 _ _ (S2 b o hb (S1 b o hb e))
  · rintro σ H1 ⟨xs, x3, x4, x5, rfl, hL, hlen, hnd, hnm, hd1, S1⟩
    exact ⟨.ref l, rfl, q l xs H1 hl hL hlen hnd hnm (hd1.le (by omega)) S1 ld.symm⟩

end
end K12

namespace K12
set_option autoImplicit false
open PySem PySem.W L2 Evl My LamX
def spDer : Sp := fun vs H Q _ => ∃ (B : Hp) (d : Addr) (n hi : Nat) (r : Rk) (vn : V), vs = [.ref d, vn, .int (r.axs.length : Nat), .int (hi : Nat)] ∧ hi ≤ 20 ∧ r.Ok ∧ (NmP r.ns).P vn B ∧ Ex B H ∧ B d = none ∧ DSt H d n ∧ n ≤ 2 ^ 36 ∧
  ∀ (u : Dv) (B' H' : Hp) (v : V), u.Of r → u.i + u.j ≤ hi → GrD d B H B' H' → DSt H' d (n + 20) → (DvP u).P v B' → Q v H'
def spBy (K : PySem.W.Frag) : Sp := fun vs H Q _ => ∃ (d : Addr) (n : Nat), vs = [.ref d] ∧ DSt H d n ∧ n ≤ 2 ^ 36 ∧ ∀ (v : V) (r : Rk) (B' H' : Hp), r.Ok → (RkP K r).P v B' → Ex B' H' → NoTab B' → B' d = none → SameBut d H H' → DSt H' d (n + 300) → Q v H'
theorem ax_two (r : Rk) : (r.axs.length = 2) ↔ (Str.ofString "y") ∈ r.axs := by
  have : ∀ a : Fin 3, ((axsOf a).length = 2) ↔ (Str.ofString "y") ∈ axsOf a := by decide +kernel
  exact this r.ax
section
variable {P : Program} {w : World} {K : PySem.W.Frag} {mg : Str → Option Value} {base : Heap}

/-- _law_derivative -/
abbrev s_Lderivative : Stmt := topS 77
abbrev N_Lderivative : List Str := ["_law_state", "_law_names_here", "_law_axes", "_law_high", "_law_name", "_law_total", "_law_j"]
theorem sc_Lderivative : FnScope N_Lderivative ["_law_state", "_law_names_here", "_law_axes", "_law_high"] (defScope s_Lderivative) := ⟨rfl, rfl, rfl, by decide +kernel, rfl, by decide +kernel, by decide +kernel⟩
theorem ok_Lderivative {f : Addr} {fd : FuncData} (F : Fun K "_law_derivative" "_law_derivative" s_Lderivative f fd)  {f_Ldigit : Addr} {d_Ldigit : FuncData} (c_Ldigit : Cal P w K mg base "_law_digit" 2 ["_law_state", "_law_size"] spDigit f_Ldigit d_Ldigit) (n_len : mg "len" = none)  :
    FnOk P w K mg base CX0 3 f fd ["_law_state", "_law_names_here", "_law_axes", "_law_high"] spDer := by
  refine F.ok sc_Lderivative (fun vs H Q E h => by obtain ⟨B, d, n, hi, r, vn, rfl, _⟩ := h; rfl) (fun cdv A outer s H vs Q E hr h => ?_)
  obtain ⟨B, d, n, hi, r, vn, rfl, hhi, hok, hN, hE, hBd, hd, hn, q⟩ := h
  have hu := hu_of hr
  refine ⟨_, (pss_cons (ps_par (i := 4) (j := 5) rfl sc_Lderivative.nd rfl rfl (by decide) rfl rfl (pa_cons (pe_ix ix_tup (pv 1) (pe_call c_Ldigit.G (hr.mono (by decide)) (by rfl) c_Ldigit.m c_Ldigit.k c_Ldigit.b .nil pass0 (pa_cons (pv 0) (pa_cons (pe_callB call_len_seq (by rfl) n_len (by decide +kernel) (pa_cons (pv 1) pa_nil)) pa_nil))) (fun _ _ => rfl)) (pa_cons (pe_call c_Ldigit.G (hr.mono (by decide)) (by rfl) c_Ldigit.m c_Ldigit.k c_Ldigit.b .nil pass0 (pa_cons (pv 0) (pa_cons (pe_op op_add (pv 3) pe_int) pa_nil))) pa_nil)) (by rfl))
    (pss_cons (ps_set (i := 6) sc_Lderivative.nd rfl (by first | exact .inl rfl | exact .inr rfl) (pe_ifExp (pt_cmpR op_eq (pv 2) pe_int (nomark _)) (pe_call c_Ldigit.G (hr.mono (by decide)) (by rfl) c_Ldigit.m c_Ldigit.k c_Ldigit.b .nil pass0 (pa_cons (pv 0) (pa_cons (pe_op op_add (pv 5) pe_int) pa_nil))) pe_int))
    (pss_one (ps_ret (pe_tup (pa_cons (pv 4) (pa_cons (pe_op op_sub (pv 5) (pv 6)) (pa_cons (pv 6) pa_nil)))))))), ?_⟩
  obtain ⟨a, ob, rfl, ha, hob⟩ := hN
  have hle := hok.le
  have hne := hok.ne
  have sq : ∀ {H' : Hp}, Ex B H' → SqT K H' a (r.ns.map V.str) := fun e => .inl (.inr ⟨ob, e _ _ ha⟩)
  refine ⟨.ref a, rfl, .ref d, rfl, .ref a, rfl, a, _, rfl, .inr (sq hE), d, _, n, rfl, by rw [List.length_map]; omega, by rw [List.length_map]; omega, hd, by omega, fun m H1 m0 m1 hd1 S1 => ?_⟩
  have e1 := ex_sb hE hBd S1
  rw [List.length_map] at m1
  obtain ⟨k, rfl⟩ : ∃ k : Nat, m = (k : Int) := ⟨m.toNat, by omega⟩
  have hk : k < r.ns.length := by omega
  refine ⟨a, _, _, _, rfl, rfl, sq e1, atI_nat (by rw [List.getElem?_map, List.getElem?_eq_getElem hk]; rfl), ?_⟩
  refine ⟨.ref d, rfl, .int (hi : Nat), rfl, _, _, rfl, rfl, d, _, n + 4, rfl, by omega, by omega, hd1, by omega, fun t H2 t0 t1 hd2 S2 => ?_⟩
  have e2 := ex_sb e1 hBd S2
  refine ⟨_, _, rfl, ?_⟩
  dsimp only
  have fin : ∀ (j : Int) (H3 : Hp), 0 ≤ j → j ≤ t → (j = 0 ∨ (Str.ofString "y") ∈ r.axs) → DSt H3 d (n + 12) → GrD d B H B H3 → tRet (tTup (tCons (tVar 4) (tCons (tOp (rI0 fun i j => .int (i - j)) (tVar 5) (tVar 6)) (tCons (tVar 6) tNil)))) { nx := fun _ H' => Q .non H', rt := Q } [some (.ref d), some (.ref a), some (.int (r.axs.length : Nat)), some (.int (hi : Nat)), some (.str r.ns[k]), some (.int t), some (.int j)] H3 := fun j H3 j0 j1 hy hd3 g3 => by
    refine My.ps_ret g3.c (p_dv (u := ⟨r.ns[k], t - j, j⟩) rfl rfl rfl (q_cons (p_varV rfl) (q_cons (p_ev (ev_op (ev_var rfl) (ev_var rfl) rv_I0)) (q_cons (p_varV rfl) q_nil)))) fun v B4 H4 g4 hv => ?_
    exact q _ _ _ v ⟨List.getElem_mem hk, by show 0 ≤ t - j; omega, j0, hy⟩ (by show t - j + j ≤ (hi : Int); omega) (g3.trans (GrD.gr g4 hBd hd3)) ((hd3.ex g4.a).le (by omega)) hv
  have g2 : GrD d B H B H2 := GrD.same hE hBd (sb_trans S1 S2)
  refine ⟨_, rfl, rfl, ?_⟩
  by_cases h2 : r.axs.length = 2
  · have : decide (V.int (r.axs.length : Nat) = V.int 2) = true := by rw [h2]; rfl
    rw [this]
    refine ⟨_, rfl, ?_⟩
    refine iteT ?_
    refine ⟨.ref d, rfl, .int t, rfl, _, _, rfl, rfl, d, t + 1, n + 8, rfl, by omega, by omega, hd2.le (by omega), by omega, fun j H3 j0 j1 hd3 S3 => ?_⟩
    exact fin j H3 j0 (by omega) (.inr ((ax_two r).mp h2)) (hd3.le (by omega)) (g2.trans (GrD.same e2 hBd S3))
  · have : decide (V.int (r.axs.length : Nat) = V.int 2) = false := by
      rw [decide_eq_false_iff_not]
      intro z
      injection z with z
      omega
    rw [this]
    refine ⟨_, rfl, ?_⟩
    refine iteF ?_
    exact fin 0 H2 (by omega) (by omega) (.inl rfl) (hd2.le (by omega)) g2

end
end K12

namespace K12
set_option autoImplicit false
open PySem PySem.W L2 Evl My LamX
theorem four_ax (m : Nat) (h : m < 4) : ∃ a : Fin 3, [PyData.tuple [.str "x"], .tuple [.str "x", .str "y"], .tuple [.str "x", .str "y"], .tuple [.str "y", .str "x"]][m]? = some (.tuple ((axsOf a).map .str)) := by
  match m, h with
  | 0, _ => exact ⟨0, rfl⟩
  | 1, _ => exact ⟨1, rfl⟩
  | 2, _ => exact ⟨1, rfl⟩
  | 3, _ => exact ⟨2, rfl⟩
section
variable {P : Program} {w : World} {K : PySem.W.Frag} {mg : Str → Option Value} {base : Heap}

/-- _law_by -/
abbrev s_Lby : Stmt := topS 81
abbrev N_Lby : List Str := ["_law_state", "_law_names_here", "_law_axes"]
theorem sc_Lby : FnScope N_Lby ["_law_state"] (defScope s_Lby) := ⟨rfl, rfl, rfl, by decide +kernel, rfl, by decide +kernel, by decide +kernel⟩
theorem ok_Lby {f : Addr} {fd : FuncData} (F : Fun K "_law_by" "_law_by" s_Lby f fd)  {f_Lnames : Addr} {d_Lnames : FuncData} (c_Lnames : Cal P w K mg base "_law_names" 4 ["_law_state", "_law_many"] spNames f_Lnames d_Lnames) {f_Ldigit : Addr} {d_Ldigit : FuncData} (c_Ldigit : Cal P w K mg base "_law_digit" 2 ["_law_state", "_law_size"] spDigit f_Ldigit d_Ldigit) (n_tuple : mg "tuple" = none)  :
    FnOk P w K mg base CX0 5 f fd ["_law_state"] (spBy K) := by
  refine F.ok sc_Lby (fun vs H Q E h => by obtain ⟨d, n, rfl, _⟩ := h; rfl) (fun cdv A outer s H vs Q E hr h => ?_)
  obtain ⟨d, n, rfl, hd, hn, q⟩ := h
  have hu := hu_of hr
  refine ⟨_, (pss_cons (ps_set (i := 1) sc_Lby.nd rfl (by first | exact .inl rfl | exact .inr rfl) (pe_callTy call_tupleF (by rfl) n_tuple (by decide +kernel) (pa_cons (pe_call c_Lnames.G (hr.mono (by decide)) (by rfl) c_Lnames.m c_Lnames.k c_Lnames.b .nil pass0 (pa_cons (pv 0) (pa_cons (pe_op op_add pe_int (pe_call c_Ldigit.G (hr.mono (by decide)) (by rfl) c_Ldigit.m c_Ldigit.k c_Ldigit.b .nil pass0 (pa_cons (pv 0) (pa_cons pe_int pa_nil)))) pa_nil))) pa_nil)))
    (pss_cons (ps_set (i := 2) sc_Lby.nd rfl (by first | exact .inl rfl | exact .inr rfl) (pe_ix ix_list (pe_lst (pa_cons (pe_tup (pa_cons pe_str pa_nil)) (pa_cons (pe_tup (pa_cons pe_str (pa_cons pe_str pa_nil))) (pa_cons (pe_tup (pa_cons pe_str (pa_cons pe_str pa_nil))) (pa_cons (pe_tup (pa_cons pe_str (pa_cons pe_str pa_nil))) pa_nil))))) (pe_call c_Ldigit.G (hr.mono (by decide)) (by rfl) c_Ldigit.m c_Ldigit.k c_Ldigit.b .nil pass0 (pa_cons (pv 0) (pa_cons pe_int pa_nil))) (fun _ _ => rfl)))
    (pss_one (ps_ret (pe_tup (pa_cons (pe_ix ix_list (pe_lst (pa_cons pe_str (pa_cons pe_str pa_nil))) (pe_call c_Ldigit.G (hr.mono (by decide)) (by rfl) c_Ldigit.m c_Ldigit.k c_Ldigit.b .nil pass0 (pa_cons (pv 0) (pa_cons pe_int pa_nil))) (fun _ _ => rfl)) (pa_cons (pv 1) (pa_cons (pv 2) pa_nil)))))))), ?_⟩
  refine ⟨.ref d, rfl, .ref d, rfl, d, 3, n, rfl, by decide, by decide, hd, by omega, fun m H1 m0 m1 hd1 S1 => ?_⟩
  obtain ⟨k, rfl⟩ : ∃ k : Nat, m = (k : Int) := ⟨m.toNat, by omega⟩
  refine ⟨_, _, rfl, rfl, d, n + 4, 1 + k, by rw [show ((1 + k : Nat) : Int) = 1 + (k : Int) by omega]; rfl, by omega, hd1, by omega, fun p xs H2 hp h2 hlen hnd hnm hd2 S2 pd => ?_⟩
  refine ⟨p, _, rfl, sq_of h2, fun l ob hl hob => ?_⟩
  have ld : d ≠ l := hd2.ne hl
  -- what is known: the names
  let B1 : Hp := upd (fun _ => none) l (.frz ob (.tup (xs.map V.str)))
  have b1e : Ex B1 (upd H2 l (.frz ob (.tup (xs.map V.str)))) := fun b o e => by
    by_cases z : b = l
    · subst z
      have e : upd (fun _ => none) b (.frz ob (.tup (xs.map V.str))) b = some o := e
      rw [upd_same] at e
      rw [upd_same]
      exact e
    · have e : upd (fun _ => none) l (.frz ob (.tup (xs.map V.str))) b = some o := e
      rw [upd_ne z] at e
      cases e
  have b1d : B1 d = none := by show upd (fun _ => none) l _ d = none; rw [upd_ne ld]
  have b1n : NoTab B1 := nt_upd (fun _ _ z => nomatch z) fun _ z => nomatch z
  have b1l : B1 l = some (.frz ob (.tup (xs.map V.str))) := upd_same
  have hd3 : DSt (upd H2 l (.frz ob (.tup (xs.map V.str)))) d (n + 4 + 200) := hd2.upd ld
  have S3 : SameBut d H (upd H2 l (.frz ob (.tup (xs.map V.str)))) := sb_new (sb_trans S1 S2) (sb_free (sb_trans S1 S2) ld.symm hl)
  generalize upd H2 l (.frz ob (.tup (xs.map V.str))) = H3 at b1e hd3 S3
  dsimp only [tSeq, tAsg, gName]
  have el := ed_lst (K := K) (σ := [some (.ref d), some (.ref l), none]) (B := B1) (ds := [PyData.tuple [.str "x"], .tuple [.str "x", .str "y"], .tuple [.str "x", .str "y"], .tuple [.str "y", .str "x"]])
    (q_cons (ed_tup (ds := [.str "x"]) (q_cons (ed_st ev_c) q_nil) (by decide)) (q_cons (ed_tup (ds := [.str "x", .str "y"]) (q_cons (ed_st ev_c) (q_cons (ed_st ev_c) q_nil)) (by decide)) (q_cons (ed_tup (ds := [.str "x", .str "y"]) (q_cons (ed_st ev_c) (q_cons (ed_st ev_c) q_nil)) (by decide)) (q_cons (ed_tup (ds := [.str "y", .str "x"]) (q_cons (ed_st ev_c) (q_cons (ed_st ev_c) q_nil)) (by decide)) q_nil)))) (by decide)
  refine el H3 b1e _ fun v B2 H4 g4 hv => ?_
  have gd := GrD.gr g4 b1d hd3
  have hd4 := hd3.ex g4.a
  cases hv with
  | @lst pl vs _ hx hy =>
    refine ⟨.ref d, rfl, d, 4, _, rfl, by decide, by decide, hd4, by omega, fun m5 H5 m0' m1' hd5 S5 => ?_⟩
    have e5 := ex_sb gd.c gd.d S5
    obtain ⟨k5, rfl⟩ : ∃ k : Nat, m5 = (k : Int) := ⟨m5.toNat, by omega⟩
    obtain ⟨ax, hax⟩ := four_ax k5 (by omega)
    obtain ⟨va, hva, dva⟩ := dps_ix hy hax
    refine ⟨pl, vs, _, va, rfl, rfl, ex_l e5 hx, atI_nat hva, ?_⟩
    refine ⟨by decide, fun p6 hp6 => ?_⟩
    have d6 : d ≠ p6 := hd5.ne hp6
    have e6 : Ex B2 (upd H5 p6 (.lst [.str "total", .str "names"])) := e5.trans (Ex.new hp6)
    refine ⟨.ref d, rfl, d, 2, _, rfl, by decide, by decide, hd5.upd d6, by omega, fun m7 H7 m0' m1' hd7 S7 => ?_⟩
    have e7 := ex_sb e6 gd.d S7
    have h7 := S7 _ _ d6.symm upd_same
    obtain ⟨tt, htt⟩ : ∃ tt : Bool, atI [V.str "total", V.str "names"] m7 = some (.str (if tt then "total" else "names")) := by
      obtain ⟨k7, rfl⟩ : ∃ k : Nat, m7 = (k : Int) := ⟨m7.toNat, by omega⟩
      have : k7 = 0 ∨ k7 = 1 := by omega
      rcases this with rfl | rfl
      · exact ⟨true, rfl⟩
      · exact ⟨false, rfl⟩
    refine ⟨p6, _, _, _, rfl, rfl, sq_of h7, htt, ?_⟩
    refine ⟨.ref l, rfl, va, rfl, by show 3 ≤ sizeLine; decide, fun p8 hp8 => ?_⟩
    have d8 : d ≠ p8 := hd7.ne hp8
    have hB8 : B2 p8 = none := fresh_back e7 hp8
    let r : Rk := ⟨tt, xs, ax⟩
    refine q (.ref p8) r (upd B2 p8 (.tup [.str r.srt, .ref l, va])) _ ⟨by show 1 ≤ xs.length; omega, by show xs.length ≤ 3; omega, hnd, hnm⟩ ?_ ?_ (nt_upd (g4.e b1n) fun _ z => nomatch z) (by rw [upd_ne d8]; exact gd.d) ?_ ?_
    · exact ⟨p8, .ref l, va, rfl, st_of upd_same, ⟨l, ob, rfl, Ex.new hB8 _ _ (g4.b _ _ b1l), hob⟩, dp_m (Ex.new hB8) dva⟩
    · exact fun b o e => by
        by_cases z : b = p8
        · subst z
          rw [upd_same] at e
          rw [upd_same]
          exact e
        · rw [upd_ne z] at e
          rw [upd_ne z]
          exact e7 b o e
    · have SA := sb_trans (sb_trans (sb_trans S3 gd.s) S5) (sb_same (My.new (o := .lst [.str "total", .str "names"]) hp6))
      have SB := sb_trans SA S7
      exact sb_new SB (sb_free SB d8.symm hp8)
    · exact (hd7.upd d8).le (by omega)

end
end K12
namespace K12
set_option autoImplicit false
open PySem PySem.W L2 Evl My Nd LamX NdefX
theorem DSt.ne0 {H : Hp} {d : Addr} {n : Nat} (h : DSt H d n) : H d ≠ none := by
  obtain ⟨l, c, t, e, _⟩ := h
  rw [e]
  exact fun z => nomatch z
theorem tabs_lst {T : List (Addr × Str)} {p : Addr} {H : Hp} {xs : List V} {o : HO} (t : Tabs T H) (hp : H p = some (.lst xs)) : Tabs T (upd H p o) := by
  have at_ : ∀ {b : Addr} {u : HO}, H b = some u → (∀ ys, u ≠ .lst ys) → wo p H b = some u := fun {b u} h n => by
    rw [wo_ne fun z => by
      subst z
      rw [hp] at h
      exact n xs (Option.some.inj h).symm]
    exact h
  refine Tabs.ext (H := wo p H) (fun q hq => ?_) fun b u e => by
    obtain ⟨n, k⟩ := wo_some e
    rw [upd_ne n]
    exact k
  obtain ⟨ps, h1, h2, h3⟩ := t q hq
  refine ⟨ps, at_ h1 (fun _ z => nomatch z), h2, fun pos cv hc => ?_⟩
  obtain ⟨c, e1, e2⟩ := h3 pos cv hc
  exact ⟨c, e1, at_ e2 (fun _ z => nomatch z)⟩
section
variable {t u : TS} {D : Ends} {σ : L2.St} {H : Hp} {te ta tb : TE} {tx tr : TA} {g : TG} {Q : VK} {r : R2}
theorem b_seq (h : t { D with nx := u D } σ H) : tSeq t u D σ H := h
theorem b_asg (h : te σ H fun x H1 => g x σ H1 D.nx) : tAsg te g D σ H := h
theorem b_op (h : ta σ H fun x H1 => tb σ H1 fun y H2 => r x y H2 Q) : tOp r ta tb σ H Q := h
theorem b_ret (h : te σ H D.rt) : tRet te D σ H := h
theorem b_tup (h : tx σ H fun xs H1 => xs.length ≤ sizeLine ∧ ∀ p, H1 p = none → Q (.ref p) (upd H1 p (.tup xs))) : tTup tx σ H Q := h
theorem b_cons {Q : List V → Hp → Prop} (h : ta σ H fun x H1 => tr σ H1 fun xs H2 => Q (x :: xs) H2) : tCons ta tr σ H Q := h
end
/-- what is known in B of a heap H with tables T and the draws' state at d, of at most n turns -/
structure Kx (T : List (Addr × Str)) (d : Addr) (n : Nat) (B H : Hp) : Prop where
  e : Ex B H
  nt : NoTab B
  t : Tabs T H
  z : B d = none
  s : DSt H d n
/-- what stays: all but the tables and the state -/
structure GX (d : Addr) (B H B' H' : Hp) : Prop where
  a : ∀ b o, b ≠ d → H b = some o → (∀ ps, o ≠ .tbl ps) → H' b = some o
  b : Ex B B'
  f : ∀ x o, x ≠ d → B x = none → H x = some o → (∀ ps, o ≠ .tbl ps) → B' x = none
section
variable {T : List (Addr × Str)} {d : Addr} {n m : Nat} {B H B1 H1 B2 H2 : Hp}
theorem GX.refl : GX d B H B H := ⟨fun _ _ _ e _ => e, Ex.refl B, fun _ _ _ h _ _ => h⟩
theorem GX.trans (g : GX d B H B1 H1) (k : GX d B1 H1 B2 H2) : GX d B H B2 H2 := ⟨fun b o n e z => k.a b o n (g.a b o n e z) z, g.b.trans k.b, fun x o n hb hh z => k.f x o n (g.f x o n hb hh z) (g.a x o n hh z) z⟩
theorem GX.gr (g : Gr B H B1 H1) : GX d B H B1 H1 := ⟨fun b o _ e _ => g.a b o e, g.b, fun x o _ hb hh _ => g.d x hb (by rw [hh]; exact fun z => nomatch z)⟩
theorem GX.gt (g : GT T B H B1 H1) : GX d B H B1 H1 := ⟨fun b o _ e z => g.a b o e z, g.b, fun x o _ hb hh z => g.f x o hb hh z⟩
theorem GX.sb (S : SameBut d H H1) : GX d B H B H1 := ⟨fun b o n e _ => S b o n e, Ex.refl B, fun _ _ _ h _ _ => h⟩
theorem GX.ex (e : Ex H H1) : GX d B H B H1 := ⟨fun b o _ h _ => e b o h, Ex.refl B, fun _ _ _ h _ _ => h⟩
theorem Kx.kn (k : Kx T d n B H) : Kn T B H := ⟨k.e, k.nt, k.t⟩
theorem Kx.gr (k : Kx T d n B H) (g : Gr B H B1 H1) : Kx T d n B1 H1 := ⟨g.c, g.e k.nt, k.t.ext g.a, g.d d k.z k.s.ne0, k.s.ex g.a⟩
theorem Kx.ex (k : Kx T d n B H) (e : Ex H H1) : Kx T d n B H1 := ⟨k.e.trans e, k.nt, k.t.ext e, k.z, k.s.ex e⟩
theorem Kx.gt (k : Kx T d n B H) (g : GT T B H B1 H1) : Kx T d n B1 H1 := by
  obtain ⟨l, c, t, a, b⟩ := k.s
  exact ⟨g.c, g.e k.nt, g.t k.t, g.f d _ k.z a (fun _ z => nomatch z), l, c, t, g.a _ _ a (fun _ z => nomatch z), b⟩
theorem Kx.sb (k : Kx T d n B H) (S : SameBut d H H1) (hd : DSt H1 d m) : Kx T d m B H1 := by
  obtain ⟨l, c, t, a, b⟩ := k.s
  exact ⟨fun b o e => S b o (ne_of_none e k.z) (k.e b o e), k.nt, tabs_but k.t a S, k.z, hd⟩
theorem Kx.le (k : Kx T d n B H) (h : n ≤ m) : Kx T d m B H := ⟨k.e, k.nt, k.t, k.z, k.s.le h⟩
theorem x_digit {i : Nat} {z : Int} {te : TE} {σ : L2.St} {Q : VK} (k : Kx T d n B H) (hi : σ[i]? = some (some (.ref d))) (he : Ev te σ B (.int z)) (z0 : 0 < z) (z1 : z < 1073741824) (hn : n ≤ 2 ^ 39)
    (q : ∀ (m : Int) H', 0 ≤ m → m < z → Kx T d (n + 4) B H' → GX d B H B H' → Q (.int m) H') : tCall spDigit [] E0 (tCons (tVar i) (tCons te tNil)) σ H Q :=
  ⟨.ref d, hi, he H k.e _ fun H2 e2 => ⟨d, z, n, rfl, z0, z1, (k.ex e2).s, hn, fun m H' m0 m1 hd S => q m H' m0 m1 ((k.ex e2).sb S hd) ((GX.ex e2).trans (GX.sb S))⟩⟩
end
/-- the digit's thing of a list -/
theorem pick {ps : List Pr} {xs : List V} {B : Hp} (h : AllP ps xs B) {m : Int} (m0 : 0 ≤ m) (m1 : m < ps.length) : ∃ (i : Nat) (p : Pr) (v : V), i < ps.length ∧ m = (i : Nat) ∧ ps[i]? = some p ∧ atI xs m = some v ∧ p.P v B := by
  obtain ⟨i, rfl⟩ : ∃ i : Nat, m = (i : Nat) := ⟨m.toNat, by omega⟩
  have hi : i < ps.length := by omega
  obtain ⟨v, hv, pv⟩ := h.at (i := i) (p := ps[i]) (List.getElem?_eq_getElem hi)
  exact ⟨i, ps[i], v, hi, rfl, List.getElem?_eq_getElem hi, atI_nat hv, pv⟩
section
variable {te tb : TE} {σ : L2.St} {B : Hp} {K : PySem.W.Frag} {r : Rk}
theorem p_rk1 (h : EvP te σ B (RkP K r)) : EvP (tOp (rIxT K) te (tC (.int 1))) σ B (NmP r.ns) := fun H1 a Q k => h H1 a _ fun v B2 H2 g x => by
  obtain ⟨p, vn, va, rfl, hp, hn, ha⟩ := x
  exact ⟨p, _, 1, vn, rfl, rfl, ex_t g.c hp, rfl, k vn B2 H2 g hn⟩
theorem p_rk2 (h : EvP te σ B (RkP K r)) : EvP (tOp (rIxT K) te (tC (.int 2))) σ B (IsD K (.tuple (r.axs.map .str))) := fun H1 a Q k => h H1 a _ fun v B2 H2 g x => by
  obtain ⟨p, vn, va, rfl, hp, hn, ha⟩ := x
  exact ⟨p, _, 2, va, rfl, rfl, ex_t g.c hp, rfl, k va B2 H2 g ha⟩
end

end K12
namespace Nd
set_option autoImplicit false
open PySem PySem.W L2 My Evl LamX NdefX
/-- a monomial of the law's, its tuple known as it stands -/
def moF (K : PySem.W.Frag) (m : Mo) : Pr := FuP (m.map (pwP K))
theorem mf_mo {K : PySem.W.Frag} {m : Mo} {v : V} {H : Hp} (h : (moF K m).P v H) : (moP K m).P v H := fu_tu h
def kyF (K : PySem.W.Frag) : Ky K Mo := ⟨moF K, moD, fun m v H h => to_mo m v H (mf_mo h), fun ⟨a, _, _, h, _⟩ => ⟨a, h⟩, keyish_mo, nkm_inj, deep_nkm⟩
theorem all_conv {α : Type} {f g : α → Pr} (hc : ∀ x v H, (f x).P v H → (g x).P v H) {H : Hp} : ∀ {l : List α} {xs : List V}, AllP (l.map f) xs H → AllP (l.map g) xs H
  | [], [], _ => trivial
  | _ :: _, _ :: _, h => ⟨hc _ _ _ h.1, all_conv hc h.2⟩
theorem tmF_tm {K : PySem.W.Frag} (t : Mo × Rat) (v : V) (H : Hp) (h : (TuP K [moF K t.1, rtP K t.2]).P v H) : (TuP K [moP K t.1, rtP K t.2]).P v H := by
  obtain ⟨l, xs, rfl, hl, al⟩ := h
  refine ⟨l, xs, rfl, hl, ?_⟩
  obtain ⟨a, b, rfl, h1, h2⟩ := K12.all2 al
  exact ⟨mf_mo h1, h2, trivial⟩
/-- a polynomial of the law's, its tuple known as it stands -/
def fpP (K : PySem.W.Frag) (p : Pq) : Pr := FuP (p.map fun t => TuP K [moF K t.1, rtP K t.2])
theorem fp_po {K : PySem.W.Frag} {p : Pq} {v : V} {H : Hp} (h : (fpP K p).P v H) : (poP K (toPo p)).P v H := by
  obtain ⟨l, xs, rfl, hl, al⟩ := fu_tu (K := K) h
  refine ⟨l, xs, rfl, hl, ?_⟩
  have e : (toPo p).map (tmP K) = p.map fun t => TuP K [moP K t.1, rtP K t.2] := by
    unfold toPo
    rw [List.map_map]
    rfl
  rw [e]
  exact all_conv tmF_tm al
def Rlow2 (K : PySem.W.Frag) : List Pr → Pr → Prop := fun ps z => ∃ n d : Int, d ≠ 0 ∧ d.natAbs < 2 ^ 4000 ∧ ps = [IsV (.int n), IsV (.int d)] ∧ z = rtP K (Rat.divInt n d)
section
variable {κ β : Type} [DecidableEq κ] {P : Program} {w : World} {K : PySem.W.Frag} {ky : Ky K κ} {vp : β → Pr} {σ : L2.St} {B : Hp} {zs : List (κ × β)} {i : Nat} {v : V} {k : κ} {f : β} {ty : TE}
/-- d[k], d as it is known -/
theorem p_getP (hi : σ[i]? = some (some v)) (hv : (DcP P w ky vp zs).P v B) (hk : EvP ty σ B (ky.kp k)) (hf : valG zs k = some f) : EvP (tDGetN P w K (tVar i) ty) σ B (vp f) := fun H a Q q => by
  obtain ⟨d, xs, B0, rfl, hd, n0, e0, al⟩ := hv
  refine ⟨.ref d, hi, hk H a _ fun y B2 H2 g py => ?_⟩
  obtain ⟨b, rfl⟩ := ky.rf py
  have al2 := al.m (e0.trans g.b)
  rcases al.look k with ⟨h1, _⟩ | ⟨f', u, h1, h2, h3⟩
  · rw [hf] at h1
    cases h1
  · rw [hf] at h1
    obtain rfl := Option.some.inj h1
    exact ⟨d, b, xs, _, u, rfl, rfl, g.a _ _ (a _ _ hd), al2.ok g.c, ky.at_ ((ky.kp k).m g.c py), h2, q u B2 H2 g ((vp f).m (e0.trans g.b) h3)⟩
/-- sorted(d), d as it is known -/
theorem p_sortP (hi : σ[i]? = some (some v)) (hv : (DcP P w ky vp zs).P v B) (hal : AllAlike (zs.map fun z => ky.kd z.1)) (hsk : Sortable (zs.map fun z => ky.kd z.1)) (hdep : ∀ z ∈ zs, (ky.kd z.1).depth ≤ 50) :
    EvP (tSortN P w K (tVar i)) σ B (LsP ((srtZ ky.kd (zs.map (·.1))).map ky.kp)) := fun H a Q q => by
  obtain ⟨d, xs, B0, rfl, hd, n0, e0, al⟩ := hv
  have km := al.m (e0.trans a)
  have lx := km.len
  have kb := al.m e0
  have akp : ∀ {C : Hp} {zs : List (κ × β)} {xs : List NV}, KG ky vp zs xs C → AllP ((zs.map (·.1)).map ky.kp) (xs.map fun x => V.ref x.2.1) C := by
    intro C zs
    induction zs with
    | nil =>
      intro xs h
      match xs, h with
      | [], _ => exact trivial
    | cons z zs ih =>
      intro xs h
      match xs, h with
      | x :: xs, h => exact ⟨h.1.2.1, ih h.2⟩
  have e1 : zs.map (fun z => ky.kd z.1) = (zs.map (·.1)).map ky.kd := by rw [List.map_map]; rfl
  refine ⟨.ref d, hi, d, xs, zs.map fun z => ky.kd z.1, rfl, a _ _ hd, by rw [List.length_map, lx], hal, hsk, fun e he => ?_, ?_, fun b hb => ?_⟩
  · obtain ⟨z, hz, rfl⟩ := List.mem_map.mp he
    exact hdep z hz
  · rw [e1]
    exact toAll_all (toAll_map _ ky.to) (akp km)
  · have h1 := byKey_Z ky.kp ky.kd (akp kb)
    rw [← e1] at h1
    exact q _ (upd B b (.lst (byKey (xs.map fun x => V.ref x.2.1) (zs.map fun z => ky.kd z.1)))) _ (Gr.new _ a hb) ⟨b, _, rfl, upd_same, h1.m (Ex.new (fresh_back a hb))⟩
end
end Nd
namespace K12
set_option autoImplicit false
open PySem PySem.W L2 Evl My Nd LamX NdefX
theorem int_abs (i : Int) : (if i < 0 then -i else i) = (i.natAbs : Int) := by split <;> omega
section
variable {P : Program} {w : World} {K : PySem.W.Frag} {mg : Str → Option Value} {base : Heap} {T : List (Addr × Str)}
theorem lowest_end {n : Int} {d : Nat} (hd : 0 < d) : fr (Rat.divInt n (d : Int)) = (n / (Nat.gcd d n.natAbs : Nat), (d : Int) / (Nat.gcd d n.natAbs : Nat)) := by
  have h := fr_lowest (n := n) (d := (d : Int)) (by omega)
  rw [h, Nat.gcd_comm]
  rfl

/-- _law_lowest -/
abbrev s_Llowest : Stmt := topS 71
abbrev N_Llowest : List Str := ["_law_top", "_law_bottom", "_law_one", "_law_other"]
theorem sc_Llowest : FnScope N_Llowest ["_law_top", "_law_bottom"] (defScope s_Llowest) := ⟨rfl, rfl, rfl, by decide +kernel, rfl, by decide +kernel, by decide +kernel⟩
theorem ok_Llowest {f : Addr} {fd : FuncData} (F : Fun K "_law_lowest" "_law_lowest" s_Llowest f fd)   (n_abs : mg "abs" = none)  :
    FnOk P w K mg base CX0 1 f fd ["_law_top", "_law_bottom"] (spP (Rlow2 K)) := by
  refine F.ok sc_Llowest (spP_len (by rintro _ _ ⟨_, _, _, _, rfl, rfl⟩; rfl)) (fun cdv A outer s H vs Q E hr h => ?_)
  obtain ⟨B, ps, p, eB, hv, ⟨n, d, hd, hs, rfl, rfl⟩, q⟩ := h
  obtain ⟨v0, v1, rfl, h0, h1⟩ := all2 hv
  have hu := hu_of hr
  refine ⟨_, (pss_cons (ps_asg (pe_ifExp (pt_cmpR op_lt (pv 1) pe_int (nomark _)) (pe_tup (pa_cons (pe_op op_sub pe_int (pv 0)) (pa_cons (pe_op op_sub pe_int (pv 1)) pa_nil))) (pe_tup (pa_cons (pv 0) (pa_cons (pv 1) pa_nil)))) (pg_tup (by rfl) (pgs_cons (pg_name (i := 0) sc_Llowest.nd rfl (by first | exact .inl rfl | exact .inr rfl)) (pgs_cons (pg_name (i := 1) sc_Llowest.nd rfl (by first | exact .inl rfl | exact .inr rfl)) pgs_nil))))
    (pss_cons (ps_par (i := 2) (j := 3) rfl sc_Llowest.nd rfl rfl (by decide) rfl rfl (pa_cons (pv 1) (pa_cons (pe_callB call_abs (by rfl) n_abs (by decide +kernel) (pa_cons (pv 0) pa_nil)) pa_nil)) (by rfl))
    (pss_cons (ps_while PassesOwn.never (pt_cmpR op_gt (pv 3) pe_int (nomark _))
      (pss_one (ps_par (i := 2) (j := 3) rfl sc_Llowest.nd rfl rfl (by decide) rfl rfl (pa_cons (pv 3) (pa_cons (pe_op op_mod (pv 2) (pv 3)) pa_nil)) (by rfl))))
    (pss_one (ps_ret (pe_tup (pa_cons (pe_op op_fdivW (pv 0) (pv 2)) (pa_cons (pe_op op_fdivW (pv 1) (pv 2)) pa_nil)))))))), ?_⟩
  obtain rfl : v0 = _ := h0
  obtain rfl : v1 = _ := h1
  -- a bottom above nought
  obtain ⟨n', d', hd', hs', e'⟩ : ∃ (n' : Int) (d' : Nat), 0 < d' ∧ d' < 2 ^ 4000 ∧ Rat.divInt n d = Rat.divInt n' (d' : Int) ∧ EvP (tIf (tTest (tOp (rI0 fun i j => .bl (decide (i < j))) (tVar 1) (tC (.int 0)))) (tTup (tCons (tOp (rI0 fun i j => .int (i - j)) (tC (.int 0)) (tVar 0)) (tCons (tOp (rI0 fun i j => .int (i - j)) (tC (.int 0)) (tVar 1)) tNil))) (tTup (tCons (tVar 0) (tCons (tVar 1) tNil)))) [some (.int n), some (.int d), none, none] B (TuP K [IsV (.int n'), IsV (.int (d' : Nat))]) := by
    have tst := et_test (σ := [some (.int n), some (.int d), none, none]) (H := B) (ev_op (r := rI0 fun i j => .bl (decide (i < j))) (ev_var (i := 1) rfl) (ev_c (v := .int 0)) rv_I0)
    by_cases c : d < 0
    · refine ⟨-n, (-d).toNat, by omega, by omega, ?_, ed_if tst (fun _ => p_tup (K := K) (q_cons (p_ev (ev_is (ev_op ev_c (ev_var rfl) rv_I0) (by congr 1; omega))) (q_cons (p_ev (ev_is (ev_op ev_c (ev_var rfl) rv_I0) (by congr 1; omega))) q_nil)) (by show 2 ≤ 100000; decide)) fun h => absurd c (of_decide_eq_false h)⟩
      rw [show ((-d).toNat : Int) = -d by omega, Rat.neg_divInt_neg]
    · refine ⟨n, d.toNat, by omega, by omega, ?_, ed_if tst (fun h => absurd (of_decide_eq_true h) c) fun _ => p_tup (K := K) (q_cons (p_varV rfl) (q_cons (p_ev (ev_is (ev_var rfl) (by congr 1; omega))) q_nil)) (by show 2 ≤ 100000; decide)⟩
      rw [show (d.toNat : Int) = d by omega]
  obtain ⟨e1, ev⟩ := e'
  refine ev H eB _ fun v B2 H2 g2 hv => ?_
  obtain ⟨a, y1, y2, rfl, hq, m1, m2⟩ := tup2 hv g2.c
  obtain rfl : y1 = _ := m1
  obtain rfl : y2 = _ := m2
  refine ⟨a, _, rfl, hq, rfl, _, _, rfl, _, _, rfl, rfl, ?_⟩
  dsimp only
  refine ⟨_, rfl, _, rfl, n', rfl, _, _, rfl, ?_⟩
  rw [int_abs]
  dsimp only
  refine ⟨fun m σ H3 => ∃ a b : Nat, m = b ∧ 0 < a ∧ σ = [some (.int n'), some (.int (d' : Nat)), some (.int (a : Nat)), some (.int (b : Nat))] ∧ Nat.gcd a b = Nat.gcd d' n'.natAbs ∧ Ex H2 H3, ⟨_, d', n'.natAbs, rfl, hd', rfl, rfl, Ex.refl H2⟩, fun m σ H3 hw => ?_⟩
  obtain ⟨a, b, rfl, ha, rfl, hg, e3⟩ := hw
  refine et_test (ev_op (r := rI0 fun i j => .bl (decide (j < i))) (ev_var (i := 3) (v := .int (m : Nat)) rfl) (ev_c (v := .int 0)) rv_I0) H3 (Ex.refl H3) _ fun H4 e4 => ?_
  by_cases c : m = 0
  · rw [if_neg (by simp [c])]
    have ea : a = Nat.gcd d' n'.natAbs := by
      rw [← hg, c, Nat.gcd_zero_right]
    have al : a < 2 ^ 4000 := by
      rw [ea]
      exact Nat.lt_of_le_of_lt (Nat.gcd_le_left _ hd') hs'
    have dv : 0 < (a : Int) ∧ ((a : Int)).natAbs.log2 < 9000 := ⟨by omega, by rw [Int.natAbs_natCast]; exact Nat.lt_of_le_of_lt (lg al) (by decide)⟩
    have g4 : Gr B H B2 H4 := g2.trans (Gr.wide g2.c (e3.trans e4))
    dsimp only
    refine My.ps_ret g4.c (p_tup (K := K) (ps := [IsV (.int (n' / (a : Int))), IsV (.int ((d' : Int) / (a : Int)))]) (q_cons (p_ev (ev_divW (ev_var rfl) (ev_var rfl) dv)) (q_cons (p_ev (ev_divW (ev_var rfl) (ev_var rfl) dv)) q_nil)) (by show 2 ≤ 100000; decide)) fun v B5 H5 g5 hp => q v B5 H5 (g4.trans g5) ?_
    show (frP K (fr (Rat.divInt n d))).P v B5
    rw [e1, lowest_end hd', ← ea]
    exact hp
  · rw [if_pos (by simp; omega)]
    refine ⟨fun σ H' => σ = [some (.int n'), some (.int (d' : Nat)), some (.int (m : Nat)), some (.int ((a % m : Nat) : Int))] ∧ Ex H2 H', fun σ H' h => ⟨a % m, Nat.mod_lt _ (by omega), m, a % m, rfl, by omega, h.1, by rw [← hg, Nat.gcd_comm a m]; exact (Nat.gcd_rec m a ▸ Nat.gcd_comm _ _), h.2⟩, ?_⟩
    refine ⟨_, rfl, _, rfl, _, rfl, ⟨(a : Int), (m : Int), rfl, rfl, by omega, _, _, rfl, ?_⟩⟩
    exact ⟨rfl, e3.trans e4⟩

end
end K12
namespace Nd
set_option autoImplicit false
open PySem PySem.W L2 My Evl LamX NdefX
section
variable {κ β : Type} [DecidableEq κ] [Od κ] [Lean.Grind.CommRing β] [DecidableEq β]
theorem keys_cf {kd : κ → PyData} (hlt : ∀ a b, dataLt (kd a) (kd b) = Od.lt a b) {zs : List (κ × β)} (nd : (zs.map (·.1)).Nodup) : ((srtZ kd (zs.map (·.1))).filter fun k => decide (co zs k ≠ 0)).map (fun k => (k, co zs k)) = cf zs := by
  have pm := srtZ_perm kd (zs.map (·.1))
  have pw := List.pairwise_mergeSort (leZ_tr kd) (leZ_tot kd) (zs.map (·.1))
  have nd2 : (srtZ kd (zs.map (·.1))).Nodup := pm.nodup_iff.mpr nd
  have up : (srtZ kd (zs.map (·.1))).Pairwise fun a b => Od.lt a b = true := List.Pairwise.imp₂ (S := fun a b => a ≠ b) (fun a b h n => by
    have h : (!dataLt (kd b) (kd a)) = true := h
    rw [hlt] at h
    rcases Od.tri n with c | c
    · exact c
    · rw [c] at h
      cases h) pw nd2
  have upf := up.sublist (List.filter_sublist (p := fun k => decide (co zs k ≠ 0)))
  have cn : Cn (((srtZ kd (zs.map (·.1))).filter fun k => decide (co zs k ≠ 0)).map fun k => (k, co zs k)) := ⟨List.pairwise_map.mpr upf, fun z hz => by
    obtain ⟨k, hk, rfl⟩ := List.mem_map.mp hz
    exact of_decide_eq_true (List.mem_filter.mp hk).2⟩
  refine cf_eq cn fun k => ?_
  by_cases hk : k ∈ (srtZ kd (zs.map (·.1))).filter fun k => decide (co zs k ≠ 0)
  · exact co_one cn.nd (z := (k, co zs k)) (List.mem_map.mpr ⟨k, hk, rfl⟩)
  · rw [co_none (k := k) (fun z hz e => by
      obtain ⟨j, hj, rfl⟩ := List.mem_map.mp hz
      exact hk (e ▸ hj))]
    by_cases hm : k ∈ zs.map (·.1)
    · by_cases h0 : co zs k = 0
      · exact h0.symm
      · exact absurd (List.mem_filter.mpr ⟨pm.mem_iff.mpr hm, _root_.decide_eq_true h0⟩) hk
    · exact (co_none fun z hz e => hm (List.mem_map.mpr ⟨z, hz, e⟩)).symm
end
section
variable {κ β : Type} [DecidableEq κ] {P : Program} {w : World} {K : PySem.W.Frag} {ky : Ky K κ} {vp : β → Pr} {B H0 Bi H : Hp} {d : Addr} {i : Nat} {v : V} {σ : L2.St} {ps : List Pr} {D : Ends} {g : TG} {tbd : TS}
/-- a loop over a list while a dict is under way -/
theorem ps_forDL (Z : Nat → List (κ × β)) (S : Nat → L2.St → Prop)
    (A : DcAt P w ky vp B H0 d (Z 0) Bi H) (s0 : S 0 σ) (hi : σ[i]? = some (some v)) (h : (LqP K ps).P v Bi)
    (st : ∀ j p v' σ' B' H', ps[j]? = some p → Ex Bi B' → S j σ' → DcAt P w ky vp B H0 d (Z j) B' H' → p.P v' B' → ∀ N : L2.St → Hp → Prop, (∀ σ3 B3 H3, S (j + 1) σ3 → Ex B' B3 → DcAt P w ky vp B H0 d (Z (j + 1)) B3 H3 → N σ3 H3) →
      g v' σ' H' fun σ2 H2 => tbd { D with nx := N, ct := N, bk := D.nx } σ2 H2)
    (q : ∀ σ' B' H', Ex Bi B' → S ps.length σ' → DcAt P w ky vp B H0 d (Z ps.length) B' H' → D.nx σ' H') : tFor (iList K (tVar i)) g tbd D σ H := by
  obtain ⟨l, xs, rfl, hx, al⟩ := h
  refine ⟨_, hi, l, rfl, ⟨xs, ex_l A.ex hx⟩, ?_⟩
  have w' := walk_list (K := K) (a := l) (xs := xs)
  rw [al.len] at w'
  refine for_it w' (fun j σ' H' => S j σ' ∧ ∃ B', Ex Bi B' ∧ DcAt P w ky vp B H0 d (Z j) B' H') ⟨s0, Bi, Ex.refl Bi, A⟩ (fun j σ' H' _ pv => ?_) (fun j x σ' H' H2 _ pv y => ?_) fun σ' H' pv => ?_
  · obtain ⟨_, B', e', A'⟩ := pv
    exact ex_l (e'.trans A'.ex) hx
  · obtain ⟨hs, B', e', A'⟩ := pv
    obtain ⟨rfl, y2⟩ := y
    obtain ⟨p, hp, k2⟩ := al.get y2
    exact st j p x σ' B' _ hp e' hs A' (p.m e' k2) _ fun σ3 B3 H3 h1 h2 h3 => ⟨h1, B3, e'.trans h2, h3⟩
  · obtain ⟨hs, B', e', A'⟩ := pv
    exact q σ' B' H' e' hs A'
end
theorem hu9 {k : Nat} {A : Around} (hr : Room k A) : A.units + 9 < cLine := by
  have h := hr.un
  omega
theorem hu10 {k : Nat} {A : Around} (hr : Room k A) : A.units + 10 < cLine := by
  have h := hr.un
  omega
def Sm1 (r : Rat) : Prop := r.num.natAbs < 2 ^ 1000 ∧ r.den < 2 ^ 1000
def pqL (K : PySem.W.Frag) (q : Pq) : List Pr := q.map fun t => TuP K [moF K t.1, rtP K t.2]
def Rlm (K : PySem.W.Frag) : List Pr → Pr → Prop := fun ps z => ∃ l : Mo, (∀ u, 0 ≤ co l u) ∧ l.length ≤ 10000 ∧ ps = [moP K l] ∧ z = moF K (cf l)
def Radd0 (K : PySem.W.Frag) (f : List Pr → Pr) : List Pr → Pr → Prop := fun ps z => ∃ (D N : Nat) (p q : Pq) (c : Rat), 0 < D ∧ D < 2 ^ 1000 ∧ N < 2 ^ 1000 ∧ Lim D N (p ++ scP q c) ∧ (∀ t ∈ q, Sm1 t.2) ∧ Sm1 c ∧ (p.map (·.1)).Nodup ∧ p.length + q.length ≤ 50000 ∧
  ps = [fpP K p, f (pqL K q), rtP K c] ∧ z = fpP K (addP p (scP q c))
def Radd (K : PySem.W.Frag) : List Pr → Pr → Prop := Radd0 K (LqP K)
def RaddT (K : PySem.W.Frag) : List Pr → Pr → Prop := Radd0 K (TuP K)
theorem sm1_lg {r : Rat} (h : Sm1 r) : (fr r).1.natAbs < 2 ^ 1000 ∧ (fr r).2.natAbs < 2 ^ 1000 := h
theorem mul_lg {a b : Int} {m n : Nat} (h : a.natAbs < 2 ^ m) (k : b.natAbs < 2 ^ n) : (a * b).natAbs < 2 ^ (m + n) := by
  rw [Int.natAbs_mul, Nat.pow_add]
  exact Nat.mul_lt_mul'' h k
theorem add_val (r s c : Rat) : Rat.divInt ((fr r).1 * ((fr s).2 * (fr c).2) + (fr s).1 * (fr c).1 * (fr r).2) ((fr r).2 * ((fr s).2 * (fr c).2)) = r + s * c := by
  have pr := fr_pos r
  have ps := fr_pos s
  have pc := fr_pos c
  have h1 : (fr s).2 * (fr c).2 ≠ 0 := Int.mul_ne_zero (by omega) (by omega)
  rw [← Rat.divInt_add_divInt _ _ (by omega) h1, ← Rat.divInt_mul_divInt, fr_val, fr_val, fr_val]
theorem pq_at {K : PySem.W.Frag} {q : Pq} {j : Nat} {p : Pr} (h : (pqL K q)[j]? = some p) : ∃ t, q[j]? = some t ∧ p = TuP K [moF K t.1, rtP K t.2] := by
  unfold pqL at h
  rw [List.getElem?_map] at h
  obtain ⟨t, ht, rfl⟩ := Option.map_eq_some_iff.mp h
  exact ⟨t, ht, rfl⟩
theorem sc_take (q : Pq) (c : Rat) {j : Nat} {t : Mo × Rat} (h : q[j]? = some t) : (scP q c).take (j + 1) = (scP q c).take j ++ [(t.1, t.2 * c)] := by
  have : (scP q c)[j]? = some (t.1, t.2 * c) := by
    unfold scP
    rw [List.getElem?_map, h]
    rfl
  exact take_snoc this
end Nd
namespace K12
set_option autoImplicit false
open PySem PySem.W L2 Evl My Nd LamX NdefX
section
variable {P : Program} {w : World} {K : PySem.W.Frag} {mg : Str → Option Value} {base : Heap} {T : List (Addr × Str)}

/-- _law_monomial -/
abbrev s_Lmonomial : Stmt := topS 73
abbrev N_Lmonomial : List Str := ["_law_pairs", "_law_rises", "_law_derivative_here", "_law_rise"]
theorem sc_Lmonomial : FnScope N_Lmonomial ["_law_pairs"] (defScope s_Lmonomial) := ⟨rfl, rfl, rfl, by decide +kernel, rfl, by decide +kernel, by decide +kernel⟩
theorem ok_Lmonomial {f : Addr} {fd : FuncData} (F : Fun K "_law_monomial" "_law_monomial" s_Lmonomial f fd)   (n_tuple : mg "tuple" = none) (n_sorted : mg "sorted" = none)  :
    FnOk P w K mg base CX0 1 f fd ["_law_pairs"] (spP (Rlm K)) := by
  refine F.ok sc_Lmonomial (spP_len (by rintro _ _ ⟨_, _, _, rfl, rfl⟩; rfl)) (fun cdv A outer s H vs Q E hr h => ?_)
  obtain ⟨B, ps, z, eB, hv, ⟨l, hco, hn, rfl, rfl⟩, q⟩ := h
  obtain ⟨v0, rfl, h0⟩ := all1 hv
  have hu := hu_of hr
  refine ⟨_, (pss_cons (ps_set (i := 1) sc_Lmonomial.nd rfl (by first | exact .inl rfl | exact .inr rfl) pe_dnewN)
    (pss_cons (ps_for PassesOwn.never rfl (pi_tup (pv 0)) (pg_tup (by rfl) (pgs_cons (pg_name (i := 2) sc_Lmonomial.nd rfl (by first | exact .inl rfl | exact .inr rfl)) (pgs_cons (pg_name (i := 3) sc_Lmonomial.nd rfl (by first | exact .inl rfl | exact .inr rfl)) pgs_nil)))
      (pss_one (ps_dputN (by have h := hr.un; show (A.deeper _).units + 9 < cLine; omega) (pv 1) (pv 2) (pe_op op_add (pe_dget2N (by have h := hr.un; show (A.deeper _).units + 9 < cLine; omega) (pv 1) (pv 2) pe_int (by exact ⟨rfl, rfl, rfl, rfl⟩)) (pv 3)) rfl)))
    (pss_one (ps_ret (pe_callTy call_tupleF (by rfl) n_tuple (by decide +kernel) (pa_cons (pe_lc (tt := tTest (tOp (rI0 fun i j => .bl (decide (j < i))) (tDGetN P w K (tVar 1) (tVar 2)) (tC (.int 0)))) (te := tTup (tCons (tVar 2) (tCons (tDGetN P w K (tVar 1) (tVar 2)) tNil))) (own := [("_law_derivative_here", 2)]) rfl sc_Lmonomial.nd (pi_list (pe_sortN hr (by rfl) n_sorted (pv 1))) (blkOk_by (N := N_Lmonomial) (sc := defScope s_Lmonomial) (by decide +kernel)) (fun _ _ _ _ _ => (pg_name (i := 2) sc_Lmonomial.nd rfl (Or.inl rfl))) (fun _ _ _ _ _ => (pts_one (pt_cmpR op_gt (pe_dgetN (hu9 hr) (pv 1) (pv 2) (fun _ _ => rfl)) pe_int (nomark _)))) (fun _ _ _ _ _ => (pe_tup (pa_cons (pv 2) (pa_cons (pe_dgetN (hu9 hr) (pv 1) (pv 2) (fun _ _ => rfl)) pa_nil))))) pa_nil)))))), ?_⟩
  have nn : (([] : Mo).map (·.1)).Nodup := List.nodup_nil
  refine dc_nul (ky := kyD K) (vp := fun i => IsV (.int i)) eB fun d H2 hd A2 => ?_
  dsimp only
  refine ps_forD (fun j => addAll [] (l.take j)) (fun j σ => ∃ x y, σ = [some v0, some (.ref d), x, y]) A2 ⟨_, _, rfl⟩ rfl h0 (fun j p v' σ' B' H' hj e' hs A' pv N hN => ?_) fun σ' B' H' e' hs A' => ?_
  · obtain ⟨x, y, rfl⟩ := hs
    rw [List.getElem?_map] at hj
    obtain ⟨t, ht, rfl⟩ := Option.map_eq_some_iff.mp hj
    obtain ⟨a, y1, y2, rfl, hq, m1, m2⟩ := tup2 pv A'.ex
    refine ⟨a, _, rfl, hq, rfl, _, _, rfl, _, _, rfl, rfl, ?_⟩
    have len := addAll_len (l := l.take j) (zs := ([] : Mo))
    rw [List.length_take, List.length_nil] at len
    obtain rfl : y2 = .int t.2 := m2
    refine ps_put (f := co (addAll [] (l.take j)) t.1 + t.2) rfl A' (a_op (x := .int (co (addAll [] (l.take j)) t.1)) (y := .int t.2) ?_ (a_ev (p_var rfl rfl)) (fun H Q q => ⟨_, _, rfl, rfl, q⟩)) (p_var rfl m1) (by omega) fun B4 H4 e4 A4 => ?_
    · have := a_get2 (ky := kyD K) (vp := fun i => IsV (.int i)) (f0 := 0) (k := t.1) (ty := tVar 2) (tx := tC (.int 0)) (σ := [some v0, some (.ref d), some y1, some (.int t.2)]) (P := P) (w := w) (B := B) (H0 := H) (d := d) (zs := addAll [] (l.take j)) (Bi := B') (i := 1) rfl (p_var rfl m1) p_c
      rw [val_co (addAll_nd nn)] at this
      exact this
    · refine hN _ B4 H4 ⟨_, _, rfl⟩ e4 ?_
      show DcAt P w (kyD K) (fun i => IsV (.int i)) B H d (addAll [] (l.take (j + 1))) B4 H4
      rw [take_snoc ht, addAll_app]
      exact A4
  · obtain ⟨x, y, rfl⟩ := hs
    have A' : DcAt P w (kyD K) (fun i => IsV (.int i)) B H d (addAll [] (l.take ((l.map (pwP K)).length))) B' H' := A'
    rw [List.length_map, List.take_length] at A'
    obtain ⟨B5, g5, hP⟩ := A'.fin hd
    have nd := addAll_nd (l := l) nn
    have cok : ∀ k, co (addAll [] l) k = co l k := fun k => by rw [addAll_co nn, List.nil_append]
    have len := addAll_len (l := l) (zs := ([] : Mo))
    rw [List.length_nil] at len
    -- sorted, noughts left out
    have main := p_lc (K := K) (g := gName 2) (tt := tTest (tOp (rI0 fun i j => .bl (decide (j < i))) (tDGetN P w K (tVar 1) (tVar 2)) (tC (.int 0)))) (te := tTup (tCons (tVar 2) (tCons (tDGetN P w K (tVar 1) (tVar 2)) tNil))) (vs := [2]) (σ := [some v0, some (.ref d), x, y]) (B := B5)
      (p_lq (p_sortP (P := P) (w := w) (ky := kyD K) (vp := fun i => IsV (.int i)) (zs := addAll [] l) (i := 1) rfl hP (AllAlike.of (enc := fun z : Dv × Int => z.1.D) (bs := addAll [] l) fun u v => alike_dv u.1 v.1) (Sortable.tuples (fun u => ⟨_, _, rfl⟩)) (fun z _ => by have := deep_dv z.1; show z.1.D.depth ≤ 50; omega)))
      (by rw [List.length_map]; unfold srtZ; rw [List.length_mergeSort, List.length_map]; omega)
      (fun i => ((srtZ (kyD K).kd ((addAll [] l).map (·.1)))[i]?.map fun k => decide (co (addAll [] l) k ≠ 0)).getD false) (fun i => ((srtZ (kyD K).kd ((addAll [] l).map (·.1)))[i]?.map fun k => pwP K (k, co (addAll [] l) k)).getD (IsV .non)) fun i p v B1 hi e pv => ?_
    · rw [List.length_map, range_pick] at main
      have e9 : ((srtZ (kyD K).kd ((addAll [] l).map (·.1))).filter fun k => decide (co (addAll [] l) k ≠ 0)).map (fun k => pwP K (k, co (addAll [] l) k)) = (cf l).map (pwP K) := by
        have h1 := keys_cf (kd := (kyD K).kd) (fun a b => rfl) nd
        have h2 : cf (addAll [] l) = cf l := cf_ext cok
        rw [← h2, ← h1, List.map_map]
        rfl
      rw [e9] at main
      exact My.ps_ret g5.c (p_tupOfF (p_lq main)) fun v B6 H6 g6 hp => q v B6 H6 (g5.trans g6) hp
    · rw [List.getElem?_map] at hi
      obtain ⟨k, hk, rfl⟩ := Option.map_eq_some_iff.mp hi
      have km : k ∈ (addAll [] l).map (·.1) := (srtZ_perm _ _).mem_iff.mp (List.mem_of_getElem? hk)
      have hval : valG (addAll [] l) k = some (co (addAll [] l) k) := by
        have h1 := val_co nd k
        cases hv : valG (addAll [] l) k with
        | none =>
          have := val_no.mp hv
          rw [hasG_mem.mpr km] at this
          cases this
        | some f =>
          rw [hv] at h1
          rw [← h1]
          rfl
      have get : EvP (tDGetN P w K (tVar 1) (tVar 2)) [some v0, some (.ref d), some v, y] B1 (IsV (.int (co (addAll [] l) k))) := p_getP (ky := kyD K) (vp := fun i => IsV (.int i)) rfl ((DcP P w (kyD K) _ _).m e hP) (p_var rfl pv) hval
      refine ⟨[some v0, some (.ref d), some v, y], rfl, fun H2 Q e q => q, et_is (et_test (ev_op (ev_p get) ev_c rv_I0)) ?_, fun _ => ?_⟩
      · rw [hk]
        show decide (0 < co (addAll [] l) k) = decide (co (addAll [] l) k ≠ 0)
        have := hco k
        rw [cok]
        by_cases h0 : co l k = 0
        · simp [h0]
        · simp [h0]
          omega
      · rw [hk]
        exact p_tup (K := K) (ps := [DvP k, IsV (.int (co (addAll [] l) k))]) (q_cons (p_var rfl pv) (q_cons get q_nil)) (by show 2 ≤ 100000; decide)

end
end K12
namespace Nd
set_option autoImplicit false
open PySem PySem.W L2 My Evl LamX NdefX
section
variable {κ β : Type} [DecidableEq κ] {P : Program} {w : World} {K : PySem.W.Frag} {ky : Ky K κ} {vp : β → Pr} {σ : L2.St} {B : Hp} {zs : List (κ × β)} {i : Nat} {v : V} {k : κ} {f : β} {ty : TE}
/-- sorted(d), d as it is known -/
theorem p_sortM (hi : σ[i]? = some (some v)) (hv : (DcP P w ky vp zs).P v B) (hal : AllAlike (zs.map fun z => ky.kd z.1)) (hsk : ∀ d ∈ (zs.map fun z => ky.kd z.1), ∃ xs, d = PyData.tuple xs) (hdep : ∀ z ∈ zs, (ky.kd z.1).depth ≤ 50) :
    EvP (tSortM P w K (tVar i)) σ B (LsP ((srtZ ky.kd (zs.map (·.1))).map ky.kp)) := fun H a Q q => by
  obtain ⟨d, xs, B0, rfl, hd, n0, e0, al⟩ := hv
  have km := al.m (e0.trans a)
  have lx := km.len
  have kb := al.m e0
  have akp : ∀ {C : Hp} {zs : List (κ × β)} {xs : List NV}, KG ky vp zs xs C → AllP ((zs.map (·.1)).map ky.kp) (xs.map fun x => V.ref x.2.1) C := by
    intro C zs
    induction zs with
    | nil =>
      intro xs h
      match xs, h with
      | [], _ => exact trivial
    | cons z zs ih =>
      intro xs h
      match xs, h with
      | x :: xs, h => exact ⟨h.1.2.1, ih h.2⟩
  have e1 : zs.map (fun z => ky.kd z.1) = (zs.map (·.1)).map ky.kd := by rw [List.map_map]; rfl
  refine ⟨.ref d, hi, d, xs, zs.map fun z => ky.kd z.1, rfl, a _ _ hd, by rw [List.length_map, lx], hal, hsk, fun e he => ?_, ?_, fun b hb => ?_⟩
  · obtain ⟨z, hz, rfl⟩ := List.mem_map.mp he
    exact hdep z hz
  · rw [e1]
    exact toAll_all (toAll_map _ ky.to) (akp km)
  · have h1 := byKey_Z ky.kp ky.kd (akp kb)
    rw [← e1] at h1
    exact q _ (upd B b (.lst (byKey (xs.map fun x => V.ref x.2.1) (zs.map fun z => ky.kd z.1)))) _ (Gr.new _ a hb) ⟨b, _, rfl, upd_same, h1.m (Ex.new (fresh_back a hb))⟩
end
end Nd

namespace K12
set_option autoImplicit false
open PySem PySem.W L2 Evl My Nd LamX NdefX
section
variable {P : Program} {w : World} {K : PySem.W.Frag} {mg : Str → Option Value} {base : Heap} {T : List (Addr × Str)}

/-- _law_added -/
abbrev s_Ladded : Stmt := topS 72
abbrev N_Ladded : List Str := ["_law_one", "_law_other", "_law_number_here", "_law_terms", "_law_monomial_here", "_law_own", "_law_top", "_law_bottom", "_law_far", "_law_low"]
theorem sc_Ladded : FnScope N_Ladded ["_law_one", "_law_other", "_law_number_here"] (defScope s_Ladded) := ⟨rfl, rfl, rfl, by decide +kernel, rfl, by decide +kernel, by decide +kernel⟩
theorem ok_Ladded {f : Addr} {fd : FuncData} (F : Fun K "_law_added" "_law_added" s_Ladded f fd)  {f_Llowest : Addr} {d_Llowest : FuncData} (c_Llowest : Cal P w K mg base "_law_lowest" 1 ["_law_top", "_law_bottom"] (spP (Rlow2 K)) f_Llowest d_Llowest) (n_dict : mg "dict" = none) (n_tuple : mg "tuple" = none) (n_sorted : mg "sorted" = none)  :
    FnOk P w K mg base CX0 2 f fd ["_law_one", "_law_other", "_law_number_here"] (spP (Radd K)) := by
  refine F.ok sc_Ladded (spP_len (by rintro _ _ ⟨_, _, _, _, _, _, _, _, _, _, _, _, _, rfl, rfl⟩; rfl)) (fun cdv A outer s H vs Q E hr h => ?_)
  obtain ⟨B, ps, z, eB, hv, ⟨D, N, p, q, c, hD, hD2, hN2, hl, hq1, hc1, ndp, hn, rfl, rfl⟩, k⟩ := h
  obtain ⟨v0, v1, v2, rfl, h0, h1, h2⟩ := all3 hv
  have hu := hu_of hr
  refine ⟨_, (pss_cons (ps_set (i := 3) sc_Ladded.nd rfl (by first | exact .inl rfl | exact .inr rfl) (pe_callTy (call_dictN rfl (hu10 hr)) (by rfl) n_dict (by decide +kernel) (pa_cons (pv 0) pa_nil)))
    (pss_cons (ps_for PassesOwn.never rfl (pi_list (pv 1)) (pg_tup (by rfl) (pgs_cons (pg_name (i := 4) sc_Ladded.nd rfl (by first | exact .inl rfl | exact .inr rfl)) (pgs_cons (pg_name (i := 5) sc_Ladded.nd rfl (by first | exact .inl rfl | exact .inr rfl)) pgs_nil)))
      (pss_cons (ps_asg (pe_dget2N (by have h := hr.un; show (A.deeper _).units + 9 < cLine; omega) (pv 3) (pv 4) (pe_tup (pa_cons pe_int (pa_cons pe_int pa_nil))) (by exact ⟨rfl, rfl, rfl, rfl⟩)) (pg_tup (by rfl) (pgs_cons (pg_name (i := 6) sc_Ladded.nd rfl (by first | exact .inl rfl | exact .inr rfl)) (pgs_cons (pg_name (i := 7) sc_Ladded.nd rfl (by first | exact .inl rfl | exact .inr rfl)) pgs_nil))))
    (pss_cons (ps_par (i := 8) (j := 9) rfl sc_Ladded.nd rfl rfl (by decide) rfl rfl (pa_cons (pe_op op_mulW (pe_ix ix_tup (pv 5) pe_int (fun _ _ => rfl)) (pe_ix ix_tup (pv 2) pe_int (fun _ _ => rfl))) (pa_cons (pe_op op_mulW (pe_ix ix_tup (pv 5) pe_int (fun _ _ => rfl)) (pe_ix ix_tup (pv 2) pe_int (fun _ _ => rfl))) pa_nil)) (by rfl))
    (pss_one (ps_dputN (by have h := hr.un; show (A.deeper _).units + 9 < cLine; omega) (pv 3) (pv 4) (pe_call c_Llowest.G (hr.mono (by decide)) (by rfl) c_Llowest.m c_Llowest.k c_Llowest.b .nil pass0 (pa_cons (pe_op op_add (pe_op op_mulW (pv 6) (pv 9)) (pe_op op_mulW (pv 8) (pv 7))) (pa_cons (pe_op op_mulW (pv 7) (pv 9)) pa_nil))) rfl)))))
    (pss_one (ps_ret (pe_callTy call_tupleF (by rfl) n_tuple (by decide +kernel) (pa_cons (pe_lc (tt := tTest (tOp rNe (tOp (rIxT K) (tDGetN P w K (tVar 3) (tVar 4)) (tC (.int 0))) (tC (.int 0)))) (te := tTup (tCons (tVar 4) (tCons (tDGetN P w K (tVar 3) (tVar 4)) tNil))) (own := [("_law_monomial_here", 4)]) rfl sc_Ladded.nd (pi_list (pe_sortM hr (by rfl) n_sorted (pv 3))) (blkOk_by (N := N_Ladded) (sc := defScope s_Ladded) (by decide +kernel)) (fun _ _ _ _ _ => (pg_name (i := 4) sc_Ladded.nd rfl (Or.inl rfl))) (fun _ _ _ _ _ => (pts_one (pt_cmpR op_ne (pe_ix ix_tup (pe_dgetN (hu9 hr) (pv 3) (pv 4) (fun _ _ => rfl)) pe_int (fun _ _ => rfl)) pe_int (nomark _)))) (fun _ _ _ _ _ => (pe_tup (pa_cons (pv 4) (pa_cons (pe_dgetN (hu9 hr) (pv 3) (pv 4) (fun _ _ => rfl)) pa_nil))))) pa_nil)))))), ?_⟩
  have bD : D < 2 ^ 4000 := Nat.lt_trans hD2 (Nat.pow_lt_pow_right (by decide) (by decide))
  have bN : N < 2 ^ 4000 := Nat.lt_trans hN2 (Nat.pow_lt_pow_right (by decide) (by decide))
  refine ps_dictN (ky := kyF K) (vp := rtP K) (zs := p) eB (p_var (i := 0) (σ := [some v0, some v1, some v2, none, none, none, none, none, none, none]) rfl h0) ndp fun d B2 H2 hd e2 A2 => ?_
  dsimp only
  refine ps_forDL (fun j => addAll p ((scP q c).take j)) (fun j σ => ∃ a b e f g h, σ = [some v0, some v1, some v2, some (.ref d), a, b, e, f, g, h]) A2 ⟨_, _, _, _, _, _, rfl⟩ rfl ((LqP K (pqL K q)).m e2 h1) (fun j pr v' σ' B' H' hj e' hs A' pv F hF => ?_) fun σ' B' H' e' hs A' => ?_
  · obtain ⟨a4, a5, a6, a7, a8, a9, rfl⟩ := hs
    obtain ⟨t, ht, rfl⟩ := pq_at hj
    obtain ⟨w0, y1, y2, rfl, hq, m1, m2⟩ := tup2 pv A'.ex
    refine ⟨w0, _, rfl, hq, rfl, _, _, rfl, _, _, rfl, rfl, ?_⟩
    have htm := List.mem_of_getElem? ht
    have hjl : j < q.length := (List.getElem?_eq_some_iff.mp ht).1
    have slen : (scP q c).length = q.length := by unfold scP; rw [List.length_map]
    have len := addAll_len (l := (scP q c).take j) (zs := p)
    rw [List.length_take, slen] at len
    -- what stands there
    have GA := a_get2 (σ := [some v0, some v1, some v2, some (.ref d), some y1, some y2, a6, a7, a8, a9]) (ky := kyF K) (vp := rtP K) (f0 := 0) (k := t.1) (ty := tVar 4) (tx := tTup (tCons (tC (.int 0)) (tCons (tC (.int 1)) tNil))) (P := P) (w := w) (B := B) (H0 := H) (d := d) (zs := addAll p ((scP q c).take j)) (Bi := B') (i := 3) rfl (p_var (i := 4) rfl m1) (p_tup (K := K) (ps := [IsV (.int 0), IsV (.int 1)]) (q_cons p_c (q_cons p_c q_nil)) (by show 2 ≤ 100000; decide))
    dsimp only
    unfold tSeq
    unfold tAsg
    refine GA B' H' (Ex.refl B') A' _ fun v3 B3 H3 e3 A3 pv3 => ?_
    rw [val_co (addAll_nd ndp), addAll_co ndp] at pv3
    obtain ⟨w3, z1, z2, rfl, hq3, n1, n2⟩ := tup2 pv3 A3.ex
    obtain rfl : z1 = _ := n1
    obtain rfl : z2 = _ := n2
    refine ⟨w3, _, rfl, hq3, rfl, _, _, rfl, _, _, rfl, rfl, ?_⟩
    generalize hr : co (p ++ (scP q c).take j) t.1 = r at A3 ⊢
    have smr : Sm1 r := by
      have := (hl.pre j).co t.1
      rw [hr] at this
      obtain ⟨s1, s2⟩ := ab_small hD this.1
      exact ⟨Nat.lt_of_le_of_lt (Nat.le_trans s1 this.2) hN2, Nat.lt_of_le_of_lt s2 hD2⟩
    have m2' := (rtP K t.2).m e3 m2
    have h2' := (rtP K c).m (e2.trans (e'.trans e3)) h2
    obtain ⟨r1, r2⟩ := sm1_lg smr
    obtain ⟨t1, t2⟩ := sm1_lg (hq1 t htm)
    obtain ⟨c1, c2⟩ := sm1_lg hc1
    have far := mul_lg t1 c1
    have low := mul_lg t2 c2
    dsimp only
    refine (q_cons (p_ev (ev_mulW (k := 1000) (ev_top (K := K) (p_var (i := 5) (σ := [some v0, some v1, some v2, some (.ref d), some y1, some y2, some (.int (fr r).1), some (.int (fr r).2), a8, a9]) rfl m2')) (ev_top (K := K) (p_var (i := 2) rfl h2')) (lg t1) (lg c1))) (q_cons (p_ev (ev_mulW (k := 1000) (ev_bot (K := K) (p_var (i := 5) rfl m2')) (ev_bot (K := K) (p_var (i := 2) rfl h2')) (lg t2) (lg c2))) q_nil)) H3 A3.ex _ fun vs B4 H4 g4 al => ?_
    obtain ⟨u1, u2, rfl, k1, k2⟩ := all2 al
    obtain rfl : u1 = _ := k1
    obtain rfl : u2 = _ := k2
    have A4 := A3.step g4
    refine ⟨_, _, rfl, ?_⟩
    dsimp only
    have val := add_val r t.2 c
    refine ps_put (f := r + t.2 * c) rfl A4 (a_ev (p_callP (ps := [IsV _, IsV _]) (q_cons (p_ev (ev_addI (ev_mulW (k := 2000) (ev_var (i := 6) rfl) (ev_var (i := 9) rfl) (lg (Nat.lt_of_lt_of_le r1 (Nat.pow_le_pow_right (by decide) (by decide)))) (lg low)) (ev_mulW (k := 2000) (ev_var (i := 8) rfl) (ev_var (i := 7) rfl) (lg far) (lg (Nat.lt_of_lt_of_le r2 (Nat.pow_le_pow_right (by decide) (by decide))))))) (q_cons (p_ev (ev_mulW (k := 2000) (ev_var (i := 7) rfl) (ev_var (i := 9) rfl) (lg (Nat.lt_of_lt_of_le r2 (Nat.pow_le_pow_right (by decide) (by decide)))) (lg low))) q_nil)) ⟨_, _, ?_, ?_, rfl, by rw [val]⟩)) (p_var rfl ((moF K t.1).m (e3.trans g4.b) m1)) (by omega) fun B5 H5 e5 A5 => ?_
    · have := fr_pos r
      have := fr_pos t.2
      have := fr_pos c
      exact Int.mul_ne_zero (by omega) (Int.mul_ne_zero (by omega) (by omega))
    · exact Nat.lt_of_lt_of_le (mul_lg r2 low) (Nat.pow_le_pow_right (by decide) (by decide))
    · refine hF _ B5 H5 ⟨_, _, _, _, _, _, rfl⟩ (e3.trans (g4.b.trans e5)) ?_
      show DcAt P w (kyF K) (rtP K) B H d (addAll p ((scP q c).take (j + 1))) B5 H5
      rw [sc_take q c ht, addAll_app]
      have e9 : addAll (addAll p ((scP q c).take j)) [(t.1, t.2 * c)] = putG (addAll p ((scP q c).take j)) t.1 (r + t.2 * c) := by
        show addG _ _ _ = _
        unfold addG
        rw [addAll_co ndp, hr]
      rw [e9]
      exact A5
  · obtain ⟨a4, a5, a6, a7, a8, a9, rfl⟩ := hs
    have slen : (scP q c).length = q.length := by unfold scP; rw [List.length_map]
    have A' : DcAt P w (kyF K) (rtP K) B H d (addAll p ((scP q c).take (pqL K q).length)) B' H' := A'
    rw [show (pqL K q).length = (scP q c).length by rw [slen]; unfold pqL; rw [List.length_map], List.take_length] at A'
    obtain ⟨B5, g5, hP⟩ := A'.fin hd
    have nd := addAll_nd (l := scP q c) ndp
    have len := addAll_len (l := scP q c) (zs := p)
    generalize hZ : addAll p (scP q c) = Z at nd len hP
    have cfe : cf Z = addP p (scP q c) := by
      rw [← hZ]
      exact cf_ext fun k => addAll_co ndp k
    have main := p_lc (K := K) (g := gName 4) (tt := tTest (tOp rNe (tOp (rIxT K) (tDGetN P w K (tVar 3) (tVar 4)) (tC (.int 0))) (tC (.int 0)))) (te := tTup (tCons (tVar 4) (tCons (tDGetN P w K (tVar 3) (tVar 4)) tNil))) (vs := [4]) (σ := [some v0, some v1, some v2, some (.ref d), a4, a5, a6, a7, a8, a9]) (B := B5)
      (p_lq (p_sortM (P := P) (w := w) (ky := kyF K) (vp := rtP K) (zs := Z) (i := 3) rfl hP (AllAlike.of (enc := fun z : Mo × Rat => moD z.1) (bs := Z) fun u v => alike_mo u.1 v.1) (fun d hd => by obtain ⟨z, _, rfl⟩ := List.mem_map.mp hd; exact ⟨_, rfl⟩) (fun z _ => by have := deep_mo z.1; show (moD z.1).depth ≤ 50; omega)))
      (by rw [List.length_map]; unfold srtZ; rw [List.length_mergeSort, List.length_map]; omega)
      (fun i => ((srtZ (kyF K).kd (Z.map (·.1)))[i]?.map fun k => decide (co Z k ≠ 0)).getD false) (fun i => ((srtZ (kyF K).kd (Z.map (·.1)))[i]?.map fun k => TuP K [moF K k, rtP K (co Z k)]).getD (IsV .non)) fun i p v B1 hi e pv => ?_
    · rw [List.length_map, range_pick] at main
      have e9 : ((srtZ (kyF K).kd (Z.map (·.1))).filter fun k => decide (co Z k ≠ 0)).map (fun k => TuP K [moF K k, rtP K (co Z k)]) = (cf Z).map fun t => TuP K [moF K t.1, rtP K t.2] := by
        have h1 := keys_cf (kd := (kyF K).kd) (fun a b => rfl) nd
        rw [← h1, List.map_map]
        rfl
      rw [e9, cfe] at main
      exact My.ps_ret g5.c (p_tupOfF (p_lq main)) fun v B6 H6 g6 hp => k v B6 H6 (g5.trans g6) hp
    · rw [List.getElem?_map] at hi
      obtain ⟨m, hm, rfl⟩ := Option.map_eq_some_iff.mp hi
      have km : m ∈ Z.map (·.1) := (srtZ_perm _ _).mem_iff.mp (List.mem_of_getElem? hm)
      have hval : valG Z m = some (co Z m) := by
        have h1 := val_co nd m
        cases hv : valG Z m with
        | none =>
          have := val_no.mp hv
          rw [hasG_mem.mpr km] at this
          cases this
        | some f =>
          rw [hv] at h1
          rw [← h1]
          rfl
      have get : EvP (tDGetN P w K (tVar 3) (tVar 4)) [some v0, some v1, some v2, some (.ref d), some v, a5, a6, a7, a8, a9] B1 (rtP K (co Z m)) := p_getP (ky := kyF K) (vp := rtP K) rfl ((DcP P w (kyF K) _ _).m e hP) (p_var rfl pv) hval
      refine ⟨[some v0, some v1, some v2, some (.ref d), some v, a5, a6, a7, a8, a9], rfl, fun H2 Q e q => q, et_is (et_test (ev_op (ev_top get) (ev_c (v := .int 0)) (rv_ne rfl))) ?_, fun _ => ?_⟩
      · rw [hm]
        show (!decide (V.int (fr (co Z m)).1 = V.int 0)) = decide (co Z m ≠ 0)
        by_cases h : co Z m = 0
        · rw [h]
          rfl
        · have : (fr (co Z m)).1 ≠ 0 := fun e => h ((fr_num0 _).mp e)
          simp [h, this]
      · rw [hm]
        exact p_tup (K := K) (ps := [moF K m, rtP K (co Z m)]) (q_cons (p_var rfl pv) (q_cons get q_nil)) (by show 2 ≤ 100000; decide)

theorem ok_LaddedT {f : Addr} {fd : FuncData} (F : Fun K "_law_added" "_law_added" s_Ladded f fd)  {f_Llowest : Addr} {d_Llowest : FuncData} (c_Llowest : Cal P w K mg base "_law_lowest" 1 ["_law_top", "_law_bottom"] (spP (Rlow2 K)) f_Llowest d_Llowest) (n_dict : mg "dict" = none) (n_tuple : mg "tuple" = none) (n_sorted : mg "sorted" = none)  :
    FnOk P w K mg base CX0 2 f fd ["_law_one", "_law_other", "_law_number_here"] (spP (RaddT K)) := by
  refine F.ok sc_Ladded (spP_len (by rintro _ _ ⟨_, _, _, _, _, _, _, _, _, _, _, _, _, rfl, rfl⟩; rfl)) (fun cdv A outer s H vs Q E hr h => ?_)
  obtain ⟨B, ps, z, eB, hv, ⟨D, N, p, q, c, hD, hD2, hN2, hl, hq1, hc1, ndp, hn, rfl, rfl⟩, k⟩ := h
  obtain ⟨v0, v1, v2, rfl, h0, h1, h2⟩ := all3 hv
  have hu := hu_of hr
  refine ⟨_, (pss_cons (ps_set (i := 3) sc_Ladded.nd rfl (by first | exact .inl rfl | exact .inr rfl) (pe_callTy (call_dictN rfl (hu10 hr)) (by rfl) n_dict (by decide +kernel) (pa_cons (pv 0) pa_nil)))
    (pss_cons (ps_for PassesOwn.never rfl (pi_tup (pv 1)) (pg_tup (by rfl) (pgs_cons (pg_name (i := 4) sc_Ladded.nd rfl (by first | exact .inl rfl | exact .inr rfl)) (pgs_cons (pg_name (i := 5) sc_Ladded.nd rfl (by first | exact .inl rfl | exact .inr rfl)) pgs_nil)))
      (pss_cons (ps_asg (pe_dget2N (by have h := hr.un; show (A.deeper _).units + 9 < cLine; omega) (pv 3) (pv 4) (pe_tup (pa_cons pe_int (pa_cons pe_int pa_nil))) (by exact ⟨rfl, rfl, rfl, rfl⟩)) (pg_tup (by rfl) (pgs_cons (pg_name (i := 6) sc_Ladded.nd rfl (by first | exact .inl rfl | exact .inr rfl)) (pgs_cons (pg_name (i := 7) sc_Ladded.nd rfl (by first | exact .inl rfl | exact .inr rfl)) pgs_nil))))
    (pss_cons (ps_par (i := 8) (j := 9) rfl sc_Ladded.nd rfl rfl (by decide) rfl rfl (pa_cons (pe_op op_mulW (pe_ix ix_tup (pv 5) pe_int (fun _ _ => rfl)) (pe_ix ix_tup (pv 2) pe_int (fun _ _ => rfl))) (pa_cons (pe_op op_mulW (pe_ix ix_tup (pv 5) pe_int (fun _ _ => rfl)) (pe_ix ix_tup (pv 2) pe_int (fun _ _ => rfl))) pa_nil)) (by rfl))
    (pss_one (ps_dputN (by have h := hr.un; show (A.deeper _).units + 9 < cLine; omega) (pv 3) (pv 4) (pe_call c_Llowest.G (hr.mono (by decide)) (by rfl) c_Llowest.m c_Llowest.k c_Llowest.b .nil pass0 (pa_cons (pe_op op_add (pe_op op_mulW (pv 6) (pv 9)) (pe_op op_mulW (pv 8) (pv 7))) (pa_cons (pe_op op_mulW (pv 7) (pv 9)) pa_nil))) rfl)))))
    (pss_one (ps_ret (pe_callTy call_tupleF (by rfl) n_tuple (by decide +kernel) (pa_cons (pe_lc (tt := tTest (tOp rNe (tOp (rIxT K) (tDGetN P w K (tVar 3) (tVar 4)) (tC (.int 0))) (tC (.int 0)))) (te := tTup (tCons (tVar 4) (tCons (tDGetN P w K (tVar 3) (tVar 4)) tNil))) (own := [("_law_monomial_here", 4)]) rfl sc_Ladded.nd (pi_list (pe_sortM hr (by rfl) n_sorted (pv 3))) (blkOk_by (N := N_Ladded) (sc := defScope s_Ladded) (by decide +kernel)) (fun _ _ _ _ _ => (pg_name (i := 4) sc_Ladded.nd rfl (Or.inl rfl))) (fun _ _ _ _ _ => (pts_one (pt_cmpR op_ne (pe_ix ix_tup (pe_dgetN (hu9 hr) (pv 3) (pv 4) (fun _ _ => rfl)) pe_int (fun _ _ => rfl)) pe_int (nomark _)))) (fun _ _ _ _ _ => (pe_tup (pa_cons (pv 4) (pa_cons (pe_dgetN (hu9 hr) (pv 3) (pv 4) (fun _ _ => rfl)) pa_nil))))) pa_nil)))))), ?_⟩
  have bD : D < 2 ^ 4000 := Nat.lt_trans hD2 (Nat.pow_lt_pow_right (by decide) (by decide))
  have bN : N < 2 ^ 4000 := Nat.lt_trans hN2 (Nat.pow_lt_pow_right (by decide) (by decide))
  refine ps_dictN (ky := kyF K) (vp := rtP K) (zs := p) eB (p_var (i := 0) (σ := [some v0, some v1, some v2, none, none, none, none, none, none, none]) rfl h0) ndp fun d B2 H2 hd e2 A2 => ?_
  dsimp only
  refine ps_forD (fun j => addAll p ((scP q c).take j)) (fun j σ => ∃ a b e f g h, σ = [some v0, some v1, some v2, some (.ref d), a, b, e, f, g, h]) A2 ⟨_, _, _, _, _, _, rfl⟩ rfl ((TuP K (pqL K q)).m e2 h1) (fun j pr v' σ' B' H' hj e' hs A' pv F hF => ?_) fun σ' B' H' e' hs A' => ?_
  · obtain ⟨a4, a5, a6, a7, a8, a9, rfl⟩ := hs
    obtain ⟨t, ht, rfl⟩ := pq_at hj
    obtain ⟨w0, y1, y2, rfl, hq, m1, m2⟩ := tup2 pv A'.ex
    refine ⟨w0, _, rfl, hq, rfl, _, _, rfl, _, _, rfl, rfl, ?_⟩
    have htm := List.mem_of_getElem? ht
    have hjl : j < q.length := (List.getElem?_eq_some_iff.mp ht).1
    have slen : (scP q c).length = q.length := by unfold scP; rw [List.length_map]
    have len := addAll_len (l := (scP q c).take j) (zs := p)
    rw [List.length_take, slen] at len
    -- what stands there
    have GA := a_get2 (σ := [some v0, some v1, some v2, some (.ref d), some y1, some y2, a6, a7, a8, a9]) (ky := kyF K) (vp := rtP K) (f0 := 0) (k := t.1) (ty := tVar 4) (tx := tTup (tCons (tC (.int 0)) (tCons (tC (.int 1)) tNil))) (P := P) (w := w) (B := B) (H0 := H) (d := d) (zs := addAll p ((scP q c).take j)) (Bi := B') (i := 3) rfl (p_var (i := 4) rfl m1) (p_tup (K := K) (ps := [IsV (.int 0), IsV (.int 1)]) (q_cons p_c (q_cons p_c q_nil)) (by show 2 ≤ 100000; decide))
    dsimp only
    unfold tSeq
    unfold tAsg
    refine GA B' H' (Ex.refl B') A' _ fun v3 B3 H3 e3 A3 pv3 => ?_
    rw [val_co (addAll_nd ndp), addAll_co ndp] at pv3
    obtain ⟨w3, z1, z2, rfl, hq3, n1, n2⟩ := tup2 pv3 A3.ex
    obtain rfl : z1 = _ := n1
    obtain rfl : z2 = _ := n2
    refine ⟨w3, _, rfl, hq3, rfl, _, _, rfl, _, _, rfl, rfl, ?_⟩
    generalize hr : co (p ++ (scP q c).take j) t.1 = r at A3 ⊢
    have smr : Sm1 r := by
      have := (hl.pre j).co t.1
      rw [hr] at this
      obtain ⟨s1, s2⟩ := ab_small hD this.1
      exact ⟨Nat.lt_of_le_of_lt (Nat.le_trans s1 this.2) hN2, Nat.lt_of_le_of_lt s2 hD2⟩
    have m2' := (rtP K t.2).m e3 m2
    have h2' := (rtP K c).m (e2.trans (e'.trans e3)) h2
    obtain ⟨r1, r2⟩ := sm1_lg smr
    obtain ⟨t1, t2⟩ := sm1_lg (hq1 t htm)
    obtain ⟨c1, c2⟩ := sm1_lg hc1
    have far := mul_lg t1 c1
    have low := mul_lg t2 c2
    dsimp only
    refine (q_cons (p_ev (ev_mulW (k := 1000) (ev_top (K := K) (p_var (i := 5) (σ := [some v0, some v1, some v2, some (.ref d), some y1, some y2, some (.int (fr r).1), some (.int (fr r).2), a8, a9]) rfl m2')) (ev_top (K := K) (p_var (i := 2) rfl h2')) (lg t1) (lg c1))) (q_cons (p_ev (ev_mulW (k := 1000) (ev_bot (K := K) (p_var (i := 5) rfl m2')) (ev_bot (K := K) (p_var (i := 2) rfl h2')) (lg t2) (lg c2))) q_nil)) H3 A3.ex _ fun vs B4 H4 g4 al => ?_
    obtain ⟨u1, u2, rfl, k1, k2⟩ := all2 al
    obtain rfl : u1 = _ := k1
    obtain rfl : u2 = _ := k2
    have A4 := A3.step g4
    refine ⟨_, _, rfl, ?_⟩
    dsimp only
    have val := add_val r t.2 c
    refine ps_put (f := r + t.2 * c) rfl A4 (a_ev (p_callP (ps := [IsV _, IsV _]) (q_cons (p_ev (ev_addI (ev_mulW (k := 2000) (ev_var (i := 6) rfl) (ev_var (i := 9) rfl) (lg (Nat.lt_of_lt_of_le r1 (Nat.pow_le_pow_right (by decide) (by decide)))) (lg low)) (ev_mulW (k := 2000) (ev_var (i := 8) rfl) (ev_var (i := 7) rfl) (lg far) (lg (Nat.lt_of_lt_of_le r2 (Nat.pow_le_pow_right (by decide) (by decide))))))) (q_cons (p_ev (ev_mulW (k := 2000) (ev_var (i := 7) rfl) (ev_var (i := 9) rfl) (lg (Nat.lt_of_lt_of_le r2 (Nat.pow_le_pow_right (by decide) (by decide)))) (lg low))) q_nil)) ⟨_, _, ?_, ?_, rfl, by rw [val]⟩)) (p_var rfl ((moF K t.1).m (e3.trans g4.b) m1)) (by omega) fun B5 H5 e5 A5 => ?_
    · have := fr_pos r
      have := fr_pos t.2
      have := fr_pos c
      exact Int.mul_ne_zero (by omega) (Int.mul_ne_zero (by omega) (by omega))
    · exact Nat.lt_of_lt_of_le (mul_lg r2 low) (Nat.pow_le_pow_right (by decide) (by decide))
    · refine hF _ B5 H5 ⟨_, _, _, _, _, _, rfl⟩ (e3.trans (g4.b.trans e5)) ?_
      show DcAt P w (kyF K) (rtP K) B H d (addAll p ((scP q c).take (j + 1))) B5 H5
      rw [sc_take q c ht, addAll_app]
      have e9 : addAll (addAll p ((scP q c).take j)) [(t.1, t.2 * c)] = putG (addAll p ((scP q c).take j)) t.1 (r + t.2 * c) := by
        show addG _ _ _ = _
        unfold addG
        rw [addAll_co ndp, hr]
      rw [e9]
      exact A5
  · obtain ⟨a4, a5, a6, a7, a8, a9, rfl⟩ := hs
    have slen : (scP q c).length = q.length := by unfold scP; rw [List.length_map]
    have A' : DcAt P w (kyF K) (rtP K) B H d (addAll p ((scP q c).take (pqL K q).length)) B' H' := A'
    rw [show (pqL K q).length = (scP q c).length by rw [slen]; unfold pqL; rw [List.length_map], List.take_length] at A'
    obtain ⟨B5, g5, hP⟩ := A'.fin hd
    have nd := addAll_nd (l := scP q c) ndp
    have len := addAll_len (l := scP q c) (zs := p)
    generalize hZ : addAll p (scP q c) = Z at nd len hP
    have cfe : cf Z = addP p (scP q c) := by
      rw [← hZ]
      exact cf_ext fun k => addAll_co ndp k
    have main := p_lc (K := K) (g := gName 4) (tt := tTest (tOp rNe (tOp (rIxT K) (tDGetN P w K (tVar 3) (tVar 4)) (tC (.int 0))) (tC (.int 0)))) (te := tTup (tCons (tVar 4) (tCons (tDGetN P w K (tVar 3) (tVar 4)) tNil))) (vs := [4]) (σ := [some v0, some v1, some v2, some (.ref d), a4, a5, a6, a7, a8, a9]) (B := B5)
      (p_lq (p_sortM (P := P) (w := w) (ky := kyF K) (vp := rtP K) (zs := Z) (i := 3) rfl hP (AllAlike.of (enc := fun z : Mo × Rat => moD z.1) (bs := Z) fun u v => alike_mo u.1 v.1) (fun d hd => by obtain ⟨z, _, rfl⟩ := List.mem_map.mp hd; exact ⟨_, rfl⟩) (fun z _ => by have := deep_mo z.1; show (moD z.1).depth ≤ 50; omega)))
      (by rw [List.length_map]; unfold srtZ; rw [List.length_mergeSort, List.length_map]; omega)
      (fun i => ((srtZ (kyF K).kd (Z.map (·.1)))[i]?.map fun k => decide (co Z k ≠ 0)).getD false) (fun i => ((srtZ (kyF K).kd (Z.map (·.1)))[i]?.map fun k => TuP K [moF K k, rtP K (co Z k)]).getD (IsV .non)) fun i p v B1 hi e pv => ?_
    · rw [List.length_map, range_pick] at main
      have e9 : ((srtZ (kyF K).kd (Z.map (·.1))).filter fun k => decide (co Z k ≠ 0)).map (fun k => TuP K [moF K k, rtP K (co Z k)]) = (cf Z).map fun t => TuP K [moF K t.1, rtP K t.2] := by
        have h1 := keys_cf (kd := (kyF K).kd) (fun a b => rfl) nd
        rw [← h1, List.map_map]
        rfl
      rw [e9, cfe] at main
      exact My.ps_ret g5.c (p_tupOfF (p_lq main)) fun v B6 H6 g6 hp => k v B6 H6 (g5.trans g6) hp
    · rw [List.getElem?_map] at hi
      obtain ⟨m, hm, rfl⟩ := Option.map_eq_some_iff.mp hi
      have km : m ∈ Z.map (·.1) := (srtZ_perm _ _).mem_iff.mp (List.mem_of_getElem? hm)
      have hval : valG Z m = some (co Z m) := by
        have h1 := val_co nd m
        cases hv : valG Z m with
        | none =>
          have := val_no.mp hv
          rw [hasG_mem.mpr km] at this
          cases this
        | some f =>
          rw [hv] at h1
          rw [← h1]
          rfl
      have get : EvP (tDGetN P w K (tVar 3) (tVar 4)) [some v0, some v1, some v2, some (.ref d), some v, a5, a6, a7, a8, a9] B1 (rtP K (co Z m)) := p_getP (ky := kyF K) (vp := rtP K) rfl ((DcP P w (kyF K) _ _).m e hP) (p_var rfl pv) hval
      refine ⟨[some v0, some v1, some v2, some (.ref d), some v, a5, a6, a7, a8, a9], rfl, fun H2 Q e q => q, et_is (et_test (ev_op (ev_top get) (ev_c (v := .int 0)) (rv_ne rfl))) ?_, fun _ => ?_⟩
      · rw [hm]
        show (!decide (V.int (fr (co Z m)).1 = V.int 0)) = decide (co Z m ≠ 0)
        by_cases h : co Z m = 0
        · rw [h]
          rfl
        · have : (fr (co Z m)).1 ≠ 0 := fun e => h ((fr_num0 _).mp e)
          simp [h, this]
      · rw [hm]
        exact p_tup (K := K) (ps := [moF K m, rtP K (co Z m)]) (q_cons (p_var rfl pv) (q_cons get q_nil)) (by show 2 ≤ 100000; decide)

end
end K12
namespace Nd
set_option autoImplicit false
open PySem PySem.W L2 My Evl LamX NdefX
theorem sm1_of {D N : Nat} {r : Rat} (hD : 0 < D) (hD2 : D < 2 ^ 1000) (hN : N < 2 ^ 1000) (h : Wh D r ∧ ab D r ≤ N) : Sm1 r := by
  obtain ⟨s1, s2⟩ := ab_small hD h.1
  exact ⟨Nat.lt_of_le_of_lt (Nat.le_trans s1 h.2) hN, Nat.lt_of_le_of_lt s2 hD2⟩
end Nd
namespace K12
set_option autoImplicit false
open PySem PySem.W L2 Evl My Nd LamX NdefX
section
variable {P : Program} {w : World} {K : PySem.W.Frag} {mg : Str → Option Value} {base : Heap} {T : List (Addr × Str)}

end
end K12
namespace Nd
set_option autoImplicit false
open PySem PySem.W L2 My Evl LamX NdefX
theorem dg_cons (y : Dv × Int) (m : Mo) : dg (y :: m) = y.2.natAbs + dg m := by
  unfold dg
  rw [List.map_cons, List.sum_cons]
theorem dg_ins (k : Dv) (v : Int) : ∀ l : Mo, dg (ins k v l) ≤ v.natAbs + dg l
  | [] => by
    unfold ins
    split
    · exact Nat.zero_le _
    · exact Nat.le_refl _
  | y :: l => by
    unfold ins
    split
    · split
      · rw [dg_cons]
        omega
      · rw [dg_cons, dg_cons]
        show (y.2 + v).natAbs + dg l ≤ _
        omega
    · split
      · split
        · omega
        · rw [dg_cons]
          exact Nat.le_refl _
      · rw [dg_cons, dg_cons]
        have := dg_ins k v l
        omega
theorem dg_cf : ∀ l : Mo, dg (cf l) ≤ dg l
  | [] => Nat.le_refl _
  | y :: l => by
    show dg (ins y.1 y.2 (cf l)) ≤ _
    have h1 := dg_ins y.1 y.2 (cf l)
    have h2 := dg_cf l
    rw [dg_cons]
    omega
/-- the law's numbers -/
def NumOk (r : Rat) : Prop := r ≠ 0 ∧ Wh 6 r ∧ ab 6 r ≤ 30
theorem num_all : ∀ t ∈ [1, -1, 2, -2, 3, 1, (5 : Int)], ∀ b ∈ [1, 1, 1, 2, (3 : Int)], Rat.divInt t b ≠ 0 ∧ Rat.divInt t b * (((6 : Nat) : Int) : Rat) = ((t * (6 / b) : Int) : Rat) ∧ (t * (6 / b)).natAbs ≤ 30 := by decide +kernel
theorem num_ok {t b : Int} (ht : t ∈ [1, -1, 2, -2, 3, 1, (5 : Int)]) (hb : b ∈ [1, 1, 1, 2, (3 : Int)]) : NumOk (Rat.divInt t b) := by
  obtain ⟨h1, h2, h3⟩ := num_all t ht b hb
  exact ⟨h1, ⟨_, h2⟩, by rw [ab_of h2]; exact h3⟩
/-- the law's polynomials -/
structure LP (r : Rk) (n : Nat) (p : Pq) : Prop where
  c : PoC p
  of : ∀ t ∈ p, ∀ y ∈ t.1, y.1.Of r
  dg : ∀ t ∈ p, Nd.dg t.1 ≤ 3
  ln : p.length ≤ n
  lm : Lim 6 (30 * n) p
  o : ∀ t ∈ p, ∀ y ∈ t.1, y.1.i + y.1.j ≤ 4
def onesL (us : List Dv) : Mo := us.map fun u => (u, 1)
theorem dg_ones : ∀ us : List Dv, dg (onesL us) = us.length
  | [] => rfl
  | u :: us => by
    show dg ((u, 1) :: onesL us) = _
    rw [dg_cons, dg_ones us, List.length_cons]
    show (1 : Int).natAbs + _ = _
    omega
theorem co_ones (us : List Dv) (u : Dv) : 0 ≤ co (onesL us) u := co_nn (fun x hx => by
  obtain ⟨v, _, rfl⟩ := List.mem_map.mp hx
  exact (by decide : (0 : Int) ≤ 1)) u
theorem LP.add {r : Rk} {n : Nat} {p : Pq} (h : LP r n p) {us : List Dv} (hu : ∀ u ∈ us, Dv.Of u r ∧ u.i + u.j ≤ 4) (hl : us.length ≤ 3) {s : Rat} (hs : NumOk s) : LP r (n + 1) (addP p [(cf (onesL us), s)]) := by
  have one : PoC [(cf (onesL us), s)] := ⟨⟨List.pairwise_singleton _ _, fun z hz => by rw [List.mem_singleton.mp hz]; exact hs.1⟩, fun t ht => by rw [List.mem_singleton.mp ht]; exact moc_cf (co_ones us)⟩
  have key : ∀ t ∈ addP p [(cf (onesL us), s)], t.1 = cf (onesL us) ∨ ∃ z ∈ p, z.1 = t.1 := fun t ht => by
    have := cf_key ht
    rw [List.map_append, List.mem_append] at this
    rcases this with h1 | h1
    · obtain ⟨z, hz, e⟩ := List.mem_map.mp h1
      exact .inr ⟨z, hz, e⟩
    · exact .inl (List.mem_singleton.mp h1)
  refine ⟨poc_add h.c one, fun t ht y hy => ?_, fun t ht => ?_, Nat.le_trans (addP_len _ _) (Nat.add_le_add_right h.ln 1), ?_, fun t ht y hy => ?_⟩
  · rcases key t ht with e | ⟨z, hz, e⟩
    · rw [e] at hy
      have := cf_key hy
      obtain ⟨x, hx, e2⟩ := List.mem_map.mp this
      obtain ⟨u, hu', rfl⟩ := List.mem_map.mp hx
      rw [← e2]
      exact (hu u hu').1
    · exact h.of z hz y (e ▸ hy)
  · rcases key t ht with e | ⟨z, hz, e⟩
    · rw [e]
      have := dg_cf (onesL us)
      rw [dg_ones] at this
      omega
    · rw [← e]
      exact h.dg z hz
  · have l1 : Lim 6 30 [(cf (onesL us), s)] := ⟨fun t ht => by rw [List.mem_singleton.mp ht]; exact hs.2.1, by rw [wt_cons]; show ab 6 s + 0 ≤ 30; have := hs.2.2; omega⟩
    exact ((h.lm.app l1).cf).le (by omega)
  · rcases key t ht with e | ⟨z, hz, e⟩
    · rw [e] at hy
      have := cf_key hy
      obtain ⟨x, hx, e2⟩ := List.mem_map.mp this
      obtain ⟨u, hu', rfl⟩ := List.mem_map.mp hx
      rw [← e2]
      exact (hu u hu').2
    · exact h.o z hz y (e ▸ hy)
end Nd
namespace K12
set_option autoImplicit false
open PySem PySem.W L2 Evl My Nd LamX NdefX
section
variable {T : List (Addr × Str)} {d : Addr} {n m : Nat} {B H B1 H1 B2 H2 : Hp}
theorem GX.gd (g : GrD d B H B1 H1) : GX d B H B1 H1 := ⟨fun b o n e _ => g.s b o n e, g.b, fun x o _ hb hh _ => g.f x hb (by rw [hh]; exact fun z => nomatch z)⟩
theorem Kx.gd (k : Kx T d n B H) (g : GrD d B H B1 H1) (hd : DSt H1 d m) : Kx T d m B1 H1 := by
  have kk := k.sb g.s hd
  exact ⟨g.c, g.n k.nt, kk.t, g.d, hd⟩
theorem GX.lst {D : Addr} {o : HO} (g : GX d B H B1 H1) (hD : H D = none) : GX d B H B1 (upd H1 D o) := ⟨fun b u n e z => by
  by_cases h : b = D
  · subst h
    rw [hD] at e
    cases e
  · rw [upd_ne h]
    exact g.a b u n e z, g.b, g.f⟩
theorem x_pickI {K : PySem.W.Frag} {ks : List Int} {ta : TA} {σ : L2.St} {i : Nat} {z : Int} {Q : VK} (k : Kx T d n B H) (hl : EvPs ta σ B (ks.map fun i => IsV (.int i))) (hi : σ[i]? = some (some (.ref d))) (hz : z = (ks.length : Nat)) (h0 : 0 < ks.length) (h1 : ks.length < 1000) (hn : n ≤ 2 ^ 38)
    (q : ∀ (j : Nat) (hj : j < ks.length) B' H', Kx T d (n + 4) B' H' → GX d B H B' H' → Q (.int ks[j]) H') : tOp (rIxL K) (tLst ta) (tCall spDigit [] E0 (tCons (tVar i) (tCons (tC (.int z)) tNil))) σ H Q := by
  subst hz
  refine p_lst hl (by rw [List.length_map]; omega) H k.e _ fun v B1 H1 g hv => ?_
  refine x_digit (k.gr g) hi ev_c (by omega) (by omega) (by omega) fun m H2 m0 m1 k2 g2 => ?_
  obtain ⟨l, xs, rfl, hx, al⟩ := hv
  obtain ⟨j, p, w, hj, rfl, hp, hat, hw⟩ := pick al m0 (by rw [List.length_map]; exact m1)
  rw [List.getElem?_map] at hp
  obtain ⟨c, hc, rfl⟩ := Option.map_eq_some_iff.mp hp
  obtain ⟨hj2, rfl⟩ := List.getElem?_eq_some_iff.mp hc
  obtain rfl : w = _ := hw
  exact ⟨l, xs, _, _, rfl, rfl, sq_of (k2.e _ _ hx), hat, q j hj2 B1 H2 k2 ((GX.gr g).trans g2)⟩
end
section
variable {t u : TS} {D : Ends} {σ : L2.St} {H : Hp} {tc ta tb : TE} {tt : TT} {g : TG} {Q : VK}
theorem b_forD (h : tc σ H fun v H1 => ∃ j : Int, [v] = [V.int j] ∧ -(2 ^ 62) ≤ j ∧ j < 2 ^ 62 ∧ ∃ W : Nat → Nat → L2.St → Hp → Prop, (∃ m, W 0 m σ H1) ∧ ∀ i m σ H, W i m σ H →
      ((Itr 0 j.toNat).stop i H ∧ D.nx σ H) ∨ ((Itr 0 j.toNat).go i H ∧ ∃ N : L2.St → Hp → Prop, (∀ σ' H', N σ' H' → ∃ m', m' < m ∧ W (i + 1) m' σ' H') ∧ ∀ x H', (Itr 0 j.toNat).yld i H x H' → g x σ H' fun σ2 H2 => t { D with nx := N, ct := N, bk := D.nx } σ2 H2)) : tFor (iRng1 (tCons tc tNil)) g t D σ H := h
theorem b_if {b : Bool} {B : Hp} (h : EvT tt σ B b) (e : Ex B H) (h1 : b = true → ∀ H1, Ex H H1 → ta σ H1 Q) (h2 : b = false → ∀ H1, Ex H H1 → tb σ H1 Q) : tIf tt ta tb σ H Q := h H e _ fun H1 e1 => by
  cases b with
  | true => exact h1 rfl H1 e1
  | false => exact h2 rfl H1 e1
end
def spNum (K : PySem.W.Frag) (T : List (Addr × Str)) : Sp := fun vs H Q _ => ∃ (B : Hp) (d : Addr) (n : Nat), vs = [.ref d] ∧ Kx T d n B H ∧ n ≤ 2 ^ 36 ∧ ∀ (r : Rat) (v : V) (B' H' : Hp), NumOk r → Kx T d (n + 8) B' H' → GX d B H B' H' → (rtP K r).P v B' → Q v H'
section
variable {P : Program} {w : World} {K : PySem.W.Frag} {mg : Str → Option Value} {base : Heap} {T : List (Addr × Str)}

/-- _law_number -/
abbrev s_Lnumber : Stmt := topS 76
abbrev N_Lnumber : List Str := ["_law_state", "_law_top"]
theorem sc_Lnumber : FnScope N_Lnumber ["_law_state"] (defScope s_Lnumber) := ⟨rfl, rfl, rfl, by decide +kernel, rfl, by decide +kernel, by decide +kernel⟩
theorem ok_Lnumber {f : Addr} {fd : FuncData} (F : Fun K "_law_number" "_law_number" s_Lnumber f fd)  {f_Ldigit : Addr} {d_Ldigit : FuncData} (c_Ldigit : Cal P w K mg base "_law_digit" 2 ["_law_state", "_law_size"] spDigit f_Ldigit d_Ldigit) {f_Llowest : Addr} {d_Llowest : FuncData} (c_Llowest : Cal P w K mg base "_law_lowest" 1 ["_law_top", "_law_bottom"] (spP (Rlow2 K)) f_Llowest d_Llowest)   :
    FnOk P w K mg base CX0 3 f fd ["_law_state"] (spNum K T) := by
  refine F.ok sc_Lnumber (fun vs H Q E h => by obtain ⟨B, d, n, rfl, _⟩ := h; rfl) (fun cdv A outer s H vs Q E hr h => ?_)
  obtain ⟨B, d, n, rfl, k, hn, q⟩ := h
  have hu := hu_of hr
  refine ⟨_, (pss_cons (ps_set (i := 1) sc_Lnumber.nd rfl (by first | exact .inl rfl | exact .inr rfl) (pe_ix ix_list (pe_lst (pa_cons pe_int (pa_cons (pe_un un_neg pe_int) (pa_cons pe_int (pa_cons (pe_un un_neg pe_int) (pa_cons pe_int (pa_cons pe_int (pa_cons pe_int pa_nil)))))))) (pe_call c_Ldigit.G (hr.mono (by decide)) (by rfl) c_Ldigit.m c_Ldigit.k c_Ldigit.b .nil pass0 (pa_cons (pv 0) (pa_cons pe_int pa_nil))) (fun _ _ => rfl)))
    (pss_one (ps_ret (pe_call c_Llowest.G (hr.mono (by decide)) (by rfl) c_Llowest.m c_Llowest.k c_Llowest.b .nil pass0 (pa_cons (pv 1) (pa_cons (pe_ix ix_list (pe_lst (pa_cons pe_int (pa_cons pe_int (pa_cons pe_int (pa_cons pe_int (pa_cons pe_int pa_nil)))))) (pe_call c_Ldigit.G (hr.mono (by decide)) (by rfl) c_Ldigit.m c_Ldigit.k c_Ldigit.b .nil pass0 (pa_cons (pv 0) (pa_cons pe_int pa_nil))) (fun _ _ => rfl)) pa_nil)))))), ?_⟩
  refine x_pickI (K := K) (ks := [1, -1, 2, -2, 3, 1, 5]) k (q_cons p_c (q_cons (p_ev (ev_un ev_c ru_neg)) (q_cons p_c (q_cons (p_ev (ev_un ev_c ru_neg)) (q_cons p_c (q_cons p_c (q_cons p_c q_nil))))))) rfl rfl (by decide) (by decide) (by omega) fun j hj B1 H1 k1 g1 => ?_
  dsimp only [gName]
  refine ⟨_, rfl, ?_⟩
  refine x_pickI (K := K) (ks := [1, 1, 1, 2, 3]) k1 (q_cons p_c (q_cons p_c (q_cons p_c (q_cons p_c (q_cons p_c q_nil))))) rfl rfl (by decide) (by decide) (by omega) fun j2 hj2 B2 H2 k2 g2 => ?_
  have hb := List.getElem_mem hj2
  have hb0 : [1, 1, 1, 2, (3 : Int)][j2] ≠ 0 ∧ [1, 1, 1, 2, (3 : Int)][j2].natAbs < 2 ^ 4000 := by
    have : ∀ b ∈ [1, 1, 1, 2, (3 : Int)], b ≠ 0 ∧ b.natAbs ≤ 3 := by decide
    obtain ⟨h1, h2⟩ := this _ hb
    exact ⟨h1, Nat.lt_of_le_of_lt h2 (by decide +kernel)⟩
  refine ⟨B2, [IsV _, IsV _], _, k2.e, ⟨rfl, rfl, trivial⟩, ⟨_, _, hb0.1, hb0.2, rfl, rfl⟩, fun v B3 H3 g3 hv => ?_⟩
  exact q _ v B3 H3 (num_ok (List.getElem_mem hj) hb) (k2.gr g3) ((g1.trans g2).trans (GX.gr g3)) hv

end
end K12
namespace Nd
set_option autoImplicit false
open PySem PySem.W L2 My Evl LamX NdefX
def Rab (K : PySem.W.Frag) : List Pr → Pr → Prop := fun ps p => ∃ (r : Rk) (a b : Dv), r.Ok ∧ a.Of r ∧ b.Of r ∧ ps = [RkP K r, DvP a, DvP b] ∧ p = IsV (.bl (decide (r.lt b a)))
end Nd
namespace K12
set_option autoImplicit false
open PySem PySem.W L2 Evl My Nd LamX NdefX
section
variable {P : Program} {w : World} {K : PySem.W.Frag} {mg : Str → Option Value} {base : Heap} {T : List (Addr × Str)}

/-- _law_is_above -/
abbrev s_Lis_above : Stmt := topS 82
abbrev N_Lis_above : List Str := ["_law_by_here", "_law_a", "_law_b", "_law_sort", "_law_names_here", "_law_axes", "_law_places", "_law_k"]
theorem sc_Lis_above : FnScope N_Lis_above ["_law_by_here", "_law_a", "_law_b"] (defScope s_Lis_above) := ⟨rfl, rfl, rfl, by decide +kernel, rfl, by decide +kernel, by decide +kernel⟩
theorem ok_Lis_above {f : Addr} {fd : FuncData} (F : Fun K "_law_is_above" "_law_is_above" s_Lis_above f fd)     :
    FnOk P w K mg base CX0 1 f fd ["_law_by_here", "_law_a", "_law_b"] (spP (Rab K)) := by
  refine F.ok sc_Lis_above (spP_len (by rintro _ _ ⟨r, a, b, _, _, _, rfl, rfl⟩; rfl)) (fun cdv A outer s H vs Q E hr h => ?_)
  obtain ⟨B, ps, p, eB, hv, ⟨r, a, b, hok, ha, hb, rfl, rfl⟩, q⟩ := h
  obtain ⟨v0, v1, v2, rfl, h0, h1, h2⟩ := all3 hv
  have hu := hu_of hr
  refine ⟨_, (pss_cons (ps_asg (pv 0) (pg_tup (by rfl) (pgs_cons (pg_name (i := 3) sc_Lis_above.nd rfl (by first | exact .inl rfl | exact .inr rfl)) (pgs_cons (pg_name (i := 4) sc_Lis_above.nd rfl (by first | exact .inl rfl | exact .inr rfl)) (pgs_cons (pg_name (i := 5) sc_Lis_above.nd rfl (by first | exact .inl rfl | exact .inr rfl)) pgs_nil)))))
    (pss_cons (ps_par (i := 6) (j := 7) rfl sc_Lis_above.nd rfl rfl (by decide) rfl rfl (pa_cons (pe_tup (pa_cons (pe_tupIndex (pv 4) (pe_ix ix_tup (pv 1) pe_int (fun _ _ => rfl))) (pa_cons (pe_tupIndex (pv 4) (pe_ix ix_tup (pv 2) pe_int (fun _ _ => rfl))) pa_nil))) (pa_cons (pe_ifExp (pt_cmpR op_eq (pe_ix ix_tup (pv 5) pe_int (fun _ _ => rfl)) pe_str (nomark _)) pe_int pe_int) pa_nil)) (by rfl))
    (pss_cons (ps_if (PW.pt (pw_and (pt_cmpR op_eq (pv 3) pe_str (nomark _)) (pw_and1 (pt_cmpR op_ne (pe_ix ix_tup (pv 1) pe_int (fun _ _ => rfl)) (pe_ix ix_tup (pv 2) pe_int (fun _ _ => rfl)) (nomark _))))) (pss_one (ps_ret (pe_cmpR op_lt (pe_ix ix_tup (pv 6) pe_int (fun _ _ => rfl)) (pe_ix ix_tup (pv 6) pe_int (fun _ _ => rfl)) (nomark _)))) pss_nil)
    (pss_cons (ps_if (pt_cmpR op_ne (pe_op op_add (pe_ix ix_tup (pv 1) pe_int (fun _ _ => rfl)) (pe_ix ix_tup (pv 1) pe_int (fun _ _ => rfl))) (pe_op op_add (pe_ix ix_tup (pv 2) pe_int (fun _ _ => rfl)) (pe_ix ix_tup (pv 2) pe_int (fun _ _ => rfl))) (nomark _)) (pss_one (ps_ret (pe_cmpR op_gt (pe_op op_add (pe_ix ix_tup (pv 1) pe_int (fun _ _ => rfl)) (pe_ix ix_tup (pv 1) pe_int (fun _ _ => rfl))) (pe_op op_add (pe_ix ix_tup (pv 2) pe_int (fun _ _ => rfl)) (pe_ix ix_tup (pv 2) pe_int (fun _ _ => rfl))) (nomark _)))) pss_nil)
    (pss_one (ps_ret (pe_ifExp (pt_cmpR op_ne (pe_ix ix_tup (pv 1) (pv 7) (fun _ _ => rfl)) (pe_ix ix_tup (pv 2) (pv 7) (fun _ _ => rfl)) (nomark _)) (pe_cmpR op_gt (pe_ix ix_tup (pv 1) (pv 7) (fun _ _ => rfl)) (pe_ix ix_tup (pv 2) (pv 7) (fun _ _ => rfl)) (nomark _)) (pe_cmpR op_lt (pe_ix ix_tup (pv 6) pe_int (fun _ _ => rfl)) (pe_ix ix_tup (pv 6) pe_int (fun _ _ => rfl)) (nomark _))))))))), ?_⟩
  refine ps_unR (K := K) eB (p_var rfl h0) fun vn va B1 H1 g1 n2 n3 => ?_
  dsimp only
  have m1 := (DvP a).m g1.b h1
  have m2 := (DvP b).m g1.b h2
  let kI : Int := if r.ax = 2 then 2 else 1
  have at_ : ∀ u : Dv, atI [PyData.str u.n, .int u.i, .int u.j] kI = some (.int (r.first u)) := fun u => by
    show atI _ (if r.ax = 2 then 2 else 1) = _
    unfold Rk.first
    by_cases e : r.ax = 2
    · rw [if_pos e, if_pos e]; rfl
    · rw [if_neg e, if_neg e]; rfl
  have ix : ∀ {σ : L2.St} {B' : Hp} (i : Nat) {u : Dv} {x : V}, σ[i]? = some (some x) → (DvP u).P x B' → Ev (tOp (rIxT K) (tVar i) (tC (.int 0))) σ B' (.str u.n) ∧ Ev (tOp (rIxT K) (tVar i) (tC (.int 1))) σ B' (.int u.i) ∧ Ev (tOp (rIxT K) (tVar i) (tC (.int 2))) σ B' (.int u.j) ∧ (σ[7]? = some (some (.int kI)) → Ev (tOp (rIxT K) (tVar i) (tVar 7)) σ B' (.int (r.first u))) :=
    by
    intro σ B' i u x s h
    exact ⟨ev_st (K := K) (ed_ixT (ed_dv (p_var s h)) ev_c rfl), ev_in (K := K) (ed_ixT (ed_dv (p_var s h)) ev_c rfl), ev_in (K := K) (ed_ixT (ed_dv (p_var s h)) ev_c rfl), fun s7 => ev_in (K := K) (ed_ixT (ed_dv (p_var s h)) (ev_var s7) (at_ u))⟩
  refine ps_parX (i := 6) (j := 7) (p := TuP K [IsV (.int (r.ns.idxOf a.n : Nat)), IsV (.int (r.ns.idxOf b.n : Nat))]) (q := IsV (.int kI)) g1.c (q_cons (p_tup (ps := [IsV (.int (r.ns.idxOf a.n : Nat)), IsV (.int (r.ns.idxOf b.n : Nat))]) (q_cons (p_ev (ev_tupIx (p_var rfl n2) (ix 1 rfl m1).1 ha.n)) (q_cons (p_ev (ev_tupIx (p_var rfl n2) (ix 2 rfl m2).1 hb.n)) q_nil)) (by show 2 ≤ 100000; decide)) (q_cons (p_ev (ev_if (b := decide (r.ax ≠ 2)) (et_is (et_test (ev_op (ev_st (ed_ixT (ed_var rfl n3) ev_c (ax_first r))) ev_c (rv_eq rfl))) (ax_dec r)) (fun hb => ev_is ev_c (by show V.int 1 = V.int (if r.ax = 2 then 2 else 1); rw [if_neg (of_decide_eq_true hb)])) fun hb => ev_is ev_c (by show V.int 2 = V.int (if r.ax = 2 then 2 else 1); rw [if_pos (Decidable.not_not.mp (of_decide_eq_false hb))]))) q_nil)) fun w6 w7 B2 H2 g2 p6 p7 => ?_
  obtain rfl : w7 = .int kI := p7
  dsimp only
  have hab : decide (r.lt b a) = r.abv a b := (r.abv_lt ha.n hb.n).symm
  rw [hab] at q
  have l1 := (DvP a).m g2.b m1
  have l2 := (DvP b).m g2.b m2
  have pl : ∀ {σ : L2.St} {B' : Hp}, σ[6]? = some (some w6) → Ex B2 B' → Ev (tOp (rI0 fun i j => .bl (decide (i < j))) (tOp (rIxT K) (tVar 6) (tC (.int 0))) (tOp (rIxT K) (tVar 6) (tC (.int 1)))) σ B' (.bl (decide (((r.ns.idxOf a.n : Nat) : Int) < (r.ns.idxOf b.n : Nat)))) := by
    intro σ B' s e
    exact ev_op (ev_p (p_ixT (p_var s ((TuP K _).m e p6)) p_c rfl)) (ev_p (p_ixT (p_var s ((TuP K _).m e p6)) p_c rfl)) rv_I0
  have gg := g1.trans g2
  have c1 := et_and (et_is (et_test (ev_op (ev_var (i := 3) (σ := [some v0, some v1, some v2, some (.str r.srt), some vn, some va, some w6, some (.int kI)]) rfl) (ev_c (v := .str "names")) (rv_eq rfl))) (b := !r.tot) (by unfold Rk.srt; cases r.tot <;> decide +kernel)) fun _ => et_is (et_test (ev_op (ix 1 rfl l1).1 (ix 2 rfl l2).1 (rv_ne rfl))) (b := decide (a.n ≠ b.n)) (by by_cases e : a.n = b.n <;> simp [e])
  cases hc : (!r.tot && decide (a.n ≠ b.n)) with
  | true =>
    rw [hc] at c1
    refine My.ps_ifT g2.c c1 fun H3 e3 => ?_
    refine My.ps_ret (g2.c.trans e3) (p_ev (v := .bl (r.abv a b)) (ev_is (pl rfl (Ex.refl _)) ?_)) fun v B4 H4 g4 hp => q v B4 H4 ((gg.trans (Gr.wide g2.c e3)).trans g4) hp
    have hc2 : r.tot = false ∧ a.n ≠ b.n := by simpa using hc
    unfold Rk.abv
    rw [if_pos hc2]
    simp
  | false =>
    rw [hc] at c1
    refine ps_ifN g2.c c1 fun H3 e3 => ?_
    dsimp only
    have hc2 : ¬ (r.tot = false ∧ a.n ≠ b.n) := fun z => by simp [z.1, z.2] at hc
    have ex3 := g2.c.trans e3
    have c2 := et_is (et_test (ev_op (ev_op (ix 1 (σ := [some v0, some v1, some v2, some (.str r.srt), some vn, some va, some w6, some (.int kI)]) rfl l1).2.1 (ix 1 rfl l1).2.2.1 (rv_I0 (g := fun i j => .int (i + j)))) (ev_op (ix 2 rfl l2).2.1 (ix 2 rfl l2).2.2.1 (rv_I0 (g := fun i j => .int (i + j)))) (rv_ne rfl))) (b := decide (a.i + a.j ≠ b.i + b.j)) (by by_cases e : a.i + a.j = b.i + b.j <;> simp [e])
    by_cases h2 : a.i + a.j ≠ b.i + b.j
    · rw [decide_eq_true h2] at c2
      refine My.ps_ifT ex3 c2 fun H4 e4 => ?_
      refine My.ps_ret (ex3.trans e4) (p_ev (v := .bl (r.abv a b)) (ev_is (ev_op (ev_op (ix 1 rfl l1).2.1 (ix 1 rfl l1).2.2.1 (rv_I0 (g := fun i j => .int (i + j)))) (ev_op (ix 2 rfl l2).2.1 (ix 2 rfl l2).2.2.1 (rv_I0 (g := fun i j => .int (i + j)))) (rv_I0 (g := fun i j => .bl (decide (j < i))))) ?_)) fun v B4 H4 g4 hp => q v B4 H4 ((gg.trans (Gr.wide g2.c (e3.trans e4))).trans g4) hp
      unfold Rk.abv
      rw [if_neg hc2, if_pos h2]
    · rw [decide_eq_false h2] at c2
      refine ps_ifN ex3 c2 fun H4 e4 => ?_
      dsimp only
      refine My.ps_ret (ex3.trans e4) (p_ev (v := .bl (r.abv a b)) (ev_if (b := decide (r.first a ≠ r.first b)) (et_is (et_test (ev_op ((ix 1 rfl l1).2.2.2 rfl) ((ix 2 rfl l2).2.2.2 rfl) (rv_ne rfl))) (by by_cases e : r.first a = r.first b <;> simp [e])) (fun hb => ev_is (ev_op ((ix 1 rfl l1).2.2.2 rfl) ((ix 2 rfl l2).2.2.2 rfl) (rv_I0 (g := fun i j => .bl (decide (j < i))))) ?_) fun hb => ev_is (pl rfl (Ex.refl _)) ?_)) fun v B4 H4 g4 hp => q v B4 H4 ((gg.trans (Gr.wide g2.c (e3.trans e4))).trans g4) hp
      · unfold Rk.abv
        rw [if_neg hc2, if_neg h2, if_pos (of_decide_eq_true hb)]
      · unfold Rk.abv
        rw [if_neg hc2, if_neg h2, if_neg (of_decide_eq_false hb)]
        simp

end
end K12
namespace K12
set_option autoImplicit false
open PySem PySem.W L2 Evl My Nd LamX NdefX
/-- _law_kinds -/
abbrev s_Lkinds : Stmt := topS 86
abbrev N_Lkinds : List Str := ["_law_error", "_law_kinds_here", "_law_kind", "_law_holds"]
theorem sc_Lkinds : FnScope N_Lkinds ["_law_error"] (defScope s_Lkinds) := ⟨rfl, rfl, rfl, by decide +kernel, rfl, by decide +kernel, by decide +kernel⟩
section
variable {P : Program} {w : World} {K : PySem.W.Frag} {mg : Str → Option Value} {base : Heap} {T : List (Addr × Str)}
theorem ok_Lkinds {f : Addr} {fd : FuncData} {cx : Nat → Addr} (F : Fun K "_law_kinds" "_law_kinds" s_Lkinds f fd) (T : XT K mg cx) : FnOk P w K mg base CX0 1 f fd ["_law_error"] (spKinds cx) := by
  refine F.ok sc_Lkinds (fun vs H Q E h => ?_) (fun cdv A outer s H vs Q E hr h => ?_)
  · obtain ⟨i, v, B, _, rfl, _⟩ := h
    rfl
  · obtain ⟨i, v, B, hi, rfl, eB, hv, q⟩ := h
    have hu := hu_of hr
    refine ⟨_, (pss_cons (ps_set (i := 1) sc_Lkinds.nd rfl (by first | exact .inl rfl | exact .inr rfl) (pe_lst (pa_cons (pe_tup (pa_cons pe_str (pa_cons (pe_callB call_xis (by rfl) T.n_isinstance (by decide +kernel) (pa_cons (pv 0) (pa_cons (pe_globR (by rfl) T.g_BadRow) pa_nil))) pa_nil))) (pa_cons (pe_tup (pa_cons pe_str (pa_cons (pe_callB call_xis (by rfl) T.n_isinstance (by decide +kernel) (pa_cons (pv 0) (pa_cons (pe_globR (by rfl) T.g_BadPolynomial) pa_nil))) pa_nil))) pa_nil))))
    (pss_cons (ps_set (i := 1) sc_Lkinds.nd rfl (by first | exact .inl rfl | exact .inr rfl) (pe_op op_cat (pv 1) (pe_lst (pa_cons (pe_tup (pa_cons pe_str (pa_cons (pe_callB call_xis (by rfl) T.n_isinstance (by decide +kernel) (pa_cons (pv 0) (pa_cons (pe_globR (by rfl) T.g_BadRanking) pa_nil))) pa_nil))) (pa_cons (pe_tup (pa_cons pe_str (pa_cons (pe_callB call_xis (by rfl) T.n_isinstance (by decide +kernel) (pa_cons (pv 0) (pa_cons (pe_globR (by rfl) T.g_BadChain) pa_nil))) pa_nil))) pa_nil)))))
    (pss_cons (ps_set (i := 1) sc_Lkinds.nd rfl (by first | exact .inl rfl | exact .inr rfl) (pe_op op_cat (pv 1) (pe_lst (pa_cons (pe_tup (pa_cons pe_str (pa_cons (pe_callB call_xis (by rfl) T.n_isinstance (by decide +kernel) (pa_cons (pv 0) (pa_cons (pe_globR (by rfl) T.g_BadData) pa_nil))) pa_nil))) (pa_cons (pe_tup (pa_cons pe_str (pa_cons (pe_callB call_xis (by rfl) T.n_isinstance (by decide +kernel) (pa_cons (pv 0) (pa_cons (pe_globR (by rfl) T.g_BadJet) pa_nil))) pa_nil))) pa_nil)))))
    (pss_cons (ps_set (i := 1) sc_Lkinds.nd rfl (by first | exact .inl rfl | exact .inr rfl) (pe_op op_cat (pv 1) (pe_lst (pa_cons (pe_tup (pa_cons pe_str (pa_cons (pe_callB call_xis (by rfl) T.n_isinstance (by decide +kernel) (pa_cons (pv 0) (pa_cons (pe_globR (by rfl) T.g_BadPaper) pa_nil))) pa_nil))) (pa_cons (pe_tup (pa_cons pe_str (pa_cons (pe_callB call_xis (by rfl) T.n_isinstance (by decide +kernel) (pa_cons (pv 0) (pa_cons (pe_globR (by rfl) T.g_Twice) pa_nil))) pa_nil))) pa_nil)))))
    (pss_cons (ps_set (i := 1) sc_Lkinds.nd rfl (by first | exact .inl rfl | exact .inr rfl) (pe_op op_cat (pv 1) (pe_lst (pa_cons (pe_tup (pa_cons pe_str (pa_cons (pe_callB call_xis (by rfl) T.n_isinstance (by decide +kernel) (pa_cons (pv 0) (pa_cons (pe_globR (by rfl) T.g_OutOfPlace) pa_nil))) pa_nil))) (pa_cons (pe_tup (pa_cons pe_str (pa_cons (pe_callB call_xis (by rfl) T.n_isinstance (by decide +kernel) (pa_cons (pv 0) (pa_cons (pe_globR (by rfl) T.g_TooGreat) pa_nil))) pa_nil))) pa_nil)))))
    (pss_cons (ps_set (i := 1) sc_Lkinds.nd rfl (by first | exact .inl rfl | exact .inr rfl) (pe_op op_cat (pv 1) (pe_lst (pa_cons (pe_tup (pa_cons pe_str (pa_cons (pe_callB call_xis (by rfl) T.n_isinstance (by decide +kernel) (pa_cons (pv 0) (pa_cons (pe_globR (by rfl) T.g_NoUnknown) pa_nil))) pa_nil))) (pa_cons (pe_tup (pa_cons pe_str (pa_cons (pe_callB call_xis (by rfl) T.n_isinstance (by decide +kernel) (pa_cons (pv 0) (pa_cons (pe_globR (by rfl) T.g_NoEquation) pa_nil))) pa_nil))) pa_nil)))))
    (pss_cons (ps_set (i := 1) sc_Lkinds.nd rfl (by first | exact .inl rfl | exact .inr rfl) (pe_op op_cat (pv 1) (pe_lst (pa_cons (pe_tup (pa_cons pe_str (pa_cons (pe_callB call_xis (by rfl) T.n_isinstance (by decide +kernel) (pa_cons (pv 0) (pa_cons (pe_globR (by rfl) T.g_NoCase) pa_nil))) pa_nil))) (pa_cons (pe_tup (pa_cons pe_str (pa_cons (pe_callB call_xis (by rfl) T.n_isinstance (by decide +kernel) (pa_cons (pv 0) (pa_cons (pe_globR (by rfl) T.g_Nothing) pa_nil))) pa_nil))) pa_nil)))))
    (pss_cons (ps_set (i := 1) sc_Lkinds.nd rfl (by first | exact .inl rfl | exact .inr rfl) (pe_op op_cat (pv 1) (pe_lst (pa_cons (pe_tup (pa_cons pe_str (pa_cons (pe_callB call_xis (by rfl) T.n_isinstance (by decide +kernel) (pa_cons (pv 0) (pa_cons (pe_globR (by rfl) T.g_Contradicted) pa_nil))) pa_nil))) (pa_cons (pe_tup (pa_cons pe_str (pa_cons (pe_callB call_xis (by rfl) T.n_isinstance (by decide +kernel) (pa_cons (pv 0) (pa_cons (pe_globR (by rfl) T.g_Knotted) pa_nil))) pa_nil))) pa_nil)))))
    (pss_cons (ps_set (i := 1) sc_Lkinds.nd rfl (by first | exact .inl rfl | exact .inr rfl) (pe_op op_cat (pv 1) (pe_lst (pa_cons (pe_tup (pa_cons pe_str (pa_cons (pe_callB call_xis (by rfl) T.n_isinstance (by decide +kernel) (pa_cons (pv 0) (pa_cons (pe_globR (by rfl) T.g_ChainError) pa_nil))) pa_nil))) (pa_cons (pe_tup (pa_cons pe_str (pa_cons (pe_callB call_xis (by rfl) T.n_isinstance (by decide +kernel) (pa_cons (pv 0) (pa_cons (pe_bltn (v := .ty "ValueError") (by rfl) T.n_ValueError (by decide +kernel) rfl) pa_nil))) pa_nil))) pa_nil)))))
    (pss_cons (ps_set (i := 1) sc_Lkinds.nd rfl (by first | exact .inl rfl | exact .inr rfl) (pe_op op_cat (pv 1) (pe_lst (pa_cons (pe_tup (pa_cons pe_str (pa_cons (pe_callB call_xis (by rfl) T.n_isinstance (by decide +kernel) (pa_cons (pv 0) (pa_cons (pe_globR (by rfl) T.g_MissError) pa_nil))) pa_nil))) (pa_cons (pe_tup (pa_cons pe_str (pa_cons (pe_callB call_xis (by rfl) T.n_isinstance (by decide +kernel) (pa_cons (pv 0) (pa_cons (pe_bltn (v := .ty "LookupError") (by rfl) T.n_LookupError (by decide +kernel) rfl) pa_nil))) pa_nil))) pa_nil)))))
    (pss_cons (ps_set (i := 1) sc_Lkinds.nd rfl (by first | exact .inl rfl | exact .inr rfl) (pe_op op_cat (pv 1) (pe_lst (pa_cons (pe_tup (pa_cons pe_str (pa_cons (pe_callB call_xis (by rfl) T.n_isinstance (by decide +kernel) (pa_cons (pv 0) (pa_cons (pe_globR (by rfl) T.g_CaseError) pa_nil))) pa_nil))) (pa_cons (pe_tup (pa_cons pe_str (pa_cons (pe_callB call_xis (by rfl) T.n_isinstance (by decide +kernel) (pa_cons (pv 0) (pa_cons (pe_bltn (v := .ty "RuntimeError") (by rfl) T.n_RuntimeError (by decide +kernel) rfl) pa_nil))) pa_nil))) pa_nil)))))
    (pss_one (ps_ret (pe_lc (own := [("_law_kind", 2), ("_law_holds", 3)]) (g := (gTup K 2 (gCons (gName 2) (gCons (gName 3) gNil)))) rfl sc_Lkinds.nd (pi_list (pv 1)) (blkOk_by (N := N_Lkinds) (sc := defScope s_Lkinds) (by decide +kernel)) (fun _ _ _ _ _ => (pg_tup (by rfl) (pgs_cons (pg_name (i := 2) sc_Lkinds.nd rfl (Or.inl rfl)) (pgs_cons (pg_name (i := 3) sc_Lkinds.nd rfl (Or.inl rfl)) pgs_nil)))) (fun _ _ _ _ _ => (pts_one (pt_val (pv 3)))) (fun _ _ _ _ _ => (pv 2)))))))))))))))), ?_⟩
    refine My.ps_asgN (fun z => [some v, some z, none, none]) eB (p_lst (q_cons (p_pair (c := .ref (cx 0)) T hi 0 (by decide) rfl hv (fun u r => r)) (q_cons (p_pair (c := .ref (cx 1)) T hi 1 (by decide) rfl hv (fun u r => r)) q_nil)) (by show 2 ≤ 100000; decide)) fun v0 B0 H0 g0 h0 => ?_
    have hv := (XK (cx i)).m g0.b hv
    refine My.ps_asgN (fun z => [some v, some z, none, none]) g0.c (p_cat (p_var rfl h0) (p_lst (q_cons (p_pair (c := .ref (cx 2)) T hi 2 (by decide) rfl hv (fun u r => r)) (q_cons (p_pair (c := .ref (cx 3)) T hi 3 (by decide) rfl hv (fun u r => r)) q_nil)) (by show 2 ≤ 100000; decide)) (by show 2 + 2 ≤ 100000; decide)) fun v1 B1 H1 k1 h1 => ?_
    have g1 := g0.trans k1
    have hv := (XK (cx i)).m k1.b hv
    refine My.ps_asgN (fun z => [some v, some z, none, none]) g1.c (p_cat (p_var rfl h1) (p_lst (q_cons (p_pair (c := .ref (cx 4)) T hi 4 (by decide) rfl hv (fun u r => r)) (q_cons (p_pair (c := .ref (cx 5)) T hi 5 (by decide) rfl hv (fun u r => r)) q_nil)) (by show 2 ≤ 100000; decide)) (by show 4 + 2 ≤ 100000; decide)) fun v2 B2 H2 k2 h2 => ?_
    have g2 := g1.trans k2
    have hv := (XK (cx i)).m k2.b hv
    refine My.ps_asgN (fun z => [some v, some z, none, none]) g2.c (p_cat (p_var rfl h2) (p_lst (q_cons (p_pair (c := .ref (cx 6)) T hi 6 (by decide) rfl hv (fun u r => r)) (q_cons (p_pair (c := .ref (cx 12)) T hi 7 (by decide) rfl hv (fun u r => r)) q_nil)) (by show 2 ≤ 100000; decide)) (by show 6 + 2 ≤ 100000; decide)) fun v3 B3 H3 k3 h3 => ?_
    have g3 := g2.trans k3
    have hv := (XK (cx i)).m k3.b hv
    refine My.ps_asgN (fun z => [some v, some z, none, none]) g3.c (p_cat (p_var rfl h3) (p_lst (q_cons (p_pair (c := .ref (cx 13)) T hi 8 (by decide) rfl hv (fun u r => r)) (q_cons (p_pair (c := .ref (cx 14)) T hi 9 (by decide) rfl hv (fun u r => r)) q_nil)) (by show 2 ≤ 100000; decide)) (by show 8 + 2 ≤ 100000; decide)) fun v4 B4 H4 k4 h4 => ?_
    have g4 := g3.trans k4
    have hv := (XK (cx i)).m k4.b hv
    refine My.ps_asgN (fun z => [some v, some z, none, none]) g4.c (p_cat (p_var rfl h4) (p_lst (q_cons (p_pair (c := .ref (cx 7)) T hi 10 (by decide) rfl hv (fun u r => r)) (q_cons (p_pair (c := .ref (cx 8)) T hi 11 (by decide) rfl hv (fun u r => r)) q_nil)) (by show 2 ≤ 100000; decide)) (by show 10 + 2 ≤ 100000; decide)) fun v5 B5 H5 k5 h5 => ?_
    have g5 := g4.trans k5
    have hv := (XK (cx i)).m k5.b hv
    refine My.ps_asgN (fun z => [some v, some z, none, none]) g5.c (p_cat (p_var rfl h5) (p_lst (q_cons (p_pair (c := .ref (cx 9)) T hi 12 (by decide) rfl hv (fun u r => r)) (q_cons (p_pair (c := .ref (cx 15)) T hi 13 (by decide) rfl hv (fun u r => r)) q_nil)) (by show 2 ≤ 100000; decide)) (by show 12 + 2 ≤ 100000; decide)) fun v6 B6 H6 k6 h6 => ?_
    have g6 := g5.trans k6
    have hv := (XK (cx i)).m k6.b hv
    refine My.ps_asgN (fun z => [some v, some z, none, none]) g6.c (p_cat (p_var rfl h6) (p_lst (q_cons (p_pair (c := .ref (cx 10)) T hi 14 (by decide) rfl hv (fun u r => r)) (q_cons (p_pair (c := .ref (cx 11)) T hi 15 (by decide) rfl hv (fun u r => r)) q_nil)) (by show 2 ≤ 100000; decide)) (by show 14 + 2 ≤ 100000; decide)) fun v7 B7 H7 k7 h7 => ?_
    have g7 := g6.trans k7
    have hv := (XK (cx i)).m k7.b hv
    refine My.ps_asgN (fun z => [some v, some z, none, none]) g7.c (p_cat (p_var rfl h7) (p_lst (q_cons (p_pair (c := .ref (cx 16)) T hi 16 (by decide) rfl hv (fun u r => r)) (q_cons (p_pair (c := .ty "ValueError") T hi 17 (by decide) rfl hv (fun u r => r)) q_nil)) (by show 2 ≤ 100000; decide)) (by show 16 + 2 ≤ 100000; decide)) fun v8 B8 H8 k8 h8 => ?_
    have g8 := g7.trans k8
    have hv := (XK (cx i)).m k8.b hv
    refine My.ps_asgN (fun z => [some v, some z, none, none]) g8.c (p_cat (p_var rfl h8) (p_lst (q_cons (p_pair (c := .ref (cx 17)) T hi 18 (by decide) rfl hv (fun u r => r)) (q_cons (p_pair (c := .ty "LookupError") T hi 19 (by decide) rfl hv (fun u r => r)) q_nil)) (by show 2 ≤ 100000; decide)) (by show 18 + 2 ≤ 100000; decide)) fun v9 B9 H9 k9 h9 => ?_
    have g9 := g8.trans k9
    have hv := (XK (cx i)).m k9.b hv
    refine My.ps_asgN (fun z => [some v, some z, none, none]) g9.c (p_cat (p_var rfl h9) (p_lst (q_cons (p_pair (c := .ref (cx 18)) T hi 20 (by decide) rfl hv (fun u r => r)) (q_cons (p_pair (c := .ty "RuntimeError") T hi 21 (by decide) rfl hv (fun u r => r)) q_nil)) (by show 2 ≤ 100000; decide)) (by show 20 + 2 ≤ 100000; decide)) fun v10 B10 H10 k10 h10 => ?_
    have g10 := g9.trans k10
    have hv := (XK (cx i)).m k10.b hv
    have hq : (LsP ((List.range 22).map (prPair K i))).P v10 B10 := h10
    refine My.ps_ret g10.c (p_lc (p_var rfl (lq_ls hq)) (by simp) (fun j => (kb i).getD j false) (fun j => IsV (.str (nmOf.getD j Str.empty))) ?_) fun u B' H' g h => ?_
    · rintro j p x B1 hj e1 hp
      have hj' : j < 22 := by
        have := (List.getElem?_eq_some_iff.mp hj).1
        simpa using this
      obtain rfl : p = prPair K i j := by
        rw [List.getElem?_map, List.getElem?_range hj'] at hj
        exact (Option.some.inj hj).symm
      obtain ⟨r, ys, rfl, hr, hys⟩ := hp
      match ys, hys with
      | [y, z], ⟨hy, hz, _⟩ =>
        obtain rfl : y = _ := hy
        obtain rfl : z = _ := hz
        refine ⟨_, ?_, fun H2 Q eH hQ => ⟨r, _, rfl, ex_t eH hr, rfl, _, _, rfl, _, _, rfl, rfl, hQ⟩, ?_, fun _ => p_ev (ev_var ?_)⟩
        · rfl
        · exact et_B (ev_var rfl)
        · rfl
    · refine q u B' H' (g10.trans g) ?_
      have e : (txts (kinds i)) = LsP (((List.range ((List.range 22).map (prPair K i)).length).filter fun j => (kb i).getD j false).map fun j => IsV (.str (nmOf.getD j Str.empty))) := by
        unfold txts kinds
        rw [List.map_map, List.length_map, List.length_range]
        rfl
      rw [e]
      exact h
end

/-- _law_told -/
abbrev s_Ltold : Stmt := topS 87
abbrev N_Ltold : List Str := ["_law_deed", "_law_wrong", "_law_told_here", "e", "_law_kinds_here"]
theorem sc_Ltold : FnScope N_Ltold ["_law_deed"] (defScope s_Ltold) := ⟨rfl, rfl, rfl, by decide +kernel, rfl, by decide +kernel, by decide +kernel⟩
theorem giv_told {X : Cx} {g : Addr} {cdg : Value} {q : Str} {cx : Nat → Addr} {k : Nat} {f_Lkinds : Addr} {d_Lkinds : FuncData} (Tx : XT X.K X.mg cx) (hx : ∀ i, i < 16 → (kb i).getD 16 false = true → PySem.W.exmOne X.K (.ref (cx i)) (.ref (cx 16)) = some true)
    (c_Lkinds : Cal X.prog X.w X.K X.mg X.base "_law_kinds" 1 ["_law_error"] (spKinds cx) f_Lkinds d_Lkinds) (hr0 : Room 3 X.A) :
    GivesTo X N_Ltold "_law_told" (defScope s_Ltold) g cdg (defBody s_Ltold) "_law_deed" q (TTold cx) := by
  intro f c' s H Q tl act hc h
  have hr := hr0.deeper (PyProof.Rows.envOfC "_law_told" (defScope s_Ltold) s.heap.objs.size g cdg)
  refine ⟨_, (pss_cons (ps_asg (pe_tup (pa_cons pe_non (pa_cons pe_non pa_nil))) (pg_tup (by rfl) (pgs_cons (pg_name (i := 1) sc_Ltold.nd rfl (.inl rfl)) (pgs_cons (pg_name (i := 2) sc_Ltold.nd rfl (.inl rfl)) pgs_nil))))
    (pss_cons (ps_try_keep (i := 3) (j := 1) (c := .ref (cx 16)) (tb := fun W D σ H => ∃ Ech : XK, (∀ cls d σ' H', Ech cls d H' → W cls d σ' H') ∧ σ[0]? = some (some (.ref f)) ∧ H c' = some (CodeO c' q) ∧ tl Ech H fun v H1 => D.nx (σ.set 2 (some v)) H1) (Wout := fun _ _ _ _ => False)
      rfl rfl rfl sc_Ltold.nd rfl rfl rfl rfl ⟨rfl, by decide, .inl Tx.g_ChainError⟩ L2.takes0 (fun σ h => by obtain ⟨_, _, _, _, _, rfl⟩ := five h; rfl) (by decide) (by decide) (by rfl) (fun W pn xe tk _ => pss_one ⟨fun pins s' σ H' D I h' => by
        obtain ⟨Ech, hW, h1, h2, h3⟩ := h'
        exact (ps_set (i := 2) sc_Ltold.nd rfl (.inl rfl) (act W pn xe Ech _ _ tk hW)).run pins s' σ H' D I ⟨h1, h2, h3⟩⟩))
    (pss_cons (ps_if (pt_cmpR op_isN (pv 1) pe_non (nomark _)) (pss_one (ps_ret (pv 2))) pss_nil)
    (pss_cons (ps_set (i := 4) sc_Ltold.nd rfl (by first | exact .inl rfl | exact .inr rfl) (pe_call c_Lkinds.G (hr.mono (by decide)) (by rfl) c_Lkinds.m c_Lkinds.k c_Lkinds.b .nil pass0 (pa_cons (pv 1) pa_nil)))
    (pss_cons (ps_if (pt_cmpR (op_eqD hr.units) (pv 4) (pe_lst (pa_cons pe_str (pa_cons pe_str (pa_cons pe_str pa_nil)))) (nomark _)) (pss_one (ps_ret (pe_lst (pa_cons pe_str (pa_cons (pe_xat (bmB := bmI 2) (newId := nwI 2) (pv 1)) pa_nil))))) pss_nil)
    (pss_cons (ps_if (pt_cmpR (op_eqD hr.units) (pv 4) (pe_lst (pa_cons pe_str (pa_cons pe_str (pa_cons pe_str pa_nil)))) (nomark _)) (pss_one (ps_ret (pe_lst (pa_cons pe_str (pa_cons (pe_xat (bmB := bmI 3) (newId := nwI 3) (pv 1)) pa_nil))))) pss_nil)
    (pss_one (ps_ret (pe_ifExp (pt_cmpR (op_eqD hr.units) (pv 4) (pe_lst (pa_cons pe_str (pa_cons pe_str (pa_cons pe_str pa_nil)))) (nomark _)) (pe_lst (pa_cons pe_str (pa_cons (pe_xat (bmB := bmI 1) (newId := nwI 1) (pv 1)) pa_nil))) (pe_lst (pa_cons (pv 4) pa_nil))))))))))), ?_⟩
  refine ps_un2 (K := X.K) (p := IsV .non) (q := IsV .non) (Ex.refl H) (p_tup (q_cons (p_c (v := .non)) (q_cons (p_c (v := .non)) q_nil)) (by show 2 ≤ 100000; decide)) fun v w B1 H1 g1 h1 h2 => ?_
  obtain rfl : v = .non := h1
  obtain rfl : w = .non := h2
  dsimp only
  refine ⟨EchT cx Q, fun cls d σ2 H2 hE => ?_, rfl, g1.a _ _ hc, h H1 g1.a _ fun v H2 hq => ?_⟩
  · obtain ⟨i, fs, B2, hi, hk, rfl, eB, hd, hf, hq⟩ := hE
    refine ⟨true, hx i hi hk, fun _ => ⟨cx i, rfl, fun hl a na => ?_⟩, fun z => nomatch z⟩
    obtain ⟨s0, s1, s2, s3, s4, rfl⟩ := five hl
    obtain ⟨B5, g5, h5⟩ := exc_grow (C := cx i) eB na hd
    obtain ⟨q2, q3, q1, sh⟩ := told_eq i hi
    dsimp only
    refine ps_ifN g5.c (et_is (et_test (ev_isN0 (ev_var (i := 1) rfl))) rfl) fun H6 e6 => ?_
    dsimp only
    refine My.ps_asgN (fun x => [s0, some (.ref a), s2, none, some x]) (g5.c.trans e6) (p_call (p := txts (kinds i)) (q_cons (p_var (p := XK (cx i)) rfl (exc_k h5)) q_nil) fun vs B7 H7 Q7 E7 e7 al k7 => ?_) (fun x B8 H8 g8 hx8 => ?_) (fun _ => rfl)
    · obtain ⟨v7, rfl, hv7⟩ := all1 al
      exact ⟨i, v7, B7, hi, rfl, e7, hv7, k7⟩
    · have gg := (g5.trans (Gr.wide g5.c e6)).trans g8
      have h8 := (excP (cx i) fs).m g8.b h5
      dsimp only
      have kd : ∀ {σ : L2.St}, σ[4]? = some (some x) → EvP (tVar 4) σ B8 (IsD X.K (.list ((kinds i).map .str))) := fun s => p_to (p_var s hx8) (to_lst (toAll_map _ fun _ => to_str))
      have lit : ∀ {σ : L2.St} (a b c : Str), EvP (tLst (tCons (tC (.str a)) (tCons (tC (.str b)) (tCons (tC (.str c)) tNil)))) σ B8 (IsD X.K (.list [.str a, .str b, .str c])) := fun a b c => p_to (p_lst (ps := [IsV (.str a), IsV (.str b), IsV (.str c)]) (q_cons p_c (q_cons p_c (q_cons p_c q_nil))) (by show 3 ≤ 100000; decide)) (to_lst (.cons to_str (.cons to_str (.cons to_str .nil))))
      have c2 := et_test (ev_eqD (K := X.K) (kd (σ := [s0, some (.ref a), s2, none, some x]) rfl) (lit "ranking" "ours" "value") sh (by decide +kernel))
      rw [q2] at c2
      by_cases i2 : i = 2
      · subst i2
        refine My.ps_ifT g8.c (et_is c2 rfl) fun H9 e9 => ?_
        obtain ⟨p, rfl⟩ := hf "place" rfl
        refine My.ps_ret (g8.c.trans e9) (p_lst (ps := [IsV (.str "ranking"), p]) (q_cons p_c (q_cons (p_xat (Tx.xc 2 (by decide)) Tx.f_2_place (p_var (p := XF (cx 2) [("place", p)]) rfl h8) rfl) q_nil)) (by show 2 ≤ 100000; decide)) fun v10 B10 H10 g10 hv10 => ?_
        exact hq v10 B10 H10 ((gg.trans (Gr.wide g8.c e9)).trans g10) hv10
      · refine ps_ifN g8.c (et_is c2 (decide_eq_false i2)) fun H9 e9 => ?_
        dsimp only
        have c3 := et_test (ev_eqD (K := X.K) (kd (σ := [s0, some (.ref a), s2, none, some x]) rfl) (lit "chain" "ours" "value") sh (by decide +kernel))
        rw [q3] at c3
        by_cases i3 : i = 3
        · subst i3
          refine My.ps_ifT (g8.c.trans e9) (et_is c3 rfl) fun H10 e10 => ?_
          obtain ⟨p, rfl⟩ := hf "place" rfl
          refine My.ps_ret ((g8.c.trans e9).trans e10) (p_lst (ps := [IsV (.str "chain"), p]) (q_cons p_c (q_cons (p_xat (Tx.xc 3 (by decide)) Tx.f_3_place (p_var (p := XF (cx 3) [("place", p)]) rfl h8) rfl) q_nil)) (by show 2 ≤ 100000; decide)) fun v10 B10 H11 g10 hv10 => ?_
          exact hq v10 B10 H11 ((gg.trans (Gr.wide g8.c (e9.trans e10))).trans g10) hv10
        · refine ps_ifN (g8.c.trans e9) (et_is c3 (decide_eq_false i3)) fun H10 e10 => ?_
          dsimp only
          have c1 := et_test (ev_eqD (K := X.K) (kd (σ := [s0, some (.ref a), s2, none, some x]) rfl) (lit "polynomial" "ours" "value") sh (by decide +kernel))
          rw [q1] at c1
          refine My.ps_ret ((g8.c.trans e9).trans e10) (p := toldP i fs) (ed_if c1 (fun hb => ?_) fun hb => ?_) fun v10 B10 H11 g10 hv10 => hq v10 B10 H11 ((gg.trans (Gr.wide g8.c (e9.trans e10))).trans g10) hv10
          · obtain rfl : i = 1 := of_decide_eq_true hb
            obtain ⟨p, rfl⟩ := hf "number" rfl
            exact p_lst (ps := [IsV (.str "polynomial"), p]) (q_cons p_c (q_cons (p_xat (Tx.xc 1 (by decide)) Tx.f_1_number (p_var (p := XF (cx 1) [("number", p)]) rfl h8) rfl) q_nil)) (by show 2 ≤ 100000; decide)
          · rw [toldP_no (fld_no i hi (of_decide_eq_false hb) i2 i3)]
            exact p_lst (ps := [txts (kinds i)]) (q_cons (p_var rfl hx8) q_nil) (by show 1 ≤ 100000; decide)
  · dsimp only
    exact ⟨.non, rfl, rfl, true, rfl, v, rfl, hq⟩

end K12
namespace Nd
set_option autoImplicit false
open PySem PySem.W L2 My Evl LamX
theorem fitsB_of {r : Rk} {u : Dv} (h : r.Ok) (k : u.Of r) : fitsB r u.D = true := by
  unfold fitsB
  rw [of_B h k, dvOf_D]
  unfold Rk.stB
  rw [decide_eq_true k.n]
  rcases k.y with e | e
  · simp [e]
  · simp [e]
theorem smd_mo {m : Mo} (h : ∀ x ∈ m, x.1.n.length ≤ 100000) : smB (moD m) = true := smd_of fun x hx => by
  obtain ⟨y, hy, rfl⟩ := List.mem_map.mp hx
  refine smd_of fun z hz => ?_
  rcases List.mem_cons.mp hz with rfl | hz
  · exact smd_dv (h y hy)
  · obtain rfl := List.mem_singleton.mp hz
    exact smd_int
theorem smd_po {c : Po} (h : ∀ t ∈ c, ∀ x ∈ t.1, x.1.n.length ≤ 100000) : smB (poD c) = true := smd_of fun x hx => by
  obtain ⟨t, ht, rfl⟩ := List.mem_map.mp hx
  refine smd_of fun z hz => ?_
  rcases List.mem_cons.mp hz with rfl | hz
  · exact smd_mo (h t ht)
  · obtain rfl := List.mem_singleton.mp hz
    refine smd_of fun z hz => ?_
    rcases List.mem_cons.mp hz with rfl | hz
    · exact smd_int
    · obtain rfl := List.mem_singleton.mp hz
      exact smd_int
theorem of_len {r : Rk} {u : Dv} (h : r.Ok) (k : u.Of r) : u.n.length ≤ 100000 := by
  have := (nm_facts (h.nm _ k.n)).2.1
  omega
theorem stB_all {r : Rk} {c : Po} (h : ∀ u ∈ dvs c, u.Of r) : (dvsIn c).all (Rk.stB r) = true := by
  rw [List.all_eq_true]
  intro u hu
  have k := h u (mem_in.mp hu)
  unfold Rk.stB
  rw [decide_eq_true k.n]
  rcases k.y with e | e
  · simp [e]
  · simp [e]
def Ramong : List Pr → Pr → Prop := fun ps p => ∃ t l m : Int, ps = [IsV (.int t), IsV (.int l), IsV (.int m)] ∧ p = IsV (.bl (decide (l ≤ t) && decide (t ≤ m)))
theorem p_callO {t : TA} {σ : L2.St} {B : Hp} {ps : List Pr} {p : Pr} {R : List Pr → Out → Prop} (h : EvPs t σ B ps) (hr : R ps (.ret p)) : EvP (tCall (spO R) [] E0 t) σ B p := fun H1 a Q k =>
  h H1 a _ fun vs B2 H2 g b => by
    rw [List.append_nil]
    exact ⟨B2, ps, .ret p, g.c, b, hr, fun v B3 H3 g3 x => k v B3 H3 (g.trans g3) x⟩
end Nd
namespace K12
set_option autoImplicit false
open PySem PySem.W L2 Evl My Nd LamX
section
variable {P : Program} {w : World} {K : PySem.W.Frag} {mg : Str → Option Value} {base : Heap}

end
structure ChOk (r : Rk) (c : Ch) : Prop where
  of : ∀ x ∈ c, x.1.Of r ∧ PoOk r x.2 ∧ (dvs x.2).length ≤ 1000
  up : ∀ i (h : i + 1 < c.length), r.lt (c[i]'(Nat.lt_of_succ_lt h)).1 c[i + 1].1
  ap : ∀ i (h : i < c.length), ((c.map (·.1)).take i).any (fun v => wayB v c[i].1) = false
  bel : ∀ x ∈ c, ∀ d ∈ dvs x.2, r.lt d x.1
  fre : ∀ x ∈ c, ∀ d ∈ dvs x.2, fstI c d = none
  len : c.length ≤ 1000
def Rch (K : PySem.W.Frag) : List Pr → Pr → Prop := fun ps p => ∃ (r : Rk) (c : Ch), r.Ok ∧ ChOk r c ∧ ps = [RkP K r, chP K c] ∧ p = IsV .non
theorem range_mapC {α β : Type} (f : α → β) (d : α) (l : List α) : ((List.range l.length).map fun i => f (l.getD i d)) = l.map f := by
  apply List.ext_getElem?
  intro i
  rw [List.getElem?_map, List.getElem?_map]
  by_cases h : i < l.length
  · rw [List.getElem?_range h, List.getElem?_eq_getElem h]
    simp [List.getD_eq_getElem?_getD, List.getElem?_eq_getElem h]
  · rw [List.getElem?_eq_none (by rw [List.length_range]; omega), List.getElem?_eq_none (by omega)]
    rfl
theorem range_const {β : Type} (b : β) : ∀ n : Nat, ((List.range n).map fun _ => b) = List.replicate n b := fun n => by
  apply List.ext_getElem?
  intro i
  rw [List.getElem?_map, List.getElem?_replicate]
  by_cases h : i < n
  · rw [List.getElem?_range h, if_pos h]
    rfl
  · rw [List.getElem?_eq_none (by rw [List.length_range]; omega), if_neg h]
    rfl
section
variable {te ta tb : TE} {σ : L2.St} {B H : Hp} {ps : List Pr} {K : PySem.W.Frag} {t : TA}
/-- a comprehension that keeps all: what is known of each -/
theorem p_lcU {wi : TI} {n : Nat} {P : Nat → Pr} {g : TG} {vs : List Nat} (h : Src wi σ B n P) (hl : n ≤ 100000) (res : Nat → Pr)
    (step : ∀ i v B1, i < n → Ex B B1 → (P i).P v B1 → ∃ σ2, wipe σ2 vs = wipe σ vs ∧ (∀ H2 Q, Ex B1 H2 → Q σ2 H2 → g v (wipe σ vs) H2 Q) ∧ EvP te σ2 B1 (res i)) : EvP (tLc wi g tYes te vs) σ B (LqP K ((List.range n).map res)) := by
  have := p_lcS (tt := tYes) (te := te) h hl (fun _ => true) res fun i v B1 hi e pv => by
    obtain ⟨σ2, a, b, c⟩ := step i v B1 hi e pv
    exact ⟨σ2, a, b, et_yes, fun _ => c⟩
  rw [List.filter_eq_self.mpr (fun _ _ => rfl)] at this
  exact p_lq this
theorem p_lcT {wi : TI} {n : Nat} {P : Nat → Pr} {g : TG} {vs : List Nat} (h : Src wi σ B n P) (hl : n ≤ 100000)
    (step : ∀ i v B1, i < n → Ex B B1 → (P i).P v B1 → ∃ σ2, wipe σ2 vs = wipe σ vs ∧ (∀ H2 Q, Ex B1 H2 → Q σ2 H2 → g v (wipe σ vs) H2 Q) ∧ Ev te σ2 B1 (.bl true)) : EvP (tLc wi g tYes te vs) σ B (LqP K (List.replicate n (IsV (.bl true)))) := by
  have := p_lcU (K := K) (te := te) h hl (fun _ => IsV (.bl true)) fun i v B1 hi e pv => by
    obtain ⟨σ2, a, b, c⟩ := step i v B1 hi e pv
    exact ⟨σ2, a, b, p_ev c⟩
  rw [range_const] at this
  exact this
theorem p_listRg {n : Nat} (h : Ev te σ B (.int (n : Int))) (hn : n ≤ 100000) : EvP (tLstRg (tRg1 te)) σ B (LqP K ((List.range n).map fun i => IsV (.int (i : Nat)))) := fun H1 a Q k => h H1 a _ fun H2 e2 => ⟨n, rfl, RgOk.of_le (by omega) (by omega) (by omega) (by omega), fun q hq => by
  refine k _ _ _ ((Gr.wide a e2).trans (Gr.new (.lst (rgV 0 n)) (a.trans e2) hq)) ⟨q, _, rfl, sq_of upd_same, ?_⟩
  unfold rgV
  have e : (((n : Nat) : Int) - 0).toNat = n := by omega
  rw [e]
  have : ∀ (l : List Nat) (H : Hp), AllP (l.map fun i => IsV (.int (i : Nat))) (l.map fun i => V.int (0 + (i : Nat))) H := by
    intro l H
    induction l with
    | nil => trivial
    | cons x l ih => exact ⟨by show V.int _ = V.int _; rw [Int.zero_add], ih⟩
  exact this _ _⟩
end
section
variable {P : Program} {w : World} {K : PySem.W.Frag} {mg : Str → Option Value} {base : Heap}

/-- is_among -/
abbrev s_is_among : Stmt := topS 26
abbrev N_is_among : List Str := ["thing", "least", "most"]
theorem sc_is_among : FnScope N_is_among ["thing", "least", "most"] (defScope s_is_among) := ⟨rfl, rfl, rfl, by decide +kernel, rfl, by decide +kernel, by decide +kernel⟩
theorem ok_is_among {f : Addr} {fd : FuncData} (F : Fun K "is_among" "is_among" s_is_among f fd)  {f_is_whole : Addr} {d_is_whole : FuncData} (c_is_whole : Cal P w K mg base "is_whole" 2 ["thing"] (spP (RB K wholeB)) f_is_whole d_is_whole)   :
    FnOk P w K mg base CX0 3 f fd ["thing", "least", "most"] (spP Ramong) := by
  refine F.ok sc_is_among (spP_len (by rintro _ _ ⟨t, l, m, rfl, rfl⟩; rfl)) (fun cdv A outer s H vs Q E hr h => ?_)
  obtain ⟨B, ps, p, eB, hv, ⟨t, l, m, rfl, rfl⟩, q⟩ := h
  obtain ⟨v1, v2, v3, rfl, h1, h2, h3⟩ := all3 hv
  obtain rfl : v1 = .int t := h1
  obtain rfl : v2 = .int l := h2
  obtain rfl : v3 = .int m := h3
  have hu := hu_of hr
  refine ⟨_, (pss_one (ps_ret (pe_and (pe_call c_is_whole.G (hr.mono (by decide)) (by rfl) c_is_whole.m c_is_whole.k c_is_whole.b .nil pass0 (pa_cons (pv 0) pa_nil)) (pe_and (pe_call c_is_whole.G (hr.mono (by decide)) (by rfl) c_is_whole.m c_is_whole.k c_is_whole.b .nil pass0 (pa_cons (pv 1) pa_nil)) (pe_and (pe_call c_is_whole.G (hr.mono (by decide)) (by rfl) c_is_whole.m c_is_whole.k c_is_whole.b .nil pass0 (pa_cons (pv 2) pa_nil)) (pe_one (pe_chain op_le op_le (pv 1) (pv 0) (pv 2)))))))), ?_⟩
  have wh : ∀ (i : Nat) (j : Int), ([some (.int t), some (.int l), some (.int m)] : L2.St)[i]? = some (some (.int j)) → Ev (tCall (spP (RB K wholeB)) [] E0 (tCons (tVar i) tNil)) [some (.int t), some (.int l), some (.int m)] B (.bl true) :=
    fun i j hi => ev_p (p_callP (ps := [IsV (.int j)]) (q_cons (p_varV hi) q_nil) ⟨IsV (.int j), .int j, to_int, rfl, rfl, rfl⟩)
  refine My.ps_ret eB (p_ev (v := .bl (decide (l ≤ t) && decide (t ≤ m))) (ev_is (ev_andV (a := true) (b := true && (true && (decide (l ≤ t) && decide (t ≤ m)))) (wh 0 t rfl) fun _ => ev_andV (wh 1 l rfl) fun _ => ev_andV (wh 2 m rfl) fun _ => ?_) (by simp))) fun v B1 H1 g hp => q v B1 H1 g hp
  exact ev_chain (r1 := fun i j => decide (i ≤ j)) (r2 := fun i j => decide (i ≤ j)) (ev_var rfl) (ev_var rfl) (ev_var rfl)

/-- is_pair -/
abbrev s_is_pair : Stmt := topS 61
abbrev N_is_pair : List Str := ["ranking", "thing"]
theorem sc_is_pair : FnScope N_is_pair ["ranking", "thing"] (defScope s_is_pair) := ⟨rfl, rfl, rfl, by decide +kernel, rfl, by decide +kernel, by decide +kernel⟩
theorem ok_is_pair {f : Addr} {fd : FuncData} (F : Fun K "is_pair" "is_pair" s_is_pair f fd)  {f_derivative_fits : Addr} {d_derivative_fits : FuncData} (c_derivative_fits : Cal P w K mg base "derivative_fits" 4 ["ranking", "thing"] (spP (RB2 K fitsB)) f_derivative_fits d_derivative_fits) {f_polynomial_fits : Addr} {d_polynomial_fits : FuncData} (c_polynomial_fits : Cal P w K mg base "polynomial_fits" 9 ["ranking", "thing"] (spP (RpfG K)) f_polynomial_fits d_polynomial_fits) (n_isinstance : mg "isinstance" = none) (n_tuple : mg "tuple" = none) (n_len : mg "len" = none)  :
    FnOk P w K mg base CX0 10 f fd ["ranking", "thing"] (spP (Rpr K)) := by
  refine F.ok sc_is_pair (spP_len (by rintro _ _ ⟨r, x, _, _, _, _, rfl, rfl⟩; rfl)) (fun cdv A outer s H vs Q E hr h => ?_)
  obtain ⟨B, ps, p, eB, hv, ⟨r, x, hr0, hx, hc, hl, rfl, rfl⟩, q⟩ := h
  obtain ⟨v1, v2, rfl, h0, h1⟩ := all2 hv
  have hu := hu_of hr
  refine ⟨_, (pss_cons (ps_if (PW.pt (pw_or (pt_not (pt_val (pe_callB call_isi (by rfl) n_isinstance (by decide +kernel) (pa_cons (pv 1) (pa_cons (pe_bltn (v := .ty "tuple") (u := .type "tuple") (by rfl) n_tuple (by decide +kernel) rfl) pa_nil))))) (pw_or1 (pt_cmpR op_ne (pe_callB call_len_seq (by rfl) n_len (by decide +kernel) (pa_cons (pv 1) pa_nil)) pe_int (nomark _))))) (pss_one (ps_ret pe_bl)) pss_nil)
    (pss_one (ps_ret (pe_and (pe_call c_derivative_fits.G (hr.mono (by decide)) (by rfl) c_derivative_fits.m c_derivative_fits.k c_derivative_fits.b .nil pass0 (pa_cons (pv 0) (pa_cons (pe_ix ix_tup (pv 1) pe_int (fun _ _ => rfl)) pa_nil))) (pe_one (pe_call c_polynomial_fits.G (hr.mono (by decide)) (by rfl) c_polynomial_fits.m c_polynomial_fits.k c_polynomial_fits.b .nil pass0 (pa_cons (pv 0) (pa_cons (pe_ix ix_tup (pv 1) pe_int (fun _ _ => rfl)) pa_nil)))))))), ?_⟩
  refine ps_ifN eB (et_is (et_or (a := false) (b := false) (et_is (et_not (et_test (ev_isi (K := K) (d := lkD x) (p_to (p_var (i := 1) rfl h1) (to_lk x)) k_tt))) rfl) fun _ => et_is (et_test (ev_op (ev_lenD (K := K) (d := lkD x) (p_to (p_var (i := 1) rfl h1) (to_lk x)) (.inl rfl)) ev_c (rv_ne rfl))) rfl) rfl) fun H1 e1 => ?_
  dsimp only
  refine My.ps_ret (eB.trans e1) (p_ev (v := .bl true) (ev_andV (a := true) (b := true) (ev_is (ev_p (p_callP (ps := [RkP K r, DvP x.1]) (q_cons (p_var rfl h0) (q_cons (p_ixT (K := K) (p_var rfl h1) p_c rfl) q_nil)) ⟨r, DvP x.1, x.1.D, hr0, to_dv _, smd_dv (of_len hr0 hx), rfl, rfl⟩)) (by rw [fitsB_of hr0 hx])) fun _ =>
    ev_is (ev_p (p_callP (ps := [RkP K r, poP K x.2]) (q_cons (p_var rfl h0) (q_cons (p_ixT (K := K) (p_var rfl h1) p_c rfl) q_nil)) (.inr ⟨r, x.2, poB_of hr0 hc, smd_po fun t ht y hy => of_len hr0 ((hc.of t ht).1.of y hy).1, hl, rfl, rfl⟩))) (by rw [stB_all (po_dv hc)]))) fun v B3 H3 g hp => q v B3 H3 ((Gr.wide eB e1).trans g) hp

/-- _is_below -/
abbrev s__is_below : Stmt := topS 63
abbrev N__is_below : List Str := ["ranking", "polynomial", "key", "derivative"]
theorem sc__is_below : FnScope N__is_below ["ranking", "polynomial", "key"] (defScope s__is_below) := ⟨rfl, rfl, rfl, by decide +kernel, rfl, by decide +kernel, by decide +kernel⟩
theorem lt_lex {r : Rk} {u v : Dv} (h : r.lt u v) : HT.lexLt (r.key u) (r.key v) = true := by
  obtain ⟨a, b, c, e1⟩ := r.key3 u
  obtain ⟨x, y, z, e2⟩ := r.key3 v
  unfold Rk.lt at h
  rw [e1, e2] at h ⊢
  rw [lex3]
  exact decide_eq_true h
theorem ok__is_below {f : Addr} {fd : FuncData} (F : Fun K "_is_below" "_is_below" s__is_below f fd)  {f_derivatives_in : Addr} {d_derivatives_in : FuncData} (c_derivatives_in : Cal P w K mg base "derivatives_in" 1 ["one"] (spP (Rdin K)) f_derivatives_in d_derivatives_in) {f_rank_key : Addr} {d_rank_key : FuncData} (c_rank_key : Cal P w K mg base "rank_key" 1 ["ranking", "derivative"] (spP (Rrd K fun r u => IsD K (.tuple ((r.key u).map .int)))) f_rank_key d_rank_key) (n_all : mg "all" = none)  :
    FnOk P w K mg base CX0 2 f fd ["ranking", "polynomial", "key"] (spP (Rbl K)) := by
  refine F.ok sc__is_below (spP_len (by rintro _ _ ⟨r, c, u, _, _, _, _, rfl, rfl⟩; rfl)) (fun cdv A outer s H vs Q E hr h => ?_)
  obtain ⟨B, ps, p, eB, hv, ⟨r, c, u, hr0, hc, hl, hlt, rfl, rfl⟩, q⟩ := h
  obtain ⟨v1, v2, v3, rfl, h1, h2, h3⟩ := all3 hv
  have hu := hu_of hr
  refine ⟨_, (pss_one (ps_ret (pe_callB (cr_all rfl) (by rfl) n_all (by decide +kernel) (pa_cons (pe_lc (own := [("derivative", 3)]) rfl sc__is_below.nd (pi_tup (pe_call c_derivatives_in.G (hr.mono (by decide)) (by rfl) c_derivatives_in.m c_derivatives_in.k c_derivatives_in.b .nil pass0 (pa_cons (pv 1) pa_nil))) (blkOk_by (N := N__is_below) (sc := defScope s__is_below) (by decide +kernel)) (fun _ _ _ _ _ => (pg_name (i := 3) sc__is_below.nd rfl (Or.inl rfl))) (fun _ _ _ _ _ => pts_nil) (fun _ _ _ _ _ => (pe_cmpR (show OpR _ (compareOp .Lt) (rLtT K) from op_ltT (by have h := hr.un; show (A.deeper _).units < cLine; omega)) (pe_call c_rank_key.G (hr.mono (by decide)) (by rfl) c_rank_key.m c_rank_key.k c_rank_key.b .nil pass0 (pa_cons (pv 0) (pa_cons (pv 3) pa_nil))) (pv 2) (nomark _)))) pa_nil)))), ?_⟩
  refine My.ps_ret eB (p_ev (v := .bl true) (ev_allT (K := K) (n := ((dvsIn c).map DvP).length) ?_)) fun v B3 H3 g hp => q v B3 H3 g hp
  refine p_lcA (K := K) (src_tu (p_callP (ps := [poP K c]) (q_cons (p_var rfl h2) q_nil) ⟨c, hl, rfl, rfl⟩)) (by have := in_len hl; rw [List.length_map]; omega) (fun _ => .bool true) fun i v4 B1 hi e pv => ?_
  rw [List.length_map] at hi
  rw [getD_map hi] at pv
  have hm := mem_in.mp (List.getElem_mem hi)
  refine ⟨[some v1, some v2, some v3, some v4], rfl, fun H2 Q e q => q, ed_bl (ev_is (ev_ltT (K := K) (ns := r.key (dvsIn c)[i]) (ms := r.key u) (p_callP (ps := [RkP K r, DvP (dvsIn c)[i]]) (q_cons (p_var rfl ((RkP K r).m e h1)) (q_cons (p_var rfl pv) q_nil)) ⟨r, _, hr0, po_dv hc _ hm, rfl, rfl⟩) (p_var rfl (dp_m e h3))) (by rw [lt_lex (hlt _ hm)]))⟩

/-- _is_free_of -/
abbrev s__is_free_of : Stmt := topS 64
abbrev N__is_free_of : List Str := ["chain", "polynomial", "derivative"]
theorem sc__is_free_of : FnScope N__is_free_of ["chain", "polynomial"] (defScope s__is_free_of) := ⟨rfl, rfl, rfl, by decide +kernel, rfl, by decide +kernel, by decide +kernel⟩
theorem ok__is_free_of {f : Addr} {fd : FuncData} (F : Fun K "_is_free_of" "_is_free_of" s__is_free_of f fd)  {f_derivatives_in : Addr} {d_derivatives_in : FuncData} (c_derivatives_in : Cal P w K mg base "derivatives_in" 1 ["one"] (spP (Rdin K)) f_derivatives_in d_derivatives_in) {f_first_by : Addr} {d_first_by : FuncData} (c_first_by : Cal P w K mg base "first_by" 2 ["chain", "derivative"] (spP (Rfst K)) f_first_by d_first_by) (n_all : mg "all" = none)  :
    FnOk P w K mg base CX0 3 f fd ["chain", "polynomial"] (spP (Rfo K)) := by
  refine F.ok sc__is_free_of (spP_len (by rintro _ _ ⟨l, c, _, _, rfl, rfl⟩; rfl)) (fun cdv A outer s H vs Q E hr h => ?_)
  obtain ⟨B, ps, p, eB, hv, ⟨l, c, hl, hn, rfl, rfl⟩, q⟩ := h
  obtain ⟨v1, v2, rfl, h1, h2⟩ := all2 hv
  have hu := hu_of hr
  refine ⟨_, (pss_one (ps_ret (pe_callB (cr_all rfl) (by rfl) n_all (by decide +kernel) (pa_cons (pe_lc (own := [("derivative", 2)]) rfl sc__is_free_of.nd (pi_tup (pe_call c_derivatives_in.G (hr.mono (by decide)) (by rfl) c_derivatives_in.m c_derivatives_in.k c_derivatives_in.b .nil pass0 (pa_cons (pv 1) pa_nil))) (blkOk_by (N := N__is_free_of) (sc := defScope s__is_free_of) (by decide +kernel)) (fun _ _ _ _ _ => (pg_name (i := 2) sc__is_free_of.nd rfl (Or.inl rfl))) (fun _ _ _ _ _ => pts_nil) (fun _ _ _ _ _ => (pe_cmpR op_isN (pe_call c_first_by.G (hr.mono (by decide)) (by rfl) c_first_by.m c_first_by.k c_first_by.b .nil pass0 (pa_cons (pv 0) (pa_cons (pv 2) pa_nil))) pe_non (nomark _)))) pa_nil)))), ?_⟩
  refine My.ps_ret eB (p_ev (v := .bl true) (ev_allT (K := K) (n := ((dvsIn c).map DvP).length) ?_)) fun v B3 H3 g hp => q v B3 H3 g hp
  refine p_lcA (K := K) (src_tu (p_callP (ps := [poP K c]) (q_cons (p_var rfl h2) q_nil) ⟨c, hl, rfl, rfl⟩)) (by have := in_len hl; rw [List.length_map]; omega) (fun _ => .bool true) fun i v4 B1 hi e pv => ?_
  rw [List.length_map] at hi
  rw [getD_map hi] at pv
  have hm := mem_in.mp (List.getElem_mem hi)
  refine ⟨[some v1, some v2, some v4], rfl, fun H2 Q e q => q, ed_bl (ev_is (ev_isN0 (ev_p (p_callP (ps := [chP K l, DvP (dvsIn c)[i]]) (q_cons (p_var rfl ((chP K l).m e h1)) (q_cons (p_var rfl pv) q_nil)) ⟨l, _, rfl, rfl⟩))) (by rw [hn _ hm]; rfl))⟩

/-- _is_derived_of -/
abbrev s__is_derived_of : Stmt := topS 62
abbrev N__is_derived_of : List Str := ["leader", "others", "other"]
theorem sc__is_derived_of : FnScope N__is_derived_of ["leader", "others"] (defScope s__is_derived_of) := ⟨rfl, rfl, rfl, by decide +kernel, rfl, by decide +kernel, by decide +kernel⟩
theorem ok__is_derived_of {f : Addr} {fd : FuncData} (F : Fun K "_is_derived_of" "_is_derived_of" s__is_derived_of f fd)  {f_way_to : Addr} {d_way_to : FuncData} (c_way_to : Cal P w K mg base "way_to" 1 ["one", "other"] (spP (Rway K)) f_way_to d_way_to) (n_any : mg "any" = none)  :
    FnOk P w K mg base CX0 2 f fd ["leader", "others"] (spP (Rdo K)) := by
  refine F.ok sc__is_derived_of (spP_len (by rintro _ _ ⟨u, us, _, rfl, rfl⟩; rfl)) (fun cdv A outer s H vs Q E hr h => ?_)
  obtain ⟨B, ps, p, eB, hv, ⟨u, us, hl, rfl, rfl⟩, q⟩ := h
  obtain ⟨v1, v2, rfl, h1, h2⟩ := all2 hv
  have hu := hu_of hr
  refine ⟨_, (pss_one (ps_ret (pe_callB (cr_any rfl) (by rfl) n_any (by decide +kernel) (pa_cons (pe_lc (own := [("other", 2)]) rfl sc__is_derived_of.nd (pi_list (pv 1)) (blkOk_by (N := N__is_derived_of) (sc := defScope s__is_derived_of) (by decide +kernel)) (fun _ _ _ _ _ => (pg_name (i := 2) sc__is_derived_of.nd rfl (Or.inl rfl))) (fun _ _ _ _ _ => pts_nil) (fun _ _ _ _ _ => (pe_cmpR op_notN (pe_call c_way_to.G (hr.mono (by decide)) (by rfl) c_way_to.m c_way_to.k c_way_to.b .nil pass0 (pa_cons (pv 2) (pa_cons (pv 0) pa_nil))) pe_non (nomark _)))) pa_nil)))), ?_⟩
  refine My.ps_ret eB (p_ev (v := .bl (us.any fun v => wayB v u)) (ev_is (ev_anyL (K := K) (bs := (List.range (us.map DvP).length).map fun i => wayB (us.getD i u) u) ?_) ?_)) fun v B3 H3 g hp => q v B3 H3 g hp
  · rw [List.map_map]
    refine p_lcA (K := K) (src_lq (p_var rfl h2)) (by rw [List.length_map]; omega) (fun i => .bool (wayB (us.getD i u) u)) fun i v4 B1 hi e pv => ?_
    rw [List.length_map] at hi
    rw [getD_map hi] at pv
    have hg : us.getD i u = us[i] := by rw [List.getD_eq_getElem?_getD, List.getElem?_eq_getElem hi]; rfl
    rw [hg]
    exact ⟨[some v1, some v2, some v4], rfl, fun H2 Q e q => q, ed_bl (ev_way (K := K) (p_callP (ps := [DvP us[i], DvP u]) (q_cons (p_var rfl pv) (q_cons (p_var rfl ((DvP u).m e h1)) q_nil)) ⟨_, _, rfl, rfl⟩))⟩
  · rw [List.length_map, List.any_map]
    congr 1
    rw [Bool.eq_iff_iff, List.any_eq_true, List.any_eq_true]
    constructor
    · rintro ⟨i, hi, h⟩
      rw [List.mem_range] at hi
      refine ⟨us[i], List.getElem_mem hi, ?_⟩
      simpa [List.getD_eq_getElem?_getD, List.getElem?_eq_getElem hi] using h
    · rintro ⟨y, hy, h⟩
      obtain ⟨i, hi, rfl⟩ := List.mem_iff_getElem.mp hy
      exact ⟨i, List.mem_range.mpr hi, by simpa [List.getD_eq_getElem?_getD, List.getElem?_eq_getElem hi] using h⟩

/-- need_chain -/
abbrev s_need_chain : Stmt := topS 59
abbrev N_need_chain : List Str := ["ranking", "chain", "pair", "leaders", "leader", "_", "keys", "places", "at", "right"]
theorem sc_need_chain : FnScope N_need_chain ["ranking", "chain"] (defScope s_need_chain) := ⟨rfl, rfl, rfl, by decide +kernel, rfl, by decide +kernel, by decide +kernel⟩
theorem ok_need_chain {f : Addr} {fd : FuncData} (F : Fun K "need_chain" "need_chain" s_need_chain f fd) {aBR : Addr} {f_need_ranking : Addr} {d_need_ranking : FuncData} (c_need_ranking : CalX P w K mg base "need_ranking" 4 ["ranking"] (spO (RrkO K aBR)) f_need_ranking d_need_ranking) {f_is_pair : Addr} {d_is_pair : FuncData} (c_is_pair : Cal P w K mg base "is_pair" 10 ["ranking", "thing"] (spP (Rpr K)) f_is_pair d_is_pair) {f__refuse_first : Addr} {d__refuse_first : FuncData} (c__refuse_first : Cal P w K mg base "_refuse_first" 1 ["word", "fits"] (spP (Rref K)) f__refuse_first d__refuse_first) {f_rank_key : Addr} {d_rank_key : FuncData} (c_rank_key : Cal P w K mg base "rank_key" 1 ["ranking", "derivative"] (spP (Rrd K fun r u => IsD K (.tuple ((r.key u).map .int)))) f_rank_key d_rank_key) {f__is_derived_of : Addr} {d__is_derived_of : FuncData} (c__is_derived_of : Cal P w K mg base "_is_derived_of" 2 ["leader", "others"] (spP (Rdo K)) f__is_derived_of d__is_derived_of) {f__is_below : Addr} {d__is_below : FuncData} (c__is_below : Cal P w K mg base "_is_below" 2 ["ranking", "polynomial", "key"] (spP (Rbl K)) f__is_below d__is_below) {f__is_free_of : Addr} {d__is_free_of : FuncData} (c__is_free_of : Cal P w K mg base "_is_free_of" 3 ["chain", "polynomial"] (spP (Rfo K)) f__is_free_of d__is_free_of) (n_isinstance : mg "isinstance" = none) (n_tuple : mg "tuple" = none) (n_list : mg "list" = none) (n_range : mg "range" = none) (n_len : mg "len" = none)  :
    FnOk P w K mg base CX0 11 f fd ["ranking", "chain"] (spP (Rch K)) := by
  refine F.ok sc_need_chain (spP_len (by rintro _ _ ⟨r, c, _, _, rfl, rfl⟩; rfl)) (fun cdv A outer s H vs Q E hr h => ?_)
  obtain ⟨B, ps, p, eB, hv, ⟨r, c, hr0, hc, rfl, rfl⟩, q⟩ := h
  obtain ⟨v1, v2, rfl, h1, h2⟩ := all2 hv
  have hu := hu_of hr
  refine ⟨_, (pss_cons (ps_expr (pe_call c_need_ranking.G (hr.mono (by decide)) (by rfl) c_need_ranking.m c_need_ranking.k c_need_ranking.b .nil L2.passL (pa_cons (pv 0) pa_nil)))
    (pss_cons (ps_if (pt_not (pt_val (pe_callB call_isi (by rfl) n_isinstance (by decide +kernel) (pa_cons (pv 1) (pa_cons (pe_bltn (v := .ty "tuple") (u := .type "tuple") (by rfl) n_tuple (by decide +kernel) rfl) pa_nil))))) (pss_one ps_never) pss_nil)
    (pss_cons (ps_expr (pe_call c__refuse_first.G (hr.mono (by decide)) (by rfl) c__refuse_first.m c__refuse_first.k c__refuse_first.b .nil pass0 (pa_cons pe_str (pa_cons (pe_lc (own := [("pair", 2)]) rfl sc_need_chain.nd (pi_tup (pv 1)) (blkOk_by (N := N_need_chain) (sc := defScope s_need_chain) (by decide +kernel)) (fun _ _ _ _ _ => (pg_name (i := 2) sc_need_chain.nd rfl (Or.inl rfl))) (fun _ _ _ _ _ => pts_nil) (fun _ _ _ _ _ => (pe_call c_is_pair.G (hr.mono (by decide)) (by rfl) c_is_pair.m c_is_pair.k c_is_pair.b .nil pass0 (pa_cons (pv 0) (pa_cons (pv 2) pa_nil))))) pa_nil))))
    (pss_cons (ps_set (i := 3) sc_need_chain.nd rfl (by first | exact .inl rfl | exact .inr rfl) (pe_lc (own := [("leader", 4), ("_", 5)]) (g := (gTup K 2 (gCons (gName 4) (gCons (gName 5) gNil)))) rfl sc_need_chain.nd (pi_tup (pv 1)) (blkOk_by (N := N_need_chain) (sc := defScope s_need_chain) (by decide +kernel)) (fun _ _ _ _ _ => (pg_tup (by rfl) (pgs_cons (pg_name (i := 4) sc_need_chain.nd rfl (Or.inl rfl)) (pgs_cons (pg_name (i := 5) sc_need_chain.nd rfl (Or.inl rfl)) pgs_nil)))) (fun _ _ _ _ _ => pts_nil) (fun _ _ _ _ _ => (pv 4))))
    (pss_cons (ps_set (i := 6) sc_need_chain.nd rfl (by first | exact .inl rfl | exact .inr rfl) (pe_lc (own := [("leader", 4)]) rfl sc_need_chain.nd (pi_list (pv 3)) (blkOk_by (N := N_need_chain) (sc := defScope s_need_chain) (by decide +kernel)) (fun _ _ _ _ _ => (pg_name (i := 4) sc_need_chain.nd rfl (Or.inl rfl))) (fun _ _ _ _ _ => pts_nil) (fun _ _ _ _ _ => (pe_call c_rank_key.G (hr.mono (by decide)) (by rfl) c_rank_key.m c_rank_key.k c_rank_key.b .nil pass0 (pa_cons (pv 0) (pa_cons (pv 4) pa_nil))))))
    (pss_cons (ps_set (i := 7) sc_need_chain.nd rfl (by first | exact .inl rfl | exact .inr rfl) (pe_listRg rfl (by rfl) n_list (prg_1 (by rfl) n_range (pe_callB call_len_seq (by rfl) n_len (by decide +kernel) (pa_cons (pv 1) pa_nil)))))
    (pss_cons (ps_expr (pe_call c__refuse_first.G (hr.mono (by decide)) (by rfl) c__refuse_first.m c__refuse_first.k c__refuse_first.b .nil pass0 (pa_cons pe_str (pa_cons (pe_lc (te := tOrV (tOp rEq (tVar 8) (tC (.int 0))) (tOp (rLtT K) (tOp (rIxL K) (tVar 6) (tOp (rI0 fun i j => .int (i - j)) (tVar 8) (tC (.int 1)))) (tOp (rIxL K) (tVar 6) (tVar 8)))) (own := [("at", 8)]) rfl sc_need_chain.nd (pi_list (pv 7)) (blkOk_by (N := N_need_chain) (sc := defScope s_need_chain) (by decide +kernel)) (fun _ _ _ _ _ => (pg_name (i := 8) sc_need_chain.nd rfl (Or.inl rfl))) (fun _ _ _ _ _ => pts_nil) (fun _ _ _ _ _ => (pe_or (pe_cmpR op_eq (pv 8) pe_int (nomark _)) (pe_one (pe_cmpR (show OpR _ (compareOp .Lt) (rLtT K) from op_ltT (by have h := hr.un; show (A.deeper _).units < cLine; omega)) (pe_ix ix_list (pv 6) (pe_op op_sub (pv 8) pe_int) (fun _ _ => rfl)) (pe_ix ix_list (pv 6) (pv 8) (fun _ _ => rfl)) (nomark _)))))) pa_nil))))
    (pss_cons (ps_expr (pe_call c__refuse_first.G (hr.mono (by decide)) (by rfl) c__refuse_first.m c__refuse_first.k c__refuse_first.b .nil pass0 (pa_cons pe_str (pa_cons (pe_lc (te := tNotV (tCall (spP (Rdo K)) [] E0 (tCons (tOp (rIxL K) (tVar 3) (tVar 8)) (tCons (tSl (rSlL K) (tVar 3) tNoPart (tPart (tVar 8))) tNil)))) (own := [("at", 8)]) rfl sc_need_chain.nd (pi_list (pv 7)) (blkOk_by (N := N_need_chain) (sc := defScope s_need_chain) (by decide +kernel)) (fun _ _ _ _ _ => (pg_name (i := 8) sc_need_chain.nd rfl (Or.inl rfl))) (fun _ _ _ _ _ => pts_nil) (fun _ _ _ _ _ => (pe_not (pe_call c__is_derived_of.G (hr.mono (by decide)) (by rfl) c__is_derived_of.m c__is_derived_of.k c__is_derived_of.b .nil pass0 (pa_cons (pe_ix ix_list (pv 3) (pv 8) (fun _ _ => rfl)) (pa_cons (pe_slice sl_list (pv 3) po_none (po_some (pv 8))) pa_nil)))))) pa_nil))))
    (pss_cons (ps_expr (pe_call c__refuse_first.G (hr.mono (by decide)) (by rfl) c__refuse_first.m c__refuse_first.k c__refuse_first.b .nil pass0 (pa_cons pe_str (pa_cons (pe_lc (te := tCall (spP (Rbl K)) [] E0 (tCons (tVar 0) (tCons (tOp (rIxT K) (tOp (rIxT K) (tVar 1) (tVar 8)) (tC (.int 1))) (tCons (tOp (rIxL K) (tVar 6) (tVar 8)) tNil)))) (own := [("at", 8)]) rfl sc_need_chain.nd (pi_list (pv 7)) (blkOk_by (N := N_need_chain) (sc := defScope s_need_chain) (by decide +kernel)) (fun _ _ _ _ _ => (pg_name (i := 8) sc_need_chain.nd rfl (Or.inl rfl))) (fun _ _ _ _ _ => pts_nil) (fun _ _ _ _ _ => (pe_call c__is_below.G (hr.mono (by decide)) (by rfl) c__is_below.m c__is_below.k c__is_below.b .nil pass0 (pa_cons (pv 0) (pa_cons (pe_ix ix_tup (pe_ix ix_tup (pv 1) (pv 8) (fun _ _ => rfl)) pe_int (fun _ _ => rfl)) (pa_cons (pe_ix ix_list (pv 6) (pv 8) (fun _ _ => rfl)) pa_nil)))))) pa_nil))))
    (pss_one (ps_expr (pe_call c__refuse_first.G (hr.mono (by decide)) (by rfl) c__refuse_first.m c__refuse_first.k c__refuse_first.b .nil pass0 (pa_cons pe_str (pa_cons (pe_lc (own := [("_", 5), ("right", 9)]) (g := (gTup K 2 (gCons (gName 5) (gCons (gName 9) gNil)))) rfl sc_need_chain.nd (pi_tup (pv 1)) (blkOk_by (N := N_need_chain) (sc := defScope s_need_chain) (by decide +kernel)) (fun _ _ _ _ _ => (pg_tup (by rfl) (pgs_cons (pg_name (i := 5) sc_need_chain.nd rfl (Or.inl rfl)) (pgs_cons (pg_name (i := 9) sc_need_chain.nd rfl (Or.inl rfl)) pgs_nil)))) (fun _ _ _ _ _ => pts_nil) (fun _ _ _ _ _ => (pe_call c__is_free_of.G (hr.mono (by decide)) (by rfl) c__is_free_of.m c__is_free_of.k c__is_free_of.b .nil pass0 (pa_cons (pv 1) (pa_cons (pv 9) pa_nil))))) pa_nil)))))))))))))), ?_⟩
  have hlen := hc.len
  refine ps_exE eB (p_callO (ps := [RkP K r]) (q_cons (p_var rfl h1) q_nil) (.inl ⟨r, hr0, rfl, rfl⟩)) fun H1 e1 => ?_
  dsimp only
  have eB1 := eB.trans e1
  refine ps_ifN eB1 (et_is (et_not (et_test (ev_isi (K := K) (d := chD c) (p_to (p_var rfl h2) (to_ch c)) k_tt))) rfl) fun H2 e2 => ?_
  dsimp only
  have eB2 := eB1.trans e2
  refine ps_exE eB2 (p_callP (ps := [IsV (.str "form"), LqP K (List.replicate (c.map (lkP K)).length (IsV (.bl true)))]) (q_cons p_c (q_cons (p_lcT (K := K) (src_tu (p_var rfl h2)) (by rw [List.length_map]; omega) fun i v3 B3 hi e pv => ?_) q_nil)) ⟨_, _, rfl, rfl⟩) fun H3 e3 => ?_
  · rw [List.length_map] at hi
    rw [getD_map hi] at pv
    obtain ⟨o1, o2, o3⟩ := hc.of c[i] (List.getElem_mem hi)
    exact ⟨[some v1, some v2, some v3, none, none, none, none, none, none, none], rfl, fun H2 Q e q => q, ev_p (p_callP (ps := [RkP K r, lkP K c[i]]) (q_cons (p_var rfl ((RkP K r).m e h1)) (q_cons (p_var rfl pv) q_nil)) ⟨r, c[i], hr0, o1, o2, o3, rfl, rfl⟩)⟩
  dsimp only
  have eB3 := eB2.trans e3
  have u0 : ∀ (i : Nat) (hi : i < c.length), (c.map (·.1)).getD i ⟨"", 0, 0⟩ = c[i].1 := fun i hi => by
    rw [List.getD_eq_getElem?_getD, List.getElem?_map, List.getElem?_eq_getElem hi]
    rfl
  refine ps_asgN (fun x => [some v1, some v2, none, some x, none, none, none, none, none, none]) eB3 (p_lcU (K := K) (src_tu (p_var rfl h2)) (by rw [List.length_map]; omega) (fun i => DvP ((c.map (·.1)).getD i ⟨"", 0, 0⟩)) fun i v3 B3 hi e pv => ?_) (fun v4 B4 H4 g4 hx4 => ?_) (fun _ => rfl)
  · rw [List.length_map] at hi
    rw [getD_map hi] at pv
    rw [u0 i hi]
    obtain ⟨p3, ys, rfl, hp3, al⟩ := pv
    obtain ⟨y1, y2, rfl, m1, m2⟩ := all2 al
    exact ⟨[some v1, some v2, none, none, some y1, some y2, none, none, none, none], rfl, fun H2 Q e q => ⟨p3, _, rfl, ex_t e hp3, rfl, _, _, rfl, _, _, rfl, rfl, q⟩, p_var rfl m1⟩
  have hx4 : (LqP K ((c.map (·.1)).map DvP)).P v4 B4 := by
    rw [List.length_map] at hx4
    have := range_mapC DvP ⟨"", 0, 0⟩ (c.map (·.1))
    rw [List.length_map] at this
    rw [this] at hx4
    exact hx4
  dsimp only
  refine ps_asgN (fun x => [some v1, some v2, none, some v4, none, none, some x, none, none, none]) g4.c (p_lcU (K := K) (src_lq (p_var rfl hx4)) (by rw [List.length_map, List.length_map]; omega) (fun i => IsD K (r.keyD ((c.map (·.1)).getD i ⟨"", 0, 0⟩))) fun i v3 B3 hi e pv => ?_) (fun v5 B5 H5 g5 hx5 => ?_) (fun _ => rfl)
  · rw [List.length_map, List.length_map] at hi
    have pv : (((c.map (·.1)).map DvP).getD i (IsV .non)).P v3 B3 := pv
    rw [getD_map (by rw [List.length_map]; exact hi), List.getElem_map] at pv
    rw [u0 i hi]
    obtain ⟨o1, o2, o3⟩ := hc.of c[i] (List.getElem_mem hi)
    exact ⟨[some v1, some v2, none, some v4, some v3, none, none, none, none, none], rfl, fun H2 Q e q => q, p_callP (ps := [RkP K r, DvP c[i].1]) (q_cons (p_var rfl ((RkP K r).m (g4.b.trans e) h1)) (q_cons (p_var rfl pv) q_nil)) ⟨r, c[i].1, hr0, o1, rfl, rfl⟩⟩
  have hx5 : (LqP K ((c.map (·.1)).map fun u => IsD K (r.keyD u))).P v5 B5 := by
    rw [List.length_map, List.length_map] at hx5
    have := range_mapC (fun u => IsD K (r.keyD u)) ⟨"", 0, 0⟩ (c.map (·.1))
    rw [List.length_map] at this
    rw [this] at hx5
    exact hx5
  dsimp only
  have h2' := (chP K c).m (g4.b.trans g5.b) h2
  refine ps_asgN (fun x => [some v1, some v2, none, some v4, none, none, some v5, some x, none, none]) g5.c (p_listRg (K := K) (n := c.length) (ev_is (ev_lenD (K := K) (es := c.map lkD) (p_to (p_var rfl h2') (to_ch c)) (.inl rfl)) (by rw [List.length_map])) (by omega)) (fun v6 B6 H6 g6 hx6 => ?_) (fun _ => rfl)
  dsimp only
  have k1 := (RkP K r).m (g4.b.trans (g5.b.trans g6.b)) h1
  have k2 := (chP K c).m g6.b h2'
  have k4 := (LqP K ((c.map (·.1)).map DvP)).m (g5.b.trans g6.b) hx4
  have k5 := (LqP K ((c.map (·.1)).map fun u => IsD K (r.keyD u))).m g6.b hx5
  have kat : ∀ (i : Nat) (hi : i < c.length) (B7 : Hp), Ex B6 B7 → ∀ (σ : L2.St) (tj : TE) (j : Int), σ[6]? = some (some v5) → Ev tj σ B7 (.int j) → j = i → EvP (tOp (rIxL K) (tVar 6) tj) σ B7 (IsD K (.tuple ((r.key c[i].1).map .int))) := fun i hi B7 e σ tj j hs ht hj => by
    subst hj
    refine p_ix (K := K) (ps := (c.map (·.1)).map fun u => IsD K (r.keyD u)) (p_var hs ((LqP K _).m e k5)) (p_ev ht) ?_
    refine atI_nat ?_
    rw [List.getElem?_map, List.getElem?_map, List.getElem?_eq_getElem hi]
    rfl
  have inr : ∀ {i : Nat} {v7 : V} {B7 : Hp}, i < ((List.range c.length).map fun i => IsV (.int (i : Nat))).length → (((List.range c.length).map fun i => IsV (.int (i : Nat))).getD i (IsV .non)).P v7 B7 → i < c.length ∧ v7 = .int (i : Nat) := fun {i v7 B7} hi pv => by
    rw [List.length_map, List.length_range] at hi
    rw [getD_map (by rw [List.length_range]; exact hi), List.getElem_range] at pv
    exact ⟨hi, pv⟩
  have eB6 := g6.c
  refine ps_exE eB6 (p_callP (ps := [IsV (.str "rising"), LqP K (List.replicate ((List.range c.length).map fun i => IsV (.int (i : Nat))).length (IsV (.bl true)))]) (q_cons p_c (q_cons (p_lcT (K := K) (src_lq (p_var rfl hx6)) (by rw [List.length_map, List.length_range]; omega) fun i v7 B7 hi e pv => ?_) q_nil)) ⟨_, _, rfl, rfl⟩) fun H7 e7 => ?_
  · obtain ⟨hi, rfl⟩ := inr hi pv
    refine ⟨[some v1, some v2, none, some v4, none, none, some v5, some v6, some (.int (i : Nat)), none], rfl, fun H2 Q e q => q, ?_⟩
    cases i with
    | zero => exact ev_is (ev_orV (a := true) (b := true) (ev_is (ev_op (ev_var rfl) ev_c (rv_eq rfl)) rfl) (fun z => nomatch z)) rfl
    | succ k =>
      refine ev_is (ev_orV (a := false) (b := true) (ev_is (ev_op (ev_var rfl) ev_c (rv_eq rfl)) ?_) fun _ => ev_is (ev_ltT (K := K) (ns := r.key (c[k]'(Nat.lt_of_succ_lt hi)).1) (ms := r.key c[k + 1].1) (kat k (Nat.lt_of_succ_lt hi) B7 e _ _ (((k + 1 : Nat) : Int) - 1) rfl (ev_op (ev_var rfl) ev_c rv_I0) (by omega)) (kat (k + 1) hi B7 e _ _ _ rfl (ev_var rfl) rfl)) ?_) rfl
      · have : ¬ ((k + 1 : Nat) : Int) = 0 := by omega
        simp [this]
        omega
      · rw [lt_lex (hc.up k hi)]
  dsimp only
  have eB7 := eB6.trans e7
  refine ps_exE eB7 (p_callP (ps := [IsV (.str "derived"), LqP K (List.replicate ((List.range c.length).map fun i => IsV (.int (i : Nat))).length (IsV (.bl true)))]) (q_cons p_c (q_cons (p_lcT (K := K) (src_lq (p_var rfl hx6)) (by rw [List.length_map, List.length_range]; omega) fun i v7 B7 hi e pv => ?_) q_nil)) ⟨_, _, rfl, rfl⟩) fun H8 e8 => ?_
  · obtain ⟨hi, rfl⟩ := inr hi pv
    refine ⟨[some v1, some v2, none, some v4, none, none, some v5, some v6, some (.int (i : Nat)), none], rfl, fun H2 Q e q => q, ?_⟩
    have sl : EvP (tSl (rSlL K) (tVar 3) tNoPart (tPart (tVar 8))) [some v1, some v2, none, some v4, none, none, some v5, some v6, some (.int (i : Nat)), none] B7 (LqP K (((c.map (·.1)).take i).map DvP)) := by
      rw [List.map_take (f := DvP)]
      exact p_lq (p_sl (K := K) (k := i) (p_var rfl ((LqP K _).m e k4)) (ev_var rfl))
    refine ev_is (ev_notV (ev_p (p_callP (ps := [DvP c[i].1, LqP K (((c.map (·.1)).take i).map DvP)]) (q_cons (p_ix (K := K) (ps := (c.map (·.1)).map DvP) (p_var rfl ((LqP K _).m e k4)) (p_varV rfl) ?_) (q_cons sl q_nil)) ⟨_, _, ?_, rfl, rfl⟩))) ?_
    · refine atI_nat ?_
      rw [List.getElem?_map, List.getElem?_map, List.getElem?_eq_getElem hi]
      rfl
    · rw [List.length_take, List.length_map]
      omega
    · rw [hc.ap i hi]
      rfl
  dsimp only
  have eB8 := eB7.trans e8
  refine ps_exE eB8 (p_callP (ps := [IsV (.str "above"), LqP K (List.replicate ((List.range c.length).map fun i => IsV (.int (i : Nat))).length (IsV (.bl true)))]) (q_cons p_c (q_cons (p_lcT (K := K) (src_lq (p_var rfl hx6)) (by rw [List.length_map, List.length_range]; omega) fun i v7 B7 hi e pv => ?_) q_nil)) ⟨_, _, rfl, rfl⟩) fun H9 e9 => ?_
  · obtain ⟨hi, rfl⟩ := inr hi pv
    obtain ⟨o1, o2, o3⟩ := hc.of c[i] (List.getElem_mem hi)
    refine ⟨[some v1, some v2, none, some v4, none, none, some v5, some v6, some (.int (i : Nat)), none], rfl, fun H2 Q e q => q, ?_⟩
    refine ev_p (p_callP (ps := [RkP K r, poP K c[i].2, IsD K (r.keyD c[i].1)]) (q_cons (p_var rfl ((RkP K r).m e k1)) (q_cons (p_ixT (K := K) (ps := [DvP c[i].1, poP K c[i].2]) (p_ixT (K := K) (ps := c.map (lkP K)) (p := lkP K c[i]) (p_var rfl ((chP K c).m e k2)) (p_varV rfl) ?_) p_c rfl) (q_cons (kat i hi B7 e _ _ _ rfl (ev_var rfl) rfl) q_nil))) ⟨r, c[i].2, c[i].1, hr0, o2, o3, hc.bel c[i] (List.getElem_mem hi), rfl, rfl⟩)
    refine atI_nat ?_
    rw [List.getElem?_map, List.getElem?_eq_getElem hi]
    rfl
  dsimp only
  have eB9 := eB8.trans e9
  refine ps_exE eB9 (p_callP (ps := [IsV (.str "principal"), LqP K (List.replicate (c.map (lkP K)).length (IsV (.bl true)))]) (q_cons p_c (q_cons (p_lcT (K := K) (src_tu (p_var rfl k2)) (by rw [List.length_map]; omega) fun i v3 B3 hi e pv => ?_) q_nil)) ⟨_, _, rfl, rfl⟩) fun H10 e10 => ?_
  · rw [List.length_map] at hi
    rw [getD_map hi] at pv
    obtain ⟨o1, o2, o3⟩ := hc.of c[i] (List.getElem_mem hi)
    have fr := hc.fre c[i] (List.getElem_mem hi)
    obtain ⟨p3, ys, rfl, hp3, al⟩ := pv
    obtain ⟨y1, y2, rfl, m1, m2⟩ := all2 al
    exact ⟨[some v1, some v2, none, some v4, none, some y1, some v5, some v6, none, some y2], rfl, fun H2 Q e q => ⟨p3, _, rfl, ex_t e hp3, rfl, _, _, rfl, _, _, rfl, rfl, q⟩, ev_p (p_callP (ps := [chP K c, poP K c[i].2]) (q_cons (p_var rfl ((chP K c).m e k2)) (q_cons (p_var rfl m2) q_nil)) ⟨c, c[i].2, o3, fr, rfl, rfl⟩)⟩
  exact q .non B6 H10 ((Gr.wide eB ((e1.trans e2).trans e3)).trans ((g4.trans (g5.trans g6)).trans (Gr.wide eB6 (((e7.trans e8).trans e9).trans e10)))) rfl

end
end K12
namespace Nd
set_option autoImplicit false
open PySem PySem.W L2 My Evl LamX
def Rnd2O (K : PySem.W.Frag) (C : Addr) : List Pr → Out → Prop := fun ps o => ∃ (q1 q2 : Pr) (d1 d2 : PyData), To K q1 d1 ∧ To K q2 d2 ∧ smB d1 = true ∧ smB d2 = true ∧ ps = [q1, q2] ∧ o = K12.outB C (dvB d1 && dvB d2)
def GdD (u : Dv) : Prop := dvB u.D = true ∧ smB u.D = true
def Bad2 (K : PySem.W.Frag) (C : Addr) : List Pr → Out → Prop := fun ps o => ∃ (q1 q2 : Pr) (d1 d2 : PyData), To K q1 d1 ∧ To K q2 d2 ∧ smB d1 = true ∧ smB d2 = true ∧ (dvB d1 && dvB d2) = false ∧ ps = [q1, q2] ∧ o = .exc C []
def RdbO (K : PySem.W.Frag) (C : Addr) : List Pr → Out → Prop := fun ps o => (∃ a b : Dv, GdD a ∧ GdD b ∧ ps = [DvP a, DvP b] ∧ o = .ret (wayP K a b)) ∨ Bad2 K C ps o
def lcD (a b : Dv) : Dv := ⟨a.n, if b.i > a.i then b.i else a.i, if b.j > a.j then b.j else a.j⟩
def lcP (a b : Dv) : Pr := if a.n = b.n then DvP (lcD a b) else IsV .non
def RlcO (K : PySem.W.Frag) (C : Addr) : List Pr → Out → Prop := fun ps o => (∃ a b : Dv, GdD a ∧ GdD b ∧ ps = [DvP a, DvP b] ∧ o = .ret (lcP a b)) ∨ Bad2 K C ps o
def RpbO (K : PySem.W.Frag) (C : Addr) : List Pr → Out → Prop := fun ps o => (∃ (r : Rk) (c : Ch) (u : Dv), r.Ok ∧ K12.ChOk r c ∧ u.Of r ∧ ps = [RkP K r, chP K c, DvP u] ∧ o = .ret (IsV (optV (fstI c u)))) ∨
  ∃ (r : Rk) (c : Ch) (qd : Pr) (d : PyData), r.Ok ∧ K12.ChOk r c ∧ To K qd d ∧ smB d = true ∧ fitsB r d = false ∧ ps = [RkP K r, chP K c, qd] ∧ o = .exc C []
end Nd
namespace K12
set_option autoImplicit false
open PySem PySem.W L2 Evl My Nd LamX NdefX
section
variable {P : Program} {w : World} {K : PySem.W.Frag} {mg : Str → Option Value} {base : Heap} {T : List (Addr × Str)}

/-- _need_derivatives -/
abbrev s__need_derivatives : Stmt := topS 57
abbrev N__need_derivatives : List Str := ["one", "other"]
theorem sc__need_derivatives : FnScope N__need_derivatives ["one", "other"] (defScope s__need_derivatives) := ⟨rfl, rfl, rfl, by decide +kernel, rfl, by decide +kernel, by decide +kernel⟩
theorem ok__need_derivatives {f : Addr} {fd : FuncData} (F : Fun K "_need_derivatives" "_need_derivatives" s__need_derivatives f fd) {aOP : Addr} {f_is_derivative : Addr} {d_is_derivative : FuncData} (c_is_derivative : Cal P w K mg base "is_derivative" 3 ["thing"] (spP (RB K dvB)) f_is_derivative d_is_derivative)  (R_OP : RQ K mg "OutOfPlace" aOP) :
    FnOk P w K mg base (L2.CX P w) 4 f fd ["one", "other"] (spO (Rnd2O K aOP)) := by
  refine F.okX sc__need_derivatives (spO_len (by rintro _ _ ⟨_, _, _, _, _, _, _, _, rfl, rfl⟩; rfl)) (fun cdv A outer s H vs Q E hr h => ?_)
  obtain ⟨B, ps, o, eB, hv, ⟨q1, q2, d1, d2, t1, t2, s1, s2, rfl, rfl⟩, q⟩ := h
  obtain ⟨v1, v2, rfl, h1, h2⟩ := all2 hv
  have hu := hu_of hr
  have tk : Takes (cxOf (L2.CX P w) P w K mg base N__need_derivatives "_need_derivatives" (defScope s__need_derivatives) f cdv A outer s H E) (fun cls d _ H => E cls d H) := L2.takes_of rfl rfl rfl rfl
  refine ⟨_, (pss_one (ps_if (PW.pt (pw_or (pt_not (pt_val (pe_call c_is_derivative.G (hr.mono (by decide)) (by rfl) c_is_derivative.m c_is_derivative.k c_is_derivative.b .nil pass0 (pa_cons (pv 0) pa_nil)))) (pw_or1 (pt_not (pt_val (pe_call c_is_derivative.G (hr.mono (by decide)) (by rfl) c_is_derivative.m c_is_derivative.k c_is_derivative.b .nil pass0 (pa_cons (pv 1) pa_nil))))))) (pss_one (ps_raiseQ R_OP rfl tk (by rfl))) pss_nil)), ?_⟩
  have tst := et_or (et_not (et_test (ev_p (p_callP (R := RB K dvB) (p := IsV (.bl (dvB d1))) (σ := [some v1, some v2]) (ps := [q1]) (q_cons (p_var (i := 0) rfl h1) q_nil) ⟨q1, d1, t1, s1, rfl, rfl⟩)))) fun _ => et_not (et_test (ev_p (p_callP (R := RB K dvB) (p := IsV (.bl (dvB d2))) (σ := [some v1, some v2]) (ps := [q2]) (q_cons (p_var (i := 1) rfl h2) q_nil) ⟨q2, d2, t2, s2, rfl, rfl⟩)))
  rw [show (!dvB d1 || !dvB d2) = !(dvB d1 && dvB d2) by cases dvB d1 <;> rfl] at tst
  cases e : (dvB d1 && dvB d2) with
  | true =>
    rw [e] at tst q
    refine ps_ifN eB (et_is tst rfl) fun H1 e1 => ?_
    exact q .non B H1 (Gr.wide eB e1) rfl
  | false =>
    rw [e] at tst q
    refine My.ps_ifT eB (et_is tst rfl) fun H1 e1 => ?_
    exact q none B H1 (Gr.wide eB e1) rfl

/-- derived_by -/
abbrev s_derived_by : Stmt := topS 55
abbrev N_derived_by : List Str := ["one", "other"]
theorem sc_derived_by : FnScope N_derived_by ["one", "other"] (defScope s_derived_by) := ⟨rfl, rfl, rfl, by decide +kernel, rfl, by decide +kernel, by decide +kernel⟩
theorem ok_derived_by {f : Addr} {fd : FuncData} (F : Fun K "derived_by" "derived_by" s_derived_by f fd) {aOP : Addr} {f__need_derivatives : Addr} {d__need_derivatives : FuncData} (c__need_derivatives : CalX P w K mg base "_need_derivatives" 4 ["one", "other"] (spO (Rnd2O K aOP)) f__need_derivatives d__need_derivatives) {f_way_to : Addr} {d_way_to : FuncData} (c_way_to : Cal P w K mg base "way_to" 1 ["one", "other"] (spP (Rway K)) f_way_to d_way_to)   :
    FnOk P w K mg base (L2.CX P w) 5 f fd ["one", "other"] (spO (RdbO K aOP)) := by
  refine F.okX sc_derived_by (spO_len (by rintro _ _ (⟨_, _, _, _, rfl, rfl⟩ | ⟨_, _, _, _, _, _, _, _, _, rfl, rfl⟩) <;> rfl)) (fun cdv A outer s H vs Q E hr h => ?_)
  obtain ⟨B, ps, o, eB, hv, ho, q⟩ := h
  have hu := hu_of hr
  have tk : Takes (cxOf (L2.CX P w) P w K mg base N_derived_by "derived_by" (defScope s_derived_by) f cdv A outer s H E) (fun cls d _ H => E cls d H) := L2.takes_of rfl rfl rfl rfl
  refine ⟨_, (pss_cons (ps_expr (pe_callS c__need_derivatives.G (hr.mono (by decide)) (by rfl) c__need_derivatives.m c__need_derivatives.k c__need_derivatives.b (fun σ => passAt tk σ) (pa_cons (pv 0) (pa_cons (pv 1) pa_nil))))
    (pss_one (ps_ret (pe_call c_way_to.G (hr.mono (by decide)) (by rfl) c_way_to.m c_way_to.k c_way_to.b .nil pass0 (pa_cons (pv 0) (pa_cons (pv 1) pa_nil)))))), ?_⟩
  rcases ho with ⟨a, b, ga, gb, rfl, rfl⟩ | ⟨q1, q2, d1, d2, t1, t2, s1, s2, hb, rfl, rfl⟩
  · obtain ⟨v1, v2, rfl, h1, h2⟩ := all2 hv
    refine o_call (E := WE _) (o := .ret (IsV .non)) eB (q_cons (p_var rfl h1) (q_cons (p_var rfl h2) q_nil)) ⟨_, _, _, _, to_dv a, to_dv b, ga.2, gb.2, rfl, by rw [ga.1, gb.1]; rfl⟩ fun _ B1 H1 g1 _ => ?_
    dsimp only
    have h1 := (DvP a).m g1.b h1
    have h2 := (DvP b).m g1.b h2
    exact My.ps_ret g1.c (p_callP (ps := [DvP a, DvP b]) (q_cons (p_var rfl h1) (q_cons (p_var rfl h2) q_nil)) ⟨a, b, rfl, rfl⟩) fun v B2 H2 g2 hp => q v B2 H2 (g1.trans g2) hp
  · obtain ⟨v1, v2, rfl, h1, h2⟩ := all2 hv
    exact o_call (E := WE _) (o := .exc aOP []) eB (q_cons (p_var rfl h1) (q_cons (p_var rfl h2) q_nil)) ⟨q1, q2, d1, d2, t1, t2, s1, s2, rfl, by rw [hb]; rfl⟩ fun d B1 H1 g1 hd => q d B1 H1 g1 hd

/-- least_common -/
abbrev s_least_common : Stmt := topS 56
abbrev N_least_common : List Str := ["one", "other"]
theorem sc_least_common : FnScope N_least_common ["one", "other"] (defScope s_least_common) := ⟨rfl, rfl, rfl, by decide +kernel, rfl, by decide +kernel, by decide +kernel⟩
theorem ok_least_common {f : Addr} {fd : FuncData} (F : Fun K "least_common" "least_common" s_least_common f fd) {aOP : Addr} {f__need_derivatives : Addr} {d__need_derivatives : FuncData} (c__need_derivatives : CalX P w K mg base "_need_derivatives" 4 ["one", "other"] (spO (Rnd2O K aOP)) f__need_derivatives d__need_derivatives) (n_max : mg "max" = none)  :
    FnOk P w K mg base (L2.CX P w) 5 f fd ["one", "other"] (spO (RlcO K aOP)) := by
  refine F.okX sc_least_common (spO_len (by rintro _ _ (⟨_, _, _, _, rfl, rfl⟩ | ⟨_, _, _, _, _, _, _, _, _, rfl, rfl⟩) <;> rfl)) (fun cdv A outer s H vs Q E hr h => ?_)
  obtain ⟨B, ps, o, eB, hv, ho, q⟩ := h
  have hu := hu_of hr
  have tk : Takes (cxOf (L2.CX P w) P w K mg base N_least_common "least_common" (defScope s_least_common) f cdv A outer s H E) (fun cls d _ H => E cls d H) := L2.takes_of rfl rfl rfl rfl
  refine ⟨_, (pss_cons (ps_expr (pe_callS c__need_derivatives.G (hr.mono (by decide)) (by rfl) c__need_derivatives.m c__need_derivatives.k c__need_derivatives.b (fun σ => passAt tk σ) (pa_cons (pv 0) (pa_cons (pv 1) pa_nil))))
    (pss_cons (ps_if (pt_cmpR op_ne (pe_ix ix_tup (pv 0) pe_int (fun _ _ => rfl)) (pe_ix ix_tup (pv 1) pe_int (fun _ _ => rfl)) (nomark _)) (pss_one (ps_ret pe_non)) pss_nil)
    (pss_one (ps_ret (pe_tup (pa_cons (pe_ix ix_tup (pv 0) pe_int (fun _ _ => rfl)) (pa_cons (pe_callB (call_max2 rfl) (by rfl) n_max (by decide +kernel) (pa_cons (pe_ix ix_tup (pv 0) pe_int (fun _ _ => rfl)) (pa_cons (pe_ix ix_tup (pv 1) pe_int (fun _ _ => rfl)) pa_nil))) (pa_cons (pe_callB (call_max2 rfl) (by rfl) n_max (by decide +kernel) (pa_cons (pe_ix ix_tup (pv 0) pe_int (fun _ _ => rfl)) (pa_cons (pe_ix ix_tup (pv 1) pe_int (fun _ _ => rfl)) pa_nil))) pa_nil)))))))), ?_⟩
  rcases ho with ⟨a, b, ga, gb, rfl, rfl⟩ | ⟨q1, q2, d1, d2, t1, t2, s1, s2, hb, rfl, rfl⟩
  · obtain ⟨v1, v2, rfl, h1, h2⟩ := all2 hv
    refine o_call (E := WE _) (o := .ret (IsV .non)) eB (q_cons (p_var rfl h1) (q_cons (p_var rfl h2) q_nil)) ⟨_, _, _, _, to_dv a, to_dv b, ga.2, gb.2, rfl, by rw [ga.1, gb.1]; rfl⟩ fun _ B1 H1 g1 _ => ?_
    dsimp only
    have h1 := (DvP a).m g1.b h1
    have h2 := (DvP b).m g1.b h2
    have ix : ∀ (B' : Hp), Ex B1 B' → ∀ (d : Dv) (i : Nat) (v : V), (DvP d).P v B1 → ([some v1, some v2] : L2.St)[i]? = some (some v) → Ev (tOp (rIxT K) (tVar i) (tC (.int 0))) [some v1, some v2] B' (.str d.n) ∧ Ev (tOp (rIxT K) (tVar i) (tC (.int 1))) [some v1, some v2] B' (.int d.i) ∧ Ev (tOp (rIxT K) (tVar i) (tC (.int 2))) [some v1, some v2] B' (.int d.j) := fun B' e d i v pd hi =>
      ⟨ev_st (K := K) (ed_ixT (ed_dv (p_var hi ((DvP d).m e pd))) ev_c rfl), ev_in (K := K) (ed_ixT (ed_dv (p_var hi ((DvP d).m e pd))) ev_c rfl), ev_in (K := K) (ed_ixT (ed_dv (p_var hi ((DvP d).m e pd))) ev_c rfl)⟩
    obtain ⟨a0, a1, a2⟩ := ix B1 (Ex.refl B1) a 0 v1 h1 rfl
    obtain ⟨b0, b1, b2⟩ := ix B1 (Ex.refl B1) b 1 v2 h2 rfl
    have tst := et_test (ev_op a0 b0 (rv_ne rfl))
    by_cases c : a.n = b.n
    · refine ps_ifN g1.c (et_is tst (by simp [c])) fun H2 e2 => ?_
      dsimp only
      refine My.ps_ret (g1.c.trans e2) (p_dv (u := lcD a b) rfl rfl rfl (q_cons (p_ev a0) (q_cons (p_ev (ev_max2 a1 b1)) (q_cons (p_ev (ev_max2 a2 b2)) q_nil)))) fun v B3 H3 g3 hp => q v B3 H3 ((g1.trans (Gr.wide g1.c e2)).trans g3) ?_
      unfold lcP
      rw [if_pos c]
      exact hp
    · refine My.ps_ifT g1.c (et_is tst (by simp [c])) fun H2 e2 => ?_
      refine My.ps_ret (g1.c.trans e2) (p_c (v := .non)) fun v B3 H3 g3 hp => q v B3 H3 ((g1.trans (Gr.wide g1.c e2)).trans g3) ?_
      unfold lcP
      rw [if_neg c]
      exact hp
  · obtain ⟨v1, v2, rfl, h1, h2⟩ := all2 hv
    exact o_call (E := WE _) (o := .exc aOP []) eB (q_cons (p_var rfl h1) (q_cons (p_var rfl h2) q_nil)) ⟨q1, q2, d1, d2, t1, t2, s1, s2, rfl, by rw [hb]; rfl⟩ fun d B1 H1 g1 hd => q d B1 H1 g1 hd

/-- principal_by -/
abbrev s_principal_by : Stmt := topS 65
abbrev N_principal_by : List Str := ["ranking", "chain", "derivative"]
theorem sc_principal_by : FnScope N_principal_by ["ranking", "chain", "derivative"] (defScope s_principal_by) := ⟨rfl, rfl, rfl, by decide +kernel, rfl, by decide +kernel, by decide +kernel⟩
theorem ok_principal_by {f : Addr} {fd : FuncData} (F : Fun K "principal_by" "principal_by" s_principal_by f fd) {aOP : Addr} {f_need_chain : Addr} {d_need_chain : FuncData} (c_need_chain : Cal P w K mg base "need_chain" 11 ["ranking", "chain"] (spP (Rch K)) f_need_chain d_need_chain) {f_need_derivative : Addr} {d_need_derivative : FuncData} (c_need_derivative : CalX P w K mg base "need_derivative" 5 ["ranking", "thing"] (spO (RndO K aOP)) f_need_derivative d_need_derivative) {f_first_by : Addr} {d_first_by : FuncData} (c_first_by : Cal P w K mg base "first_by" 2 ["chain", "derivative"] (spP (Rfst K)) f_first_by d_first_by)   :
    FnOk P w K mg base (L2.CX P w) 12 f fd ["ranking", "chain", "derivative"] (spO (RpbO K aOP)) := by
  refine F.okX sc_principal_by (spO_len (by rintro _ _ (⟨_, _, _, _, _, _, rfl, rfl⟩ | ⟨_, _, _, _, _, _, _, _, _, rfl, rfl⟩) <;> rfl)) (fun cdv A outer s H vs Q E hr h => ?_)
  obtain ⟨B, ps, o, eB, hv, ho, q⟩ := h
  have hu := hu_of hr
  have tk : Takes (cxOf (L2.CX P w) P w K mg base N_principal_by "principal_by" (defScope s_principal_by) f cdv A outer s H E) (fun cls d _ H => E cls d H) := L2.takes_of rfl rfl rfl rfl
  refine ⟨_, (pss_cons (ps_expr (pe_call c_need_chain.G (hr.mono (by decide)) (by rfl) c_need_chain.m c_need_chain.k c_need_chain.b .nil pass0 (pa_cons (pv 0) (pa_cons (pv 1) pa_nil))))
    (pss_cons (ps_expr (pe_callS c_need_derivative.G (hr.mono (by decide)) (by rfl) c_need_derivative.m c_need_derivative.k c_need_derivative.b (fun σ => passAt tk σ) (pa_cons (pv 0) (pa_cons (pv 2) pa_nil))))
    (pss_one (ps_ret (pe_call c_first_by.G (hr.mono (by decide)) (by rfl) c_first_by.m c_first_by.k c_first_by.b .nil pass0 (pa_cons (pv 1) (pa_cons (pv 2) pa_nil))))))), ?_⟩
  rcases ho with ⟨r, c, u, hok, hc, hu', rfl, rfl⟩ | ⟨r, c, qd, d, hok, hc, tq, hs, hb, rfl, rfl⟩
  · obtain ⟨v0, v1, v2, rfl, h0, h1, h2⟩ := all3 hv
    refine ps_exE eB (p_callP (ps := [RkP K r, chP K c]) (q_cons (p_var rfl h0) (q_cons (p_var rfl h1) q_nil)) ⟨r, c, hok, hc, rfl, rfl⟩) fun H1 e1 => ?_
    dsimp only
    refine o_call (E := WE _) (o := .ret (IsV .non)) (eB.trans e1) (q_cons (p_var rfl h0) (q_cons (p_var rfl h2) q_nil)) ⟨r, DvP u, u.D, hok, to_dv u, smd_dv (of_len hok hu'), rfl, by rw [fitsB_of hok hu']; rfl⟩ fun _ B1 H2 g1 _ => ?_
    dsimp only
    exact My.ps_ret g1.c (p_callP (ps := [chP K c, DvP u]) (q_cons (p_var rfl ((chP K c).m g1.b h1)) (q_cons (p_var rfl ((DvP u).m g1.b h2)) q_nil)) ⟨c, u, rfl, rfl⟩) fun v B2 H3 g2 hp => q v B2 H3 (((Gr.wide eB e1).trans g1).trans g2) hp
  · obtain ⟨v0, v1, v2, rfl, h0, h1, h2⟩ := all3 hv
    refine ps_exE eB (p_callP (ps := [RkP K r, chP K c]) (q_cons (p_var rfl h0) (q_cons (p_var rfl h1) q_nil)) ⟨r, c, hok, hc, rfl, rfl⟩) fun H1 e1 => ?_
    dsimp only
    exact o_call (E := WE _) (o := .exc aOP []) (eB.trans e1) (q_cons (p_var rfl h0) (q_cons (p_var rfl h2) q_nil)) ⟨r, qd, d, hok, tq, hs, rfl, by rw [hb]; rfl⟩ fun d B1 H2 g1 hd => q d B1 H2 ((Gr.wide eB e1).trans g1) hd

end
/-- a list of derivatives, or a dict by them -/
def SrcD (K : PySem.W.Frag) (us : List Dv) (v : V) (H : Hp) : Prop := (∃ l xs, v = .ref l ∧ SqL K H l xs ∧ AllP (us.map DvP) xs H) ∨ ∃ d, v = .ref d ∧ H d = some (.dT (asK us))
def SortedP (r : Rk) (us : List Dv) : Pr := LsP ((r.sort us).map DvP)
def spRis (K : PySem.W.Frag) (T : List (Addr × Str)) : Sp := fun vs H Q _ => ∃ B r us vr vd, vs = [vr, vd] ∧ Rk.Ok r ∧ (∀ u ∈ us, Dv.Of u r) ∧ Kn T B H ∧ (RkP K r).P vr B ∧ SrcD K us vd B ∧
  ∀ v H', ExtN H H' → Tabs T H' → (SortedP r us).P v H' → Q v H'
def spAll (K : PySem.W.Frag) (T : List (Addr × Str)) : Sp := fun vs H Q _ => ∃ B r vr, ∃ o : Nat, vs = [vr, .int (o : Int)] ∧ o ≤ 12 ∧ Rk.Ok r ∧ Kn T B H ∧ (RkP K r).P vr B ∧
  ∀ v H', ExtN H H' → Tabs T H' → (SortedP r (r.all o)).P v H' → Q v H'
theorem keyD_alike (r : Rk) (us : List Dv) : AllAlike (us.map r.keyD) := AllAlike.of fun u v => by
  unfold Rk.keyD
  simp [alike, alike_ints]
theorem keyD_sortable (r : Rk) (us : List Dv) : Sortable (us.map r.keyD) := Sortable.tuples fun u => by
  obtain ⟨a, b, c, e⟩ := r.key3 u
  exact ⟨.int a, [.int b, .int c], by unfold Rk.keyD; rw [e]; rfl⟩
theorem keyD_depth (r : Rk) (us : List Dv) : ∀ d, d ∈ us.map r.keyD → d.depth ≤ 50 := fun d hd => by
  obtain ⟨u, _, rfl⟩ := List.mem_map.mp hd
  unfold Rk.keyD
  simp [PyData.depth, depth_ints]
theorem exN_tr {H H1 H2 : Hp} (a : ExtN H H1) (b : Ex H1 H2) : ExtN H H2 := a.trans (exN_of b)
section
variable {P : Program} {w : World} {K : PySem.W.Frag} {mg : Str → Option Value} {base : Heap} {T : List (Addr × Str)}

/-- rising -/
abbrev s_rising : Stmt := topS 52
abbrev N_rising : List Str := ["ranking", "derivatives"]
theorem sc_rising : FnScope N_rising ["ranking", "derivatives"] (defScope s_rising) := ⟨rfl, rfl, rfl, by decide +kernel, rfl, by decide +kernel, by decide +kernel⟩

theorem ok_rising {f c tb : Addr} {fd : FuncData} (F : FunC K "rising" "rising" s_rising c f fd) {f_rank_key : Addr} {d_rank_key : FuncData} (c_rank_key : Cal P w K mg base "rank_key" 1 ["ranking", "derivative"] (spP (Rrd K fun r u => IsD K (.tuple ((r.key u).map .int)))) f_rank_key d_rank_key) (n_sorted : mg "sorted" = none) (TB : TabB base mg c tb) (hT : TO T tb "rising.<locals>.<lambda>") : FnOk P w K mg base CX0 5 f fd ["ranking", "derivatives"] (spRis K T) := by
  refine F.ok sc_rising (fun vs H Q E h => ?_) (fun A outer s H vs Q E hr h => ?_)
  · obtain ⟨B, r, us, vr, vd, rfl, _⟩ := h
    rfl
  obtain ⟨B, r, us, vr, vd, rfl, hok, hof, kn, hR, hS, q⟩ := h
  refine ⟨_, pss_one (ps_ret (pe_sortK (T := T) (N := ["derivative", "ranking"]) (fr := ["ranking"]) (x0 := "derivative") (js := [0]) (k := 1) (by rfl) n_sorted (pv 1) TB rfl hT.1 hT.2
    (nscope_by (by decide +kernel)) (ndef_free (sc := defScope s_rising) (fr := ["ranking"]) (by decide +kernel)) (ndef_fr (sc := defScope s_rising) (by decide +kernel)) rfl rfl hr (fun _ _ _ _ _ _ => rfl)
    (fun A' outer' s0 H0 F' f' hF hr' => by
      obtain ⟨nm, ql, pr, bd, sc, cl, c'⟩ := F'
      have hF : sc = _ := hF
      subst hF
      exact pe_call c_rank_key.G hr' (by rfl) c_rank_key.m c_rank_key.k c_rank_key.b .nil pass0 (pa_cons (pv 1) (pa_cons (pv 0) pa_nil))))), ?_⟩
  refine ⟨vd, rfl, kn.t, fun H2 eN T2 => ?_⟩
  have k2 := kn.next eN T2
  have hR2 := (RkP K r).m k2.e hR
  have fin : ∀ xs, AllP (us.map DvP) xs H2 → ∃ ks, ks.length = xs.length ∧ AllAlike ks ∧ Sortable ks ∧ (∀ d, d ∈ ks → d.depth ≤ 50) ∧ (∀ (i : Nat) (x : V) (k : PyData), xs[i]? = some x → ks[i]? = some k → EvP (tCall (spP (Rrd K fun r u => IsD K (.tuple ((r.key u).map .int)))) [] E0 (tCons (tVar 1) (tCons (tVar 0) tNil))) (startF ["derivative", "ranking"] [x] ([0].map (slotAt (L2.start N_rising [vr, vd])))) H2 (IsD K k)) ∧
      ∀ H3 a, Ex H2 H3 → H3 a = none → Q (.ref a) (upd H3 a (.lst (byKey xs ks))) := fun xs hx => by
    refine ⟨us.map r.keyD, by rw [List.length_map, hx.len, List.length_map], keyD_alike r us, keyD_sortable r us, keyD_depth r us, fun i x k e1 e2 => ?_, fun H3 a e3 na => ?_⟩
    · obtain ⟨u, hu, px⟩ := hx.ixD DvP e1
      rw [List.getElem?_map, hu] at e2
      obtain rfl : r.keyD u = k := Option.some.inj e2
      exact p_callP (ps := [RkP K r, DvP u]) (q_cons (p_var rfl hR2) (q_cons (p_var rfl px) q_nil)) ⟨r, u, hok, hof u (List.mem_of_getElem? hu), rfl, rfl⟩
    · exact q _ _ (exN_tr (exN_tr eN e3) (Ex.new na)) ((T2.ext e3).ext (Ex.new na)) ⟨a, _, rfl, upd_same, (byKey_all r (hx.m e3)).m (Ex.new na)⟩
  rcases hS with ⟨l, xs, rfl, hl, hx⟩ | ⟨d, rfl, hd⟩
  · exact .inl ⟨l, xs, rfl, ex_l k2.e hl, fin xs (hx.m k2.e)⟩
  · refine .inr ⟨d, asK us, rfl, .inl (k2.e _ _ hd), fun as hl has => fin _ (AllP.ix (by rw [List.length_map, List.length_map, hl]; unfold asK; rw [List.length_map]) fun i p v hp hv => ?_)⟩
    rw [List.getElem?_map] at hp hv
    cases hu : us[i]? with
    | none =>
      rw [hu] at hp
      cases hp
    | some u =>
      rw [hu] at hp
      obtain rfl : DvP u = p := Option.some.inj hp
      obtain ⟨a, ha, h3⟩ := has i (dvK u, .bl true) (by unfold asK; rw [List.getElem?_map, hu]; rfl)
      rw [ha] at hv
      obtain rfl : V.ref a = v := Option.some.inj hv
      exact ⟨a, rfl, h3⟩

/-- all_to -/
abbrev s_all_to : Stmt := topS 53
abbrev N_all_to : List Str := ["ranking", "order", "_", "names", "axes", "found", "name", "by_x", "most_by_y", "by_y"]
theorem sc_all_to : FnScope N_all_to ["ranking", "order"] (defScope s_all_to) := ⟨rfl, rfl, rfl, by decide +kernel, rfl, by decide +kernel, by decide +kernel⟩
theorem ok_all_to {f : Addr} {fd : FuncData} (F : Fun K "all_to" "all_to" s_all_to f fd) {aBR : Addr} {f_need_ranking : Addr} {d_need_ranking : FuncData} (c_need_ranking : CalX P w K mg base "need_ranking" 4 ["ranking"] (spO (RrkO K aBR)) f_need_ranking d_need_ranking) {f_is_among : Addr} {d_is_among : FuncData} (c_is_among : Cal P w K mg base "is_among" 3 ["thing", "least", "most"] (spP Ramong) f_is_among d_is_among) {f_rising : Addr} {d_rising : FuncData} (c_rising : Cal P w K mg base "rising" 5 ["ranking", "derivatives"] (spRis K T) f_rising d_rising) (n_range : mg "range" = none) {tk1 : Nat} (g_MOST_ORDER : mg "MOST_ORDER" = some (.int 12 tk1)) :
    FnOk P w K mg base CX0 6 f fd ["ranking", "order"] (spAll K T) := by
  refine F.ok sc_all_to (fun vs H Q E h => by obtain ⟨B, r, vr, o, rfl, _⟩ := h; rfl) (fun cdv A outer s H vs Q E hr h => ?_)
  obtain ⟨B, r, vr, o, rfl, ho, hok, kn, hR, q⟩ := h
  have hu := hu_of hr
  refine ⟨_, (pss_cons (ps_expr (pe_call c_need_ranking.G (hr.mono (by decide)) (by rfl) c_need_ranking.m c_need_ranking.k c_need_ranking.b .nil L2.passL (pa_cons (pv 0) pa_nil)))
    (pss_cons (ps_if (pt_not (pt_val (pe_call c_is_among.G (hr.mono (by decide)) (by rfl) c_is_among.m c_is_among.k c_is_among.b .nil pass0 (pa_cons (pv 1) (pa_cons pe_int (pa_cons (pe_glob (by rfl) (v := .int 12) g_MOST_ORDER ⟨_, rfl⟩) pa_nil)))))) (pss_one ps_never) pss_nil)
    (pss_cons (ps_asg (pv 0) (pg_tup (by rfl) (pgs_cons (pg_name (i := 2) sc_all_to.nd rfl (by first | exact .inl rfl | exact .inr rfl)) (pgs_cons (pg_name (i := 3) sc_all_to.nd rfl (by first | exact .inl rfl | exact .inr rfl)) (pgs_cons (pg_name (i := 4) sc_all_to.nd rfl (by first | exact .inl rfl | exact .inr rfl)) pgs_nil)))))
    (pss_cons (ps_set (i := 5) sc_all_to.nd rfl (by first | exact .inl rfl | exact .inr rfl) (pe_lst pa_nil))
    (pss_cons (ps_for PassesOwn.never rfl (pi_tup (pv 3)) (pg_name (i := 6) sc_all_to.nd rfl (by first | exact .inl rfl | exact .inr rfl))
      (pss_one (ps_for PassesOwn.never rfl (pi_range1 (by rfl) n_range (pa_cons (pe_op op_add (pv 1) pe_int) pa_nil)) (pg_name (i := 7) sc_all_to.nd rfl (by first | exact .inl rfl | exact .inr rfl))
      (pss_cons (ps_set (i := 8) sc_all_to.nd rfl (by first | exact .inl rfl | exact .inr rfl) (pe_ifExp (pt_cmpR op_in_seq pe_str (pv 4) (by rfl)) (pe_op op_sub (pv 1) (pv 7)) pe_int))
    (pss_one (ps_expr (pe_bm PySem.F.plainAttrs_list PySem.F.slot_list_extend PySem.F.type_list_extend mt_extend (pv 5) (pa_cons (pe_lc (own := [("by_y", 9)]) rfl sc_all_to.nd (pi_range1 (by rfl) n_range (pa_cons (pe_op op_add (pv 8) pe_int) pa_nil)) (blkOk_by (N := N_all_to) (sc := defScope s_all_to) (by decide +kernel)) (fun _ _ _ _ _ => (pg_name (i := 9) sc_all_to.nd rfl (Or.inl rfl))) (fun _ _ _ _ _ => pts_nil) (fun _ _ _ _ _ => (pe_tup (pa_cons (pv 6) (pa_cons (pv 7) (pa_cons (pv 9) pa_nil)))))) pa_nil))))))))
    (pss_one (ps_ret (pe_call c_rising.G (hr.mono (by decide)) (by rfl) c_rising.m c_rising.k c_rising.b .nil pass0 (pa_cons (pv 0) (pa_cons (pv 5) pa_nil)))))))))), ?_⟩
  refine ps_exE kn.e (p_callO (ps := [RkP K r]) (q_cons (p_var rfl hR) q_nil) (.inl ⟨r, hok, rfl, rfl⟩)) fun H1 e1 => ?_
  dsimp only
  refine ps_ifN (kn.e.trans e1) (et_is (et_not (et_test (ev_p (p_callP (ps := [IsV (.int o), IsV (.int 0), IsV (.int 12)]) (q_cons (p_varV rfl) (q_cons p_c (q_cons p_c q_nil))) ⟨o, 0, 12, rfl, rfl⟩)))) (by simp; omega)) fun H2 e2 => ?_
  dsimp only
  have kB : Kn T B H2 := ⟨(kn.e.trans e1).trans e2, kn.n, (kn.t.ext e1).ext e2⟩
  refine ps_unR (K := K) kB.e (p_var rfl hR) fun vn va B3 H3 g3 n2 n3 => ?_
  have k3 := kB.gr g3
  dsimp only
  refine ⟨by decide, fun l hl => ?_⟩
  have hBl : B3 l = none := fresh_back k3.e hl
  dsimp only
  have hl3 : l ∉ ([] : List Addr) := by simp
  have exl : ∀ {C H' : Hp} {o' : HO}, Ex C H' → C l = none → Ex C (upd H' l o') := fun a b => Ex.mut a b
  have h3l : H3 l = none := hl
  refine ps_forS (B := B3) (exl k3.e hBl) (src_tup (ed_nm (p_var rfl n2))) fun B4 H4 g4 => ?_
  have hB4l : B4 l = none := g4.d l hBl (by rw [upd_same]; exact fun z => nomatch z)
  have h4l : H4 l = some (.lst []) := g4.a _ _ upd_same
  have n4 := (NmP r.ns).m g4.b n2
  have va4 := dp_m g4.b n3
  have hR4 := (RkP K r).m (g3.b.trans g4.b) hR
  have nt4 := g4.e k3.n
  have e34 : Ex H3 H4 := (Ex.new hl).trans g4.a
  -- what stands at each turn: all that stood, and the list so far
  let St : List Dv → L2.St → Hp → Prop := fun us σ H' => Ex H3 H' ∧ ∃ C xs w6 w7 w8, Ex B4 C ∧ Ex C H' ∧ C l = none ∧ NoTab C ∧ H' l = some (.lst xs) ∧ AllP (us.map DvP) xs C ∧ σ = [some vr, some (.int o), some (.str r.srt), some vn, some va, some (.ref l), w6, w7, w8, none]
  refine ⟨fun i σ H' => St (r.rowsT o i) σ H', ⟨e34, B4, [], none, none, none, Ex.refl B4, g4.c, hB4l, nt4, h4l, trivial, rfl⟩, fun i σ H' _ h => ?_, fun i v σ H' hi pv px => ?_, fun σ H' pv => ?_⟩
  · obtain ⟨_, C, xs, w6, w7, w8, a, b, _⟩ := h
    exact a.trans b
  · rw [List.length_map] at hi
    have hv : v = .str r.ns[i] := by
      have px : Dp K B4 v ((r.ns.map PyData.str).getD i .none) := px
      rw [List.getD_eq_getElem?_getD, List.getElem?_map, List.getElem?_eq_getElem hi] at px
      cases px
      rfl
    subst hv
    obtain ⟨eH, C, xs, w6, w7, w8, c1, c2, c3, c4, c5, c6, rfl⟩ := pv
    refine ps_forS (B := C) c2 (src_rng (j := o + 1) (q_cons (p_ev (ev_is (ev_op (ev_var rfl) ev_c rv_I0) (by simp))) q_nil) (by omega)) fun C1 H5 g5 => ?_
    have f1 : C1 l = none := g5.d l c3 (by rw [c5]; exact fun z => nomatch z)
    refine ⟨fun m σ H' => St (r.rowsT o i ++ r.rowsN o r.ns[i] m) σ H' ∧ (∃ C, Ex C1 C ∧ Ex C H') ∧ ∃ x7 x8, σ = [some vr, some (.int o), some (.str r.srt), some vn, some va, some (.ref l), some (.str r.ns[i]), x7, x8, none], ?_, fun m σ H' _ h => ?_, fun m v σ H' hm pv px => ?_, fun σ H' pv => ?_⟩
    · refine ⟨⟨eH.trans g5.a, C1, xs, _, w7, w8, c1.trans g5.b, g5.c, f1, g5.e c4, g5.a _ _ c5, ?_, rfl⟩, ⟨C1, Ex.refl C1, g5.c⟩, w7, w8, rfl⟩
      have : r.rowsN o r.ns[i] 0 = [] := rfl
      rw [this, List.append_nil]
      exact c6.m g5.b
    · obtain ⟨_, ⟨C, a, b⟩, _⟩ := h
      exact a.trans b
    · obtain rfl : v = .int (m : Int) := px
      obtain ⟨⟨eH', D1, ys, u6, u7, u8, d1, d2, d3, d4, d5, d6, _⟩, ⟨D2, dd1, dd2⟩, x7, x8, rfl⟩ := pv
      have va5 := dp_m d1 va4
      refine ps_asgN (fun x => [some vr, some (.int o), some (.str r.srt), some vn, some va, some (.ref l), some (.str r.ns[i]), some (.int m), some x, none]) d2 (p_ev (v := .int (r.most o m : Nat)) (ev_if (b := decide ((Str.ofString "y") ∈ r.axs)) (et_is (et_test (ev_inT (neg := false) (ys := r.axs) ev_c (ed_var rfl va5))) (by rw [if_neg Bool.false_ne_true])) (fun hb => ev_is (ev_op (ev_var rfl) (ev_var rfl) rv_I0) ?_) fun hb => ev_is ev_c ?_)) (fun x D3 H6 g6 hx => ?_) (fun _ => rfl)
      · unfold Rk.most
        rw [if_pos (of_decide_eq_true hb)]
        congr 1
        omega
      · unfold Rk.most
        rw [if_neg (of_decide_eq_false hb)]
        rfl
      obtain rfl : x = .int (r.most o m : Nat) := hx
      dsimp only
      have l6 := g6.a _ _ d5
      have D3l : D3 l = none := g6.d l d3 (by rw [d5]; exact fun z => nomatch z)
      have mm : r.most o m ≤ 12 := by
        unfold Rk.most
        split <;> omega
      have lc := p_lcP (te := tTup (tCons (tVar 6) (tCons (tVar 7) (tCons (tVar 9) tNil)))) (g := gName 9) (vs := [9]) (σ := [some vr, some (.int o), some (.str r.srt), some vn, some va, some (.ref l), some (.str r.ns[i]), some (.int m), some (.int (r.most o m : Nat)), none]) (B := D3)
        (src_rng (j := r.most o m + 1) (t := tCons (tOp (rI0 fun i j => .int (i + j)) (tVar 8) (tC (.int 1))) tNil) (q_cons (p_ev (ev_is (ev_op (ev_var rfl) ev_c rv_I0) (by simp))) q_nil) (by omega)) (by omega) (fun j => DvP ⟨r.ns[i], (m : Int), (j : Int)⟩) fun j v B5 hj e5 pv => by
          obtain rfl : v = .int (j : Int) := pv
          exact ⟨[some vr, some (.int o), some (.str r.srt), some vn, some va, some (.ref l), some (.str r.ns[i]), some (.int m), some (.int (r.most o m : Nat)), some (.int j)], rfl, fun H2 Q e q => q, p_dv (u := ⟨r.ns[i], (m : Int), (j : Int)⟩) rfl rfl rfl (q_cons (p_varV rfl) (q_cons (p_varV rfl) (q_cons (p_varV rfl) q_nil)))⟩
      refine ⟨.ref l, rfl, .inl ⟨rfl, ys, sq_of l6⟩, lc H6 g6.c _ fun v D4 H7 g7 hv => ?_⟩
      obtain ⟨b, zs, rfl, hb, hz⟩ := hv
      have l7 := g7.a _ _ l6
      have D4l : D4 l = none := g7.d l D3l (by rw [l6]; exact fun z => nomatch z)
      have rowE : (List.range (r.most o m + 1)).map (fun j => DvP ⟨r.ns[i], (m : Int), ((j : Nat) : Int)⟩) = (r.row o r.ns[i] m).map DvP := by
        unfold Rk.row
        rw [List.map_map]
        rfl
      rw [rowE] at hz
      have hy : AllP ((r.rowsT o i ++ r.rowsN o r.ns[i] (m + 1)).map DvP) (ys ++ zs) D4 := by
        rw [Rk.rowsN_succ, ← List.append_assoc, List.map_append]
        exact (d6.m (g6.b.trans g7.b)).app hz
      have szs : ys.length + zs.length ≤ 100000 := by
        have h1 := hy.len
        rw [List.length_append, List.length_map, List.length_append] at h1
        have h2 := r.rowsT_len (o := o) (m := i) ho hok.le
        have h3 := r.rowsN_len r.ns[i] (o := o) (m := m + 1) (by omega) ho
        omega
      refine ⟨l, b, ys, zs, rfl, rfl, l7, g7.c _ _ hb, sz_of szs, ?_⟩
      refine ⟨⟨Ex.mut (eH'.trans (g6.a.trans g7.a)) h3l, D4, ys ++ zs, _, _, _, (d1.trans g6.b).trans g7.b, Ex.mut g7.c D4l, D4l, g7.e (g6.e d4), upd_same, hy, rfl⟩, ?_, _, _, rfl⟩
      have C1l2 : C1 l = none := f1
      exact ⟨C1, Ex.refl C1, Ex.mut (((dd1.trans dd2).trans g6.a).trans g7.a) C1l2⟩
    · obtain ⟨⟨eH', D1, ys, u6, u7, u8, d1, d2, d3, d4, d5, d6, hσ⟩, _⟩ := pv
      refine ⟨eH', D1, ys, u6, u7, u8, d1, d2, d3, d4, d5, ?_, hσ⟩
      rw [Rk.rowsT_succ r o i hi]
      exact d6
  · obtain ⟨eH, C, xs, w6, w7, w8, c1, c2, c3, c4, c5, c6, rfl⟩ := pv
    rw [List.length_map, Rk.rowsT_all] at c6
    have kf : Kn T (upd C l (.lst xs)) H' := ⟨fun b o e => by
      by_cases n : b = l
      · subst n
        rw [upd_same] at e
        rw [c5]
        exact e
      · rw [upd_ne n] at e
        exact c2 b o e, nt_upd c4 (fun ps z => nomatch z), k3.t.ext eH⟩
    refine ⟨vr, rfl, .ref l, rfl, upd C l (.lst xs), r, r.all o, vr, .ref l, rfl, hok, fun u hu => Rk.mem_all hu, kf, (RkP K r).m (c1.trans (Ex.new c3)) hR4, .inl ⟨l, xs, rfl, sq_of upd_same, c6.m (Ex.new c3)⟩, fun v H6 eN T6 hs => ?_⟩
    exact q v H6 ((exN_of (((e1.trans e2).trans g3.a).trans eH)).trans eN) T6 hs

end
end K12
namespace Nd
set_option autoImplicit false
open PySem PySem.W L2 My Evl LamX NdefX
/-- polynomials of derivatives of a kind -/
structure LQ (G : Dv → Prop) (n : Nat) (p : Pq) : Prop where
  c : PoC p
  of : ∀ t ∈ p, ∀ y ∈ t.1, G y.1
  dg : ∀ t ∈ p, Nd.dg t.1 ≤ 3
  ln : p.length ≤ n
  lm : Lim 6 (30 * n) p
theorem lq_nil {G : Dv → Prop} : LQ G 0 [] := ⟨poc_nil, fun _ h => absurd h List.not_mem_nil, fun _ h => absurd h List.not_mem_nil, Nat.le_refl _, Lim.nil⟩
theorem LQ.le {G : Dv → Prop} {n m : Nat} {p : Pq} (h : LQ G n p) (k : n ≤ m) : LQ G m p := ⟨h.c, h.of, h.dg, Nat.le_trans h.ln k, h.lm.le (Nat.mul_le_mul_left _ k)⟩
theorem LQ.add {G : Dv → Prop} {n : Nat} {p : Pq} (h : LQ G n p) {us : List Dv} (hu : ∀ u ∈ us, G u) (hl : us.length ≤ 3) {s : Rat} (hs : NumOk s) : LQ G (n + 1) (addP p [(cf (onesL us), s)]) := by
  have one : PoC [(cf (onesL us), s)] := ⟨⟨List.pairwise_singleton _ _, fun z hz => by rw [List.mem_singleton.mp hz]; exact hs.1⟩, fun t ht => by rw [List.mem_singleton.mp ht]; exact moc_cf (co_ones us)⟩
  have key : ∀ t ∈ addP p [(cf (onesL us), s)], t.1 = cf (onesL us) ∨ ∃ z ∈ p, z.1 = t.1 := fun t ht => by
    have := cf_key ht
    rw [List.map_append, List.mem_append] at this
    rcases this with h1 | h1
    · obtain ⟨z, hz, e⟩ := List.mem_map.mp h1
      exact .inr ⟨z, hz, e⟩
    · exact .inl (List.mem_singleton.mp h1)
  refine ⟨poc_add h.c one, fun t ht y hy => ?_, fun t ht => ?_, Nat.le_trans (addP_len _ _) (Nat.add_le_add_right h.ln 1), ?_⟩
  · rcases key t ht with e | ⟨z, hz, e⟩
    · rw [e] at hy
      have := cf_key hy
      obtain ⟨x, hx, e2⟩ := List.mem_map.mp this
      obtain ⟨u, hu', rfl⟩ := List.mem_map.mp hx
      rw [← e2]
      exact hu u hu'
    · exact h.of z hz y (e ▸ hy)
  · rcases key t ht with e | ⟨z, hz, e⟩
    · rw [e]
      have := dg_cf (onesL us)
      rw [dg_ones] at this
      omega
    · rw [← e]
      exact h.dg z hz
  · have l1 : Lim 6 30 [(cf (onesL us), s)] := ⟨fun t ht => by rw [List.mem_singleton.mp ht]; exact hs.2.1, by rw [wt_cons]; show ab 6 s + 0 ≤ 30; have := hs.2.2; omega⟩
    exact ((h.lm.app l1).cf).le (by omega)
def Rcomes (K : PySem.W.Frag) : List Pr → Pr → Prop := fun ps z => ∃ a b : Dv, ps = [DvP a, DvP b] ∧ z = IsV (.bl (wayB b a))
end Nd
namespace K12
set_option autoImplicit false
open PySem PySem.W L2 Evl My Nd LamX NdefX
theorem strOk_nm {x : Str} (h : My.IsNm x) : PyData.strOk x = true := by
  have h2 := (nm_facts h).2.2
  unfold PyData.strOk
  rw [Array.all_eq_true']
  intro c hc
  have := h2 c hc
  simp
  omega
theorem sh_dvR {r : Rk} {u : Dv} (hr : r.Ok) (h : u.Of r) : SeqAt.shaped u.D = true := by
  have := strOk_nm (hr.nm _ h.n)
  unfold Dv.D SeqAt.shaped
  simp [PyData.canLay0, PyData.canLayAll0, PyData.depth, PyData.depthAll, this]
section
variable {te ta tb : TE} {t u : TS} {ts tx : TA} {σ : L2.St} {B H : Hp} {D : Ends} {Q : VK}
theorem b_lst0 (h : tx σ H fun xs H1 => xs.length ≤ sizeLine ∧ ∀ p, H1 p = none → Q (.ref p) (upd H1 p (.lst xs))) : tLst tx σ H Q := h
theorem b_nil0 {Q : List V → Hp → Prop} (h : Q [] H) : tNil σ H Q := h
theorem b_call0 {sp : Sp} {E : XK} (h : ts σ H fun vs H1 => sp (vs ++ []) H1 Q E) : tCall sp [] E ts σ H Q := h
theorem b_lcE {te0 tx : TE} {tt : TT} {g : TG} {vs : List Nat} (h : te0 σ H fun v H1 => tLc (iRng1 (tCons (tC v) tNil)) g tt tx vs σ H1 Q) : tLc (iRng1 (tCons te0 tNil)) g tt tx vs σ H Q := h
theorem all4 {p q r s : Pr} {vs : List V} (h : AllP [p, q, r, s] vs H) : ∃ v u t x, vs = [v, u, t, x] ∧ p.P v H ∧ q.P u H ∧ r.P t H ∧ s.P x H := by
  match vs, h with
  | [v, u, t, x], h => exact ⟨v, u, t, x, rfl, h.1, h.2.1, h.2.2.1, h.2.2.2.1⟩
end
section
variable {T : List (Addr × Str)} {d D : Addr} {n m : Nat} {B H B1 H1 : Hp} {xs ys acc : List V}
theorem Kx.lst (k : Kx T d n B H) (hD : H D = some (.lst xs)) (hB : B D = none) (ne : D ≠ d) : Kx T d n B (upd H D (.lst ys)) := ⟨fun b o e => by
  rw [upd_ne (fun z => by subst z; rw [hB] at e; cases e)]
  exact k.e b o e, k.nt, tabs_lst k.t hD, k.z, k.s.upd ne.symm⟩
theorem Kx.fin (k : Kx T d n B1 H1) (hB : B1 D = none) (hD : H1 D = some (.lst acc)) (ne : D ≠ d) : Kx T d n (upd B1 D (.lst acc)) H1 := ⟨fun b o e => by
  by_cases z : b = D
  · subst z
    rw [upd_same] at e
    rw [← e]
    exact hD
  · rw [upd_ne z] at e
    exact k.e b o e, nt_upd k.nt (fun _ z => nomatch z), k.t, by rw [upd_ne ne.symm]; exact k.z, k.s⟩
theorem GX.fin (g : GX d B H B1 H1) (hB : B1 D = none) (h0 : H D = none) : GX d B H (upd B1 D (.lst acc)) H1 := ⟨g.a, g.b.trans (Ex.new hB), fun x o n hb hh z => by
  rw [upd_ne (fun e => by subst e; rw [h0] at hh; cases hh)]
  exact g.f x o n hb hh z⟩
end
section
variable {T : List (Addr × Str)} {d : Addr} {n m : Nat} {B H B1 H1 B2 H2 : Hp}
theorem x_lcC {α : Type} {f : α → Pr} {ok : α → Prop} {te : TE} {σ : L2.St} {jv c : Nat} {Q : VK} (k : Kx T d n B H) (hm : m ≤ 1000) (hw : ∀ x, wipe ((wipe σ [jv]).set jv (some x)) [jv] = wipe σ [jv])
    (step : ∀ (i : Nat) (B1 H1 : Hp) (Q' : VK), i < m → Kx T d (n + c * i) B1 H1 → GX d B H B1 H1 → (∀ (a : α) v B2 H2, ok a → Kx T d (n + c * (i + 1)) B2 H2 → GX d B1 H1 B2 H2 → (f a).P v B2 → Q' v H2) → te ((wipe σ [jv]).set jv (some (.int (i : Nat)))) H1 Q')
    (q : ∀ (as : List α) v B' H', (∀ a ∈ as, ok a) → as.length = m → Kx T d (n + c * m) B' H' → GX d B H B' H' → (LsP (as.map f)).P v B' → Q v H') :
    tLc (iRng1 (tCons (tC (.int (m : Nat))) tNil)) (gName jv) tYes te [jv] σ H Q := by
  refine ⟨(m : Int), rfl, by omega, by omega, fun D hD => ?_⟩
  have hDd : D ≠ d := fun e => k.s.ne0 (e ▸ hD)
  have hBD : B D = none := fresh_back k.e hD
  have a0 : AllP (([] : List α).map f) [] B := trivial
  refine lc_range (lo := 0) (n := (m : Int).toNat) (fun i H' => ∃ B1 as acc, (∀ a ∈ as, ok a) ∧ as.length = i ∧ Kx T d (n + c * i) B1 H' ∧ GX d B H B1 H' ∧ B1 D = none ∧ H' D = some (.lst acc) ∧ AllP (as.map f) acc B1)
    ⟨B, [], [], fun a h => absurd h List.not_mem_nil, rfl, k.ex (Ex.new hD), GX.ex (Ex.new hD), hBD, upd_same, a0⟩ (fun i H' hi h => ?_) fun H' h => ?_
  · obtain ⟨B1, as, acc, h1, h2, h3, h4, h5, h6, h7⟩ := h
    refine ⟨hw _, ?_⟩
    dsimp only [tYes]
    rw [if_pos rfl, Int.zero_add]
    refine step i B1 H' _ (by omega) h3 h4 fun a v B2 H2 oa k2 g2 hv => ?_
    have hD2 : H2 D = some (.lst acc) := g2.a D _ hDd h6 (fun _ z => nomatch z)
    have hB2 : B2 D = none := g2.f D _ hDd h5 h6 (fun _ z => nomatch z)
    have hlen := h7.len
    rw [List.length_map] at hlen
    refine ⟨acc, hD2, small1000 (by omega), B2, as ++ [a], acc ++ [v], ?_, by rw [List.length_append, h2]; rfl, ?_, (h4.trans g2).lst hD, hB2, upd_same, ?_⟩
    · intro b hb
      rcases List.mem_append.mp hb with hb | hb
      · exact h1 b hb
      · rw [List.mem_singleton.mp hb]
        exact oa
    · refine ⟨fun b o e => ?_, k2.nt, tabs_lst k2.t hD2, k2.z, k2.s.upd hDd.symm⟩
      rw [upd_ne (fun z => by subst z; rw [hB2] at e; cases e)]
      exact k2.e b o e
    · rw [List.map_append]
      exact (h7.m g2.b).app ⟨hv, trivial⟩
  · obtain ⟨B1, as, acc, h1, h2, h3, h4, h5, h6, h7⟩ := h
    have ne : Ex B1 (upd B1 D (.lst acc)) := Ex.new h5
    refine q as _ (upd B1 D (.lst acc)) H' h1 (by rw [h2]; omega) ?_ ?_ ⟨D, acc, rfl, upd_same, h7.m ne⟩
    · refine ⟨fun b o e => ?_, nt_upd h3.nt (fun _ z => nomatch z), h3.t, by rw [upd_ne hDd.symm]; exact h3.z, ?_⟩
      · by_cases z : b = D
        · subst z
          rw [upd_same] at e
          rw [← e]
          exact h6
        · rw [upd_ne z] at e
          exact h3.e b o e
      · have e : (m : Int).toNat = m := Int.toNat_natCast m
        rw [e] at h3
        exact h3.s
    · exact ⟨h4.a, h4.b.trans ne, fun x o n hb hh z => by
        rw [upd_ne (fun e => by subst e; rw [hD] at hh; cases hh)]
        exact h4.f x o n hb hh z⟩
end
section
variable {T : List (Addr × Str)} {K : PySem.W.Frag} {d : Addr} {n : Nat} {B H : Hp} {te tz : TE} {σ : L2.St} {Q : VK}
theorem x_pickE {ps : List Pr} {i : Nat} (k : Kx T d n B H) (hl : EvP te σ B (LsP ps)) (hi : σ[i]? = some (some (.ref d))) (hz : Ev tz σ B (.int (ps.length : Nat))) (h0 : 0 < ps.length) (h1 : ps.length < 1000) (hn : n ≤ 2 ^ 38)
    (q : ∀ (p : Pr) v B' H', p ∈ ps → p.P v B' → Kx T d (n + 4) B' H' → GX d B H B' H' → Q v H') : tOp (rIxL K) te (tCall spDigit [] E0 (tCons (tVar i) (tCons tz tNil))) σ H Q := by
  refine hl H k.e _ fun v B1 H1 g hv => ?_
  refine x_digit (k.gr g) hi (hz.mono g.b) (by omega) (by omega) (by omega) fun m H2 m0 m1 k2 g2 => ?_
  obtain ⟨l, xs, rfl, hx, al⟩ := hv
  obtain ⟨j, p, w, hj, rfl, hp, hat, hw⟩ := pick al m0 m1
  exact ⟨l, xs, _, _, rfl, rfl, sq_of (k2.e _ _ hx), hat, q p w B1 H2 (List.mem_of_getElem? hp) hw k2 ((GX.gr g).trans g2)⟩
end
section
variable {te : TE} {σ : L2.St} {B : Hp} {K : PySem.W.Frag}
theorem ev_lenL {ps : List Pr} (h : EvP te σ B (LsP ps)) : Ev (tCB (rLenS K) (tCons te tNil)) σ B (.int (ps.length : Int)) := fun H1 a Q k =>
  h H1 a _ fun v B2 H2 g x => by
    obtain ⟨l, xs, rfl, hl, al⟩ := x
    refine ⟨l, xs, rfl, .inl (sq_of (g.c _ _ hl)), ?_⟩
    rw [al.len]
    exact k H2 g.a
end
/-- what is below one, derived of none -/
def Gbel (r : Rk) (lead : Dv) (leads : List Dv) (u : Dv) : Prop := u.Of r ∧ u.i + u.j ≤ 3 ∧ r.lt u lead ∧ ∀ l ∈ leads, wayB l u = false
def spBelow (K : PySem.W.Frag) (T : List (Addr × Str)) : Sp := fun vs H Q _ => ∃ (B : Hp) (d : Addr) (n : Nat) (r : Rk) (lead : Dv) (leads : List Dv) (vb vl vls : V), vs = [.ref d, vb, vl, vls] ∧ r.Ok ∧ lead.Of r ∧ (∀ l ∈ leads, Dv.Of l r) ∧ leads.length ≤ 1000 ∧ (RkP K r).P vb B ∧ (DvP lead).P vl B ∧ (LsP (leads.map DvP)).P vls B ∧ Kx T d n B H ∧ n ≤ 2 ^ 35 ∧
  ∀ (p : Pq) (v : V) (B' H' : Hp), LQ (Gbel r lead leads) 4 p → Kx T d (n + 300) B' H' → GX d B H B' H' → (fpP K p).P v B' → Q v H'
section
variable {P : Program} {w : World} {K : PySem.W.Frag} {mg : Str → Option Value} {base : Heap} {T : List (Addr × Str)}

/-- _law_comes -/
abbrev s_Lcomes : Stmt := topS 83
abbrev N_Lcomes : List Str := ["_law_a", "_law_b"]
theorem sc_Lcomes : FnScope N_Lcomes ["_law_a", "_law_b"] (defScope s_Lcomes) := ⟨rfl, rfl, rfl, by decide +kernel, rfl, by decide +kernel, by decide +kernel⟩
theorem ok_Lcomes {f : Addr} {fd : FuncData} (F : Fun K "_law_comes" "_law_comes" s_Lcomes f fd)     :
    FnOk P w K mg base CX0 1 f fd ["_law_a", "_law_b"] (spP (Rcomes K)) := by
  refine F.ok sc_Lcomes (spP_len (by rintro _ _ ⟨_, _, rfl, rfl⟩; rfl)) (fun cdv A outer s H vs Q E hr h => ?_)
  obtain ⟨B, ps, p, eB, hv, ⟨a, b, rfl, rfl⟩, q⟩ := h
  obtain ⟨v1, v2, rfl, h1, h2⟩ := all2 hv
  have hu := hu_of hr
  refine ⟨_, (pss_one (ps_ret (pe_and (pe_cmpR op_eq (pe_ix ix_tup (pv 0) pe_int (fun _ _ => rfl)) (pe_ix ix_tup (pv 1) pe_int (fun _ _ => rfl)) (nomark _)) (pe_and (pe_cmpR op_ge (pe_ix ix_tup (pv 0) pe_int (fun _ _ => rfl)) (pe_ix ix_tup (pv 1) pe_int (fun _ _ => rfl)) (nomark _)) (pe_one (pe_cmpR op_ge (pe_ix ix_tup (pv 0) pe_int (fun _ _ => rfl)) (pe_ix ix_tup (pv 1) pe_int (fun _ _ => rfl)) (nomark _))))))), ?_⟩
  have ix : ∀ (B' : Hp), Ex B B' → ∀ (d : Dv) (i : Nat) (v : V), (DvP d).P v B → ([some v1, some v2] : L2.St)[i]? = some (some v) → Ev (tOp (rIxT K) (tVar i) (tC (.int 0))) [some v1, some v2] B' (.str d.n) ∧ Ev (tOp (rIxT K) (tVar i) (tC (.int 1))) [some v1, some v2] B' (.int d.i) ∧ Ev (tOp (rIxT K) (tVar i) (tC (.int 2))) [some v1, some v2] B' (.int d.j) := fun B' e d i v pd hi =>
    ⟨ev_st (K := K) (ed_ixT (ed_dv (p_var hi ((DvP d).m e pd))) ev_c rfl), ev_in (K := K) (ed_ixT (ed_dv (p_var hi ((DvP d).m e pd))) ev_c rfl), ev_in (K := K) (ed_ixT (ed_dv (p_var hi ((DvP d).m e pd))) ev_c rfl)⟩
  obtain ⟨a0, a1, a2⟩ := ix B (Ex.refl B) a 0 v1 h1 rfl
  obtain ⟨b0, b1, b2⟩ := ix B (Ex.refl B) b 1 v2 h2 rfl
  refine My.ps_ret eB (p_ev (v := .bl (wayB b a)) (ev_is (ev_andV (ev_is (ev_op a0 b0 (rv_eq rfl)) (congrArg V.bl (show decide (V.str a.n = V.str b.n) = decide (a.n = b.n) from decide_eq_decide.mpr ⟨fun z => V.str.inj z, fun z => by rw [z]⟩))) fun _ => ev_andV (ev_op a1 b1 rv_I0) fun _ => ev_op a2 b2 rv_I0) ?_)) fun v B1 H1 g hp => q v B1 H1 g hp
  unfold wayB
  congr 1
  rw [show decide (b.n = a.n) = decide (a.n = b.n) from decide_eq_decide.mpr ⟨Eq.symm, Eq.symm⟩]

/-- _law_below -/
abbrev s_Lbelow : Stmt := topS 84
abbrev N_Lbelow : List Str := ["_law_state", "_law_by_here", "_law_lead", "_law_leads", "_law_rows", "_law_turn", "_law_spot", "_law_one", "_law_found", "_law_pairs", "_law_j"]
theorem sc_Lbelow : FnScope N_Lbelow ["_law_state", "_law_by_here", "_law_lead", "_law_leads"] (defScope s_Lbelow) := ⟨rfl, rfl, rfl, by decide +kernel, rfl, by decide +kernel, by decide +kernel⟩
theorem ok_Lbelow {f : Addr} {fd : FuncData} (F : Fun K "_law_below" "_law_below" s_Lbelow f fd)  {f_Ldigit : Addr} {d_Ldigit : FuncData} (c_Ldigit : Cal P w K mg base "_law_digit" 2 ["_law_state", "_law_size"] spDigit f_Ldigit d_Ldigit) {f_Lderivative : Addr} {d_Lderivative : FuncData} (c_Lderivative : Cal P w K mg base "_law_derivative" 3 ["_law_state", "_law_names_here", "_law_axes", "_law_high"] spDer f_Lderivative d_Lderivative) {f_Lis_above : Addr} {d_Lis_above : FuncData} (c_Lis_above : Cal P w K mg base "_law_is_above" 1 ["_law_by_here", "_law_a", "_law_b"] (spP (Rab K)) f_Lis_above d_Lis_above) {f_Lcomes : Addr} {d_Lcomes : FuncData} (c_Lcomes : Cal P w K mg base "_law_comes" 1 ["_law_a", "_law_b"] (spP (Rcomes K)) f_Lcomes d_Lcomes) {f_Lnumber : Addr} {d_Lnumber : FuncData} (c_Lnumber : Cal P w K mg base "_law_number" 3 ["_law_state"] (spNum K T) f_Lnumber d_Lnumber) {f_Ladded : Addr} {d_Ladded : FuncData} (c_Ladded : Cal P w K mg base "_law_added" 2 ["_law_one", "_law_other", "_law_number_here"] (spP (Radd K)) f_Ladded d_Ladded) {f_Lmonomial : Addr} {d_Lmonomial : FuncData} (c_Lmonomial : Cal P w K mg base "_law_monomial" 1 ["_law_pairs"] (spP (Rlm K)) f_Lmonomial d_Lmonomial) (n_range : mg "range" = none) (n_len : mg "len" = none) (n_tuple : mg "tuple" = none)  :
    FnOk P w K mg base CX0 5 f fd ["_law_state", "_law_by_here", "_law_lead", "_law_leads"] (spBelow K T) := by
  refine F.ok sc_Lbelow (fun vs H Q E h => by obtain ⟨_, _, _, _, _, _, _, _, _, rfl, _⟩ := h; rfl) (fun cdv A outer s H vs Q E hr h => ?_)
  obtain ⟨B, d, n, r, lead, leads, vb, vl, vls, rfl, hok, hld, hLs, hlen, hR, hl, hls, k, hn, q⟩ := h
  have hu := hu_of hr
  refine ⟨_, (pss_cons (ps_set (i := 4) sc_Lbelow.nd rfl (by first | exact .inl rfl | exact .inr rfl) (pe_lst pa_nil))
    (pss_cons (ps_for PassesOwn.never rfl (pi_range1 (by rfl) n_range (pa_cons pe_int pa_nil)) (pg_name (i := 5) sc_Lbelow.nd rfl (by first | exact .inl rfl | exact .inr rfl))
      (pss_cons (ps_set (i := 6) sc_Lbelow.nd rfl (by first | exact .inl rfl | exact .inr rfl) (pe_call c_Lderivative.G (hr.mono (by decide)) (by rfl) c_Lderivative.m c_Lderivative.k c_Lderivative.b .nil pass0 (pa_cons (pv 0) (pa_cons (pe_ix (show IxR _ (rIxT K) from ix_tup) (pv 1) pe_int (fun _ _ => rfl)) (pa_cons (pe_callB (show CallR _ (.builtin "len") (rLenS K) from call_len_seq) (by rfl) n_len (by decide +kernel) (pa_cons (pe_ix (show IxR _ (rIxT K) from ix_tup) (pv 1) pe_int (fun _ _ => rfl)) pa_nil)) (pa_cons pe_int pa_nil))))))
    (pss_one (ps_if (PW.pt (pw_and (pt_val (pe_call c_Lis_above.G (hr.mono (by decide)) (by rfl) c_Lis_above.m c_Lis_above.k c_Lis_above.b .nil pass0 (pa_cons (pv 1) (pa_cons (pv 2) (pa_cons (pv 6) pa_nil))))) (pw_and1 (pt_cmpR (op_eqD hr.units) (pe_lc (own := [("_law_one", 7)]) rfl sc_Lbelow.nd (pi_list (pv 3)) (blkOk_by (N := N_Lbelow) (sc := defScope s_Lbelow) (by decide +kernel)) (fun _ _ _ _ _ => (pg_name (i := 7) sc_Lbelow.nd rfl (Or.inl rfl))) (fun _ _ _ _ _ => (pts_one (pt_val (pe_call c_Lcomes.G (hr.mono (by decide)) (by rfl) c_Lcomes.m c_Lcomes.k c_Lcomes.b .nil pass0 (pa_cons (pv 6) (pa_cons (pv 7) pa_nil)))))) (fun _ _ _ _ _ => (pv 7))) (pe_lst pa_nil) (nomark _))))) (pss_one (ps_expr (pe_bm PySem.F.plainAttrs_list PySem.F.slot_list_append PySem.F.type_list_append mt_append (pv 4) (pa_cons (pv 6) pa_nil)))) pss_nil))))
    (pss_cons (ps_set (i := 8) sc_Lbelow.nd rfl (by first | exact .inl rfl | exact .inr rfl) (pe_call c_Ladded.G (hr.mono (by decide)) (by rfl) c_Ladded.m c_Ladded.k c_Ladded.b .nil pass0 (pa_cons (pe_tupF pa_nil) (pa_cons (pe_op op_rep (pe_lst (pa_cons (pe_tup (pa_cons (pe_tupF pa_nil) (pa_cons (pe_call c_Lnumber.G (hr.mono (by decide)) (by rfl) c_Lnumber.m c_Lnumber.k c_Lnumber.b .nil pass0 (pa_cons (pv 0) pa_nil)) pa_nil))) pa_nil)) (pe_call c_Ldigit.G (hr.mono (by decide)) (by rfl) c_Ldigit.m c_Ldigit.k c_Ldigit.b .nil pass0 (pa_cons (pv 0) (pa_cons pe_int pa_nil)))) (pa_cons (pe_tup (pa_cons pe_int (pa_cons pe_int pa_nil))) pa_nil)))))
    (pss_cons (ps_for PassesOwn.never rfl (pi_range1 (by rfl) n_range (pa_cons (pe_ifExp (pt_cmpR (op_neD hr.units) (pv 4) (pe_lst pa_nil) (nomark _)) (pe_call c_Ldigit.G (hr.mono (by decide)) (by rfl) c_Ldigit.m c_Ldigit.k c_Ldigit.b .nil pass0 (pa_cons (pv 0) (pa_cons pe_int pa_nil))) pe_int) pa_nil)) (pg_name (i := 5) sc_Lbelow.nd rfl (by first | exact .inl rfl | exact .inr rfl))
      (pss_cons (ps_setLc (i := 9) (own := [("_law_j", 10)]) rfl sc_Lbelow.nd rfl rfl (sw_true rfl rfl rfl (by decide +kernel)) (pi_range1 (by rfl) n_range (pa_cons (pe_op op_add pe_int (pe_call c_Ldigit.G (hr.mono (by decide)) (by rfl) c_Ldigit.m c_Ldigit.k c_Ldigit.b .nil pass0 (pa_cons (pv 0) (pa_cons pe_int pa_nil)))) pa_nil)) (blkOk_by (N := N_Lbelow) (sc := defScope s_Lbelow) (by decide +kernel)) (fun _ _ _ _ _ => (pg_name (i := 10) sc_Lbelow.nd rfl (Or.inl rfl))) (fun _ _ _ _ _ => pts_nil) (fun _ _ _ _ _ => (pe_tup (pa_cons (pe_ix (show IxR _ (rIxL K) from ix_list) (pv 4) (pe_call c_Ldigit.G (hr.mono (by decide)) (by rfl) c_Ldigit.m c_Ldigit.k c_Ldigit.b .nil pass0 (pa_cons (pv 0) (pa_cons (pe_callB (show CallR _ (.builtin "len") (rLenS K) from call_len_seq) (by rfl) n_len (by decide +kernel) (pa_cons (pv 4) pa_nil)) pa_nil))) (fun _ _ => rfl)) (pa_cons pe_int pa_nil)))))
    (pss_one (ps_set (i := 8) sc_Lbelow.nd rfl (by first | exact .inl rfl | exact .inr rfl) (pe_call c_Ladded.G (hr.mono (by decide)) (by rfl) c_Ladded.m c_Ladded.k c_Ladded.b .nil pass0 (pa_cons (pv 8) (pa_cons (pe_lst (pa_cons (pe_tup (pa_cons (pe_call c_Lmonomial.G (hr.mono (by decide)) (by rfl) c_Lmonomial.m c_Lmonomial.k c_Lmonomial.b .nil pass0 (pa_cons (pe_callTy call_tuple_of (by rfl) n_tuple (by decide +kernel) (pa_cons (pv 9) pa_nil)) pa_nil)) (pa_cons (pe_call c_Lnumber.G (hr.mono (by decide)) (by rfl) c_Lnumber.m c_Lnumber.k c_Lnumber.b .nil pass0 (pa_cons (pv 0) pa_nil)) pa_nil))) pa_nil)) (pa_cons (pe_tup (pa_cons pe_int (pa_cons pe_int pa_nil))) pa_nil))))))))
    (pss_one (ps_ret (pv 8))))))), ?_⟩
  have hok' := hok
  let G : Dv → Prop := fun u => u.Of r ∧ u.i + u.j ≤ 3 ∧ r.lt u lead ∧ ∀ l ∈ leads, wayB l u = false
  have tw : ∀ k, k ≤ 1000 → k < 2 ^ 1000 := fun k h => Nat.lt_of_le_of_lt h (by decide +kernel)
  refine b_seq (b_asg (b_lst0 (b_nil0 ⟨by show 0 ≤ sizeLine; decide, fun L hL => ?_⟩)))
  have bL : B L = none := fresh_back k.e hL
  have Ld : L ≠ d := fun e => k.s.ne0 (e ▸ hL)
  dsimp only [gName, List.set_cons_succ, List.set_cons_zero]
  have shl : ∀ l ∈ leads, SeqAt.shaped l.D = true := fun l hl => K12.sh_dvR hok (hLs l hl)
  refine b_seq (b_forD ⟨8, rfl, by decide, by decide, for_range (lo := 0) (n := 8) (fun i σ H' => ∃ B1 us acc x5 x6, (∀ u ∈ us, G u) ∧ us.length ≤ i ∧ Kx T d (n + 20 * i) B1 H' ∧ GX d B H B1 H' ∧ B1 L = none ∧ H' L = some (.lst acc) ∧ AllP (us.map DvP) acc B1 ∧ σ = [some (.ref d), some vb, some vl, some vls, some (.ref L), x5, x6, none, none, none, none])
    ⟨B, [], [], none, none, fun _ h => absurd h List.not_mem_nil, Nat.le_refl _, k.ex (Ex.new hL), GX.ex (Ex.new hL), bL, upd_same, (show AllP (([] : List Dv).map DvP) [] B from trivial), rfl⟩ (fun i σ H' hi pv => ?_) (fun σ H' pv => ?_)⟩)
  · obtain ⟨B1, us, acc, x5, x6, hus, hul, k1, g1, hB1, hH1, al, rfl⟩ := pv
    dsimp only [gName, List.set_cons_succ, List.set_cons_zero]
    have R1 := (RkP K r).m g1.b hR
    refine b_seq (b_asg (b_call0 ?_))
    refine (q_cons (p_varV (i := 0) rfl) (q_cons (p_rk1 (p_var (i := 1) rfl R1)) (q_cons (p_ev (ev_lenD (p_rk2 (p_var (i := 1) rfl R1)) (.inl rfl))) (q_cons p_c q_nil)))) H' k1.e _ fun vs B8 H8 g8 b => ?_
    obtain ⟨w0, w1, w2, w3, rfl, b0, b1, b2, b3⟩ := all4 b
    have b2' : w2 = .int (r.axs.length : Nat) := by
      rw [List.length_map] at b2
      exact b2
    obtain rfl : w0 = .ref d := b0
    obtain rfl : w3 = .int (3 : Nat) := b3
    subst b2'
    have k8 := k1.gr g8
    refine ⟨B8, d, _, 3, r, w1, rfl, by decide, hok, b1, k8.e, k8.z, k8.s, by omega, fun u B9 H9 vu hu ho gd9 hd9 hvu => ?_⟩
    have k9 := k8.gd gd9 hd9
    have g19 : GX d B1 H' B9 H9 := (GX.gr g8).trans (GX.gd gd9)
    have hH9 := g19.a L _ Ld hH1 (fun _ z => nomatch z)
    have hB9 := g19.f L _ Ld hB1 hH1 (fun _ z => nomatch z)
    have al9 := al.m g19.b
    have e9 := g1.b.trans g19.b
    have R9 := (RkP K r).m e9 hR
    have L9 := (DvP lead).m e9 hl
    have S9 := (LsP (leads.map DvP)).m e9 hls
    have shu := K12.sh_dvR hok hu
    dsimp only [gName, List.set_cons_succ, List.set_cons_zero]
    clear b b1
    have lc : EvP (tLc (iList K (tVar 3)) (gName 7) (tB (tCall (spP (Rcomes K)) [] E0 (tCons (tVar 6) (tCons (tVar 7) tNil)))) (tVar 7) [7]) [some (.ref d), some vb, some vl, some vls, some (.ref L), some (.int (0 + (i : Nat))), some vu, none, none, none, none] B9 (LsP ((leads.filter fun l => wayB l u).map DvP)) := by
      have := p_lcS (g := gName 7) (tt := tB (tCall (spP (Rcomes K)) [] E0 (tCons (tVar 6) (tCons (tVar 7) tNil)))) (te := tVar 7) (vs := [7]) (src_lq (K := K) (p_lq (p_var (i := 3) (σ := [some (.ref d), some vb, some vl, some vls, some (.ref L), some (.int (0 + (i : Nat))), some vu, none, none, none, none]) rfl S9))) (by rw [List.length_map]; omega) (fun j => (leads[j]?.map fun l => wayB l u).getD false) (fun j => (leads[j]?.map DvP).getD (IsV .non)) fun j v B2 hj e pv => ?_
      · rw [List.length_map, range_pick] at this
        exact this
      · rw [List.length_map] at hj
        have pv : ((leads.map DvP).getD j (IsV .non)).P v B2 := pv
        rw [getD_map hj] at pv
        refine ⟨[some (.ref d), some vb, some vl, some vls, some (.ref L), some (.int (0 + (i : Nat))), some vu, some v, none, none, none], rfl, fun H2 Q e q => q, ?_, fun _ => ?_⟩
        · rw [List.getElem?_eq_getElem hj]
          exact et_B (ev_p (p_callP (ps := [DvP u, DvP leads[j]]) (q_cons (p_var (i := 6) rfl ((DvP u).m e hvu)) (q_cons (p_var (i := 7) rfl pv) q_nil)) ⟨u, leads[j], rfl, rfl⟩))
        · rw [List.getElem?_eq_getElem hj]
          exact p_var rfl pv
    have tst := et_and (a := decide (r.lt u lead)) (b := (leads.filter fun l => wayB l u).isEmpty) (et_B (ev_p (p_callP (R := Rab K) (p := IsV (.bl (decide (r.lt u lead)))) (σ := [some (.ref d), some vb, some vl, some vls, some (.ref L), some (.int (0 + (i : Nat))), some vu, none, none, none, none]) (ps := [RkP K r, DvP lead, DvP u]) (q_cons (p_var (i := 1) rfl R9) (q_cons (p_var (i := 2) rfl L9) (q_cons (p_var (i := 6) rfl hvu) q_nil))) ⟨r, lead, u, hok, hld, hu, rfl, rfl⟩))) fun _ => et_test (ev_is (ev_eqD (K := K) (d := .list ((leads.filter fun l => wayB l u).map Dv.D)) (e := .list []) (p_to lc (to_lst (toAll_map _ fun v => to_dv v))) (p_to (p_lst (ps := []) q_nil (by show 0 ≤ 100000; decide)) (to_lst .nil)) (My.sh_list fun l hl => shl l (List.mem_filter.mp hl).1) rfl) (congrArg V.bl (by cases leads.filter fun l => wayB l u <;> rfl)))
    by_cases ga : G u
    · obtain ⟨h1, h2, h3, h4⟩ := id ga
      refine My.ps_ifT k9.e (et_is tst (by rw [decide_eq_true h3, List.filter_eq_nil_iff.mpr (fun l hl => by rw [h4 l hl]; exact Bool.false_ne_true)]; rfl)) fun HA eA => ?_
      have hHA := eA _ _ hH9
      have kA := k9.ex eA
      refine ⟨.ref L, rfl, .inl ⟨rfl, acc, sq_of hHA⟩, vu, rfl, L, acc, vu, rfl, rfl, hHA, small1000 (by have := al.len; rw [List.length_map] at this; omega), ?_⟩
      refine ⟨B9, us ++ [u], acc ++ [vu], _, _, fun v hv => ?_, by rw [List.length_append]; show us.length + 1 ≤ i + 1; omega, (kA.le (by omega)).lst hHA hB9 Ld, ((g1.trans g19).trans (GX.ex eA)).lst hL, hB9, upd_same, ?_, rfl⟩
      · rcases List.mem_append.mp hv with hv | hv
        · exact hus v hv
        · rw [List.mem_singleton.mp hv]
          exact ga
      · rw [List.map_append]
        exact al9.app ⟨hvu, trivial⟩
    · refine ps_ifN k9.e (et_is tst ?_) fun HA eA => ?_
      · rw [Bool.eq_false_iff]
        intro hc
        rw [Bool.and_eq_true, decide_eq_true_iff, List.isEmpty_iff, List.filter_eq_nil_iff] at hc
        exact ga ⟨hu, ho, hc.1, fun l hl => by have := hc.2 l hl; simpa using this⟩
      · exact ⟨B9, us, acc, _, _, hus, by omega, (k9.ex eA).le (by omega), (g1.trans g19).trans (GX.ex eA), hB9, eA _ _ hH9, al9, rfl⟩
  obtain ⟨B1, us, acc, x5, x6, hus, hul, k1, g1, hB1, hH1, al, rfl⟩ := pv
  have hul : us.length ≤ 8 := hul
  have k2 := k1.fin hB1 hH1 Ld
  have g2 := g1.fin hB1 hL (acc := acc)
  have rows : (LsP (us.map DvP)).P (.ref L) (upd B1 L (.lst acc)) := ⟨L, acc, rfl, upd_same, al.m (Ex.new hB1)⟩
  generalize upd B1 L (.lst acc) = B2 at k2 g2 rows
  dsimp only
  -- the number
  refine b_seq (b_asg (b_call0 (b_cons ?_)))
  refine p_tupFu (ps := []) q_nil (by show 0 ≤ 100000; decide) H' k2.e _ fun v1 B3 H3 g3 hv1 => ?_
  have k3 := k2.gr g3
  refine b_cons (b_op (b_lst0 (b_cons (b_tup (b_cons ?_)))))
  refine p_tupFu (ps := []) q_nil (by show 0 ≤ 100000; decide) H3 k3.e _ fun w1 B4 H4 g4 hw1 => ?_
  have k4 := k3.gr g4
  refine b_cons (b_call0 ⟨.ref d, rfl, b_nil0 ⟨B4, d, _, rfl, k4, by omega, fun s w2 B5 H5 hs k5 g5 hw2 => b_nil0 ⟨by show 2 ≤ sizeLine; decide, fun p1 hp1 => b_nil0 ⟨by show 1 ≤ sizeLine; decide, fun p2 hp2 => ?_⟩⟩⟩⟩)
  have n1 := Gr.new (B := B5) (.tup [w1, w2]) k5.e hp1
  have k6 := k5.gr n1
  have n2 := Gr.new (.lst [.ref p1]) k6.e hp2
  have k7 := k6.gr n2
  have lsE : (LsP (pqL K [([], s)])).P (.ref p2) (upd (upd B5 p1 (.tup [w1, w2])) p2 (.lst [.ref p1])) := ⟨p2, [.ref p1], rfl, upd_same, ⟨p1, [w1, w2], rfl, st_of ((n2.b) _ _ upd_same), (moF K []).m (g5.b.trans (n1.b.trans n2.b)) hw1, (rtP K s).m (n1.b.trans n2.b) hw2, trivial⟩, trivial⟩
  have hv7 := (fpP K []).m (g4.b.trans (g5.b.trans (n1.b.trans n2.b))) hv1
  have gg := (GX.gr (d := d) (g3.trans g4)).trans (g5.trans (GX.gr (n1.trans n2)))
  generalize upd (upd B5 p1 (.tup [w1, w2])) p2 (.lst [.ref p1]) = B7 at k7 lsE hv7 gg
  generalize upd (upd H5 p1 (.tup [w1, w2])) p2 (.lst [.ref p1]) = H7 at k7 gg ⊢
  refine x_digit (z := (2 : Nat)) k7 rfl ev_c (by decide) (by decide) (by omega) fun m H8 m0 m1 k8 g8 => ?_
  obtain ⟨l2, xs2, e2, hl2, al2⟩ := id lsE
  obtain rfl : p2 = l2 := V.ref.inj e2
  have xl2 := al2.len
  have xl2 : xs2.length = 1 := xl2
  have rep : ∃ qs : Pq, (∀ t ∈ qs, Sm1 t.2) ∧ qs.length ≤ 1 ∧ LQ G 1 (addP [] (scP qs 1)) ∧ Lim 6 30 ([] ++ scP qs 1) ∧ AllP (pqL K qs) (List.replicate m.toNat xs2).flatten B7 := by
    have one : Lim 6 30 ([([], s)] : Pq) := ⟨fun t ht => by rw [List.mem_singleton.mp ht]; exact hs.2.1, by rw [wt_cons]; show ab 6 s + 0 ≤ 30; have := hs.2.2; omega⟩
    have e1 : scP [(([] : Mo), s)] 1 = [([], s)] := by
      show [([], s * 1)] = _
      rw [Rat.mul_one]
    rcases (show m = 0 ∨ m = 1 by omega) with rfl | rfl
    · exact ⟨[], fun t h => absurd h List.not_mem_nil, Nat.zero_le _, (lq_nil (G := G)).le (Nat.zero_le 1), Lim.nil, trivial⟩
    · refine ⟨[([], s)], fun t h => by rw [List.mem_singleton.mp h]; exact sm1_of (D := 6) (N := 30) (by decide) (tw _ (by decide)) (tw _ (by decide)) ⟨hs.2.1, hs.2.2⟩, Nat.le_refl _, ?_, ?_, ?_⟩
      · rw [e1]
        exact (lq_nil (G := G)).add (us := []) (fun _ h => absurd h List.not_mem_nil) (by decide) hs
      · rw [e1]
        exact one
      · have : (List.replicate (1 : Int).toNat xs2).flatten = xs2 := by simp
        rw [this]
        exact al2
  obtain ⟨qs, hq1, hq2, hq3, hq4, hq5⟩ := rep
  refine ⟨p2, m, xs2, rfl, rfl, k8.e _ _ hl2, by omega, by omega, sz_of (by rw [xl2]; omega), fun p3 hp3 => ?_⟩
  have n3 := Gr.new (B := B7) (.lst (List.replicate m.toNat xs2).flatten) k8.e hp3
  have k9 := k8.gr n3
  have ls9 : (LqP K (pqL K qs)).P (.ref p3) (upd B7 p3 (.lst (List.replicate m.toNat xs2).flatten)) := ⟨p3, _, rfl, sq_of upd_same, hq5.m n3.b⟩
  have hv9 := (fpP K []).m n3.b hv7
  refine b_cons ?_
  refine p_tup (K := K) (ps := [IsV (.int 1), IsV (.int 1)]) (q_cons p_c (q_cons p_c q_nil)) (by show 2 ≤ 100000; decide) _ k9.e _ fun w5 BA HA gA hw5 => b_nil0 ?_
  have kA := k9.gr gA
  refine ⟨BA, [fpP K [], LqP K (pqL K qs), rtP K 1], fpP K (addP [] (scP qs 1)), kA.e, ⟨(fpP K []).m gA.b hv9, (LqP K (pqL K qs)).m gA.b ls9, hw5, trivial⟩, ⟨6, 30, [], qs, 1, by decide, tw _ (by decide), tw _ (by decide), hq4, hq1, ⟨tw _ (by decide), tw _ (by decide)⟩, List.nodup_nil, by show 0 + qs.length ≤ 50000; omega, rfl, rfl⟩, fun vf BB HB gB hvf => ?_⟩
  have kB := kA.gr gB
  have g9 := (gg.trans g8).trans (GX.gr ((n3.trans gA).trans gB))
  have rB := (LsP (us.map DvP)).m g9.b rows
  generalize addP [] (scP qs 1) = p0 at hq3 hvf
  dsimp only [gName, List.set_cons_succ, List.set_cons_zero]
  -- the terms
  have rS : ∀ {C' : Hp}, Ex BB C' → (LsP (us.map DvP)).P (.ref L) C' := fun e => (LsP (us.map DvP)).m e rB
  have tst := et_test (σ := [some (.ref d), some vb, some vl, some vls, some (.ref L), x5, x6, none, some vf, none, none]) (H := BB) (ev_is (ev_neD (K := K) (d := .list (us.map Dv.D)) (e := .list []) (p_to (p_var (i := 4) rfl rB) (to_lst (toAll_map _ fun v => to_dv v))) (p_to (p_lst (ps := []) q_nil (by show 0 ≤ 100000; decide)) (to_lst .nil)) (My.sh_list fun u hu => K12.sh_dvR hok (hus u hu).1) rfl) (show V.bl (!PyData.eqv (.list (us.map Dv.D)) (.list [])) = V.bl (!us.isEmpty) by cases us <;> rfl))
  have don : ∀ (m t : Nat) (p : Pq) (v : V) (B' H' : Hp), m ≤ 280 → t ≤ 4 → LQ G t p → Kx T d (n + m) B' H' → GX d BB HB B' H' → (fpP K p).P v B' → Q v H' := fun m t p v B' H' hm ht hp k' g' hv => q p v B' H' (hp.le ht) (k'.le (by omega)) ((g2.trans g9).trans g') hv
  by_cases u0 : us = []
  · refine b_seq (b_forD (b_if (et_is tst (b := false) (by rw [u0]; rfl)) kB.e (fun z => nomatch z) fun _ HC eC => ?_))
    refine ⟨0, rfl, by decide, by decide, for_range (lo := 0) (n := 0) (fun t σ H' => σ = [some (.ref d), some vb, some vl, some vls, some (.ref L), x5, x6, none, some vf, none, none] ∧ H' = HC) ⟨rfl, rfl⟩ (fun t σ H' ht _ => absurd ht (Nat.not_lt_zero t)) (fun σ H' pv => ?_)⟩
    obtain ⟨rfl, rfl⟩ := pv
    refine My.ps_ret (kB.e.trans eC) (p_var (i := 8) rfl hvf) fun v B' H' g' hv => ?_
    exact don 200 1 p0 v B' H' (by decide) (by decide) hq3 (((kB.ex eC).gr g').le (by omega)) ((GX.ex eC).trans (GX.gr g')) hv
  have hu0 : 0 < us.length := List.length_pos_iff.mpr u0
  refine b_seq (b_forD (b_if (et_is tst (b := true) (by cases us with | nil => exact absurd rfl u0 | cons a b => rfl)) kB.e (fun _ HC eC => ?_) fun z => nomatch z))
  have kC := kB.ex eC
  refine x_digit (z := (4 : Nat)) kC rfl ev_c (by decide) (by decide) (by omega) fun m4 HD q0 q1 kD gD => ?_
  refine ⟨m4, rfl, by omega, by omega, for_range (lo := 0) (n := m4.toNat) (fun t σ H' => ∃ B' p vf y5 y9, Kx T d (n + 190 + 24 * t) B' H' ∧ GX d BB HB B' H' ∧ LQ G (1 + t) p ∧ (fpP K p).P vf B' ∧ σ = [some (.ref d), some vb, some vl, some vls, some (.ref L), y5, x6, none, some vf, y9, none])
    ⟨BB, p0, vf, x5, none, kD.le (by omega), (GX.ex eC).trans gD, hq3, hvf, rfl⟩ (fun t σ H' ht pv => ?_) (fun σ H' pv => ?_)⟩
  · obtain ⟨B', p, vf', y5, y9, k', g', hp, hf, rfl⟩ := pv
    have ht3 : t < 3 := by omega
    dsimp only [gName, List.set_cons_succ, List.set_cons_zero]
    refine b_seq (b_asg (b_lcE (b_op ?_)))
    refine x_digit (z := (2 : Nat)) k' rfl ev_c (by decide) (by decide) (by omega) fun m2 H4 r0 r1 k4 g4 => ?_
    obtain ⟨wd, hwd, hwd2⟩ : ∃ wd : Nat, 1 + m2 = (wd : Int) ∧ wd ≤ 2 := ⟨(1 + m2).toNat, by omega, by omega⟩
    refine ⟨1, m2, rfl, rfl, ?_⟩
    dsimp only [List.map]
    rw [hwd]
    refine x_lcC (α := Dv) (f := fun u => pwP K (u, 1)) (ok := G) (jv := 10) (c := 4) (m := wd) k4 (by omega) (fun x => rfl) (fun i2 B5 H5 Q' hi5 k5 g5 st => ?_) fun as v9 B5 H5 has hlas k5 g5 h9 => ?_
    · refine b_tup (b_cons ?_)
      have rr := rS (g'.b.trans g5.b)
      refine x_pickE (ps := us.map DvP) k5 (p_var (i := 4) rfl rr) rfl (ev_lenL (p_var (i := 4) rfl rr)) (by rw [List.length_map]; exact hu0) (by rw [List.length_map]; omega) (by omega) fun qm vm B6 H6 hmem hvm k6 g6 => ?_
      obtain ⟨u, hu, rfl⟩ := List.mem_map.mp hmem
      refine ⟨by show 2 ≤ sizeLine; decide, fun pp hpp => ?_⟩
      have g7 := Gr.new (B := B6) (.tup [vm, .int 1]) k6.e hpp
      exact st u _ _ _ (hus u hu) ((k6.gr g7).le (by omega)) (g6.trans (GX.gr g7)) ⟨pp, _, rfl, st_of upd_same, (DvP u).m g7.b hvm, rfl, trivial⟩
    · dsimp only [gName, List.set_cons_succ, List.set_cons_zero]
      have hf5 := (fpP K p).m (g4.b.trans g5.b) hf
      have e8 : as.map (fun u => pwP K (u, 1)) = (onesL as).map (pwP K) := by
        unfold onesL
        rw [List.map_map]
        rfl
      rw [e8] at h9
      have hul9 : as.length ≤ 3 := by omega
      refine b_asg (b_call0 (b_cons ⟨vf', rfl, b_cons (b_lst0 (b_cons (b_tup (b_cons ?_))))⟩))
      refine (p_callP (ps := [moP K (onesL as)]) (σ := [some (.ref d), some vb, some vl, some vls, some (.ref L), some (.int (0 + (t : Nat))), x6, none, some vf', some v9, none]) (q_cons (p_tupOf (p_lq (p_var (i := 9) rfl h9))) q_nil) ⟨onesL as, co_ones as, by unfold onesL; rw [List.length_map]; omega, rfl, rfl⟩) H5 k5.e _ fun w1 B7 H7 g7 hw1 => ?_
      have k7 := k5.gr g7
      refine b_cons (b_call0 ⟨.ref d, rfl, b_nil0 ⟨B7, d, _, rfl, k7, by omega, fun s w2 B8 H8 hs k8 g8 hw2 => b_nil0 ⟨by show 2 ≤ sizeLine; decide, fun p1 hp1 => b_nil0 ⟨by show 1 ≤ sizeLine; decide, fun p2 hp2 => ?_⟩⟩⟩⟩)
      have n1 := Gr.new (B := B8) (.tup [w1, w2]) k8.e hp1
      have k9 := k8.gr n1
      have n2 := Gr.new (.lst [.ref p1]) k9.e hp2
      have k10 := k9.gr n2
      have lsE : (LqP K (pqL K [(cf (onesL as), s)])).P (.ref p2) (upd (upd B8 p1 (.tup [w1, w2])) p2 (.lst [.ref p1])) := ⟨p2, [.ref p1], rfl, sq_of upd_same, ⟨p1, [w1, w2], rfl, st_of ((n2.b) _ _ upd_same), (moF K _).m (g8.b.trans (n1.b.trans n2.b)) hw1, (rtP K s).m (n1.b.trans n2.b) hw2, trivial⟩, trivial⟩
      have hfA := (fpP K p).m (g7.b.trans (g8.b.trans (n1.b.trans n2.b))) hf5
      refine b_cons ?_
      refine p_tup (K := K) (ps := [IsV (.int 1), IsV (.int 1)]) (q_cons p_c (q_cons p_c q_nil)) (by show 2 ≤ 100000; decide) _ k10.e _ fun w5 BA HA gA hw5 => b_nil0 ?_
      have kA := k10.gr gA
      have hp' := hp.add has hul9 hs
      have l1 : Lim 6 30 [(cf (onesL as), s)] := ⟨fun t ht => by rw [List.mem_singleton.mp ht]; exact hs.2.1, by rw [wt_cons]; show ab 6 s + 0 ≤ 30; have := hs.2.2; omega⟩
      have e1 : scP [(cf (onesL as), s)] 1 = [(cf (onesL as), s)] := by
        show [(cf (onesL as), s * 1)] = _
        rw [Rat.mul_one]
      refine ⟨BA, [fpP K p, LqP K (pqL K [(cf (onesL as), s)]), rtP K 1], fpP K (addP p [(cf (onesL as), s)]), kA.e, ⟨(fpP K p).m gA.b hfA, (LqP K _).m gA.b lsE, hw5, trivial⟩, ⟨6, 30 * (1 + t) + 30, p, [(cf (onesL as), s)], 1, by decide, tw _ (by decide), tw _ (by omega), ?_, fun z hz => ?_, ⟨tw _ (by decide), tw _ (by decide)⟩, hp.c.c.nd, ?_, rfl, by rw [e1]⟩, fun vr B9 H9 g9' hr9 => ?_⟩
      · rw [e1]
        exact hp.lm.app l1
      · rw [List.mem_singleton.mp hz]
        exact sm1_of (D := 6) (N := 30) (by decide) (tw _ (by decide)) (tw _ (by decide)) ⟨hs.2.1, hs.2.2⟩
      · have := hp.ln
        show _ + 1 ≤ 50000
        omega
      · exact ⟨B9, _, vr, _, _, (kA.gr g9').le (by omega), ((((g'.trans g4).trans g5).trans (GX.gr g7)).trans g8).trans (GX.gr (((n1.trans n2).trans gA).trans g9')), hp', hr9, rfl⟩
  · obtain ⟨B', p, vf', y5, y9, k', g', hp, hf, rfl⟩ := pv
    refine My.ps_ret k'.e (p_var (i := 8) rfl hf) fun v B6 H6 g6 hv => ?_
    exact don 270 (1 + m4.toNat) p v B6 H6 (by decide) (by omega) hp ((k'.gr g6).le (by omega)) (g'.trans (GX.gr g6)) hv

end
end K12
namespace Nd
set_option autoImplicit false
open PySem PySem.W L2 My Evl LamX NdefX
/-- leaders that rise, none derived of another -/
structure LG (r : Rk) (us : List Dv) : Prop where
  of : ∀ u ∈ us, u.Of r ∧ u.i + u.j ≤ 3
  up : us.Pairwise r.lt
  no : ∀ a ∈ us, ∀ b ∈ us, a ≠ b → wayB a b = false
theorem LG.nil {r : Rk} : LG r [] := ⟨fun _ h => absurd h List.not_mem_nil, .nil, fun _ h => absurd h List.not_mem_nil⟩
theorem LG.put {r : Rk} {us : List Dv} (h : LG r us) {u : Dv} (hu : u.Of r) (ho : u.i + u.j ≤ 3) (hn : ∀ l ∈ us, wayB l u = false ∧ wayB u l = false) : LG r (r.put us u) := by
  refine ⟨fun v hv => ?_, r.put_rise h.up (fun v hv => (h.of v hv).1.n) hu.n, fun a ha b hb ne => ?_⟩
  · rcases r.put_mem.mp hv with k | rfl
    · exact h.of v k
    · exact ⟨hu, ho⟩
  · rcases r.put_mem.mp ha with k | rfl
    · rcases r.put_mem.mp hb with j | rfl
      · exact h.no a k b j ne
      · exact (hn a k).1
    · rcases r.put_mem.mp hb with j | e
      · exact (hn b j).2
      · exact absurd e.symm ne
theorem way_self (u : Dv) : wayB u u = true := by
  unfold wayB
  simp
theorem allP_ins {B : Hp} {u : Dv} {vu : V} (hu : (DvP u).P vu B) : ∀ {us : List Dv} {acc : List V} {n : Nat}, AllP (us.map DvP) acc B → AllP ((us.take n ++ u :: us.drop n).map DvP) (acc.take n ++ ([vu] ++ acc.drop n)) B
  | [], acc, n, h => by
    match acc, h with
    | [], _ => simp only [List.take_nil, List.drop_nil, List.nil_append]; exact ⟨hu, trivial⟩
  | v :: us, acc, n, h => by
    match acc, h with
    | a :: acc, h =>
      cases n with
      | zero => exact ⟨hu, h⟩
      | succ n => exact ⟨h.1, allP_ins hu (n := n) h.2⟩
def chO (c : List (Dv × Pq)) : Ch := c.map fun x => (x.1, toPo x.2)
/-- the law's chains -/
structure ChG (r : Rk) (c : List (Dv × Pq)) : Prop where
  g : LG r (c.map (·.1))
  b : ∀ x ∈ c, LQ (K12.Gbel r x.1 (c.map (·.1))) 4 x.2
  n : c.length ≤ 4
theorem lk_conv {K : PySem.W.Frag} (x : Dv × Pq) (v : V) (H : Hp) (h : (TuP K [DvP x.1, fpP K x.2]).P v H) : (lkP K (x.1, toPo x.2)).P v H := by
  obtain ⟨l, xs, rfl, hl, al⟩ := h
  refine ⟨l, xs, rfl, hl, ?_⟩
  obtain ⟨a, b, rfl, h1, h2⟩ := K12.all2 al
  exact ⟨h1, fp_po h2, trivial⟩
end Nd
namespace K12
set_option autoImplicit false
open PySem PySem.W L2 Evl My Nd LamX NdefX
section
variable {T : List (Addr × Str)} {K : PySem.W.Frag} {d : Addr} {n : Nat} {B H : Hp}
/-- a comprehension over a list that is known, with draws -/
theorem x_lcL {α β : Type} {p : α → Pr} {f : β → Pr} {ok : α → β → Prop} {te : TE} {σ : L2.St} {jx jv c : Nat} {Q : VK} {us : List α} {v : V} (k : Kx T d n B H) (hs : σ[jx]? = some (some v)) (hv : (LsP (us.map p)).P v B) (hm : us.length ≤ 1000) (hw : ∀ x, wipe ((wipe σ [jv]).set jv (some x)) [jv] = wipe σ [jv])
    (step : ∀ (i : Nat) (hi : i < us.length) (x : V) (B1 H1 : Hp) (Q' : VK), Kx T d (n + c * i) B1 H1 → GX d B H B1 H1 → (p us[i]).P x B1 → (∀ (b : β) v B2 H2, ok us[i] b → Kx T d (n + c * (i + 1)) B2 H2 → GX d B1 H1 B2 H2 → (f b).P v B2 → Q' v H2) → te ((wipe σ [jv]).set jv (some x)) H1 Q')
    (q : ∀ (bs : List β) v B' H', bs.length = us.length → (∀ i (h : i < us.length) (h' : i < bs.length), ok us[i] bs[i]) → Kx T d (n + c * us.length) B' H' → GX d B H B' H' → (LsP (bs.map f)).P v B' → Q v H') :
    tLc (iList K (tVar jx)) (gName jv) tYes te [jv] σ H Q := by
  obtain ⟨a, xs, rfl, hxs, alx⟩ := hv
  have lx := alx.len
  rw [List.length_map] at lx
  refine ⟨_, hs, a, rfl, ⟨xs, sq_of (k.e _ _ hxs)⟩, fun D hD => ?_⟩
  have hDd : D ≠ d := fun e => k.s.ne0 (e ▸ hD)
  have hBD : B D = none := fresh_back k.e hD
  have a0 : AllP (([] : List β).map f) [] B := trivial
  refine lc_list (K := K) (a := a) (xs := xs) (fun i H' => ∃ B1 bs acc, bs.length = i ∧ (∀ j (h : j < us.length) (h' : j < bs.length), ok us[j] bs[j]) ∧ Kx T d (n + c * i) B1 H' ∧ GX d B H B1 H' ∧ B1 D = none ∧ H' D = some (.lst acc) ∧ AllP (bs.map f) acc B1)
    ⟨B, [], [], rfl, fun j _ h' => absurd h' (Nat.not_lt_zero j), k.ex (Ex.new hD), GX.ex (Ex.new hD), hBD, upd_same, a0⟩ (fun i H' _ h => ?_) (fun i x H' hx h => ?_) fun H' h => ?_
  · obtain ⟨B1, bs, acc, _, _, h3, h4, _⟩ := h
    exact sq_of (h3.e _ _ (h4.b _ _ hxs))
  · obtain ⟨B1, bs, acc, h2, h1, h3, h4, h5, h6, h7⟩ := h
    obtain ⟨hi0, rfl⟩ := List.getElem?_eq_some_iff.mp hx
    have hi : i < us.length := by omega
    have px : (p us[i]).P xs[i] B1 := by
      obtain ⟨p', hp', kx⟩ := alx.get (List.getElem?_eq_getElem hi0)
      rw [List.getElem?_map, List.getElem?_eq_getElem hi] at hp'
      obtain rfl := Option.some.inj hp'
      exact (p us[i]).m h4.b kx
    refine ⟨hw _, ?_⟩
    dsimp only [tYes]
    rw [if_pos rfl]
    refine step i hi xs[i] B1 H' _ h3 h4 px fun b v B2 H2 ob k2 g2 hv => ?_
    have hD2 : H2 D = some (.lst acc) := g2.a D _ hDd h6 (fun _ z => nomatch z)
    have hB2 : B2 D = none := g2.f D _ hDd h5 h6 (fun _ z => nomatch z)
    have hlen := h7.len
    rw [List.length_map] at hlen
    refine ⟨acc, hD2, small1000 (by omega), B2, bs ++ [b], acc ++ [v], by rw [List.length_append, h2]; rfl, fun j hj hj' => ?_, k2.lst hD2 hB2 hDd, (h4.trans g2).lst hD, hB2, upd_same, ?_⟩
    · by_cases c : j < bs.length
      · rw [List.getElem_append_left c]
        exact h1 j hj c
      · rw [List.length_append, List.length_singleton] at hj'
        have e : j = i := by omega
        subst e
        rw [List.getElem_append_right (by omega)]
        simp only [h2, Nat.sub_self, List.getElem_cons_zero]
        exact ob
    · rw [List.map_append]
      exact (h7.m g2.b).app ⟨hv, trivial⟩
  · obtain ⟨B1, bs, acc, h2, h1, h3, h4, h5, h6, h7⟩ := h
    have ne : Ex B1 (upd B1 D (.lst acc)) := Ex.new h5
    rw [lx] at h2 h3
    exact q bs _ (upd B1 D (.lst acc)) H' h2 h1 (h3.fin h5 h6 hDd) (h4.fin h5 hD) ⟨D, acc, rfl, upd_same, h7.m ne⟩
end
def spChain (K : PySem.W.Frag) (T : List (Addr × Str)) : Sp := fun vs H Q _ => ∃ (B : Hp) (d : Addr) (n : Nat) (r : Rk) (vb : V), vs = [.ref d, vb] ∧ r.Ok ∧ (RkP K r).P vb B ∧ Kx T d n B H ∧ n ≤ 2 ^ 34 ∧
  ∀ (c : List (Dv × Pq)) (v : V) (B' H' : Hp), ChG r c → Kx T d (n + 1500) B' H' → GX d B H B' H' → (chP K (chO c)).P v B' → Q v H'
section
variable {P : Program} {w : World} {K : PySem.W.Frag} {mg : Str → Option Value} {base : Heap} {T : List (Addr × Str)}

/-- _law_chain -/
abbrev s_Lchain : Stmt := topS 85
abbrev N_Lchain : List Str := ["_law_state", "_law_by_here", "_law_leads", "_law_turn", "_law_spot", "_law_one", "_law_lead"]
theorem sc_Lchain : FnScope N_Lchain ["_law_state", "_law_by_here"] (defScope s_Lchain) := ⟨rfl, rfl, rfl, by decide +kernel, rfl, by decide +kernel, by decide +kernel⟩
theorem ok_Lchain {f : Addr} {fd : FuncData} (F : Fun K "_law_chain" "_law_chain" s_Lchain f fd)  {f_Ldigit : Addr} {d_Ldigit : FuncData} (c_Ldigit : Cal P w K mg base "_law_digit" 2 ["_law_state", "_law_size"] spDigit f_Ldigit d_Ldigit) {f_Lderivative : Addr} {d_Lderivative : FuncData} (c_Lderivative : Cal P w K mg base "_law_derivative" 3 ["_law_state", "_law_names_here", "_law_axes", "_law_high"] spDer f_Lderivative d_Lderivative) {f_Lis_above : Addr} {d_Lis_above : FuncData} (c_Lis_above : Cal P w K mg base "_law_is_above" 1 ["_law_by_here", "_law_a", "_law_b"] (spP (Rab K)) f_Lis_above d_Lis_above) {f_Lcomes : Addr} {d_Lcomes : FuncData} (c_Lcomes : Cal P w K mg base "_law_comes" 1 ["_law_a", "_law_b"] (spP (Rcomes K)) f_Lcomes d_Lcomes) {f_Lbelow : Addr} {d_Lbelow : FuncData} (c_Lbelow : Cal P w K mg base "_law_below" 5 ["_law_state", "_law_by_here", "_law_lead", "_law_leads"] (spBelow K T) f_Lbelow d_Lbelow) (n_range : mg "range" = none) (n_len : mg "len" = none) (n_tuple : mg "tuple" = none)  :
    FnOk P w K mg base CX0 6 f fd ["_law_state", "_law_by_here"] (spChain K T) := by
  refine F.ok sc_Lchain (fun vs H Q E h => by obtain ⟨_, _, _, _, _, rfl, _⟩ := h; rfl) (fun cdv A outer s H vs Q E hr h => ?_)
  obtain ⟨B, d, n, r, vb, rfl, hok, hR, k, hn, q⟩ := h
  have hu := hu_of hr
  refine ⟨_, (pss_cons (ps_set (i := 2) sc_Lchain.nd rfl (by first | exact .inl rfl | exact .inr rfl) (pe_lst pa_nil))
    (pss_cons (ps_for PassesOwn.never rfl (pi_range1 (by rfl) n_range (pa_cons (pe_call c_Ldigit.G (hr.mono (by decide)) (by rfl) c_Ldigit.m c_Ldigit.k c_Ldigit.b .nil pass0 (pa_cons (pv 0) (pa_cons pe_int pa_nil))) pa_nil)) (pg_name (i := 3) sc_Lchain.nd rfl (by first | exact .inl rfl | exact .inr rfl))
      (pss_cons (ps_set (i := 4) sc_Lchain.nd rfl (by first | exact .inl rfl | exact .inr rfl) (pe_call c_Lderivative.G (hr.mono (by decide)) (by rfl) c_Lderivative.m c_Lderivative.k c_Lderivative.b .nil pass0 (pa_cons (pv 0) (pa_cons (pe_ix (show IxR _ (rIxT K) from ix_tup) (pv 1) pe_int (fun _ _ => rfl)) (pa_cons (pe_callB (show CallR _ (.builtin "len") (rLenS K) from call_len_seq) (by rfl) n_len (by decide +kernel) (pa_cons (pe_ix (show IxR _ (rIxT K) from ix_tup) (pv 1) pe_int (fun _ _ => rfl)) pa_nil)) (pa_cons pe_int pa_nil))))))
    (pss_one (ps_if (pt_cmpR (op_eqD hr.units) (pe_lc (own := [("_law_one", 5)]) rfl sc_Lchain.nd (pi_list (pv 2)) (blkOk_by (N := N_Lchain) (sc := defScope s_Lchain) (by decide +kernel)) (fun _ _ _ _ _ => (pg_name (i := 5) sc_Lchain.nd rfl (Or.inl rfl))) (fun _ _ _ _ _ => (pts_one (PW.pt (pw_or (pt_val (pe_call c_Lcomes.G (hr.mono (by decide)) (by rfl) c_Lcomes.m c_Lcomes.k c_Lcomes.b .nil pass0 (pa_cons (pv 4) (pa_cons (pv 5) pa_nil)))) (pw_or1 (pt_val (pe_call c_Lcomes.G (hr.mono (by decide)) (by rfl) c_Lcomes.m c_Lcomes.k c_Lcomes.b .nil pass0 (pa_cons (pv 5) (pa_cons (pv 4) pa_nil))))))))) (fun _ _ _ _ _ => (pv 5))) (pe_lst pa_nil) (nomark _)) (pss_one (ps_expr (pe_bm PySem.F.plainAttrs_list PySem.F.slot_list_insert PySem.F.type_list_insert mt_insert (pv 2) (pa_cons (pe_callB (show CallR _ (.builtin "len") (rLenS K) from call_len_seq) (by rfl) n_len (by decide +kernel) (pa_cons (pe_lc (own := [("_law_one", 5)]) rfl sc_Lchain.nd (pi_list (pv 2)) (blkOk_by (N := N_Lchain) (sc := defScope s_Lchain) (by decide +kernel)) (fun _ _ _ _ _ => (pg_name (i := 5) sc_Lchain.nd rfl (Or.inl rfl))) (fun _ _ _ _ _ => (pts_one (pt_val (pe_call c_Lis_above.G (hr.mono (by decide)) (by rfl) c_Lis_above.m c_Lis_above.k c_Lis_above.b .nil pass0 (pa_cons (pv 1) (pa_cons (pv 4) (pa_cons (pv 5) pa_nil))))))) (fun _ _ _ _ _ => (pv 5))) pa_nil)) (pa_cons (pv 4) pa_nil))))) pss_nil))))
    (pss_one (ps_ret (pe_callTy call_tuple_of (by rfl) n_tuple (by decide +kernel) (pa_cons (pe_lc (own := [("_law_lead", 6)]) rfl sc_Lchain.nd (pi_list (pv 2)) (blkOk_by (N := N_Lchain) (sc := defScope s_Lchain) (by decide +kernel)) (fun _ _ _ _ _ => (pg_name (i := 6) sc_Lchain.nd rfl (Or.inl rfl))) (fun _ _ _ _ _ => pts_nil) (fun _ _ _ _ _ => (pe_tup (pa_cons (pv 6) (pa_cons (pe_call c_Lbelow.G (hr.mono (by decide)) (by rfl) c_Lbelow.m c_Lbelow.k c_Lbelow.b .nil pass0 (pa_cons (pv 0) (pa_cons (pv 1) (pa_cons (pv 6) (pa_cons (pv 2) pa_nil))))) pa_nil))))) pa_nil)))))), ?_⟩
  refine b_seq (b_asg (b_lst0 (b_nil0 ⟨by show 0 ≤ sizeLine; decide, fun L hL => ?_⟩)))
  have bL : B L = none := fresh_back k.e hL
  have Ld : L ≠ d := fun e => k.s.ne0 (e ▸ hL)
  dsimp only [gName, List.set_cons_succ, List.set_cons_zero]
  refine b_seq (b_forD ?_)
  refine x_digit (z := (5 : Nat)) (k.ex (Ex.new hL)) rfl ev_c (by decide) (by decide) (by omega) fun m5 H1 q0 q1 k1 g1 => ?_
  have hH1 := g1.a L _ Ld upd_same (fun _ z => nomatch z)
  refine ⟨m5, rfl, by omega, by omega, for_range (lo := 0) (n := m5.toNat) (fun i σ H' => ∃ B1 us acc x3 x4, LG r us ∧ us.length ≤ i ∧ Kx T d (n + 4 + 20 * i) B1 H' ∧ GX d B H B1 H' ∧ B1 L = none ∧ H' L = some (.lst acc) ∧ AllP (us.map DvP) acc B1 ∧ σ = [some (.ref d), some vb, some (.ref L), x3, x4, none, none])
    ⟨B, [], [], none, none, LG.nil, Nat.le_refl _, k1, (GX.ex (Ex.new hL)).trans g1, bL, hH1, (show AllP (([] : List Dv).map DvP) [] B from trivial), rfl⟩ (fun i σ H' hi pv => ?_) (fun σ H' pv => ?_)⟩
  · obtain ⟨B1, us, acc, x3, x4, hus, hul, k1, g1, hB1, hH1, al, rfl⟩ := pv
    have hi4 : i < 4 := by omega
    dsimp only [gName, List.set_cons_succ, List.set_cons_zero]
    have R1 := (RkP K r).m g1.b hR
    refine b_seq (b_asg (b_call0 ?_))
    refine (q_cons (p_varV (i := 0) rfl) (q_cons (p_rk1 (p_var (i := 1) rfl R1)) (q_cons (p_ev (ev_lenD (p_rk2 (p_var (i := 1) rfl R1)) (.inl rfl))) (q_cons p_c q_nil)))) H' k1.e _ fun vs B8 H8 g8 b => ?_
    obtain ⟨w0, w1, w2, w3, rfl, b0, b1, b2, b3⟩ := all4 b
    have b2' : w2 = .int (r.axs.length : Nat) := by
      rw [List.length_map] at b2
      exact b2
    obtain rfl : w0 = .ref d := b0
    obtain rfl : w3 = .int (3 : Nat) := b3
    subst b2'
    have k8 := k1.gr g8
    refine ⟨B8, d, _, 3, r, w1, rfl, by decide, hok, b1, k8.e, k8.z, k8.s, by omega, fun u B9 H9 vu hu ho gd9 hd9 hvu => ?_⟩
    have k9 := k8.gd gd9 hd9
    have g19 : GX d B1 H' B9 H9 := (GX.gr g8).trans (GX.gd gd9)
    have hH9 := g19.a L _ Ld hH1 (fun _ z => nomatch z)
    have hB9 := g19.f L _ Ld hB1 hH1 (fun _ z => nomatch z)
    have al9 := al.m g19.b
    have e9 := g1.b.trans g19.b
    have R9 := (RkP K r).m e9 hR
    have shu := K12.sh_dvR hok hu
    have accl := al.len
    rw [List.length_map] at accl
    -- the list, known for the while
    have kf := k9.fin hB9 hH9 Ld
    have hvf := (DvP u).m (Ex.new (o := .lst acc) hB9) hvu
    have Rf := (RkP K r).m (Ex.new (o := .lst acc) hB9) R9
    have rows : (LsP (us.map DvP)).P (.ref L) (upd B9 L (.lst acc)) := ⟨L, acc, rfl, upd_same, al9.m (Ex.new hB9)⟩
    generalize upd B9 L (.lst acc) = Bf at kf hvf Rf rows
    dsimp only [gName, List.set_cons_succ, List.set_cons_zero]
    clear b b1
    have com : ∀ {C : Hp} {v : V} {a b : Nat} {p q : Dv} {vp vq : V} {σ : L2.St}, σ[a]? = some (some vp) → σ[b]? = some (some vq) → (DvP p).P vp C → (DvP q).P vq C → EvT (tB (tCall (spP (Rcomes K)) [] E0 (tCons (tVar a) (tCons (tVar b) tNil)))) σ C (wayB q p) := fun {C v a b p q vp vq σ} s1 s2 h1 h2 =>
      et_B (ev_p (p_callP (ps := [DvP p, DvP q]) (q_cons (p_var s1 h1) (q_cons (p_var s2 h2) q_nil)) ⟨p, q, rfl, rfl⟩))
    have lc : EvP (tLc (iList K (tVar 2)) (gName 5) (tOr (tB (tCall (spP (Rcomes K)) [] E0 (tCons (tVar 4) (tCons (tVar 5) tNil)))) (tB (tCall (spP (Rcomes K)) [] E0 (tCons (tVar 5) (tCons (tVar 4) tNil))))) (tVar 5) [5]) [some (.ref d), some vb, some (.ref L), some (.int (0 + (i : Nat))), some vu, none, none] Bf (LsP ((us.filter fun l => wayB l u || wayB u l).map DvP)) := by
      have := p_lcS (g := gName 5) (tt := tOr (tB (tCall (spP (Rcomes K)) [] E0 (tCons (tVar 4) (tCons (tVar 5) tNil)))) (tB (tCall (spP (Rcomes K)) [] E0 (tCons (tVar 5) (tCons (tVar 4) tNil))))) (te := tVar 5) (vs := [5]) (src_lq (K := K) (p_lq (p_var (i := 2) (σ := [some (.ref d), some vb, some (.ref L), some (.int (0 + (i : Nat))), some vu, none, none]) rfl rows))) (by rw [List.length_map]; omega) (fun j => (us[j]?.map fun l => wayB l u || wayB u l).getD false) (fun j => (us[j]?.map DvP).getD (IsV .non)) fun j v B2 hj e pv => ?_
      · rw [List.length_map, range_pick] at this
        exact this
      · rw [List.length_map] at hj
        have pv : ((us.map DvP).getD j (IsV .non)).P v B2 := pv
        rw [getD_map hj] at pv
        refine ⟨[some (.ref d), some vb, some (.ref L), some (.int (0 + (i : Nat))), some vu, some v, none], rfl, fun H2 Q e q => q, ?_, fun _ => ?_⟩
        · rw [List.getElem?_eq_getElem hj]
          exact et_or (com (v := v) (a := 4) (b := 5) rfl rfl ((DvP u).m e hvf) pv) fun _ => com (v := v) (a := 5) (b := 4) rfl rfl pv ((DvP u).m e hvf)
        · rw [List.getElem?_eq_getElem hj]
          exact p_var rfl pv
    have lc2 : EvP (tLc (iList K (tVar 2)) (gName 5) (tB (tCall (spP (Rab K)) [] E0 (tCons (tVar 1) (tCons (tVar 4) (tCons (tVar 5) tNil))))) (tVar 5) [5]) [some (.ref d), some vb, some (.ref L), some (.int (0 + (i : Nat))), some vu, none, none] Bf (LsP ((us.filter fun l => decide (r.lt l u)).map DvP)) := by
      have := p_lcS (g := gName 5) (tt := tB (tCall (spP (Rab K)) [] E0 (tCons (tVar 1) (tCons (tVar 4) (tCons (tVar 5) tNil))))) (te := tVar 5) (vs := [5]) (src_lq (K := K) (p_lq (p_var (i := 2) (σ := [some (.ref d), some vb, some (.ref L), some (.int (0 + (i : Nat))), some vu, none, none]) rfl rows))) (by rw [List.length_map]; omega) (fun j => (us[j]?.map fun l => decide (r.lt l u)).getD false) (fun j => (us[j]?.map DvP).getD (IsV .non)) fun j v B2 hj e pv => ?_
      · rw [List.length_map, range_pick] at this
        exact this
      · rw [List.length_map] at hj
        have pv : ((us.map DvP).getD j (IsV .non)).P v B2 := pv
        rw [getD_map hj] at pv
        refine ⟨[some (.ref d), some vb, some (.ref L), some (.int (0 + (i : Nat))), some vu, some v, none], rfl, fun H2 Q e q => q, ?_, fun _ => ?_⟩
        · rw [List.getElem?_eq_getElem hj]
          exact et_B (ev_p (p_callP (ps := [RkP K r, DvP u, DvP us[j]]) (q_cons (p_var (i := 1) rfl ((RkP K r).m e Rf)) (q_cons (p_var (i := 4) rfl ((DvP u).m e hvf)) (q_cons (p_var (i := 5) rfl pv) q_nil))) ⟨r, u, us[j], hok, hu, (hus.of us[j] (List.getElem_mem hj)).1, rfl, rfl⟩))
        · rw [List.getElem?_eq_getElem hj]
          exact p_var rfl pv
    have tst := et_test (ev_is (ev_eqD (K := K) (d := .list ((us.filter fun l => wayB l u || wayB u l).map Dv.D)) (e := .list []) (p_to lc (to_lst (toAll_map _ fun v => to_dv v))) (p_to (p_lst (ps := []) q_nil (by show 0 ≤ 100000; decide)) (to_lst .nil)) (My.sh_list fun l hl => K12.sh_dvR hok (hus.of l (List.mem_filter.mp hl).1).1) rfl) (show V.bl (PyData.eqv (.list ((us.filter fun l => wayB l u || wayB u l).map Dv.D)) (.list [])) = V.bl (us.filter fun l => wayB l u || wayB u l).isEmpty by cases us.filter fun l => wayB l u || wayB u l <;> rfl))
    by_cases ga : us.filter (fun l => wayB l u || wayB u l) = []
    · have gn : ∀ l ∈ us, wayB l u = false ∧ wayB u l = false := fun l hl => by
        have := List.filter_eq_nil_iff.mp ga l hl
        simpa using this
      refine My.ps_ifT kf.e (et_is tst (by rw [ga]; rfl)) fun HA eA => ?_
      have hHA := eA _ _ hH9
      have kA := k9.ex eA
      refine ⟨.ref L, rfl, .inl ⟨rfl, acc, sq_of hHA⟩, b_cons ?_⟩
      refine ev_lenL (K := K) lc2 HA (kf.e.trans eA) _ fun HB eB => ?_
      have hHB := eB _ _ hHA
      have kB := kA.ex eB
      refine ⟨vu, rfl, L, acc, _, vu, rfl, rfl, hHB, small1000 (by omega), by omega, by rw [List.length_map]; have := List.length_filter_le (fun l => decide (r.lt l u)) us; omega, ?_⟩
      rw [List.length_map]
      have sp : (us.filter fun l => decide (r.lt l u)).length = r.spot us u := rfl
      rw [sp, Int.toNat_natCast]
      have hus' := hus.put hu ho gn
      refine ⟨B9, r.put us u, _, _, _, hus', ?_, (kB.le (by omega)).lst hHB hB9 Ld, ((g1.trans g19).trans (GX.ex (eA.trans eB))).lst hL, hB9, upd_same, ?_, rfl⟩
      · have := r.put_len us u
        omega
      · have nm : u ∉ us := fun h => by
          have := (gn u h).1
          rw [way_self] at this
          cases this
        have e7 : r.put us u = us.take (r.spot us u) ++ u :: us.drop (r.spot us u) := by
          unfold Rk.put
          rw [if_neg nm, ins_eq _ _ _ (r.spot_le us u)]
        rw [e7, List.append_assoc]
        exact allP_ins hvu al9
    · refine ps_ifN kf.e (et_is tst ?_) fun HA eA => ?_
      · cases e : us.filter fun l => wayB l u || wayB u l with
        | nil => exact absurd e ga
        | cons a b => rfl
      · exact ⟨B9, us, acc, _, _, hus, by omega, (k9.ex eA).le (by omega), (g1.trans g19).trans (GX.ex eA), hB9, eA _ _ hH9, al9, rfl⟩
  obtain ⟨B1, us, acc, x3, x4, hus, hul, k1, g1, hB1, hH1, al, rfl⟩ := pv
  have hul : us.length ≤ 4 := by omega
  have k2 := (k1.fin hB1 hH1 Ld).le (m := n + 100) (by omega)
  have g2 := g1.fin hB1 hL (acc := acc)
  have rows : (LsP (us.map DvP)).P (.ref L) (upd B1 L (.lst acc)) := ⟨L, acc, rfl, upd_same, al.m (Ex.new hB1)⟩
  generalize upd B1 L (.lst acc) = B2 at k2 g2 rows
  dsimp only
  have R2 := (RkP K r).m g2.b hR
  refine b_ret (b_cons ?_)
  refine x_lcL (α := Dv) (β := Dv × Pq) (p := DvP) (f := fun x => TuP K [DvP x.1, fpP K x.2]) (ok := fun u x => x.1 = u ∧ LQ (Gbel r u us) 4 x.2) (us := us) (jv := 6) (c := 300) (v := .ref L) k2 rfl rows (by omega) (fun x => rfl) (fun i hi x B5 H5 Q' k5 g5 hx st => ?_) fun bs v B5 H5 hbl hbs k5 g5 hv => ?_
  · have hu := hus.of us[i] (List.getElem_mem hi)
    refine b_tup (b_cons ⟨x, rfl, b_cons (b_call0 ⟨.ref d, rfl, vb, rfl, x, rfl, .ref L, rfl, b_nil0 ?_⟩)⟩)
    refine ⟨B5, d, _, r, us[i], us, vb, x, .ref L, rfl, hok, hu.1, fun l hl => (hus.of l hl).1, by omega, (RkP K r).m g5.b R2, hx, (LsP _).m g5.b rows, k5, by omega, fun p vp B6 H6 hp k6 g6 hvp => b_nil0 ⟨by show 2 ≤ sizeLine; decide, fun p1 hp1 => ?_⟩⟩
    have n1 := Gr.new (B := B6) (.tup [x, vp]) k6.e hp1
    exact st (us[i], p) _ _ _ ⟨rfl, hp⟩ ((k6.gr n1).le (by omega)) (g6.trans (GX.gr n1)) ⟨p1, _, rfl, st_of upd_same, (DvP us[i]).m (g6.b.trans n1.b) hx, (fpP K p).m n1.b hvp, trivial⟩
  obtain ⟨l, xs, rfl, hl, alx⟩ := hv
  refine b_nil0 ⟨l, xs, rfl, .inl ⟨sq_of (k5.e _ _ hl), fun l2 hl2 => ?_⟩⟩
  have n2 := Gr.new (B := B5) (.tup xs) k5.e hl2
  have e1 : bs.map (·.1) = us := by
    refine List.ext_getElem (by rw [List.length_map, hbl]) fun i h1 h2 => ?_
    rw [List.getElem_map]
    exact (hbs i h2 (by rw [hbl]; exact h2)).1
  refine q bs _ _ _ ⟨by rw [e1]; exact hus, fun x hx => ?_, by rw [hbl]; exact hul⟩ ((k5.gr n2).le (by omega)) ((g2.trans g5).trans (GX.gr n2)) ?_
  · obtain ⟨i, hi, rfl⟩ := List.mem_iff_getElem.mp hx
    have := hbs i (by rw [← hbl]; exact hi) hi
    rw [e1, this.1]
    exact this.2
  · refine ⟨l2, xs, rfl, st_of upd_same, ?_⟩
    unfold chO
    rw [List.map_map]
    exact all_conv lk_conv (alx.m n2.b)

end
end K12
namespace Nd
set_option autoImplicit false
open PySem PySem.Spec PySem.W PyProof.Rows L2 My Evl LamX NdefX
theorem LQ.pg {r : Rk} {G : Dv → Prop} {p : Pq} (h : LQ G 4 p) (hG : ∀ u, G u → u.Of r) : PG r p := ⟨h.c, fun t ht y hy => hG _ (h.of t ht y hy), fun t ht => Nat.le_trans (h.dg t ht) (by decide), Nat.le_trans h.ln (by decide), 6, 120, by decide, Nat.lt_of_lt_of_le (by decide) (Nat.pow_le_pow_right (n := 2) (show 0 < 2 by decide) (show 10 ≤ 1000 by decide)), Nat.lt_of_lt_of_le (by decide) (Nat.pow_le_pow_right (n := 2) (show 0 < 2 by decide) (show 20 ≤ 1000 by decide)), h.lm⟩
theorem ChG.ok {r : Rk} {c : List (Dv × Pq)} (h : ChG r c) : K12.ChOk r (chO c) := by
  have el : ∀ x ∈ chO c, ∃ y ∈ c, x = (y.1, toPo y.2) := fun x hx => by
    obtain ⟨y, hy, rfl⟩ := List.mem_map.mp hx
    exact ⟨y, hy, rfl⟩
  have mem : ∀ y ∈ c, y.1 ∈ c.map (·.1) := fun y hy => List.mem_map.mpr ⟨y, hy, rfl⟩
  have ln : (chO c).length = c.length := List.length_map _
  have fs : ∀ i (hi : i < (chO c).length), (chO c)[i].1 = (c.map (·.1))[i]'(by rw [List.length_map]; omega) := fun i hi => by
    have hc : i < c.length := by omega
    have e1 : (chO c)[i] = ((c[i]).1, toPo (c[i]).2) := List.getElem_map _
    rw [e1, List.getElem_map]
  have fm : (chO c).map (·.1) = c.map (·.1) := by
    unfold chO
    rw [List.map_map]
    rfl
  have pw := List.pairwise_iff_getElem.mp h.g.up
  refine ⟨fun x hx => ?_, fun i hi => ?_, fun i hi => ?_, fun x hx d hd => ?_, fun x hx d hd => ?_, by rw [ln]; exact Nat.le_trans h.n (by decide)⟩
  · obtain ⟨y, hy, rfl⟩ := el x hx
    have pg := (h.b y hy).pg (r := r) fun u hu => hu.1
    exact ⟨(h.g.of _ (mem y hy)).1, pg.ok, pg.dvs⟩
  · rw [fs i (by omega), fs (i + 1) hi]
    exact pw i (i + 1) _ _ (by omega)
  · rw [fm, fs i hi, List.any_eq_false]
    intro v hv
    obtain ⟨j, hj, rfl⟩ := List.mem_iff_getElem.mp hv
    rw [List.length_take] at hj
    rw [List.getElem_take]
    have hi' : i < (c.map (·.1)).length := by rw [List.length_map]; omega
    have hlt := pw j i (by omega) hi' (by omega)
    have := h.g.no (c.map (·.1))[j] (List.getElem_mem _) (c.map (·.1))[i] (List.getElem_mem _) fun e => by
      rw [e] at hlt
      exact (r.lt_irrefl _ hlt).elim
    rw [this]
    exact Bool.false_ne_true
  · obtain ⟨y, hy, rfl⟩ := el x hx
    rw [dvs_to] at hd
    obtain ⟨t, ht, hu⟩ := List.mem_flatMap.mp hd
    obtain ⟨z, hz, rfl⟩ := List.mem_map.mp hu
    exact ((h.b y hy).of t ht z hz).2.2.1
  · obtain ⟨y, hy, rfl⟩ := el x hx
    rw [dvs_to] at hd
    obtain ⟨t, ht, hu⟩ := List.mem_flatMap.mp hd
    obtain ⟨z, hz, rfl⟩ := List.mem_map.mp hu
    have G := (h.b y hy).of t ht z hz
    unfold fstI
    rw [List.findIdx?_eq_none_iff]
    intro x' hx'
    obtain ⟨w, hw, rfl⟩ := el x' hx'
    exact G.2.2.2 w.1 (mem w hw)
structure Shw (d : PyData) (n : Nat) (k : Nat) : Prop where
  s : d.showable = true
  l : d.shown.length ≤ n
  d : d.depth ≤ k
theorem depthAll_le {k : Nat} : ∀ {ds : List PyData}, (∀ d ∈ ds, d.depth ≤ k) → PyData.depthAll ds ≤ k
  | [], _ => by simp [PyData.depthAll]
  | d :: ds, h => by
    simp only [PyData.depthAll]
    have := h d List.mem_cons_self
    have := depthAll_le (k := k) (ds := ds) fun e he => h e (List.mem_cons_of_mem _ he)
    omega
theorem shw_tup {ds : List PyData} {n k : Nat} (h : ∀ d ∈ ds, Shw d n k) : Shw (.tuple ds) (ds.length * (n + 2) + 3) (k + 1) := by
  refine ⟨?_, Gd.shown_tup fun d hd => (h d hd).l, ?_⟩
  · simp only [PyData.showable]
    exact PySem.Spec.showableAll_of fun d hd => (h d hd).s
  · have := depthAll_le (k := k) fun d hd => (h d hd).d
    simp only [PyData.depth]
    omega
theorem Shw.le {d : PyData} {n k m j : Nat} (h : Shw d n k) (a : n ≤ m) (b : k ≤ j) : Shw d m j := ⟨h.s, Nat.le_trans h.l a, Nat.le_trans h.d b⟩
theorem shw_int {i : Int} {k : Nat} (hk : 0 < k) (hk2 : k < 500) (h : i.natAbs < 10 ^ k) : Shw (.int i) (k + 1) 0 := by
  refine ⟨?_, ?_, by simp [PyData.depth]⟩
  · simp only [PyData.showable, decide_eq_true_eq]
    by_cases h0 : i.natAbs = 0
    · rw [h0]
      decide
    · rw [Nat.log2_lt h0]
      refine Nat.lt_of_lt_of_le h (Nat.le_trans (Nat.pow_le_pow_right (by decide) (Nat.le_of_lt hk2)) ?_)
      decide +kernel
  · simp only [PyData.shown]
    rw [show ((toString i : String) : Str) = Str.ofString (toString i) from rfl, PySem.ofString_length]
    exact int_text_length_le10 hk h
/-- derivatives that are good -/
structure GnD (u : Dv) : Prop where
  n : IsNm u.n
  i0 : 0 ≤ u.i
  j0 : 0 ≤ u.j
  i1 : u.i ≤ 100
  j1 : u.j ≤ 100
theorem GnD.gd {u : Dv} (h : GnD u) : GdD u := ⟨dvB_of h.n h.i0 h.j0, smd_dv (by have := (nm_facts h.n).2.1; omega)⟩
theorem GnD.sh {u : Dv} (h : GnD u) : SeqAt.shaped u.D = true := by
  have := K12.strOk_nm h.n
  unfold Dv.D SeqAt.shaped
  simp [PyData.canLay0, PyData.canLayAll0, PyData.depth, PyData.depthAll, this]
theorem GnD.lc {a b : Dv} (h : GnD a) (k : GnD b) : GnD (lcD a b) := by
  have := h.i0
  have := h.j0
  have := k.i0
  have := k.j0
  have := h.i1
  have := h.j1
  have := k.i1
  have := k.j1
  refine ⟨h.n, ?_, ?_, ?_, ?_⟩ <;> unfold lcD <;> dsimp only <;> split <;> omega
theorem lc_comm {a b : Dv} (h : a.n = b.n) : lcD b a = lcD a b := by
  unfold lcD
  rw [h]
  congr 1
  · split <;> split <;> omega
  · split <;> split <;> omega
theorem way_lc {a b : Dv} (h : a.n = b.n) : wayB a (lcD a b) = true ∧ wayB b (lcD a b) = true := by
  unfold wayB lcD
  dsimp only
  constructor
  · rw [decide_eq_true rfl, decide_eq_true (by split <;> omega), decide_eq_true (by split <;> omega)]
    rfl
  · rw [decide_eq_true h.symm, decide_eq_true (by split <;> omega), decide_eq_true (by split <;> omega)]
    rfl
theorem way_both {a b c : Dv} (h : a.n = b.n) : (wayB a c && wayB b c) = wayB (lcD a b) c := by
  unfold wayB lcD
  dsimp only
  rw [← h, Bool.eq_iff_iff]
  simp only [Bool.and_eq_true, decide_eq_true_eq]
  constructor
  · rintro ⟨⟨h1, h2, h3⟩, _, h4, h5⟩
    refine ⟨h1, ?_, ?_⟩ <;> split <;> omega
  · rintro ⟨h1, h2, h3⟩
    refine ⟨⟨h1, ?_, ?_⟩, h1, ?_, ?_⟩ <;> (try split at h2) <;> (try split at h3) <;> omega
def wyD (a b : Dv) : PyData := if wayB a b = true then .tuple [.int (b.i - a.i), .int (b.j - a.j)] else .none
theorem to_way {K : PySem.W.Frag} (a b : Dv) : To K (wayP K a b) (wyD a b) := by
  unfold wayP wyD
  split
  · exact to_tup (.cons to_int (.cons to_int .nil))
  · exact to_non
theorem shw_way {a b : Dv} (ga : GnD a) (gb : GnD b) : (PyData.list [wyD a b, wyD a b]).showable = true ∧ (PyData.list [wyD a b, wyD a b]).depth ≤ 60 ∧ (PyData.list [wyD a b, wyD a b]).shown.length ≤ 1000000 := by
  have := ga.i0
  have := ga.j0
  have := gb.i0
  have := gb.j0
  have := ga.i1
  have := ga.j1
  have := gb.i1
  have := gb.j1
  have one : Shw (wyD a b) 30 1 := by
    unfold wyD
    split
    · have w := shw_tup (ds := [.int (b.i - a.i), .int (b.j - a.j)]) (n := 4) (k := 0) fun d hd => by
        simp only [List.mem_cons, List.not_mem_nil, or_false] at hd
        rcases hd with rfl | rfl
        · exact shw_int (k := 3) (by decide) (by decide) (by omega)
        · exact shw_int (k := 3) (by decide) (by decide) (by omega)
      exact w.le (by show 2 * (4 + 2) + 3 ≤ 30; decide) (by decide)
    · exact ⟨by decide, by decide +kernel, by decide⟩
  have all : ∀ d ∈ [wyD a b, wyD a b], Shw d 30 1 := fun d hd => by
    simp only [List.mem_cons, List.not_mem_nil, or_false, or_self] at hd
    rw [hd]
    exact one
  refine ⟨?_, ?_, ?_⟩
  · simp only [PyData.showable]
    exact PySem.Spec.showableAll_of fun d hd => (all d hd).s
  · have := depthAll_le (k := 1) fun d hd => (all d hd).d
    simp only [PyData.depth]
    omega
  · have := Gd.shown_lst fun d hd => (all d hd).l
    have e : [wyD a b, wyD a b].length = 2 := rfl
    rw [e] at this
    omega
theorem eqv_dv5 (u : Dv) : (!PyData.eqv u.D u.D) = false := by
  obtain ⟨n, i, j⟩ := u
  unfold Dv.D
  rw [PyData.eqv]
  simp [PyData.eqvAll, PyData.eqv]
section
variable {ta tb : TE} {σ : L2.St} {B : Hp} {K : PySem.W.Frag}
theorem ev_wayN {u v : Dv} (h : EvP ta σ B (wayP K u v)) : Ev (tOp (fun x y H Q => y = V.non ∧ Q (.bl (decide (x = V.non))) H) ta (tC .non)) σ B (.bl (!wayB u v)) := fun H1 a Q k => h H1 a _ fun w B2 H2 g hw => ⟨rfl, by
  unfold wayP at hw
  cases e : wayB u v with
  | true =>
    rw [e, if_pos rfl] at hw
    obtain ⟨l, xs, rfl, _⟩ := hw
    rw [e] at k
    exact k H2 g.a
  | false =>
    rw [e, if_neg Bool.false_ne_true] at hw
    obtain rfl : w = .non := hw
    rw [e] at k
    exact k H2 g.a⟩
theorem et_same5 {d : PyData} (h : EvP ta σ B (IsD K d)) (h2 : EvP tb σ B (IsD K d)) (s : d.showable = true) (de : d.depth ≤ 60) (l : d.shown.length ≤ 1000000) : EvT (tTest (tOp rNe (tCB (Gd.rRepr K) (tCons ta tNil)) (tCB (Gd.rRepr K) (tCons tb tNil)))) σ B false :=
  et_is (et_test (ev_op (Gd.ev_repr h s de l) (Gd.ev_repr h2 s de l) (rv_ne rfl))) (by simp)
end
def Rpair (K : PySem.W.Frag) : List Pr → Pr → Prop := fun ps p => ∃ a b c : Dv, GnD a ∧ GnD b ∧ GnD c ∧ ps = [DvP a, DvP b, DvP c] ∧ p = IsV (.bl true)
end Nd
namespace K12
set_option autoImplicit false
open PySem PySem.W L2 Evl My Nd LamX NdefX
section
variable {P : Program} {w : World} {K : PySem.W.Frag} {mg : Str → Option Value} {base : Heap} {T : List (Addr × Str)}

/-- _law_pair_right -/
abbrev s_Lpair_right : Stmt := topS 88
abbrev N_Lpair_right : List Str := ["_law_a", "_law_b", "_law_c", "_law_due", "_law_both", "_law_is_far"]
theorem sc_Lpair_right : FnScope N_Lpair_right ["_law_a", "_law_b", "_law_c"] (defScope s_Lpair_right) := ⟨rfl, rfl, rfl, by decide +kernel, rfl, by decide +kernel, by decide +kernel⟩
theorem ok_Lpair_right {f : Addr} {fd : FuncData} (F : Fun K "_law_pair_right" "_law_pair_right" s_Lpair_right f fd) {aOP : Addr} {f_Lcomes : Addr} {d_Lcomes : FuncData} (c_Lcomes : Cal P w K mg base "_law_comes" 1 ["_law_a", "_law_b"] (spP (Rcomes K)) f_Lcomes d_Lcomes) {f_derived_by : Addr} {d_derived_by : FuncData} (c_derived_by : CalX P w K mg base "derived_by" 5 ["one", "other"] (spO (RdbO K aOP)) f_derived_by d_derived_by) {f_least_common : Addr} {d_least_common : FuncData} (c_least_common : CalX P w K mg base "least_common" 5 ["one", "other"] (spO (RlcO K aOP)) f_least_common d_least_common) (n_repr : mg "repr" = none)  :
    Gd.FnG P w K mg base 7 f fd ["_law_a", "_law_b", "_law_c"] (spP (Rpair K)) := by
  refine Gd.okG F sc_Lpair_right (spP_len (by rintro _ _ ⟨_, _, _, _, _, _, rfl, rfl⟩; rfl)) (fun cdv A outer s H vs Q E hr hG h => ?_)
  obtain ⟨B, ps, p, eB, hv, ⟨a, b, c, ga, gb, gc, rfl, rfl⟩, q⟩ := h
  obtain ⟨v0, v1, v2, rfl, h0, h1, h2⟩ := all3 hv
  have hu := hu_of hr
  refine ⟨_, (pss_cons (ps_set (i := 3) sc_Lpair_right.nd rfl (by first | exact .inl rfl | exact .inr rfl) (pe_ifExp (pt_val (pe_call c_Lcomes.G (hr.mono (by decide)) (by rfl) c_Lcomes.m c_Lcomes.k c_Lcomes.b .nil pass0 (pa_cons (pv 1) (pa_cons (pv 0) pa_nil)))) (pe_tup (pa_cons (pe_op op_sub (pe_ix ix_tup (pv 1) pe_int (fun _ _ => rfl)) (pe_ix ix_tup (pv 0) pe_int (fun _ _ => rfl))) (pa_cons (pe_op op_sub (pe_ix ix_tup (pv 1) pe_int (fun _ _ => rfl)) (pe_ix ix_tup (pv 0) pe_int (fun _ _ => rfl))) pa_nil))) pe_non))
    (pss_cons (ps_if (pt_cmpR op_ne (pe_callB (Gd.call_reprG hG hr.units) (by rfl) n_repr (by decide +kernel) (pa_cons (pe_lst (pa_cons (pe_call c_derived_by.G (hr.mono (by decide)) (by rfl) c_derived_by.m c_derived_by.k c_derived_by.b .nil L2.passL (pa_cons (pv 0) (pa_cons (pv 1) pa_nil))) (pa_cons (pe_call c_derived_by.G (hr.mono (by decide)) (by rfl) c_derived_by.m c_derived_by.k c_derived_by.b .nil L2.passL (pa_cons (pv 0) (pa_cons (pv 1) pa_nil))) pa_nil))) pa_nil)) (pe_callB (Gd.call_reprG hG hr.units) (by rfl) n_repr (by decide +kernel) (pa_cons (pe_lst (pa_cons (pv 3) (pa_cons (pv 3) pa_nil))) pa_nil)) (nomark _)) (pss_one (ps_ret pe_bl)) pss_nil)
    (pss_cons (ps_set (i := 4) sc_Lpair_right.nd rfl (by first | exact .inl rfl | exact .inr rfl) (pe_call c_least_common.G (hr.mono (by decide)) (by rfl) c_least_common.m c_least_common.k c_least_common.b .nil L2.passL (pa_cons (pv 0) (pa_cons (pv 1) pa_nil))))
    (pss_cons (ps_if (pt_cmpR op_ne (pe_ix ix_tup (pv 0) pe_int (fun _ _ => rfl)) (pe_ix ix_tup (pv 1) pe_int (fun _ _ => rfl)) (nomark _)) (pss_one (ps_ret (pe_and (pe_cmpR op_isN (pv 4) pe_non (nomark _)) (pe_one (pe_cmpR op_isN (pe_call c_least_common.G (hr.mono (by decide)) (by rfl) c_least_common.m c_least_common.k c_least_common.b .nil L2.passL (pa_cons (pv 1) (pa_cons (pv 0) pa_nil))) pe_non (nomark _)))))) pss_nil)
    (pss_cons (ps_if (PW.pt (pw_or (pt_cmpR op_isN (pe_call c_derived_by.G (hr.mono (by decide)) (by rfl) c_derived_by.m c_derived_by.k c_derived_by.b .nil L2.passL (pa_cons (pv 0) (pa_cons (pv 4) pa_nil))) pe_non (nomark _)) (pw_or (pt_cmpR op_isN (pe_call c_derived_by.G (hr.mono (by decide)) (by rfl) c_derived_by.m c_derived_by.k c_derived_by.b .nil L2.passL (pa_cons (pv 1) (pa_cons (pv 4) pa_nil))) pe_non (nomark _)) (pw_or1 (pt_cmpR (op_neD hr.units) (pe_call c_least_common.G (hr.mono (by decide)) (by rfl) c_least_common.m c_least_common.k c_least_common.b .nil L2.passL (pa_cons (pv 1) (pa_cons (pv 0) pa_nil))) (pv 4) (nomark _)))))) (pss_one (ps_ret pe_bl)) pss_nil)
    (pss_cons (ps_set (i := 5) sc_Lpair_right.nd rfl (by first | exact .inl rfl | exact .inr rfl) (pe_and (pe_cmpR op_notN (pe_call c_derived_by.G (hr.mono (by decide)) (by rfl) c_derived_by.m c_derived_by.k c_derived_by.b .nil L2.passL (pa_cons (pv 0) (pa_cons (pv 2) pa_nil))) pe_non (nomark _)) (pe_one (pe_cmpR op_notN (pe_call c_derived_by.G (hr.mono (by decide)) (by rfl) c_derived_by.m c_derived_by.k c_derived_by.b .nil L2.passL (pa_cons (pv 1) (pa_cons (pv 2) pa_nil))) pe_non (nomark _)))))
    (pss_one (ps_ret (pe_cmpR op_eq (pv 5) (pe_cmpR op_notN (pe_call c_derived_by.G (hr.mono (by decide)) (by rfl) c_derived_by.m c_derived_by.k c_derived_by.b .nil L2.passL (pa_cons (pv 4) (pa_cons (pv 2) pa_nil))) pe_non (nomark _)) (nomark _)))))))))), ?_⟩
  have dg := fun {u : Dv} (h : GnD u) => h.gd
  have ix : ∀ {σ : L2.St} {B' : Hp} (i : Nat) {u : Dv} {x : V}, σ[i]? = some (some x) → (DvP u).P x B' → Ev (tOp (rIxT K) (tVar i) (tC (.int 0))) σ B' (.str u.n) ∧ Ev (tOp (rIxT K) (tVar i) (tC (.int 1))) σ B' (.int u.i) ∧ Ev (tOp (rIxT K) (tVar i) (tC (.int 2))) σ B' (.int u.j) := by
    intro σ B' i u x s h
    exact ⟨ev_st (K := K) (ed_ixT (ed_dv (p_var s h)) ev_c rfl), ev_in (K := K) (ed_ixT (ed_dv (p_var s h)) ev_c rfl), ev_in (K := K) (ed_ixT (ed_dv (p_var s h)) ev_c rfl)⟩
  have der : ∀ {σ : L2.St} {C : Hp} {i j : Nat} {x y : V} {u v : Dv}, σ[i]? = some (some x) → σ[j]? = some (some y) → (DvP u).P x C → (DvP v).P y C → GnD u → GnD v → EvP (tCall (spO (RdbO K aOP)) [] E0 (tCons (tVar i) (tCons (tVar j) tNil))) σ C (wayP K u v) := by
    intro σ C i j x y u v s1 s2 h1 h2 g1 g2
    exact p_callO (ps := [DvP u, DvP v]) (q_cons (p_var s1 h1) (q_cons (p_var s2 h2) q_nil)) (.inl ⟨u, v, g1.gd, g2.gd, rfl, rfl⟩)
  have lea : ∀ {σ : L2.St} {C : Hp} {i j : Nat} {x y : V} {u v : Dv}, σ[i]? = some (some x) → σ[j]? = some (some y) → (DvP u).P x C → (DvP v).P y C → GnD u → GnD v → EvP (tCall (spO (RlcO K aOP)) [] E0 (tCons (tVar i) (tCons (tVar j) tNil))) σ C (lcP u v) := by
    intro σ C i j x y u v s1 s2 h1 h2 g1 g2
    exact p_callO (ps := [DvP u, DvP v]) (q_cons (p_var s1 h1) (q_cons (p_var s2 h2) q_nil)) (.inl ⟨u, v, g1.gd, g2.gd, rfl, rfl⟩)
  -- what is due
  refine ps_asgN (fun x => [some v0, some v1, some v2, some x, none, none]) eB (p := wayP K a b) (ed_if (b := wayB a b) (et_B (ev_p (p_callP (ps := [DvP b, DvP a]) (q_cons (p_var (i := 1) rfl h1) (q_cons (p_var (i := 0) rfl h0) q_nil)) ⟨b, a, rfl, rfl⟩))) (fun hb => ?_) fun hb => ?_) (fun v3 B1 H1 g1 h3 => ?_) (fun _ => rfl)
  · unfold wayP
    rw [if_pos hb]
    exact p_tup (K := K) (ps := [IsV (.int (b.i - a.i)), IsV (.int (b.j - a.j))]) (q_cons (p_ev (ev_op (ix 1 rfl h1).2.1 (ix 0 rfl h0).2.1 rv_I0)) (q_cons (p_ev (ev_op (ix 1 rfl h1).2.2 (ix 0 rfl h0).2.2 rv_I0)) q_nil)) (by show 2 ≤ 100000; decide)
  · unfold wayP
    rw [if_neg (by rw [hb]; exact Bool.false_ne_true)]
    exact p_c
  dsimp only
  have h01 := (DvP a).m g1.b h0
  have h11 := (DvP b).m g1.b h1
  have h21 := (DvP c).m g1.b h2
  have sw := shw_way ga gb
  refine ps_ifN g1.c (et_same5 (K := K) (d := .list [wyD a b, wyD a b]) (p_to (p_lst (ps := [wayP K a b, wayP K a b]) (q_cons (der (i := 0) (j := 1) rfl rfl h01 h11 ga gb) (q_cons (der (i := 0) (j := 1) rfl rfl h01 h11 ga gb) q_nil)) (by show 2 ≤ 100000; decide)) (to_lst (.cons (to_way a b) (.cons (to_way a b) .nil)))) (p_to (p_lst (ps := [wayP K a b, wayP K a b]) (q_cons (p_var (i := 3) rfl h3) (q_cons (p_var (i := 3) rfl h3) q_nil)) (by show 2 ≤ 100000; decide)) (to_lst (.cons (to_way a b) (.cons (to_way a b) .nil)))) sw.1 sw.2.1 sw.2.2) fun H2 e2 => ?_
  dsimp only
  refine ps_asgN (fun x => [some v0, some v1, some v2, some v3, some x, none]) (g1.c.trans e2) (lea (i := 0) (j := 1) rfl rfl h01 h11 ga gb) (fun v4 B3 H3 g3 h4 => ?_) (fun _ => rfl)
  have gg := g1.trans ((Gr.wide g1.c e2).trans g3)
  have h02 := (DvP a).m g3.b h01
  have h12 := (DvP b).m g3.b h11
  have h22 := (DvP c).m g3.b h21
  dsimp only
  have tn := et_test (ev_op (ix (σ := [some v0, some v1, some v2, some v3, some v4, none]) 0 rfl h02).1 (ix 1 rfl h12).1 (rv_ne rfl))
  by_cases hn : a.n = b.n
  · have hl : lcP a b = DvP (lcD a b) := if_pos hn
    have hl2 : lcP b a = DvP (lcD a b) := by
      unfold lcP
      rw [if_pos hn.symm, lc_comm hn]
    rw [hl] at h4
    have gl := ga.lc gb
    refine ps_ifN g3.c (et_is tn (by simp [hn])) fun H4 e4 => ?_
    dsimp only
    have nn : ∀ {u v : Dv} {te : TE} {σ : L2.St} {C : Hp}, EvP te σ C (wayP K u v) → wayB u v = true → EvT (tTest (tOp (fun x y H Q => y = V.non ∧ Q (.bl (decide (x = V.non))) H) te (tC .non))) σ C false := fun h hw => et_is (et_test (ev_wayN (K := K) h)) (by rw [hw]; rfl)
    refine ps_ifN (g3.c.trans e4) (et_is (et_or (a := false) (b := false) (nn (der (i := 0) (j := 4) rfl rfl h02 h4 ga gl) (way_lc hn).1) fun _ => et_is (et_or (a := false) (b := false) (nn (der (i := 1) (j := 4) rfl rfl h12 h4 gb gl) (way_lc hn).2) fun _ => et_is (et_test (ev_neD (K := K) (d := (lcD a b).D) (e := (lcD a b).D) (p_to (by have := lea (i := 1) (j := 0) (σ := [some v0, some v1, some v2, some v3, some v4, none]) rfl rfl h12 h02 gb ga; rw [hl2] at this; exact this) (to_dv _)) (p_to (p_var (i := 4) rfl h4) (to_dv _)) gl.sh gl.sh)) (by rw [eqv_dv5])) rfl) rfl) fun H5 e5 => ?_
    dsimp only
    refine ps_asgN (fun x => [some v0, some v1, some v2, some v3, some v4, some x]) ((g3.c.trans e4).trans e5) (p_ev (v := .bl (wayB a c && wayB b c)) (ev_andV (ev_way (K := K) (der (i := 0) (j := 2) rfl rfl h02 h22 ga gc)) fun _ => ev_way (K := K) (der (i := 1) (j := 2) rfl rfl h12 h22 gb gc))) (fun v5 B6 H6 g6 h5 => ?_) (fun _ => rfl)
    obtain rfl : v5 = .bl (wayB a c && wayB b c) := h5
    dsimp only
    refine My.ps_ret g6.c (p_ev (v := .bl true) (ev_is (ev_op (ev_var (i := 5) rfl) (ev_way (K := K) (der (i := 4) (j := 2) rfl rfl ((DvP _).m g6.b h4) ((DvP c).m g6.b h22) gl gc)) (rv_eq rfl)) (by rw [← way_both hn]; simp))) fun v B7 H7 g7 hp => q v B7 H7 ((gg.trans ((Gr.wide g3.c (e4.trans e5)).trans g6)).trans g7) hp
  · have hl : lcP a b = IsV .non := if_neg hn
    have hl2 : lcP b a = IsV .non := if_neg fun e => hn e.symm
    rw [hl] at h4
    obtain rfl : v4 = .non := h4
    refine My.ps_ifT g3.c (et_is tn (by simp [hn])) fun H4 e4 => ?_
    have l2 := lea (i := 1) (j := 0) (σ := [some v0, some v1, some v2, some v3, some V.non, none]) rfl rfl h12 h02 gb ga
    rw [hl2] at l2
    exact My.ps_ret (g3.c.trans e4) (p_ev (v := .bl true) (ev_is (ev_andV (a := true) (b := true) (ev_is (ev_isN0 (ev_var (i := 4) rfl)) rfl) fun _ => ev_is (ev_isN0 (ev_p l2)) rfl) rfl)) fun v B7 H7 g7 hp => q v B7 H7 ((gg.trans (Gr.wide g3.c e4)).trans g7) hp

end
end K12
namespace Nd
set_option autoImplicit false
open PySem PySem.Spec PySem.W PyProof.Rows L2 My Evl LamX NdefX
theorem atI_zero {α : Type} (x : α) (l : List α) : atI (x :: l) 0 = some x := by
  unfold atI ixN
  rw [if_pos (Int.le_refl 0), if_pos (by rw [List.length_cons]; omega)]
  rfl
def PL : PyData := .list [.list [.str "place", .str "ours", .str "value"]]
theorem to_pl {K : PySem.W.Frag} {v : V} {H : Hp} (h : (LsP [LsP [IsV (.str "place"), IsV (.str "ours"), IsV (.str "value")]]).P v H) : Dp K H v PL := to_lst (.cons (to_lst (.cons to_str (.cons to_str (.cons to_str .nil)))) .nil) _ _ h
theorem told13 {K : PySem.W.Frag} {v : V} {H : Hp} (h : (toldP 13 []).P v H) : Dp K H v PL := by
  rw [toldP_no rfl] at h
  unfold txts at h
  rw [show kinds 13 = [("place" : Str), "ours", "value"] from by decide +kernel] at h
  exact to_pl h
theorem kn_lst {T : List (Addr × Str)} {B H : Hp} {L : Addr} {xs ys : List V} (k : Kn T B H) (b : B L = none) (h : H L = some (.lst xs)) : Kn T B (upd H L (.lst ys)) := ⟨fun c o e => by
  rw [upd_ne (fun z => by subst z; rw [b] at e; cases e)]
  exact k.e c o e, k.n, K12.tabs_lst k.t h⟩
theorem xn_lst {H H1 : Hp} {L : Addr} {u : HO} (x : ExtN H H1) (h : ∀ o, H L = some o → (∀ ps, o ≠ .tbl ps) → False) : ExtN H (upd H1 L u) := fun b o e n => by
  by_cases c : b = L
  · subst c
    exact (h o e n).elim
  · rw [upd_ne c]
    exact x b o e n
/-- what is known, and what stood at first -/
structure Kr (T : List (Addr × Str)) (H0 B H : Hp) : Prop where
  k : Kn T B H
  x : ExtN H0 H
theorem Kr.gr {T : List (Addr × Str)} {H0 B H B2 H2 : Hp} (k : Kr T H0 B H) (g : Gr B H B2 H2) : Kr T H0 B2 H2 := ⟨k.k.gr g, k.x.trans (exN_of g.a)⟩
theorem Kr.ex {T : List (Addr × Str)} {H0 B H H2 : Hp} (k : Kr T H0 B H) (e : Ex H H2) : Kr T H0 B H2 := ⟨k.k.ex e, k.x.trans (exN_of e)⟩
theorem Kr.gt {T : List (Addr × Str)} {H0 B H B2 H2 : Hp} (k : Kr T H0 B H) (g : GT T B H B2 H2) : Kr T H0 B2 H2 := ⟨k.k.gt g, k.x.trans g.a⟩
def nineL (K : PySem.W.Frag) : List Pr := [IsV .non, IsV (.str "u"), TuP K [], TuP K [IsV (.str "u"), IsV (.int 0)], LsP [IsV (.str "u"), IsV (.int 0), IsV (.int 0)], TuP K [IsV (.str "U"), IsV (.int 0), IsV (.int 0)], TuP K [IsV (.str "u"), IsV (.int (-1)), IsV (.int 0)], TuP K [IsV (.str "u"), IsV (.bl true), IsV (.int 0)], TuP K [IsV (.str "u"), IsV (.int 0), IsV (.int 0), IsV (.int 0)]]
theorem to_bl {K : PySem.W.Frag} {b : Bool} : To K (IsV (.bl b)) (.bool b) := fun v H h => by
  obtain rfl : v = .bl b := h
  exact .bl b
theorem nine_bad {K : PySem.W.Frag} {q : Pr} (h : q ∈ nineL K) : ∃ d, To K q d ∧ smB d = true ∧ dvB d = false := by
  simp only [nineL, List.mem_cons, List.not_mem_nil, or_false] at h
  rcases h with rfl | rfl | rfl | rfl | rfl | rfl | rfl | rfl | rfl
  · exact ⟨.none, to_non, by decide +kernel, by decide +kernel⟩
  · exact ⟨.str "u", to_str, by decide +kernel, by decide +kernel⟩
  · exact ⟨.tuple [], to_tup .nil, by decide +kernel, by decide +kernel⟩
  · exact ⟨.tuple [.str "u", .int 0], to_tup (.cons to_str (.cons to_int .nil)), by decide +kernel, by decide +kernel⟩
  · exact ⟨.list [.str "u", .int 0, .int 0], to_lst (.cons to_str (.cons to_int (.cons to_int .nil))), by decide +kernel, by decide +kernel⟩
  · exact ⟨.tuple [.str "U", .int 0, .int 0], to_tup (.cons to_str (.cons to_int (.cons to_int .nil))), by decide +kernel, by decide +kernel⟩
  · exact ⟨.tuple [.str "u", .int (-1), .int 0], to_tup (.cons to_str (.cons to_int (.cons to_int .nil))), by decide +kernel, by decide +kernel⟩
  · exact ⟨.tuple [.str "u", .bool true, .int 0], to_tup (.cons to_str (.cons to_bl (.cons to_int .nil))), by decide +kernel, by decide +kernel⟩
  · exact ⟨.tuple [.str "u", .int 0, .int 0, .int 0], to_tup (.cons to_str (.cons to_int (.cons to_int (.cons to_int .nil)))), by decide +kernel, by decide +kernel⟩
def z4 : List Str := ["aaaa", "zzzz", "mmmm", "cccc"]
theorem nd_len {α : Type} [DecidableEq α] : ∀ {l m : List α}, l.Nodup → (∀ x ∈ l, x ∈ m) → l.length ≤ m.length
  | [], _, _, _ => Nat.zero_le _
  | x :: l, m, nd, sub => by
    have hx := sub x List.mem_cons_self
    obtain ⟨h1, h2⟩ := List.nodup_cons.mp nd
    have := nd_len (l := l) (m := m.erase x) h2 fun y hy => (List.mem_erase_of_ne (fun e => h1 (by rw [← e]; exact hy))).mpr (sub y (List.mem_cons_of_mem _ hy))
    rw [List.length_erase_of_mem hx] at this
    have := List.length_pos_of_mem hx
    rw [List.length_cons]
    omega
theorem z4_left {r : Rk} (hok : r.Ok) : ∃ x l, (z4.filter fun x => !decide (x ∈ r.ns)) = x :: l ∧ x ∈ z4 ∧ x ∉ r.ns := by
  cases e : z4.filter fun x => !decide (x ∈ r.ns) with
  | nil =>
    exfalso
    have sub : ∀ x ∈ z4, x ∈ r.ns := fun x hx => by
      have := List.filter_eq_nil_iff.mp e x hx
      simpa using this
    have nd : z4.Nodup := by decide +kernel
    have := nd_len nd sub
    have := hok.le
    have : z4.length = 4 := rfl
    omega
  | cons x l =>
    have : x ∈ z4.filter fun x => !decide (x ∈ r.ns) := by rw [e]; exact List.mem_cons_self
    obtain ⟨h1, h2⟩ := List.mem_filter.mp this
    exact ⟨x, l, rfl, h1, by simpa using h2⟩
theorem far4 {r : Rk} {x : Str} (hx : x ∈ z4) (hf : x ∉ r.ns) : smB (⟨x, 1, 0⟩ : Dv).D = true ∧ fitsB r (⟨x, 1, 0⟩ : Dv).D = false := by
  have c : ∀ x ∈ z4, smB (⟨x, 1, 0⟩ : Dv).D = true := by decide +kernel
  refine ⟨c x hx, ?_⟩
  unfold fitsB
  rw [dvOf_D]
  unfold Rk.stB
  rw [show decide ((⟨x, 1, 0⟩ : Dv).n ∈ r.ns) = false from decide_eq_false hf, Bool.false_and, Bool.and_false]
theorem one_ax {r : Rk} (hok : r.Ok) {x : Str} (hx : x ∈ r.ns) (h : r.axs.length = 1) : smB (⟨x, 0, 1⟩ : Dv).D = true ∧ fitsB r (⟨x, 0, 1⟩ : Dv).D = false := by
  refine ⟨smd_dv (by have := (nm_facts (hok.nm x hx)).2.1; show x.length ≤ 100000; omega), ?_⟩
  have y : ("y" : Str) ∉ r.axs := by
    have : ∀ a : Fin 3, (axsOf a).length = 1 → ("y" : Str) ∉ axsOf a := by decide +kernel
    exact this r.ax h
  unfold fitsB
  rw [dvOf_D]
  unfold Rk.stB
  rw [show decide (("y" : Str) ∈ r.axs) = false from decide_eq_false y, show decide ((⟨x, 0, 1⟩ : Dv).j = 0) = false from decide_eq_false (by show ¬ (1 : Int) = 0; decide), Bool.or_false, Bool.and_false, Bool.and_false]
end Nd
namespace K12
set_option autoImplicit false
open PySem PySem.W L2 Evl My Nd LamX NdefX
theorem pe_told {X : Cx} {T : List (Addr × Str)} {cx : Nat → Addr} {f c P : Addr} {d : FuncData} {k : Nat} {params : Arguments} {body : Expr} {scope : Scope} {t : XK → TE} {p lpos pos : Pos} {f_Lkinds : Addr} {d_Lkinds : FuncData}
    (F : Fun X.K "_law_told" "_law_told" s_Ltold f d) (hm : X.mg "_law_told" = some (.ref f)) (hk : PySem.W.keepIn X.K (.ref f) = true) (hb : L2.Binds X.K d ["_law_deed"] []) (Tx : XT X.K X.mg cx) (hx : ∀ i, i < 16 → (kb i).getD 16 false = true → PySem.W.exmOne X.K (.ref (cx i)) (.ref (cx 16)) = some true)
    (c_Lkinds : Cal X.prog X.w X.K X.mg X.base "_law_kinds" 1 ["_law_error"] (spKinds cx) f_Lkinds d_Lkinds) (TB : TabB X.base X.mg c P) (hcode : X.env.code = .ref c) (hT : TO T P (X.env.qual ++ "<lambda>")) (hr : Room (k + 2) X.A) (hk1 : 1 ≤ k) (hg : Gl X "_law_told") (L : LamS X.env.scope scope) (hdef : defaultsOf params X.env = ([], []))
    (hbind : ∀ (q : Str) (cl : List (Str × Addr)) (pm cv ctv : Value), bindArgs (PySem.W.kla_fn "<lambda>" q params body scope cl pm cv ctv) ⟨[], []⟩ = pure [])
    (hbody : ∀ (A : Around) (outer : List Env) (s : Shared) (H : Hp) (E : XK) (f c' : Addr), Room k (A.deeper (lamEnv X scope s.heap.objs.size f c')) → PE (lamCx X A outer s H E scope f c') body (t E)) :
    PE X (.Call (.Name "_law_told" p) [.Lambda params body scope lpos] [] pos) (tLam T (TTold cx) t) := by
  obtain ⟨oc, od, kV, doc, pm, an, cdv, ct, osl, rfl, lk, hcd⟩ := F.ex
  exact pe_lamcall (a := "_law_deed") (Ng := N_Ltold) hg hm hk lk hcd hb sc_Ltold rfl (.inl rfl) (giv_told (k := 0) Tx hx c_Lkinds (hr.mono (by omega))) TB hcode hT.1 hT.2 hr L hdef hbind hbody
section
variable {T : List (Addr × Str)} {R : List Pr → Out → Prop} {ts : TA} {σ : L2.St} {B H : Hp} {ps : List Pr} {Q : VK} {cx : Nat → Addr} {i : Nat} {fs : List (Str × Pr)}
/-- told of a deed that is refused -/
theorem x_told (kn : Kn T B H) (h : EvPs ts σ B ps) (hr : R ps (.exc (cx i) fs)) (hi : i < 16) (hk : (kb i).getD 16 false = true) (hf : ∀ f, fldOf i = some f → ∃ p, fs = [(f, p)]) (q : ∀ v B' H', GT T B H B' H' → (toldP i fs).P v B' → Q v H') :
    tLam T (TTold cx) (fun E => tCallS (spO R) (WE fun cls d _ H => E cls d H) ts) σ H Q := ⟨kn.t, fun H1 eN T1 H2 e2 Q2 _ => by
  have k1 := kn.next eN T1
  have g := (GT.xn kn eN T1).trans (GT.gr (Gr.wide k1.e e2))
  exact o_call (E := WE _) (k1.ex e2).e h hr fun d B' H' g2 hd => ⟨i, fs, B', hi, hk, rfl, g2.c, hd, hf, fun v B3 H3 g3 hv => q v B3 H3 (g.trans (GT.gr (g2.trans g3))) hv⟩⟩
end
section
variable {te ta tb : TE} {t u : TS} {ts tx : TA} {σ : L2.St} {B H : Hp} {D : Ends} {Q : VK}
theorem b_tup9 {t : TA} {σ : L2.St} {H : Hp} {Q : VK} (h : t σ H fun xs H1 => xs.length ≤ sizeLine ∧ ∀ p, H1 p = none → Q (.ref p) (upd H1 p (.tup xs))) : tTup t σ H Q := h
end
section
variable {T : List (Addr × Str)} {K : PySem.W.Frag} {d : Addr} {n : Nat} {B H : Hp} {te ta tb : TE} {σ : L2.St} {Q : VK} {D : Ends} {t u : TS}
/-- one of a list that is known, drawn -/
theorem x_pickG {ps : List Pr} {i : Nat} {z : Int} (k : Kx T d n B H) (hl : EvP te σ B (LsP ps)) (hi : σ[i]? = some (some (.ref d))) (hz : z = (ps.length : Nat)) (h0 : 0 < ps.length) (h1 : ps.length < 1000) (hn : n ≤ 2 ^ 38)
    (q : ∀ (p : Pr) v B' H', p ∈ ps → p.P v B' → Kx T d (n + 4) B' H' → GX d B H B' H' → Q v H') : tOp (rIxL K) te (tCall spDigit [] E0 (tCons (tVar i) (tCons (tC (.int z)) tNil))) σ H Q := by
  subst hz
  refine hl H k.e _ fun v B1 H1 g hv => ?_
  refine x_digit (k.gr g) hi ev_c (by omega) (by omega) (by omega) fun m H2 m0 m1 k2 g2 => ?_
  obtain ⟨l, xs, rfl, hx, al⟩ := hv
  obtain ⟨j, p, w, hj, rfl, hp, hat, hw⟩ := pick al m0 m1
  exact ⟨l, xs, _, _, rfl, rfl, sq_of (k2.e _ _ hx), hat, q p w B1 H2 (List.mem_of_getElem? hp) hw k2 ((GX.gr g).trans g2)⟩
end
def spRef (K : PySem.W.Frag) (T : List (Addr × Str)) : Sp := fun vs H Q _ => ∃ (B : Hp) (d : Addr) (n : Nat) (r : Rk) (c : List (Dv × Pq)) (a : Dv) (vb vl va : V), vs = [.ref d, vb, vl, va] ∧ r.Ok ∧ ChG r c ∧ GnD a ∧ (RkP K r).P vb B ∧ (chP K (chO c)).P vl B ∧ (DvP a).P va B ∧ Kx T d n B H ∧ n ≤ 2 ^ 34 ∧
  ∀ (B' H' : Hp), Kx T d (n + 20) B' H' → Ex B B' → Q (.bl true) H'
section
variable {P : Program} {w : World} {K : PySem.W.Frag} {mg : Str → Option Value} {base : Heap} {T : List (Addr × Str)}

/-- _law_refused_right -/
abbrev s_Lrefused_right : Stmt := topS 89
abbrev N_Lrefused_right : List Str := ["_law_state", "_law_by_here", "_law_links", "_law_a", "_law_bad", "_law_place", "_law_told_here", "_law_name", "_law_one"]
theorem sc_Lrefused_right : FnScope N_Lrefused_right ["_law_state", "_law_by_here", "_law_links", "_law_a"] (defScope s_Lrefused_right) := ⟨rfl, rfl, rfl, by decide +kernel, rfl, by decide +kernel, by decide +kernel⟩
theorem ok_Lrefused_right {f c tb : Addr} {fd : FuncData} (F : FunC K "_law_refused_right" "_law_refused_right" s_Lrefused_right c f fd) {cx : Nat → Addr} {aOP : Addr} (eOP : aOP = cx 13) {f_Ldigit : Addr} {d_Ldigit : FuncData} (c_Ldigit : Cal P w K mg base "_law_digit" 2 ["_law_state", "_law_size"] spDigit f_Ldigit d_Ldigit) {f_derived_by : Addr} {d_derived_by : FuncData} (c_derived_by : CalX P w K mg base "derived_by" 5 ["one", "other"] (spO (RdbO K aOP)) f_derived_by d_derived_by) {f_least_common : Addr} {d_least_common : FuncData} (c_least_common : CalX P w K mg base "least_common" 5 ["one", "other"] (spO (RlcO K aOP)) f_least_common d_least_common) {f_principal_by : Addr} {d_principal_by : FuncData} (c_principal_by : CalX P w K mg base "principal_by" 12 ["ranking", "chain", "derivative"] (spO (RpbO K aOP)) f_principal_by d_principal_by) {f_Lkinds : Addr} {d_Lkinds : FuncData} (c_Lkinds : Cal P w K mg base "_law_kinds" 1 ["_law_error"] (spKinds cx) f_Lkinds d_Lkinds) (n_len : mg "len" = none) {f_Ltold : Addr} {d_Ltold : FuncData} (F_Ltold : Fun K "_law_told" "_law_told" s_Ltold f_Ltold d_Ltold) (m_Ltold : mg "_law_told" = some (.ref f_Ltold)) (k_Ltold : PySem.W.keepIn K (.ref f_Ltold) = true) (b_Ltold : L2.Binds K d_Ltold ["_law_deed"] []) (Tx : XT K mg cx) (hx : ∀ i, i < 16 → (kb i).getD 16 false = true → PySem.W.exmOne K (.ref (cx i)) (.ref (cx 16)) = some true) (TB : TabB base mg c tb) (hT : TO T tb "_law_refused_right.<locals>.<lambda>") :
    FnOk P w K mg base CX0 16 f fd ["_law_state", "_law_by_here", "_law_links", "_law_a"] (spRef K T) := by
  refine F.ok sc_Lrefused_right (fun vs H Q E h => by obtain ⟨_, _, _, _, _, _, _, _, _, rfl, _⟩ := h; rfl) (fun A outer s H vs Q E hr h => ?_)
  obtain ⟨B, d, n, r, c, a, vb, vl, va, rfl, hok, hc, ga, hR, hL, hA, kx, hn, q⟩ := h
  have hu := hu_of hr
  refine ⟨_, (pss_cons (ps_set (i := 4) sc_Lrefused_right.nd rfl (by first | exact .inl rfl | exact .inr rfl) (pe_lst (pa_cons pe_non (pa_cons pe_str (pa_cons (pe_tup pa_nil) (pa_cons (pe_tup (pa_cons pe_str (pa_cons pe_int pa_nil))) (pa_cons (pe_lst (pa_cons pe_str (pa_cons pe_int (pa_cons pe_int pa_nil)))) (pa_cons (pe_tup (pa_cons pe_str (pa_cons pe_int (pa_cons pe_int pa_nil)))) (pa_cons (pe_tup (pa_cons pe_str (pa_cons (pe_un un_neg pe_int) (pa_cons pe_int pa_nil)))) (pa_cons (pe_tup (pa_cons pe_str (pa_cons pe_bl (pa_cons pe_int pa_nil)))) (pa_cons (pe_tup (pa_cons pe_str (pa_cons pe_int (pa_cons pe_int (pa_cons pe_int pa_nil))))) pa_nil)))))))))))
    (pss_cons (ps_asg (pe_tup (pa_cons (pe_lst (pa_cons (pe_lst (pa_cons pe_str (pa_cons pe_str (pa_cons pe_str pa_nil)))) pa_nil)) (pa_cons (pe_ix ix_list (pv 4) (pe_call c_Ldigit.G (hr.mono (by decide)) (by rfl) c_Ldigit.m c_Ldigit.k c_Ldigit.b .nil pass0 (pa_cons (pv 0) (pa_cons pe_int pa_nil))) (fun _ _ => rfl)) pa_nil))) (pg_tup (by rfl) (pgs_cons (pg_name (i := 5) sc_Lrefused_right.nd rfl (by first | exact .inl rfl | exact .inr rfl)) (pgs_cons (pg_name (i := 4) sc_Lrefused_right.nd rfl (by first | exact .inl rfl | exact .inr rfl)) pgs_nil))))
    (pss_cons (ps_set (i := 6) sc_Lrefused_right.nd rfl (by first | exact .inl rfl | exact .inr rfl) (pe_lst (pa_cons (pe_told (T := T) (k := 12) (t := fun E => tCallS (spO (RdbO K aOP)) (WE fun cls d _ H => E cls d H) _) F_Ltold m_Ltold k_Ltold b_Ltold Tx hx c_Lkinds TB rfl hT (hr.mono (by decide)) (by decide) (by rfl) (lamS_by (sc := defScope s_Lrefused_right) (by decide +kernel)) rfl (fun _ _ _ _ _ => rfl)
      (fun A' outer' s0 H0 E0 f' c' hr' => pe_callS c_derived_by.G (hr'.mono (by decide)) (by rfl) c_derived_by.m c_derived_by.k c_derived_by.b (fun σ => passAt (L2.takes_of rfl rfl rfl rfl) σ) (pa_cons (pv 3) (pa_cons (pv 4) pa_nil)))) pa_nil)))
    (pss_cons (ps_expr (pe_bm PySem.F.plainAttrs_list PySem.F.slot_list_append PySem.F.type_list_append mt_append (pv 6) (pa_cons (pe_told (T := T) (k := 12) (t := fun E => tCallS (spO (RdbO K aOP)) (WE fun cls d _ H => E cls d H) _) F_Ltold m_Ltold k_Ltold b_Ltold Tx hx c_Lkinds TB rfl hT (hr.mono (by decide)) (by decide) (by rfl) (lamS_by (sc := defScope s_Lrefused_right) (by decide +kernel)) rfl (fun _ _ _ _ _ => rfl)
      (fun A' outer' s0 H0 E0 f' c' hr' => pe_callS c_derived_by.G (hr'.mono (by decide)) (by rfl) c_derived_by.m c_derived_by.k c_derived_by.b (fun σ => passAt (L2.takes_of rfl rfl rfl rfl) σ) (pa_cons (pv 4) (pa_cons (pv 3) pa_nil)))) pa_nil)))
    (pss_cons (ps_expr (pe_bm PySem.F.plainAttrs_list PySem.F.slot_list_append PySem.F.type_list_append mt_append (pv 6) (pa_cons (pe_told (T := T) (k := 12) (t := fun E => tCallS (spO (RlcO K aOP)) (WE fun cls d _ H => E cls d H) _) F_Ltold m_Ltold k_Ltold b_Ltold Tx hx c_Lkinds TB rfl hT (hr.mono (by decide)) (by decide) (by rfl) (lamS_by (sc := defScope s_Lrefused_right) (by decide +kernel)) rfl (fun _ _ _ _ _ => rfl)
      (fun A' outer' s0 H0 E0 f' c' hr' => pe_callS c_least_common.G (hr'.mono (by decide)) (by rfl) c_least_common.m c_least_common.k c_least_common.b (fun σ => passAt (L2.takes_of rfl rfl rfl rfl) σ) (pa_cons (pv 3) (pa_cons (pv 4) pa_nil)))) pa_nil)))
    (pss_cons (ps_expr (pe_bm PySem.F.plainAttrs_list PySem.F.slot_list_append PySem.F.type_list_append mt_append (pv 6) (pa_cons (pe_told (T := T) (k := 12) (t := fun E => tCallS (spO (RlcO K aOP)) (WE fun cls d _ H => E cls d H) _) F_Ltold m_Ltold k_Ltold b_Ltold Tx hx c_Lkinds TB rfl hT (hr.mono (by decide)) (by decide) (by rfl) (lamS_by (sc := defScope s_Lrefused_right) (by decide +kernel)) rfl (fun _ _ _ _ _ => rfl)
      (fun A' outer' s0 H0 E0 f' c' hr' => pe_callS c_least_common.G (hr'.mono (by decide)) (by rfl) c_least_common.m c_least_common.k c_least_common.b (fun σ => passAt (L2.takes_of rfl rfl rfl rfl) σ) (pa_cons (pv 4) (pa_cons (pv 3) pa_nil)))) pa_nil)))
    (pss_cons (ps_expr (pe_bm PySem.F.plainAttrs_list PySem.F.slot_list_append PySem.F.type_list_append mt_append (pv 6) (pa_cons (pe_told (T := T) (k := 12) (t := fun E => tCallS (spO (RpbO K aOP)) (WE fun cls d _ H => E cls d H) _) F_Ltold m_Ltold k_Ltold b_Ltold Tx hx c_Lkinds TB rfl hT (hr.mono (by decide)) (by decide) (by rfl) (lamS_by (sc := defScope s_Lrefused_right) (by decide +kernel)) rfl (fun _ _ _ _ _ => rfl)
      (fun A' outer' s0 H0 E0 f' c' hr' => pe_callS c_principal_by.G (hr'.mono (by decide)) (by rfl) c_principal_by.m c_principal_by.k c_principal_by.b (fun σ => passAt (L2.takes_of rfl rfl rfl rfl) σ) (pa_cons (pv 1) (pa_cons (pv 2) (pa_cons (pv 4) pa_nil))))) pa_nil)))
    (pss_cons (ps_set (i := 7) sc_Lrefused_right.nd rfl (by first | exact .inl rfl | exact .inr rfl) (pe_ix ix_list (pe_lc (own := [("_law_one", 8)]) rfl sc_Lrefused_right.nd (pi_list (pe_lst (pa_cons pe_str (pa_cons pe_str (pa_cons pe_str (pa_cons pe_str pa_nil)))))) (blkOk_by (N := N_Lrefused_right) (sc := defScope s_Lrefused_right) (by decide +kernel)) (fun _ _ _ _ _ => (pg_name (i := 8) sc_Lrefused_right.nd rfl (Or.inl rfl))) (fun _ _ _ _ _ => (pts_one (pt_cmpR (show OpR _ (compareOp .NotIn) (rIn K true) from op_notIn_seq) (pv 8) (pe_ix (show IxR _ (rIxT K) from ix_tup) (pv 1) pe_int (fun _ _ => rfl)) (by rfl)))) (fun _ _ _ _ _ => (pv 8))) pe_int (fun _ _ => rfl)))
    (pss_cons (ps_expr (pe_bm PySem.F.plainAttrs_list PySem.F.slot_list_append PySem.F.type_list_append mt_append (pv 6) (pa_cons (pe_told (T := T) (k := 12) (t := fun E => tCallS (spO (RpbO K aOP)) (WE fun cls d _ H => E cls d H) _) F_Ltold m_Ltold k_Ltold b_Ltold Tx hx c_Lkinds TB rfl hT (hr.mono (by decide)) (by decide) (by rfl) (lamS_by (sc := defScope s_Lrefused_right) (by decide +kernel)) rfl (fun _ _ _ _ _ => rfl)
      (fun A' outer' s0 H0 E0 f' c' hr' => pe_callS c_principal_by.G (hr'.mono (by decide)) (by rfl) c_principal_by.m c_principal_by.k c_principal_by.b (fun σ => passAt (L2.takes_of rfl rfl rfl rfl) σ) (pa_cons (pv 1) (pa_cons (pv 2) (pa_cons (pe_tup (pa_cons (pv 7) (pa_cons pe_int (pa_cons pe_int pa_nil)))) pa_nil))))) pa_nil)))
    (pss_cons (ps_if (pt_cmpR op_eq (pe_callB (show CallR _ (.builtin "len") (rLenS K) from call_len_seq) (by rfl) n_len (by decide +kernel) (pa_cons (pe_ix (show IxR _ (rIxT K) from ix_tup) (pv 1) pe_int (fun _ _ => rfl)) pa_nil)) pe_int (nomark _)) (pss_one (ps_expr (pe_bm PySem.F.plainAttrs_list PySem.F.slot_list_append PySem.F.type_list_append mt_append (pv 6) (pa_cons (pe_told (T := T) (k := 12) (t := fun E => tCallS (spO (RpbO K aOP)) (WE fun cls d _ H => E cls d H) _) F_Ltold m_Ltold k_Ltold b_Ltold Tx hx c_Lkinds TB rfl hT (hr.mono (by decide)) (by decide) (by rfl) (lamS_by (sc := defScope s_Lrefused_right) (by decide +kernel)) rfl (fun _ _ _ _ _ => rfl)
      (fun A' outer' s0 H0 E0 f' c' hr' => pe_callS c_principal_by.G (hr'.mono (by decide)) (by rfl) c_principal_by.m c_principal_by.k c_principal_by.b (fun σ => passAt (L2.takes_of rfl rfl rfl rfl) σ) (pa_cons (pv 1) (pa_cons (pv 2) (pa_cons (pe_tup (pa_cons (pe_ix (show IxR _ (rIxT K) from ix_tup) (pe_ix (show IxR _ (rIxT K) from ix_tup) (pv 1) pe_int (fun _ _ => rfl)) pe_int (fun _ _ => rfl)) (pa_cons pe_int (pa_cons pe_int pa_nil)))) pa_nil))))) pa_nil)))) pss_nil)
    (pss_one (ps_ret (pe_cmpR (op_eqD hr.units) (pv 6) (pe_op op_rep (pe_lst (pa_cons (pv 5) pa_nil)) (pe_callB (show CallR _ (.builtin "len") (rLenS K) from call_len_seq) (by rfl) n_len (by decide +kernel) (pa_cons (pv 6) pa_nil))) (nomark _)))))))))))))), ?_⟩
  have hch := hc.ok
  subst eOP
  have GA : GdD a := ga.gd
  -- what is no derivative
  refine ps_asgN (fun x => [some (.ref d), some vb, some vl, some va, some x, none, none, none, none]) kx.e (p_lst (ps := nineL K) (q_cons p_c (q_cons p_c (q_cons (p_tup (ps := []) q_nil (by show 0 ≤ 100000; decide)) (q_cons (p_tup (ps := [IsV (.str "u"), IsV (.int 0)]) (q_cons p_c (q_cons p_c q_nil)) (by show 2 ≤ 100000; decide)) (q_cons (p_lst (ps := [IsV (.str "u"), IsV (.int 0), IsV (.int 0)]) (q_cons p_c (q_cons p_c (q_cons p_c q_nil))) (by show 3 ≤ 100000; decide)) (q_cons (p_tup (ps := [IsV (.str "U"), IsV (.int 0), IsV (.int 0)]) (q_cons p_c (q_cons p_c (q_cons p_c q_nil))) (by show 3 ≤ 100000; decide)) (q_cons (p_tup (ps := [IsV (.str "u"), IsV (.int (-1)), IsV (.int 0)]) (q_cons p_c (q_cons (p_ev (ev_un ev_c ru_neg)) (q_cons p_c q_nil))) (by show 3 ≤ 100000; decide)) (q_cons (p_tup (ps := [IsV (.str "u"), IsV (.bl true), IsV (.int 0)]) (q_cons p_c (q_cons p_c (q_cons p_c q_nil))) (by show 3 ≤ 100000; decide)) (q_cons (p_tup (ps := [IsV (.str "u"), IsV (.int 0), IsV (.int 0), IsV (.int 0)]) (q_cons p_c (q_cons p_c (q_cons p_c (q_cons p_c q_nil)))) (by show 4 ≤ 100000; decide)) q_nil))))))))) (by show 9 ≤ 100000; decide)) (fun v4 B1 H1 g1 h4 => ?_) (fun _ => rfl)
  have k1 := kx.gr g1
  dsimp only
  refine b_seq (b_asg (b_tup9 (b_cons ?_)))
  refine p_lst (ps := [LsP [IsV (.str "place"), IsV (.str "ours"), IsV (.str "value")]]) (q_cons (p_lst (ps := [IsV (.str "place"), IsV (.str "ours"), IsV (.str "value")]) (q_cons p_c (q_cons p_c (q_cons p_c q_nil))) (by show 3 ≤ 100000; decide)) q_nil) (by show 1 ≤ 100000; decide) H1 k1.e _ fun v5 B2 H2 g2 h5 => ?_
  have k2 := k1.gr g2
  refine b_cons ?_
  refine x_pickG (ps := nineL K) k2 (p_var (i := 4) rfl ((LsP _).m g2.b h4)) rfl rfl (by show 0 < 9; decide) (by show 9 < 1000; decide) (by omega) fun qd vq B3 H3 hmem hq k3 g3 => ?_
  refine b_nil0 ⟨by show 2 ≤ sizeLine; decide, fun pt hpt => ?_⟩
  have g4 := Gr.new (B := B3) (.tup [v5, vq]) k3.e hpt
  have k4 := k3.gr g4
  refine ⟨pt, _, rfl, st_of upd_same, rfl, _, _, rfl, _, _, rfl, rfl, ?_⟩
  obtain ⟨d0, t0, s0, n0⟩ := nine_bad hmem
  have e04 := (g1.b.trans g2.b).trans (g3.b.trans g4.b)
  have hb4 := qd.m g4.b hq
  have pl4 := (LsP [LsP [IsV (.str "place"), IsV (.str "ours"), IsV (.str "value")]]).m (g3.b.trans g4.b) h5
  have R4 := (RkP K r).m e04 hR
  have C4 := (chP K (chO c)).m e04 hL
  have A4 := (DvP a).m e04 hA
  generalize upd B3 pt (.tup [v5, vq]) = B4 at k4 hb4 pl4 R4 C4 A4 e04
  generalize upd H3 pt (.tup [v5, vq]) = H4 at k4 ⊢
  have K0 : Kr T H4 B4 H4 := ⟨k4.kn, ExtN.refl H4⟩
  have fin : ∀ H', ExtN H4 H' → Tabs T H' → Q (.bl true) H' := fun H' x tt => q B4 H' ((k4.gt (GT.xn k4.kn x tt)).le (by omega)) e04
  dsimp only [gName, List.set_cons_succ, List.set_cons_zero]
  have bad1 : Bad2 K (cx 13) [DvP a, qd] (.exc (cx 13) []) := ⟨DvP a, qd, a.D, d0, to_dv a, t0, GA.2, s0, by rw [n0, Bool.and_false], rfl, rfl⟩
  have bad2 : Bad2 K (cx 13) [qd, DvP a] (.exc (cx 13) []) := ⟨qd, DvP a, d0, a.D, t0, to_dv a, s0, GA.2, by rw [n0, Bool.false_and], rfl, rfl⟩
  have fb : fitsB r d0 = false := by
    unfold fitsB
    rw [n0, Bool.false_and]
  have nf : ∀ f, fldOf 13 = some f → ∃ p : Pr, ([] : List (Str × Pr)) = [(f, p)] := fun f e => nomatch e
  refine b_seq (b_asg (b_lst0 (b_cons ?_)))
  refine x_told K0.k (ps := [DvP a, qd]) (i := 13) (fs := []) (q_cons (p_var (i := 3) rfl A4) (q_cons (p_var (i := 4) rfl hb4) q_nil)) (.inr bad1) (by decide) (by decide) nf fun w0 P0 G0 gd0 hw0 => ?_
  have M0 := K0.gt gd0
  refine b_nil0 ⟨by show 1 ≤ sizeLine; decide, fun L hL => ?_⟩
  have nL : ∀ o, H4 L = some o → (∀ ps, o ≠ .tbl ps) → False := fun o e n => by
    have := M0.x L o e n
    rw [hL] at this
    cases this
  have b0 : P0 L = none := fresh_back M0.k.e hL
  have N0 := M0.ex (Ex.new (o := .lst [w0]) hL)
  have c0 : (upd G0 L (.lst [w0])) L = some (.lst [w0]) := upd_same
  generalize upd G0 L (.lst [w0]) = J0 at N0 c0 ⊢
  dsimp only [gName, List.set_cons_succ, List.set_cons_zero]
  have A_0 := (DvP a).m gd0.b A4
  have B_0 := qd.m gd0.b hb4
  have R_0 := (RkP K r).m gd0.b R4
  have C_0 := (chP K (chO c)).m gd0.b C4
  have Q_0 := (LsP [LsP [IsV (.str "place"), IsV (.str "ours"), IsV (.str "value")]]).m gd0.b pl4
  refine b_seq ⟨.ref L, rfl, .inl ⟨rfl, [w0], sq_of c0⟩, ?_⟩
  refine b_cons ?_
  refine x_told N0.k (ps := [qd, DvP a]) (i := 13) (fs := []) (q_cons (p_var (i := 4) rfl B_0) (q_cons (p_var (i := 3) rfl A_0) q_nil)) (.inr bad2) (by decide) (by decide) nf fun w1 P1 G1 gd1 hw1 => ?_
  have M1 := N0.gt gd1
  have a1 := gd1.a L _ c0 (fun _ z => nomatch z)
  have b1 := gd1.f L _ b0 c0 (fun _ z => nomatch z)
  refine b_nil0 ⟨L, [w0], w1, rfl, rfl, a1, (show 1 < sizeLine by decide), ?_⟩
  have N1 : Kr T H4 P1 (upd G1 L (.lst ([w0] ++ [w1]))) := ⟨kn_lst M1.k b1 a1, xn_lst M1.x nL⟩
  have c1 : (upd G1 L (.lst ([w0] ++ [w1]))) L = some (.lst [w0, w1]) := upd_same
  generalize upd G1 L (.lst ([w0] ++ [w1])) = J1 at N1 c1 ⊢
  dsimp only
  have hw0 := (toldP 13 []).m gd1.b hw0
  have A_1 := (DvP a).m gd1.b A_0
  have B_1 := qd.m gd1.b B_0
  have R_1 := (RkP K r).m gd1.b R_0
  have C_1 := (chP K (chO c)).m gd1.b C_0
  have Q_1 := (LsP [LsP [IsV (.str "place"), IsV (.str "ours"), IsV (.str "value")]]).m gd1.b Q_0
  refine b_seq ⟨.ref L, rfl, .inl ⟨rfl, [w0, w1], sq_of c1⟩, ?_⟩
  refine b_cons ?_
  refine x_told N1.k (ps := [DvP a, qd]) (i := 13) (fs := []) (q_cons (p_var (i := 3) rfl A_1) (q_cons (p_var (i := 4) rfl B_1) q_nil)) (.inr bad1) (by decide) (by decide) nf fun w2 P2 G2 gd2 hw2 => ?_
  have M2 := N1.gt gd2
  have a2 := gd2.a L _ c1 (fun _ z => nomatch z)
  have b2 := gd2.f L _ b1 c1 (fun _ z => nomatch z)
  refine b_nil0 ⟨L, [w0, w1], w2, rfl, rfl, a2, (show 2 < sizeLine by decide), ?_⟩
  have N2 : Kr T H4 P2 (upd G2 L (.lst ([w0, w1] ++ [w2]))) := ⟨kn_lst M2.k b2 a2, xn_lst M2.x nL⟩
  have c2 : (upd G2 L (.lst ([w0, w1] ++ [w2]))) L = some (.lst [w0, w1, w2]) := upd_same
  generalize upd G2 L (.lst ([w0, w1] ++ [w2])) = J2 at N2 c2 ⊢
  dsimp only
  have hw0 := (toldP 13 []).m gd2.b hw0
  have hw1 := (toldP 13 []).m gd2.b hw1
  have A_2 := (DvP a).m gd2.b A_1
  have B_2 := qd.m gd2.b B_1
  have R_2 := (RkP K r).m gd2.b R_1
  have C_2 := (chP K (chO c)).m gd2.b C_1
  have Q_2 := (LsP [LsP [IsV (.str "place"), IsV (.str "ours"), IsV (.str "value")]]).m gd2.b Q_1
  refine b_seq ⟨.ref L, rfl, .inl ⟨rfl, [w0, w1, w2], sq_of c2⟩, ?_⟩
  refine b_cons ?_
  refine x_told N2.k (ps := [qd, DvP a]) (i := 13) (fs := []) (q_cons (p_var (i := 4) rfl B_2) (q_cons (p_var (i := 3) rfl A_2) q_nil)) (.inr bad2) (by decide) (by decide) nf fun w3 P3 G3 gd3 hw3 => ?_
  have M3 := N2.gt gd3
  have a3 := gd3.a L _ c2 (fun _ z => nomatch z)
  have b3 := gd3.f L _ b2 c2 (fun _ z => nomatch z)
  refine b_nil0 ⟨L, [w0, w1, w2], w3, rfl, rfl, a3, (show 3 < sizeLine by decide), ?_⟩
  have N3 : Kr T H4 P3 (upd G3 L (.lst ([w0, w1, w2] ++ [w3]))) := ⟨kn_lst M3.k b3 a3, xn_lst M3.x nL⟩
  have c3 : (upd G3 L (.lst ([w0, w1, w2] ++ [w3]))) L = some (.lst [w0, w1, w2, w3]) := upd_same
  generalize upd G3 L (.lst ([w0, w1, w2] ++ [w3])) = J3 at N3 c3 ⊢
  dsimp only
  have hw0 := (toldP 13 []).m gd3.b hw0
  have hw1 := (toldP 13 []).m gd3.b hw1
  have hw2 := (toldP 13 []).m gd3.b hw2
  have A_3 := (DvP a).m gd3.b A_2
  have B_3 := qd.m gd3.b B_2
  have R_3 := (RkP K r).m gd3.b R_2
  have C_3 := (chP K (chO c)).m gd3.b C_2
  have Q_3 := (LsP [LsP [IsV (.str "place"), IsV (.str "ours"), IsV (.str "value")]]).m gd3.b Q_2
  refine b_seq ⟨.ref L, rfl, .inl ⟨rfl, [w0, w1, w2, w3], sq_of c3⟩, ?_⟩
  refine b_cons ?_
  refine x_told N3.k (ps := [RkP K r, chP K (chO c), qd]) (i := 13) (fs := []) (q_cons (p_var (i := 1) rfl R_3) (q_cons (p_var (i := 2) rfl C_3) (q_cons (p_var (i := 4) rfl B_3) q_nil))) (.inr ⟨r, chO c, qd, d0, hok, hch, t0, s0, fb, rfl, rfl⟩) (by decide) (by decide) nf fun w4 P4 G4 gd4 hw4 => ?_
  have M4 := N3.gt gd4
  have a4 := gd4.a L _ c3 (fun _ z => nomatch z)
  have b4 := gd4.f L _ b3 c3 (fun _ z => nomatch z)
  refine b_nil0 ⟨L, [w0, w1, w2, w3], w4, rfl, rfl, a4, (show 4 < sizeLine by decide), ?_⟩
  have N4 : Kr T H4 P4 (upd G4 L (.lst ([w0, w1, w2, w3] ++ [w4]))) := ⟨kn_lst M4.k b4 a4, xn_lst M4.x nL⟩
  have c4 : (upd G4 L (.lst ([w0, w1, w2, w3] ++ [w4]))) L = some (.lst [w0, w1, w2, w3, w4]) := upd_same
  generalize upd G4 L (.lst ([w0, w1, w2, w3] ++ [w4])) = J4 at N4 c4 ⊢
  dsimp only
  have hw0 := (toldP 13 []).m gd4.b hw0
  have hw1 := (toldP 13 []).m gd4.b hw1
  have hw2 := (toldP 13 []).m gd4.b hw2
  have hw3 := (toldP 13 []).m gd4.b hw3
  have A_4 := (DvP a).m gd4.b A_3
  have B_4 := qd.m gd4.b B_3
  have R_4 := (RkP K r).m gd4.b R_3
  have C_4 := (chP K (chO c)).m gd4.b C_3
  have Q_4 := (LsP [LsP [IsV (.str "place"), IsV (.str "ours"), IsV (.str "value")]]).m gd4.b Q_3
  obtain ⟨x, xs4, el, xz, xn⟩ := z4_left hok
  have main : EvP (tLc (iList K (tLst (tCons (tC (.str "aaaa")) (tCons (tC (.str "zzzz")) (tCons (tC (.str "mmmm")) (tCons (tC (.str "cccc")) tNil)))))) (gName 8) (tTest (tOp (rIn K true) (tVar 8) (tOp (rIxT K) (tVar 1) (tC (.int 1))))) (tVar 8) [8]) [some (.ref d), some vb, some vl, some va, some vq, some v5, some (.ref L), none, none] P4 (LsP ((z4.filter fun x => !decide (x ∈ r.ns)).map fun x => IsV (.str x))) := by
    have := p_lcS (g := gName 8) (tt := tTest (tOp (rIn K true) (tVar 8) (tOp (rIxT K) (tVar 1) (tC (.int 1))))) (te := tVar 8) (vs := [8]) (src_lq (K := K) (p_lq (p_lst (σ := [some (.ref d), some vb, some vl, some va, some vq, some v5, some (.ref L), none, none]) (B := P4) (ps := z4.map fun x => IsV (.str x)) (q_cons p_c (q_cons p_c (q_cons p_c (q_cons p_c q_nil)))) (by show 4 ≤ 100000; decide)))) (by show 4 ≤ 100000; decide) (fun k => (z4[k]?.map fun x => !decide (x ∈ r.ns)).getD false) (fun k => (z4[k]?.map fun x => IsV (.str x)).getD (IsV .non)) fun k v B1 hk e pv => ?_
    · rw [List.length_map, range_pick] at this
      exact this
    · rw [List.length_map] at hk
      have pv : ((z4.map fun x => IsV (.str x)).getD k (IsV .non)).P v B1 := pv
      rw [getD_map hk] at pv
      obtain rfl : v = .str z4[k] := pv
      refine ⟨[some (.ref d), some vb, some vl, some va, some vq, some v5, some (.ref L), none, some (.str z4[k])], rfl, fun H2 Q e q => q, ?_, fun _ => ?_⟩
      · rw [List.getElem?_eq_getElem hk]
        exact et_is (et_test (ev_inT (K := K) (neg := true) (x := z4[k]) (ys := r.ns) (ev_var (i := 8) rfl) ((p_rk1 (p_var (i := 1) rfl ((RkP K r).m e R_4))).imp fun _ _ _ x => nm_d x))) rfl
      · rw [List.getElem?_eq_getElem hk]
        exact p_varV rfl
  rw [el, List.map_cons] at main
  refine b_seq (ps_asgN (fun y => [some (.ref d), some vb, some vl, some va, some vq, some v5, some (.ref L), some y, none]) N4.k.e (p_ix (K := K) (p_lq main) (p_c (v := .int 0)) (atI_zero _ _)) (fun vx PN JN gN hvx => ?_) (fun _ => rfl))
  obtain rfl : vx = .str x := hvx
  have NN := N4.gr gN
  have cN := gN.a L _ c4
  have bN := gN.d L b4 (by rw [c4]; exact fun z => nomatch z)
  have AN := (DvP a).m gN.b A_4
  have BN := qd.m gN.b B_4
  have RN := (RkP K r).m gN.b R_4
  have CN := (chP K (chO c)).m gN.b C_4
  have QN := (LsP [LsP [IsV (.str "place"), IsV (.str "ours"), IsV (.str "value")]]).m gN.b Q_4
  dsimp only
  have hw0 := (toldP 13 []).m gN.b hw0
  have hw1 := (toldP 13 []).m gN.b hw1
  have hw2 := (toldP 13 []).m gN.b hw2
  have hw3 := (toldP 13 []).m gN.b hw3
  have hw4 := (toldP 13 []).m gN.b hw4
  refine b_seq ⟨.ref L, rfl, .inl ⟨rfl, [w0, w1, w2, w3, w4], sq_of cN⟩, ?_⟩
  refine b_cons ?_
  refine x_told NN.k (ps := [RkP K r, chP K (chO c), DvP ⟨x, 1, 0⟩]) (i := 13) (fs := []) (q_cons (p_var (i := 1) rfl RN) (q_cons (p_var (i := 2) rfl CN) (q_cons (p_dv (u := ⟨x, 1, 0⟩) (a := .str x) (b := .int 1) (c := .int 0) rfl rfl rfl (q_cons (p_varV (i := 7) rfl) (q_cons p_c (q_cons p_c q_nil)))) q_nil))) (.inr ⟨r, chO c, DvP ⟨x, 1, 0⟩, (⟨x, 1, 0⟩ : Dv).D, hok, hch, to_dv _, (far4 xz xn).1, (far4 xz xn).2, rfl, rfl⟩) (by decide) (by decide) nf fun w5 P5 G5 gd5 hw5 => ?_
  have M5 := NN.gt gd5
  have a5 := gd5.a L _ cN (fun _ z => nomatch z)
  have b5 := gd5.f L _ bN cN (fun _ z => nomatch z)
  refine b_nil0 ⟨L, [w0, w1, w2, w3, w4], w5, rfl, rfl, a5, (show 5 < sizeLine by decide), ?_⟩
  have N5 : Kr T H4 P5 (upd G5 L (.lst ([w0, w1, w2, w3, w4] ++ [w5]))) := ⟨kn_lst M5.k b5 a5, xn_lst M5.x nL⟩
  have c5 : (upd G5 L (.lst ([w0, w1, w2, w3, w4] ++ [w5]))) L = some (.lst [w0, w1, w2, w3, w4, w5]) := upd_same
  generalize upd G5 L (.lst ([w0, w1, w2, w3, w4] ++ [w5])) = J5 at N5 c5 ⊢
  dsimp only
  have hw0 := (toldP 13 []).m gd5.b hw0
  have hw1 := (toldP 13 []).m gd5.b hw1
  have hw2 := (toldP 13 []).m gd5.b hw2
  have hw3 := (toldP 13 []).m gd5.b hw3
  have hw4 := (toldP 13 []).m gd5.b hw4
  have A_5 := (DvP a).m gd5.b AN
  have B_5 := qd.m gd5.b BN
  have R_5 := (RkP K r).m gd5.b RN
  have C_5 := (chP K (chO c)).m gd5.b CN
  have Q_5 := (LsP [LsP [IsV (.str "place"), IsV (.str "ours"), IsV (.str "value")]]).m gd5.b QN
  have eC : ∀ (n : Nat) (ys : List V) (CB : Hp) (JJ : Hp), Kr T H4 CB JJ → JJ L = some (.lst ys) → CB L = none → ys.length = n → n ≤ 10 → (∀ y ∈ ys, (toldP 13 []).P y CB) → (LsP [LsP [IsV (.str "place"), IsV (.str "ours"), IsV (.str "value")]]).P v5 CB → ∀ vx : Option V, tRet (tOp (rEqD K) (tVar 6) (tOp rRep (tLst (tCons (tVar 5) tNil)) (tCB (rLenS K) (tCons (tVar 6) tNil)))) { nx := fun x H' => Q .non H', rt := Q } [some (.ref d), some vb, some vl, some va, some vq, some v5, some (.ref L), vx, none] JJ := fun n ys CB JJ KJ hJ hC hn hn10 hys hp vx => by
    have e1 : Ex CB (upd CB L (.lst ys)) := Ex.new hC
    have c1 : Ex (upd CB L (.lst ys)) JJ := fun b o e => by
      by_cases n : b = L
      · subst n
        rw [upd_same] at e
        rw [hJ]
        exact e
      · rw [upd_ne n] at e
        exact KJ.k.e b o e
    have all : ∀ zs : List V, (∀ y ∈ zs, (toldP 13 []).P y CB) → DpAll K (upd CB L (.lst ys)) zs (List.replicate zs.length PL) := by
      intro zs hz
      induction zs with
      | nil => exact .nil
      | cons z zs ih => exact .cons (dp_m e1 (told13 (hz z List.mem_cons_self))) (ih fun y hy => hz y (List.mem_cons_of_mem _ hy))
    have hl : Dp K (upd CB L (.lst ys)) (.ref L) (.list (List.replicate n PL)) := by
      have := all ys hys
      rw [hn] at this
      exact .lst (.inl (.inl upd_same)) this
    have hpl := (LsP [LsP [IsV (.str "place"), IsV (.str "ours"), IsV (.str "value")]]).m e1 hp
    have lnE : Ev (tCB (rLenS K) (tCons (tVar 6) tNil)) [some (.ref d), some vb, some vl, some va, some vq, some v5, some (.ref L), vx, none] (upd CB L (.lst ys)) (.int (n : Int)) := ev_is (ev_lenD (K := K) (es := List.replicate n PL) (p_var (p := IsD K (.list (List.replicate n PL))) (i := 6) rfl hl) (.inr rfl)) (by rw [List.length_replicate])
    have rep : EvP (tOp rRep (tLst (tCons (tVar 5) tNil)) (tCB (rLenS K) (tCons (tVar 6) tNil))) [some (.ref d), some vb, some vl, some va, some vq, some v5, some (.ref L), vx, none] (upd CB L (.lst ys)) (IsD K (.list (List.replicate n PL))) := by
      have := p_rep (n := n) (ps := [LsP [LsP [IsV (.str "place"), IsV (.str "ours"), IsV (.str "value")]]]) (p_lst (σ := [some (.ref d), some vb, some vl, some va, some vq, some v5, some (.ref L), vx, none]) (q_cons (p_var (i := 5) rfl hpl) q_nil) (by show 1 ≤ 100000; decide)) (p_ev lnE) (by omega) (by show 1 * n ≤ 100000; omega)
      refine p_to this (to_lst ?_)
      have : ∀ m : Nat, ToAll K (List.replicate m [LsP [LsP [IsV (.str "place"), IsV (.str "ours"), IsV (.str "value")]]]).flatten (List.replicate m PL) := by
        intro m
        induction m with
        | zero => exact .nil
        | succ m ih => exact .cons (fun _ _ h => to_pl h) ih
      exact this n
    have sh : SeqAt.shaped (.list (List.replicate n PL)) = true := by
      have : ∀ m : Nat, m ≤ 10 → SeqAt.shaped (.list (List.replicate m PL)) = true := by decide +kernel
      exact this n hn10
    have eq : PyData.eqv (.list (List.replicate n PL)) (.list (List.replicate n PL)) = true := by
      have : ∀ m : Nat, m ≤ 10 → PyData.eqv (.list (List.replicate m PL)) (.list (List.replicate m PL)) = true := by decide +kernel
      exact this n hn10
    refine b_ret ?_
    refine (ev_is (ev_eqD (K := K) (p_var (p := IsD K (.list (List.replicate n PL))) (i := 6) rfl hl) rep sh sh) (congrArg V.bl eq)) JJ c1 _ fun JE eE => ?_
    exact fin JE (KJ.x.trans (exN_of eE)) (KJ.k.t.ext eE)
  have tst := et_test (σ := [some (.ref d), some vb, some vl, some va, some vq, some v5, some (.ref L), some (.str x), none]) (H := P5) (ev_op (ev_lenD (p_rk2 (p_var (i := 1) rfl R_5)) (.inl rfl)) (ev_c (v := .int 1)) (rv_eq rfl))
  rw [List.length_map] at tst
  have six : ∀ y ∈ [w0, w1, w2, w3, w4, w5], (toldP 13 []).P y P5 := fun y hy => by
    simp only [List.mem_cons, List.not_mem_nil, or_false] at hy
    rcases hy with rfl | rfl | rfl | rfl | rfl | rfl <;> assumption
  by_cases h1 : r.axs.length = 1
  · refine b_seq (My.ps_ifT N5.k.e (et_is tst (by rw [h1]; rfl)) fun HF eF => ?_)
    have N5 := N5.ex eF
    have c5 := eF _ _ c5
    obtain ⟨n1, ns', hns⟩ : ∃ a b, r.ns = a :: b := List.exists_cons_of_length_pos hok.ne
    have hat : atI (r.ns.map PyData.str) 0 = some (.str n1) := by
      rw [hns]
      exact atI_zero _ _
    have ny := one_ax hok (x := n1) (by rw [hns]; exact List.mem_cons_self) h1
    refine ⟨.ref L, rfl, .inl ⟨rfl, [w0, w1, w2, w3, w4, w5], sq_of c5⟩, ?_⟩
    refine b_cons ?_
    refine x_told N5.k (ps := [RkP K r, chP K (chO c), DvP ⟨n1, 0, 1⟩]) (i := 13) (fs := []) (q_cons (p_var (i := 1) rfl R_5) (q_cons (p_var (i := 2) rfl C_5) (q_cons (p_dv (u := ⟨n1, 0, 1⟩) (a := .str n1) (b := .int 0) (c := .int 1) rfl rfl rfl (q_cons (p_ev (ev_st (K := K) (ed_ixT (ds := r.ns.map .str) (ed_nm (p_rk1 (p_var (i := 1) rfl R_5))) ev_c hat))) (q_cons p_c (q_cons p_c q_nil)))) q_nil))) (.inr ⟨r, chO c, DvP ⟨n1, 0, 1⟩, (⟨n1, 0, 1⟩ : Dv).D, hok, hch, to_dv _, ny.1, ny.2, rfl, rfl⟩) (by decide) (by decide) nf fun w6 P6 G6 gd6 hw6 => ?_
    have M6 := N5.gt gd6
    have a6 := gd6.a L _ c5 (fun _ z => nomatch z)
    have b6 := gd6.f L _ b5 c5 (fun _ z => nomatch z)
    refine b_nil0 ⟨L, [w0, w1, w2, w3, w4, w5], w6, rfl, rfl, a6, (show 6 < sizeLine by decide), ?_⟩
    have N6 : Kr T H4 P6 (upd G6 L (.lst ([w0, w1, w2, w3, w4, w5] ++ [w6]))) := ⟨kn_lst M6.k b6 a6, xn_lst M6.x nL⟩
    have c6 : (upd G6 L (.lst ([w0, w1, w2, w3, w4, w5] ++ [w6]))) L = some (.lst [w0, w1, w2, w3, w4, w5, w6]) := upd_same
    generalize upd G6 L (.lst ([w0, w1, w2, w3, w4, w5] ++ [w6])) = J6 at N6 c6 ⊢
    dsimp only
    have hw0 := (toldP 13 []).m gd6.b hw0
    have hw1 := (toldP 13 []).m gd6.b hw1
    have hw2 := (toldP 13 []).m gd6.b hw2
    have hw3 := (toldP 13 []).m gd6.b hw3
    have hw4 := (toldP 13 []).m gd6.b hw4
    have hw5 := (toldP 13 []).m gd6.b hw5
    have Q_6 := (LsP [LsP [IsV (.str "place"), IsV (.str "ours"), IsV (.str "value")]]).m gd6.b Q_5
    refine eC 7 _ P6 J6 N6 c6 b6 rfl (by decide) (fun y hy => ?_) Q_6 _
    simp only [List.mem_cons, List.not_mem_nil, or_false] at hy
    rcases hy with rfl | rfl | rfl | rfl | rfl | rfl | rfl <;> assumption
  · refine ps_ifN N5.k.e (et_is tst ?_) fun HF eF => ?_
    · have : ¬ ((r.axs.length : Nat) : Int) = 1 := by omega
      simp [this]
    · dsimp only
      exact eC 6 _ P5 HF (N5.ex eF) (eF _ _ c5) b5 rfl (by decide) six Q_5 _

end
end K12
namespace Nd
set_option autoImplicit false
open PySem PySem.Spec PySem.W PyProof.Rows L2 My Evl LamX NdefX
def flD (c : Ch) (u : Dv) : List Nat := (List.range c.length).filter fun k => (c[k]?.map fun x => wayB x.1 u).getD false
theorem fl_head (c : Ch) (u : Dv) : (flD c u).head? = fstI c u := by
  unfold flD
  rw [List.head?_filter]
  cases h : fstI c u with
  | none =>
    unfold fstI at h
    rw [List.findIdx?_eq_none_iff] at h
    rw [List.find?_eq_none]
    intro k hk
    rw [List.mem_range] at hk
    rw [List.getElem?_eq_getElem hk]
    have := h c[k] (List.getElem_mem hk)
    show ¬ wayB c[k].1 u = true
    rw [this]
    exact Bool.false_ne_true
  | some k =>
    unfold fstI at h
    rw [List.findIdx?_eq_some_iff_getElem] at h
    obtain ⟨hk, h1, h2⟩ := h
    rw [List.find?_range_eq_some]
    refine ⟨by rw [List.getElem?_eq_getElem hk]; exact h1, List.mem_range.mpr hk, fun j hj => ?_⟩
    have hjl : j < c.length := Nat.lt_trans hj hk
    have := h2 j hj
    rw [List.getElem?_eq_getElem hjl]
    show (!wayB c[j].1 u) = true
    simpa using this
theorem fst_lt (c : Ch) (u : Dv) : ∀ k, fstI c u = some k → k < c.length := fun k h => by
  unfold fstI at h
  rw [List.findIdx?_eq_some_iff_getElem] at h
  exact h.1
theorem fst_up (c : Ch) (u : Dv) : (decide (fstI c u ≠ none) && decide (fstI c ⟨u.n, u.i + 1, u.j⟩ = none)) = false := by
  rw [Bool.eq_false_iff]
  intro h
  rw [Bool.and_eq_true, decide_eq_true_iff, decide_eq_true_iff] at h
  obtain ⟨h1, h2⟩ := h
  refine h1 ?_
  unfold fstI at h2 ⊢
  rw [List.findIdx?_eq_none_iff] at h2 ⊢
  intro x hx
  have := h2 x hx
  cases e : wayB x.1 u with
  | false => rfl
  | true =>
    unfold wayB at this e
    simp only [Bool.and_eq_true, decide_eq_true_eq] at e
    obtain ⟨a, b, d⟩ := e
    have b' : x.1.i ≤ u.i + 1 := by omega
    simp [a, b', d] at this
def oD : Option Nat → PyData
  | none => .none
  | some k => .int (k : Nat)
theorem to_opt5 {K : PySem.W.Frag} : ∀ o : Option Nat, To K (IsV (optV o)) (oD o)
  | none => to_non
  | some _ => to_int
theorem shw_opt {o : Option Nat} {n : Nat} (h : ∀ k, o = some k → k < n) (hn : n ≤ 4) : (oD o).showable = true ∧ (oD o).depth ≤ 60 ∧ (oD o).shown.length ≤ 1000000 := by
  cases o with
  | none => exact ⟨by decide, by decide, by decide +kernel⟩
  | some k =>
    have := h k rfl
    have w := shw_int (i := (k : Nat)) (k := 1) (by decide) (by decide) (by omega)
    exact ⟨w.s, Nat.le_trans w.d (by decide), Nat.le_trans w.l (by decide)⟩
theorem sh_nats (l : List Nat) : SeqAt.shaped (.list (l.map fun k => PyData.int (k : Nat))) = true := by
  have c : PyData.canLayAll0 (l.map fun k => PyData.int (k : Nat)) = true := by
    induction l with
    | nil => rfl
    | cons a l ih =>
      rw [List.map_cons]
      simp [PyData.canLayAll0, PyData.canLay0, ih]
  have d : PyData.depthAll (l.map fun k => PyData.int (k : Nat)) ≤ 0 := depthAll_le fun d hd => by
    obtain ⟨_, _, rfl⟩ := List.mem_map.mp hd
    simp [PyData.depth]
  unfold SeqAt.shaped
  rw [Bool.and_eq_true]
  refine ⟨by rw [PyData.canLay0]; exact c, ?_⟩
  refine _root_.decide_eq_true ?_
  simp only [PyData.depth]
  omega
section
variable {ta : TE} {σ : L2.St} {B : Hp} {K : PySem.W.Frag} {o : Option Nat}
theorem ev_notO (h : Ev ta σ B (optV o)) : Ev (tOp (fun x y H Q => y = V.non ∧ Q (.bl (!decide (x = V.non))) H) ta (tC .non)) σ B (.bl (decide (o ≠ none))) := fun H1 a Q k => h H1 a _ fun H2 e2 => ⟨rfl, by
  cases o with
  | none => exact k H2 e2
  | some n => exact k H2 e2⟩
theorem ev_isO (h : Ev ta σ B (optV o)) : Ev (tOp (fun x y H Q => y = V.non ∧ Q (.bl (decide (x = V.non))) H) ta (tC .non)) σ B (.bl (decide (o = none))) := fun H1 a Q k => h H1 a _ fun H2 e2 => ⟨rfl, by
  cases o with
  | none => exact k H2 e2
  | some n => exact k H2 e2⟩
/-- a comprehension over numbered things -/
theorem p_lcSE {te : TE} {tt : TT} {wi : TI} {n : Nat} {P : Nat → Pr} {g : TG} {vs : List Nat} (h : SrcE wi σ B n P) (hl : n ≤ 100000) (keep : Nat → Bool) (res : Nat → Pr)
    (step : ∀ i v B1, i < n → Ex B B1 → (P i).P v B1 → ∃ σ2, wipe σ2 vs = wipe σ vs ∧ (∀ T H2 Q, Ex B1 H2 → H2 T = some (.tup [.int (i : Nat), v]) → Q σ2 H2 → g (.ref T) (wipe σ vs) H2 Q) ∧ EvT tt σ2 B1 (keep i) ∧ (keep i = true → EvP te σ2 B1 (res i))) :
    EvP (tLc wi g tt te vs) σ B (LsP (((List.range n).filter keep).map res)) := fun H1 a Q k =>
  h H1 a _ fun J B2 H2 G Y gr w hG hY Dd hD => by
    refine lc_it w (fun i H3 => ∃ B3 acc, Gr B2 H2 B3 (wo Dd H3) ∧ H3 Dd = some (.lst acc) ∧ AllP (((List.range i).filter keep).map res) acc B3) ?_ ?_ ?_ ?_
    · exact ⟨B2, [], by rw [wo_new hD]; exact Gr.refl gr.c, upd_same, trivial⟩
    · rintro i H3 _ ⟨B3, acc, g3, _, _⟩
      exact hG H3 (g3.b.trans (g3.c.trans wo_ex))
    · rintro i v H3 H3' hi ⟨B3, acc, g3, hDd, hacc⟩ hy
      have exB : Ex B3 H3 := g3.c.trans wo_ex
      obtain ⟨T, x, rfl, hT, rfl, pv⟩ := hY i H3 v H3' hi (g3.b.trans exB) hy
      have eT : Ex H3 (upd H3 T (.tup [.int (i : Nat), x])) := Ex.new hT
      have some3 : H3 Dd ≠ none := by
        rw [hDd]
        exact fun z => nomatch z
      obtain ⟨σ2, hw, hg, ht, he⟩ := step i x B3 hi (gr.b.trans g3.b) ((P i).m g3.b pv)
      refine hg T _ _ (exB.trans eT) upd_same ⟨hw, ht _ (exB.trans eT) _ fun H4 e4 => ?_⟩
      have hD4 := e4 _ _ (eT _ _ hDd)
      have g4 : Gr B2 H2 B3 (wo Dd H4) := g3.side some3 (Gr.wide exB (eT.trans e4))
      have some4 : H4 Dd ≠ none := by
        rw [hD4]
        exact fun z => nomatch z
      cases hk : keep i with
      | true =>
        rw [if_pos rfl]
        refine he hk H4 ((exB.trans eT).trans e4) _ fun y B5 H5 g5 hy => ?_
        have la : acc.length ≤ i := by
          rw [hacc.len, List.length_map]
          exact Nat.le_trans (List.length_filter_le _ _) (by rw [List.length_range]; exact Nat.le_refl _)
        refine ⟨acc, g5.a _ _ hD4, sz_lt (by omega), B5, acc ++ [y], by rw [wo_upd]; exact g4.side some4 g5, upd_same, ?_⟩
        rw [List.range_succ, List.filter_append, List.map_append]
        refine (hacc.m g5.b).app ?_
        have : List.filter keep [i] = [i] := by simp [hk]
        rw [this]
        exact ⟨hy, trivial⟩
      | false =>
        rw [if_neg Bool.false_ne_true]
        refine ⟨B3, acc, g4, hD4, ?_⟩
        rw [List.range_succ, List.filter_append, List.map_append]
        have : List.filter keep [i] = [] := by simp [hk]
        rw [this, List.map_nil, List.append_nil]
        exact hacc
    · rintro H3 ⟨B3, acc, g3, hDd, hacc⟩
      have hB3 : B3 Dd = none := wo_none g3.c
      refine k (.ref Dd) (upd B3 Dd (.lst acc)) H3 ⟨gr.a.trans (g3.a.trans wo_ex), gr.b.trans (g3.b.trans (Ex.new hB3)), fun b o e => ?_, fun x hb hh => ?_, fun z b ps q => ?_⟩ ⟨Dd, acc, rfl, upd_same, hacc.m (Ex.new hB3)⟩
      · by_cases n : b = Dd
        · subst n
          rw [upd_same] at e
          rw [hDd]
          exact e
        · rw [upd_ne n] at e
          exact g3.c.trans wo_ex _ _ e
      · have n : x ≠ Dd := fun z => by
          subst z
          exact has gr.a hh hD
        rw [upd_ne n]
        exact g3.d x (gr.d x hb hh) (has gr.a hh)
      · by_cases n : b = Dd
        · subst n
          rw [upd_same] at q
          cases q
        · rw [upd_ne n] at q
          exact g3.e (gr.e z) b ps q
end
structure GnD6 (u : Dv) : Prop where
  n : IsNm u.n
  i0 : 0 ≤ u.i
  j0 : 0 ≤ u.j
  o : u.i + u.j ≤ (6 : Nat)
theorem GnD6.gn {u : Dv} (h : GnD6 u) : GnD u := ⟨h.n, h.i0, h.j0, by have := h.j0; have := h.o; omega, by have := h.i0; have := h.o; omega⟩
end Nd
namespace K12
set_option autoImplicit false
open PySem PySem.W L2 Evl My Nd LamX NdefX
section
variable {te ta tb : TE} {t u : TS} {ts tx : TA} {σ : L2.St} {B H : Hp} {D : Ends} {Q : VK}
theorem b_ifNot (h : te σ H fun v H1 => ∃ b, v = .bl b ∧ (if (!b) = true then t D σ H1 else u D σ H1)) : tIfS (tNot (tB te)) t u D σ H := h
theorem iteF {A B : Prop} (h : B) : if (false = true) then A else B := by rw [if_neg Bool.false_ne_true]; exact h
end
section
variable {T : List (Addr × Str)} {d : Addr} {n : Nat} {B H H2 : Hp}
/-- all that stands but tables, and the law's state -/
theorem Kx.all (k : Kx T d n B H) (e : ExtN H H2) (t : Tabs T H2) : ∃ B2, Kx T d n B2 H2 ∧ Ex B B2 ∧ ∀ b o, H2 b = some o → (∀ ps, o ≠ .tbl ps) → b ≠ d → B2 b = some o := by
  have k2 := k.gt (GT.xn k.kn e t)
  have al : ∀ b o, (if b = d then (none : Option HO) else match H2 b with | some (.tbl _) => none | o => o) = some o → b ≠ d ∧ H2 b = some o ∧ ∀ ps, o ≠ .tbl ps := fun b o h => by
    by_cases n : b = d
    · rw [if_pos n] at h
      cases h
    · rw [if_neg n] at h
      split at h
      · cases h
      · rename_i hn
        exact ⟨n, h, fun ps z => hn ps (by rw [h, z])⟩
  refine ⟨fun b => if b = d then none else match H2 b with | some (.tbl _) => none | o => o, ⟨fun b o h => (al b o h).2.1, fun b ps h => (al b _ h).2.2 ps rfl, t, if_pos rfl, k2.s⟩, fun b o h => ?_, fun b o h hn nd => ?_⟩
  · have n : b ≠ d := fun z => by
      subst z
      rw [k.z] at h
      cases h
    have h2 := k2.e b o h
    show (if b = d then (none : Option HO) else match H2 b with | some (.tbl _) => none | o => o) = some o
    rw [if_neg n, h2]
    split
    · rename_i e
      exact absurd (Option.some.inj e) fun z => k.nt b _ (by rw [h, z])
    · rfl
  · show (if b = d then (none : Option HO) else match H2 b with | some (.tbl _) => none | o => o) = some o
    rw [if_neg nd, h]
    split
    · rename_i e
      exact absurd (Option.some.inj e) (hn _)
    · rfl
theorem Kx.ne_lst (k : Kx T d n B H) {l : Addr} {xs : List V} (h : H l = some (.lst xs)) : l ≠ d := fun z => by
  obtain ⟨_, _, _, hd, _⟩ := k.s
  rw [z, hd] at h
  cases h
theorem Kx.ne_tup (k : Kx T d n B H) {l : Addr} {xs : List V} (h : H l = some (.tup xs)) : l ≠ d := fun z => by
  obtain ⟨_, _, _, hd, _⟩ := k.s
  rw [z, hd] at h
  cases h
theorem dvs_all {B2 : Hp} (ha : ∀ b o, H b = some o → (∀ ps, o ≠ .tbl ps) → b ≠ d → B2 b = some o) (k : Kx T d n B H) : ∀ {us : List Dv} {xs : List V}, AllP (us.map DvP) xs H → AllP (us.map DvP) xs B2
  | [], [], _ => trivial
  | _ :: _, _ :: _, h => ⟨by
    obtain ⟨⟨a, e, h1⟩, _⟩ := h
    exact ⟨a, e, ha a _ h1 (fun _ z => nomatch z) (k.ne_tup h1)⟩, dvs_all ha k h.2⟩
end
def spLaw (K : PySem.W.Frag) (T : List (Addr × Str)) : Sp := fun vs H Q _ => ∃ (a : Addr) (ns : List Int), vs = [.ref a] ∧ SqL K H a (ns.map V.int) ∧ ns.length ≤ 63 ∧ Tabs T H ∧ ∀ H', Q (.bl true) H'
section
variable {P : Program} {w : World} {K : PySem.W.Frag} {mg : Str → Option Value} {base : Heap} {T : List (Addr × Str)}

/-- law -/
abbrev s_law : Stmt := topS 90
abbrev N_law : List Str := ["_law_script", "_law_k", "_law_cell", "_law_state", "_law_by_here", "_law_links", "_law_spot", "_law_due", "_law_j", "_law_pair", "_law_told_here", "_law_turn", "_law_a", "_law_b", "_law_c", "_law_near", "_law_far"]
theorem sc_law : FnScope N_law ["_law_script"] (defScope s_law) := ⟨rfl, rfl, rfl, by decide +kernel, rfl, by decide +kernel, by decide +kernel⟩
theorem ok_law {f : Addr} {fd : FuncData} (F : Fun K "law" "law" s_law f fd) {aOP : Addr} {f_Ldraw : Addr} {d_Ldraw : FuncData} (c_Ldraw : Cal P w K mg base "_law_draw" 1 ["_law_cell", "_law_k"] spDraw f_Ldraw d_Ldraw) {f_Lby : Addr} {d_Lby : FuncData} (c_Lby : Cal P w K mg base "_law_by" 5 ["_law_state"] (spBy K) f_Lby d_Lby) {f_Lchain : Addr} {d_Lchain : FuncData} (c_Lchain : Cal P w K mg base "_law_chain" 6 ["_law_state", "_law_by_here"] (spChain K T) f_Lchain d_Lchain) {f_all_to : Addr} {d_all_to : FuncData} (c_all_to : Cal P w K mg base "all_to" 6 ["ranking", "order"] (spAll K T) f_all_to d_all_to) {f_Lcomes : Addr} {d_Lcomes : FuncData} (c_Lcomes : Cal P w K mg base "_law_comes" 1 ["_law_a", "_law_b"] (spP (Rcomes K)) f_Lcomes d_Lcomes) {f_principal_by : Addr} {d_principal_by : FuncData} (c_principal_by : CalX P w K mg base "principal_by" 12 ["ranking", "chain", "derivative"] (spO (RpbO K aOP)) f_principal_by d_principal_by) {f_Lderivative : Addr} {d_Lderivative : FuncData} (c_Lderivative : Cal P w K mg base "_law_derivative" 3 ["_law_state", "_law_names_here", "_law_axes", "_law_high"] spDer f_Lderivative d_Lderivative) {f_Lrefused_right : Addr} {d_Lrefused_right : FuncData} (c_Lrefused_right : Cal P w K mg base "_law_refused_right" 16 ["_law_state", "_law_by_here", "_law_links", "_law_a"] (spRef K T) f_Lrefused_right d_Lrefused_right) (n_enumerate : mg "enumerate" = none) (n_sum : mg "sum" = none) (n_range : mg "range" = none) (n_repr : mg "repr" = none) (n_len : mg "len" = none) {f_Lpair_right : Addr} {d_Lpair_right : FuncData} (c_Lpair_right : Gd.CalG P w K mg base "_law_pair_right" 7 ["_law_a", "_law_b", "_law_c"] (spP (Rpair K)) f_Lpair_right d_Lpair_right) :
    Gd.FnG P w K mg base 17 f fd ["_law_script"] (spLaw K T) := by
  refine Gd.okG F sc_law (fun vs H Q E h => by obtain ⟨a, ns, rfl, _⟩ := h; rfl) (fun cdv A outer s H vs Q E hr hG h => ?_)
  obtain ⟨a, ns, rfl, hS, hlen, hT, q⟩ := h
  have hu := hu_of hr
  refine ⟨_, (pss_cons (ps_for PassesOwn.never rfl (pi_enum (by rfl) n_enumerate (pa_cons (pe_op op_cat (pe_slice sl_list (pv 0) po_none (po_some pe_int)) (pe_lst (pa_cons (pe_callB (cr_sum rfl) (by rfl) n_sum (by decide +kernel) (pa_cons (pv 0) pa_nil)) pa_nil))) pa_nil)) (pg_tup (by rfl) (pgs_cons (pg_name (i := 1) sc_law.nd rfl (by first | exact .inl rfl | exact .inr rfl)) (pgs_cons (pg_name (i := 2) sc_law.nd rfl (by first | exact .inl rfl | exact .inr rfl)) pgs_nil)))
      (pss_cons (ps_set (i := 3) sc_law.nd rfl (by first | exact .inl rfl | exact .inr rfl) (pe_call c_Ldraw.G (hr.mono (by decide)) (by rfl) c_Ldraw.m c_Ldraw.k c_Ldraw.b .nil pass0 (pa_cons (pv 2) (pa_cons (pv 1) pa_nil))))
    (pss_cons (ps_set (i := 4) sc_law.nd rfl (by first | exact .inl rfl | exact .inr rfl) (pe_call c_Lby.G (hr.mono (by decide)) (by rfl) c_Lby.m c_Lby.k c_Lby.b .nil pass0 (pa_cons (pv 3) pa_nil)))
    (pss_cons (ps_set (i := 5) sc_law.nd rfl (by first | exact .inl rfl | exact .inr rfl) (pe_call c_Lchain.G (hr.mono (by decide)) (by rfl) c_Lchain.m c_Lchain.k c_Lchain.b .nil pass0 (pa_cons (pv 3) (pa_cons (pv 4) pa_nil))))
    (pss_cons (ps_for PassesOwn.never rfl (pi_list (pe_call c_all_to.G (hr.mono (by decide)) (by rfl) c_all_to.m c_all_to.k c_all_to.b .nil pass0 (pa_cons (pv 4) (pa_cons pe_int pa_nil)))) (pg_name (i := 6) sc_law.nd rfl (by first | exact .inl rfl | exact .inr rfl))
      (pss_cons (ps_setLc (i := 7) (own := [("_law_j", 8), ("_law_pair", 9)]) (g := (gTup K 2 (gCons (gName 8) (gCons (gName 9) gNil)))) rfl sc_law.nd rfl rfl (sw_true rfl rfl rfl (by decide +kernel)) (pi_enumT (by rfl) n_enumerate (pa_cons (pv 5) pa_nil)) (blkOk_by (N := N_law) (sc := defScope s_law) (by decide +kernel)) (fun _ _ _ _ _ => (pg_tup (by rfl) (pgs_cons (pg_name (i := 8) sc_law.nd rfl (Or.inl rfl)) (pgs_cons (pg_name (i := 9) sc_law.nd rfl (Or.inl rfl)) pgs_nil)))) (fun _ _ _ _ _ => (pts_one (pt_val (pe_call c_Lcomes.G (hr.mono (by decide)) (by rfl) c_Lcomes.m c_Lcomes.k c_Lcomes.b .nil pass0 (pa_cons (pv 6) (pa_cons (pe_ix (show IxR _ (rIxT K) from ix_tup) (pv 9) pe_int (fun _ _ => rfl)) pa_nil)))))) (fun _ _ _ _ _ => (pv 8)))
    (pss_cons (ps_set (i := 10) sc_law.nd rfl (by first | exact .inl rfl | exact .inr rfl) (pe_call c_principal_by.G (hr.mono (by decide)) (by rfl) c_principal_by.m c_principal_by.k c_principal_by.b .nil L2.passL (pa_cons (pv 4) (pa_cons (pv 5) (pa_cons (pv 6) pa_nil)))))
    (pss_cons (ps_if (pt_cmpR op_ne (pe_callB (Gd.call_reprG hG hr.units) (by rfl) n_repr (by decide +kernel) (pa_cons (pv 10) pa_nil)) (pe_callB (Gd.call_reprG hG hr.units) (by rfl) n_repr (by decide +kernel) (pa_cons (pe_ifExp (pt_cmpR (op_neD hr.units) (pv 7) (pe_lst pa_nil) (nomark _)) (pe_ix ix_list (pv 7) pe_int (fun _ _ => rfl)) pe_non) pa_nil)) (nomark _)) (pss_one (ps_ret pe_bl)) pss_nil)
    (pss_one (ps_if (PW.pt (pw_and (pt_cmpR op_notN (pv 10) pe_non (nomark _)) (pw_and1 (pt_cmpR op_isN (pe_call c_principal_by.G (hr.mono (by decide)) (by rfl) c_principal_by.m c_principal_by.k c_principal_by.b .nil L2.passL (pa_cons (pv 4) (pa_cons (pv 5) (pa_cons (pe_tup (pa_cons (pe_ix ix_tup (pv 6) pe_int (fun _ _ => rfl)) (pa_cons (pe_op op_add (pe_ix ix_tup (pv 6) pe_int (fun _ _ => rfl)) pe_int) (pa_cons (pe_ix ix_tup (pv 6) pe_int (fun _ _ => rfl)) pa_nil)))) pa_nil)))) pe_non (nomark _))))) (pss_one (ps_ret pe_bl)) pss_nil))))))
    (pss_cons (ps_for PassesOwn.never rfl (pi_range1 (by rfl) n_range (pa_cons pe_int pa_nil)) (pg_name (i := 11) sc_law.nd rfl (by first | exact .inl rfl | exact .inr rfl))
      (pss_cons (ps_asg (pe_lc (own := [("_law_j", 8)]) rfl sc_law.nd (pi_range1 (by rfl) n_range (pa_cons pe_int pa_nil)) (blkOk_by (N := N_law) (sc := defScope s_law) (by decide +kernel)) (fun _ _ _ _ _ => (pg_name (i := 8) sc_law.nd rfl (Or.inl rfl))) (fun _ _ _ _ _ => pts_nil) (fun _ _ _ _ _ => (pe_call c_Lderivative.G (hr.mono (by decide)) (by rfl) c_Lderivative.m c_Lderivative.k c_Lderivative.b .nil pass0 (pa_cons (pv 3) (pa_cons (pe_ix (show IxR _ (rIxT K) from ix_tup) (pv 4) pe_int (fun _ _ => rfl)) (pa_cons pe_int (pa_cons pe_int pa_nil))))))) (pg_lst (by rfl) (pgs_cons (pg_name (i := 12) sc_law.nd rfl (by first | exact .inl rfl | exact .inr rfl)) (pgs_cons (pg_name (i := 13) sc_law.nd rfl (by first | exact .inl rfl | exact .inr rfl)) (pgs_cons (pg_name (i := 14) sc_law.nd rfl (by first | exact .inl rfl | exact .inr rfl)) pgs_nil)))))
    (pss_cons (ps_par (i := 15) (j := 16) rfl sc_law.nd rfl rfl (by decide) rfl rfl (pa_cons (pe_tup (pa_cons (pe_ix ix_tup (pv 12) pe_int (fun _ _ => rfl)) (pa_cons (pe_ix ix_tup (pv 13) pe_int (fun _ _ => rfl)) (pa_cons (pe_ix ix_tup (pv 13) pe_int (fun _ _ => rfl)) pa_nil)))) (pa_cons (pe_tup (pa_cons (pe_ix ix_tup (pv 12) pe_int (fun _ _ => rfl)) (pa_cons (pe_op op_add (pe_ix ix_tup (pv 14) pe_int (fun _ _ => rfl)) pe_int) (pa_cons (pe_op op_add (pe_ix ix_tup (pv 14) pe_int (fun _ _ => rfl)) pe_int) pa_nil)))) pa_nil)) (by rfl))
    (pss_one (ps_if (PW.pt (pw_or (pt_not (pt_val (Gd.pe_callG c_Lpair_right.G (hr.mono (by decide)) hG (by rfl) c_Lpair_right.m c_Lpair_right.k c_Lpair_right.b .nil pass0 (pa_cons (pv 12) (pa_cons (pv 13) (pa_cons (pv 14) pa_nil)))))) (pw_or1 (pt_not (pt_val (Gd.pe_callG c_Lpair_right.G (hr.mono (by decide)) hG (by rfl) c_Lpair_right.m c_Lpair_right.k c_Lpair_right.b .nil pass0 (pa_cons (pv 12) (pa_cons (pv 15) (pa_cons (pv 16) pa_nil))))))))) (pss_one (ps_ret pe_bl)) pss_nil)))))
    (pss_one (ps_if (pt_not (pt_val (pe_call c_Lrefused_right.G (hr.mono (by decide)) (by rfl) c_Lrefused_right.m c_Lrefused_right.k c_Lrefused_right.b .nil pass0 (pa_cons (pv 3) (pa_cons (pv 4) (pa_cons (pv 5) (pa_cons (pe_tup (pa_cons (pe_ix ix_tup (pe_ix (show IxR _ (rIxT K) from ix_tup) (pv 4) pe_int (fun _ _ => rfl)) pe_int (fun _ _ => rfl)) (pa_cons pe_int (pa_cons pe_int pa_nil)))) pa_nil))))))) (pss_one (ps_ret pe_bl)) pss_nil))))))))
    (pss_one (ps_ret pe_bl))), ?_⟩
  walk_at "go"
  refine ⟨a, _, rfl, hS, fun p1 hp1 => ?_⟩
  walk_at "go"
  refine ⟨a, ns, rfl, (Same.seq (My.new hp1) hS), ?_⟩
  refine ⟨by show 1 ≤ sizeLine; decide, fun p2 hp2 => ?_⟩
  have n12 : p1 ≠ p2 := ne_of_none upd_same hp2
  refine ⟨p1, p2, _, _, rfl, rfl, by rw [upd_ne n12]; exact upd_same, upd_same, ?_, fun p3 hp3 => ?_⟩
  · have := My.cutTo (ns.map V.int) 4
    rw [show (4 : Int) = ((4 : Nat) : Int) from rfl, this, List.length_take]
    exact sz_of (by simp only [List.length_singleton]; omega)
  rw [show (4 : Int) = ((4 : Nat) : Int) from rfl, My.cutTo, ← List.map_take, show [V.int ns.sum] = [ns.sum].map V.int from rfl, ← List.map_append] at *
  have hT3 := ((hT.ext (Ex.new hp1)).ext (Ex.new hp2)).ext (Ex.new (o := .lst ((ns.take 4 ++ [ns.sum]).map V.int)) hp3)
  generalize hcs : ns.take 4 ++ [ns.sum] = cs at hT3
  have hcl : cs.length ≤ 5 := by
    rw [← hcs, List.length_append, List.length_take]
    simp only [List.length_singleton]
    omega
  refine ⟨p3, cs.map V.int, rfl, sq_of upd_same, for_it (walk_enum (K := K) (a := p3) (xs := cs.map V.int)) (fun i σ H' => Tabs T H' ∧ H' p3 = some (.lst (cs.map V.int)) ∧ ∃ x1 x2 x3 x4 x5 x6 x7 x10 x11 x12 x13 x14 x15 x16 : Option V, σ = [some (.ref a), x1, x2, x3, x4, x5, x6, x7, none, none, x10, x11, x12, x13, x14, x15, x16])
    ⟨hT3, upd_same, none, none, none, none, none, none, none, none, none, none, none, none, none, none, rfl⟩ (fun i σ H' _ h => sq_of h.2.1) ?_ ?_⟩
  rotate_left
  · rintro σ H1 _
    exact q H1
  rintro i v σ H1 H2 hi ⟨t1, h3, x1, x2, x3, x4, x5, x6, x7, x10, x11, x12, x13, x14, x15, x16, rfl⟩ ⟨t, x, y, rfl, ht, rfl, hx, hy⟩
  obtain rfl := Option.some.inj hx
  rw [List.length_map] at hi
  obtain ⟨z, rfl⟩ : ∃ z : Int, y = V.int z := by
    have hy' : (cs.map V.int)[i]? = some y := hy
    rw [List.getElem?_map, List.getElem?_eq_getElem hi] at hy'
    exact ⟨_, (Option.some.inj hy').symm⟩
  have h3' : upd H1 t (HO.tup [V.int (i : Nat), V.int z]) p3 = some (.lst (cs.map V.int)) := by
    rw [upd_ne (ne_of_none h3 ht)]
    exact h3
  have T2 : Tabs T (upd H1 t (HO.tup [V.int (i : Nat), V.int z])) := t1.ext (Ex.new ht)
  refine ⟨t, _, rfl, st_of upd_same, rfl, _, _, rfl, _, _, rfl, rfl, ?_⟩
  generalize upd H1 t (HO.tup [V.int (i : Nat), V.int z]) = H2 at h3' T2 ⊢
  walk_at "go"
  refine ⟨z, (i : Nat), rfl, by omega, by omega, fun d Hd hd0 hDS S => ?_⟩
  have hd3 := S _ _ h3'
  have nd3 : p3 ≠ d := ne_of_none h3' hd0
  have Td : Tabs T Hd := T2.ext S
  dsimp only [gName, List.set_cons_succ, List.set_cons_zero]
  refine b_seq (b_asg ?_)
  refine ⟨.ref d, rfl, d, 1000000, rfl, hDS, by decide, fun vr r B0 H3 hok hR hE hNT hBd S1 hd1 => ?_⟩
  have j3 : H3 p3 = some (.lst (cs.map V.int)) := S1 _ _ nd3 hd3
  have T3 : Tabs T H3 := by
    obtain ⟨_, _, _, hdk, _⟩ := hDS
    exact tabs_but Td hdk S1
  have e0 : Ex B0 (upd B0 p3 (.lst (cs.map V.int))) := fun b o e => by
    by_cases n : b = p3
    · subst n
      have := hE _ _ e
      rw [j3] at this
      rw [upd_same]
      exact this
    · rw [upd_ne n]
      exact e
  have c0 : Ex (upd B0 p3 (.lst (cs.map V.int))) H3 := fun b o e => by
    by_cases n : b = p3
    · subst n
      rw [upd_same] at e
      rw [j3]
      exact e
    · rw [upd_ne n] at e
      exact hE _ _ e
  have k0 : Kx T d (1000000 + 300) (upd B0 p3 (.lst (cs.map V.int))) H3 := ⟨c0, nt_upd hNT (fun _ z => nomatch z), T3, by rw [upd_ne nd3.symm]; exact hBd, hd1⟩
  have hR0 := (RkP K r).m e0 hR
  have cp0 : (upd B0 p3 (.lst (cs.map V.int))) p3 = some (.lst (cs.map V.int)) := upd_same
  generalize upd B0 p3 (.lst (cs.map V.int)) = C0 at hR0 k0 cp0
  dsimp only [gName, List.set_cons_succ, List.set_cons_zero]
  refine b_seq (b_asg ?_)
  refine ⟨.ref d, rfl, vr, rfl, C0, d, _, r, vr, rfl, hok, hR0, k0, by omega, fun c vl C1 H1c hc k1 g1 hl => ?_⟩
  have hch := hc.ok
  have R1 := (RkP K r).m g1.b hR0
  have cp1 := g1.b _ _ cp0
  have cln : (chO c).length ≤ 4 := by
    unfold chO
    rw [List.length_map]
    exact hc.n
  dsimp only [gName, List.set_cons_succ, List.set_cons_zero]
  -- each derivative to the order four
  refine b_seq ⟨vr, rfl, C1, r, vr, 4, rfl, by decide, hok, k1.kn, R1, fun va H2 eN2 T2 hva => ?_⟩
  obtain ⟨C2, k2, e12, all2⟩ := k1.all eN2 T2
  obtain ⟨l, xs, rfl, hl2, al2⟩ := hva
  have ld : l ≠ d := k2.ne_lst hl2
  have al3 := dvs_all (fun b o h n nd => all2 b o h n nd) k2 al2
  have bl2 := all2 l _ hl2 (fun _ z => nomatch z) ld
  have hR2 := (RkP K r).m e12 R1
  have hL2 := (chP K (chO c)).m e12 hl
  have cp2 := e12 _ _ cp1
  have sor := fun u (hu : u ∈ r.sort (r.all 4)) => Rk.mem_all (r := r) (o := 4) ((r.sort_perm _).mem_iff.mp hu)
  generalize r.sort (r.all 4) = us at al3 sor
  have xl := al3.len
  rw [List.length_map] at xl
  refine ⟨l, rfl, ⟨xs, sq_of hl2⟩, for_it (walk_list (K := K) (a := l) (xs := xs)) (fun _ σ H' => ∃ C, Kx T d (1000000 + 300 + 1500) C H' ∧ Ex C2 C ∧ ∃ y6 y7 y10, σ = [some (.ref a), some (.int i), some (.int z), some (.ref d), some vr, some vl, y6, y7, none, none, y10, x11, x12, x13, x14, x15, x16])
    ⟨C2, k2, Ex.refl _, x6, x7, x10, rfl⟩ (fun _ σ H' _ h => ?_) (fun t v σ H' H2' ht pv y => ?_) (fun σ H' pv => ?_)⟩
  · obtain ⟨C, k, e, _⟩ := h
    exact sq_of (k.e _ _ (e _ _ bl2))
  · obtain ⟨C, k, e, y6, y7, y10, rfl⟩ := pv
    obtain ⟨rfl, y2⟩ := y
    obtain ⟨p', hp', hvu⟩ := al3.get y2
    rw [List.getElem?_map] at hp'
    obtain ⟨u, hu, rfl⟩ := Option.map_eq_some_iff.mp hp'
    have hof := sor u (List.mem_of_getElem? hu)
    have hvu : (DvP u).P v C := (DvP u).m e hvu
    have hRC := (RkP K r).m e hR2
    have hLC := (chP K (chO c)).m e hL2
    dsimp only [gName, List.set_cons_succ, List.set_cons_zero]
    have due : EvP (tLc (iEnumT K (tCons (tVar 5) tNil)) (gTup K 2 (gCons (gName 8) (gCons (gName 9) gNil))) (tB (tCall (spP (Rcomes K)) [] E0 (tCons (tVar 6) (tCons (tOp (rIxT K) (tVar 9) (tC (.int 0))) tNil)))) (tVar 8) [8, 9]) [some (.ref a), some (.int i), some (.int z), some (.ref d), some vr, some vl, some v, y7, none, none, y10, x11, x12, x13, x14, x15, x16] C (LsP ((flD (chO c) u).map fun k => IsV (.int (k : Nat)))) := by
      have := p_lcSE (g := gTup K 2 (gCons (gName 8) (gCons (gName 9) gNil))) (tt := tB (tCall (spP (Rcomes K)) [] E0 (tCons (tVar 6) (tCons (tOp (rIxT K) (tVar 9) (tC (.int 0))) tNil)))) (te := tVar 8) (vs := [8, 9]) (src_enT (K := K) (ps := (chO c).map (lkP K)) (q_cons (p_var (i := 5) (σ := [some (.ref a), some (.int i), some (.int z), some (.ref d), some vr, some vl, some v, y7, none, none, y10, x11, x12, x13, x14, x15, x16]) rfl hLC) q_nil)) (by rw [List.length_map]; omega) (fun k => ((chO c)[k]?.map fun x => wayB x.1 u).getD false) (fun k => IsV (.int (k : Nat))) fun k w B1 hk e1 pv => ?_
      · rw [List.length_map] at this
        exact this
      · rw [List.length_map] at hk
        rw [getD_map hk] at pv
        refine ⟨[some (.ref a), some (.int i), some (.int z), some (.ref d), some vr, some vl, some v, y7, some (.int (k : Nat)), some w, y10, x11, x12, x13, x14, x15, x16], rfl, fun T2 H2 Q e2 hT q => ⟨T2, _, rfl, st_of hT, rfl, _, _, rfl, _, _, rfl, rfl, q⟩, ?_, fun _ => p_varV rfl⟩
        rw [List.getElem?_eq_getElem hk]
        exact et_B (ev_p (p_callP (ps := [DvP u, DvP (chO c)[k].1]) (q_cons (p_var (i := 6) rfl ((DvP u).m e1 hvu)) (q_cons (p_ixT (K := K) (ps := [DvP (chO c)[k].1, poP K (chO c)[k].2]) (p_var (i := 9) rfl pv) (p_c (v := .int 0)) rfl) q_nil)) ⟨u, (chO c)[k].1, rfl, rfl⟩))
    refine b_seq (ps_asgN (fun x => [some (.ref a), some (.int i), some (.int z), some (.ref d), some vr, some vl, some v, some x, none, none, y10, x11, x12, x13, x14, x15, x16]) k.e due (fun v7 C3 H3 g3 h7 => ?_) (fun _ => rfl))
    have k3 := k.gr g3
    have hR3 := (RkP K r).m g3.b hRC
    have hL3 := (chP K (chO c)).m g3.b hLC
    have hu3 := (DvP u).m g3.b hvu
    dsimp only
    refine b_seq (ps_asgN (fun x => [some (.ref a), some (.int i), some (.int z), some (.ref d), some vr, some vl, some v, some v7, none, none, some x, x11, x12, x13, x14, x15, x16]) k3.e (p_callO (ps := [RkP K r, chP K (chO c), DvP u]) (q_cons (p_var (i := 4) rfl hR3) (q_cons (p_var (i := 5) rfl hL3) (q_cons (p_var (i := 6) rfl hu3) q_nil))) (.inl ⟨r, chO c, u, hok, hch, hof, rfl, rfl⟩)) (fun v10 C4 H4 g4 h10 => ?_) (fun _ => rfl))
    obtain rfl : v10 = optV (fstI (chO c) u) := h10
    have k4 := k3.gr g4
    have hR4 := (RkP K r).m g4.b hR3
    have hL4 := (chP K (chO c)).m g4.b hL3
    have hu4 := (DvP u).m g4.b hu3
    have h74 := (LsP ((flD (chO c) u).map fun k => IsV (.int (k : Nat)))).m g4.b h7
    dsimp only
    have so := shw_opt (fst_lt (chO c) u) cln
    have eo : EvP (tVar 10) [some (.ref a), some (.int i), some (.int z), some (.ref d), some vr, some vl, some v, some v7, none, none, some (optV (fstI (chO c) u)), x11, x12, x13, x14, x15, x16] C4 (IsD K (oD (fstI (chO c) u))) := p_to (p_varV rfl) (to_opt5 _)
    have ed : EvP (tIf (tTest (tOp (rNeD K) (tVar 7) (tLst tNil))) (tOp (rIxL K) (tVar 7) (tC (.int 0))) (tC .non)) [some (.ref a), some (.int i), some (.int z), some (.ref d), some vr, some vl, some v, some v7, none, none, some (optV (fstI (chO c) u)), x11, x12, x13, x14, x15, x16] C4 (IsD K (oD (fstI (chO c) u))) := by
      have hd := fl_head (chO c) u
      have tt := et_test (σ := [some (.ref a), some (.int i), some (.int z), some (.ref d), some vr, some vl, some v, some v7, none, none, some (optV (fstI (chO c) u)), x11, x12, x13, x14, x15, x16]) (H := C4) (ev_neD (K := K) (d := .list ((flD (chO c) u).map fun k => .int (k : Nat))) (e := .list []) (p_to (p_var (i := 7) rfl h74) (to_lst (toAll_map _ fun _ => to_int))) (p_to (p_lst (ps := []) q_nil (by show 0 ≤ 100000; decide)) (to_lst .nil)) (sh_nats _) rfl)
      cases hf : flD (chO c) u with
      | nil =>
        rw [hf] at tt hd
        have hd : none = fstI (chO c) u := hd
        rw [← hd]
        exact ed_if (b := false) (et_is tt rfl) (fun z => nomatch z) fun _ => p_to (p_c (v := .non)) to_non
      | cons k0 ks =>
        rw [hf] at tt hd h74
        have hd : some k0 = fstI (chO c) u := hd
        rw [← hd]
        exact ed_if (b := true) (et_is tt rfl) (fun _ => p_to (p_ix (K := K) (ps := (k0 :: ks).map fun k => IsV (.int (k : Nat))) (p_lq (p_var (i := 7) rfl h74)) (p_c (v := .int 0)) (atI_zero _ _)) to_int) fun z => nomatch z
    refine b_seq (ps_ifN k4.e (et_same5 (K := K) eo ed so.1 so.2.1 so.2.2) fun H5 e5 => ?_)
    have k5 := k4.ex e5
    dsimp only
    have ix : ∀ {σ : L2.St} {B' : Hp} (i : Nat) {u : Dv} {x : V}, σ[i]? = some (some x) → (DvP u).P x B' → Ev (tOp (rIxT K) (tVar i) (tC (.int 0))) σ B' (.str u.n) ∧ Ev (tOp (rIxT K) (tVar i) (tC (.int 1))) σ B' (.int u.i) ∧ Ev (tOp (rIxT K) (tVar i) (tC (.int 2))) σ B' (.int u.j) := by
      intro σ B' i u x s h
      exact ⟨ev_st (K := K) (ed_ixT (ed_dv (p_var s h)) ev_c rfl), ev_in (K := K) (ed_ixT (ed_dv (p_var s h)) ev_c rfl), ev_in (K := K) (ed_ixT (ed_dv (p_var s h)) ev_c rfl)⟩
    refine ps_ifN k5.e (et_is (et_and (et_test (ev_notO (o := fstI (chO c) u) (ev_var (i := 10) (σ := [some (.ref a), some (.int i), some (.int z), some (.ref d), some vr, some vl, some v, some v7, none, none, some (optV (fstI (chO c) u)), x11, x12, x13, x14, x15, x16]) rfl))) fun _ => et_test (ev_isO (o := fstI (chO c) ⟨u.n, u.i + 1, u.j⟩) (ev_p (p_callO (ps := [RkP K r, chP K (chO c), DvP ⟨u.n, u.i + 1, u.j⟩]) (q_cons (p_var (i := 4) rfl hR4) (q_cons (p_var (i := 5) rfl hL4) (q_cons (p_dv (u := ⟨u.n, u.i + 1, u.j⟩) (a := .str u.n) (b := .int (u.i + 1)) (c := .int u.j) rfl rfl rfl (q_cons (p_ev (ix 6 rfl hu4).1) (q_cons (p_ev (ev_op (ix 6 rfl hu4).2.1 ev_c rv_I0)) (q_cons (p_ev (ix 6 rfl hu4).2.2) q_nil)))) q_nil))) (.inl ⟨r, chO c, ⟨u.n, u.i + 1, u.j⟩, hok, hch, ⟨hof.n, by have := hof.i; show 0 ≤ u.i + 1; omega, hof.j, hof.y⟩, rfl, rfl⟩))))) (fst_up (chO c) u)) fun H6 e6 => ?_
    exact ⟨C4, k5.ex e6, e.trans (g3.b.trans g4.b), _, _, _, rfl⟩
  obtain ⟨C, k, e, y6, y7, y10, rfl⟩ := pv
  have hR5 := (RkP K r).m e hR2
  have hL5 := (chP K (chO c)).m e hL2
  have cp5 := e _ _ cp2
  dsimp only
  -- pairs
  refine b_seq (b_forD ⟨12, rfl, by decide, by decide, for_range (lo := 0) (n := 12) (fun m σ' H' => ∃ C', Kx T d (1000000 + 300 + 1500 + 60 * m) C' H' ∧ Ex C C' ∧ ∃ y11 y12 y13 y14 y15 y16, σ' = [some (.ref a), some (.int i), some (.int z), some (.ref d), some vr, some vl, y6, y7, none, none, y10, y11, y12, y13, y14, y15, y16]) ⟨C, k, Ex.refl _, x11, x12, x13, x14, x15, x16, rfl⟩ (fun m σ' H' hm pv => ?_) (fun σ' H' pv => ?_)⟩)
  · obtain ⟨C', k', e', y11, y12, y13, y14, y15, y16, rfl⟩ := pv
    have hR' := (RkP K r).m e' hR5
    dsimp only [gName, List.set_cons_succ, List.set_cons_zero]
    let r2 : Rk := ⟨r.tot, r.ns, 1⟩
    have hok2 : r2.Ok := ⟨hok.ne, hok.le, hok.nd, hok.nm⟩
    refine b_seq (b_asg ?_)
    refine x_lcC (α := Dv) (f := DvP) (ok := GnD6) (jv := 8) (c := 20) (m := 3) k' (by omega) (fun x => rfl) (fun i5 B5 H5 Q' hi5 k5 g5 st => ?_) fun as vs5 B5 H5 has hlas k5 g5 h9 => ?_
    · have hR6 := (RkP K r).m g5.b hR'
      refine b_call0 ?_
      refine (q_cons (p_varV (i := 3) rfl) (q_cons (p_rk1 (p_var (i := 4) rfl hR6)) (q_cons p_c (q_cons p_c q_nil)))) H5 k5.e _ fun vs B8 H8 g8 b => ?_
      obtain ⟨w0, w1, w2, w3, rfl, b0, b1, b2, b3⟩ := all4 b
      obtain rfl : w0 = .ref d := b0
      obtain rfl : w2 = .int (r2.axs.length : Nat) := b2
      obtain rfl : w3 = .int (6 : Nat) := b3
      have k8 := k5.gr g8
      refine ⟨B8, d, _, 6, r2, w1, rfl, by decide, hok2, b1, k8.e, k8.z, k8.s, by omega, fun u B9 H9 vu hu ho gd9 hd9 hvu => ?_⟩
      exact st u vu B9 H9 ⟨hok.nm _ hu.n, hu.i, hu.j, ho⟩ ((k8.gd gd9 hd9).le (by omega)) ((GX.gr g8).trans (GX.gd gd9)) hvu
    · match as, hlas, has, h9 with
      | [ma, mb, mc], _, has, h9 =>
        obtain ⟨l9, xs9, rfl, hl9, al9⟩ := h9
        obtain ⟨w12, w13, w14, rfl, h12, h13, h14⟩ := all3 al9
        refine ⟨l9, _, rfl, sq_of (k5.e _ _ hl9), rfl, _, _, rfl, _, _, rfl, _, _, rfl, rfl, ?_⟩
        dsimp only [gName, List.set_cons_succ, List.set_cons_zero]
        have ga := has ma (by simp)
        have gb := has mb (by simp)
        have gc := has mc (by simp)
        have ix : ∀ {σ : L2.St} {B' : Hp} (i : Nat) {u : Dv} {x : V}, σ[i]? = some (some x) → (DvP u).P x B' → Ev (tOp (rIxT K) (tVar i) (tC (.int 0))) σ B' (.str u.n) ∧ Ev (tOp (rIxT K) (tVar i) (tC (.int 1))) σ B' (.int u.i) ∧ Ev (tOp (rIxT K) (tVar i) (tC (.int 2))) σ B' (.int u.j) := by
          intro σ B' i u x s h
          exact ⟨ev_st (K := K) (ed_ixT (ed_dv (p_var s h)) ev_c rfl), ev_in (K := K) (ed_ixT (ed_dv (p_var s h)) ev_c rfl), ev_in (K := K) (ed_ixT (ed_dv (p_var s h)) ev_c rfl)⟩
        refine b_seq (ps_parX (i := 15) (j := 16) (p := DvP ⟨ma.n, mb.i, mb.j⟩) (q := DvP ⟨ma.n, mc.i + 2, mc.j + 2⟩) k5.e (q_cons (p_dv (u := ⟨ma.n, mb.i, mb.j⟩) (a := .str ma.n) (b := .int mb.i) (c := .int mb.j) rfl rfl rfl (q_cons (p_ev (ix 12 rfl h12).1) (q_cons (p_ev (ix 13 rfl h13).2.1) (q_cons (p_ev (ix 13 rfl h13).2.2) q_nil)))) (q_cons (p_dv (u := ⟨ma.n, mc.i + 2, mc.j + 2⟩) (a := .str ma.n) (b := .int (mc.i + 2)) (c := .int (mc.j + 2)) rfl rfl rfl (q_cons (p_ev (ix 12 rfl h12).1) (q_cons (p_ev (ev_op (ix 14 rfl h14).2.1 ev_c rv_I0)) (q_cons (p_ev (ev_op (ix 14 rfl h14).2.2 ev_c rv_I0)) q_nil)))) q_nil)) fun w15 w16 B6 H6 g6 h15 h16 => ?_)
        have k6 := k5.gr g6
        dsimp only [List.set_cons_succ, List.set_cons_zero]
        have m12 := (DvP ma).m g6.b h12
        have m13 := (DvP mb).m g6.b h13
        have m14 := (DvP mc).m g6.b h14
        refine ps_ifN k6.e (et_is (et_or (a := false) (b := false) (et_is (et_not (et_test (ev_p (p_callP (ps := [DvP ma, DvP mb, DvP mc]) (q_cons (p_var (i := 12) rfl m12) (q_cons (p_var (i := 13) rfl m13) (q_cons (p_var (i := 14) rfl m14) q_nil))) ⟨ma, mb, mc, ga.gn, gb.gn, gc.gn, rfl, rfl⟩)))) rfl) fun _ => et_is (et_not (et_test (ev_p (p_callP (ps := [DvP ma, DvP ⟨ma.n, mb.i, mb.j⟩, DvP ⟨ma.n, mc.i + 2, mc.j + 2⟩]) (q_cons (p_var (i := 12) rfl m12) (q_cons (p_var (i := 15) rfl h15) (q_cons (p_var (i := 16) rfl h16) q_nil))) ⟨ma, ⟨ma.n, mb.i, mb.j⟩, ⟨ma.n, mc.i + 2, mc.j + 2⟩, ga.gn, ⟨ga.n, gb.i0, gb.j0, gb.gn.i1, gb.gn.j1⟩, ⟨ga.n, by have := gc.i0; show 0 ≤ mc.i + 2; omega, by have := gc.j0; show 0 ≤ mc.j + 2; omega, by have := gc.i0; have := gc.j0; have := gc.o; show mc.i + 2 ≤ 100; omega, by have := gc.i0; have := gc.j0; have := gc.o; show mc.j + 2 ≤ 100; omega⟩, rfl, rfl⟩)))) rfl) rfl) fun H7 e7 => ?_
        exact ⟨B6, (k6.ex e7).le (by omega), e'.trans (g5.b.trans g6.b), _, _, _, _, _, _, rfl⟩
  obtain ⟨C', k', e', y11, y12, y13, y14, y15, y16, rfl⟩ := pv
  have hR6 := (RkP K r).m e' hR5
  have hL6 := (chP K (chO c)).m e' hL5
  have cp6 := e' _ _ cp5
  dsimp only
  obtain ⟨n1, ns', hns⟩ : ∃ a b, r.ns = a :: b := List.exists_cons_of_length_pos hok.ne
  have n1m : n1 ∈ r.ns := by rw [hns]; exact List.mem_cons_self
  refine b_ifNot (b_call0 ?_)
  refine (q_cons (p_varV (i := 3) rfl) (q_cons (p_var (i := 4) rfl hR6) (q_cons (p_var (i := 5) rfl hL6) (q_cons (p_dv (u := ⟨n1, 1, 0⟩) (a := .str n1) (b := .int 1) (c := .int 0) rfl rfl rfl (q_cons (p_ev (ev_st (K := K) (ed_ixT (ds := r.ns.map .str) (ed_nm (p_rk1 (p_var (i := 4) rfl hR6))) ev_c (by rw [hns]; exact atI_zero _ _)))) (q_cons p_c (q_cons p_c q_nil)))) q_nil)))) H' k'.e _ fun vs C7 H7 g7 b => ?_
  obtain ⟨w0, w1, w2, w3, rfl, b0, b1, b2, b3⟩ := all4 b
  obtain rfl : w0 = .ref d := b0
  have k7 := k'.gr g7
  refine ⟨C7, d, _, r, c, ⟨n1, 1, 0⟩, w1, w2, w3, rfl, hok, hc, ⟨hok.nm _ n1m, (by decide : (0 : Int) ≤ 1), (by decide : (0 : Int) ≤ 0), (by decide : (1 : Int) ≤ 100), (by decide : (0 : Int) ≤ 100)⟩, b1, b2, b3, k7, by omega, fun C8 H8 k8 e8 => ⟨true, rfl, ?_⟩⟩
  rw [show (!true) = false from rfl]
  refine iteF ?_
  exact ⟨k8.t, k8.e _ _ (e8 _ _ (g7.b _ _ cp6)), _, _, _, _, _, _, _, _, _, _, _, _, _, _, rfl⟩

end
end K12
namespace K12
open PySem PySem.W L2 Evl My LamX Nd
set_option autoImplicit false
def cxOfL (l : List Addr) : Nat → Addr := fun i => l.getD i 0
/-- the facts of an own exception class, asked at once -/
def xcB (K : PySem.W.Frag) (C : Addr) (bmB : List Value) (newId : String) : Bool :=
  PySem.W.excInitIn K C bmB newId && PySem.W.hasDictIn K C && decide (PySem.W.findIn K (.ref C) "__setattr__" = some (some (.builtin "object.__setattr__"))) && decide (PySem.W.findIn K (.ref C) "__getattribute__" = some (some (.builtin "BaseException.__getattribute__"))) &&
  decide (PySem.W.findIn K (.ref C) "__getattr__" = some none) && decide (PySem.W.subIn K (.ref C) (.type "BaseException") = some true) && decide (PySem.W.findIn K (.ref C) "__class__" = some (some (.builtin "object.__class__"))) &&
  decide (PySem.W.specialIn K (.builtin "object.__class__") "__get__" = some (some (.builtin "getset_descriptor.__get__"))) && decide (PySem.W.takesIn K (.builtin "object.__class__") = some true) && decide (PySem.W.mroIn K C (.type "object") = some true) && PySem.W.keepIn K (.ref C)
theorem xc_of {K : PySem.W.Frag} {C : Addr} {bmB : List Value} {newId : String} (h : xcB K C bmB newId = true) : XC K C bmB newId := by
  unfold xcB at h
  simp only [Bool.and_eq_true, decide_eq_true_eq] at h
  obtain ⟨⟨⟨⟨⟨⟨⟨⟨⟨⟨h1, h2⟩, h3⟩, h4⟩, h5⟩, h6⟩, h7⟩, h8⟩, h9⟩, h10⟩, h11⟩ := h
  exact ⟨h1, h2, h3, h4, h5, h6, h7, h8, h9, h10, h11⟩
abbrev s_BadPolynomial : Stmt := inClass (topS 4) 0
theorem sc_BadPolynomial : FnScope ["self", "number"] ["self", "number"] (defScope s_BadPolynomial) := ⟨rfl, rfl, rfl, by decide +kernel, rfl, by decide +kernel, by decide +kernel⟩
theorem ok_BadPolynomial {P : Program} {w : World} {K : PySem.W.Frag} {mg : Str → Option Value} {base : Heap} {f C D : Addr} {fd : FuncData} (F : FunD K "__init__" "BadPolynomial.__init__" (defArgs s_BadPolynomial) (defBody s_BadPolynomial) (defScope s_BadPolynomial) [.non] [] f fd) (T : XC K C [.type "ValueError", .type "Exception", .type "BaseException", .type "object"] "ValueError.__new__") (Z : XD K mg "ChainError" D "ValueError.__init__") (no0 : PySem.W.findIn K (.ref C) "number" = some none) : FnOk P w K mg base CX0 1 f fd ["self", "number"] (spI1 C "number") := by
  refine F.ok sc_BadPolynomial (fun vs H Q E h => ?_) (fun cdv A outer s H vs Q E hr h => ?_)
  · obtain ⟨a, v, rfl, _⟩ := h
    rfl
  · obtain ⟨a, v, rfl, ha, q⟩ := h
    refine ⟨_, (pss_cons (ps_expr (pe_xinit xbV (by rfl) Z.m Z.s Z.r Z.f Z.h (pa_cons (pv 0) (pa_cons pe_str pa_nil)))) (pss_one (ps_xset xbV (pv 0) (pv 1)))), ?_⟩
    refine ⟨_, rfl, a, C, _, rfl, by decide, T, ha, ?_⟩
    exact ⟨_, rfl, _, rfl, a, C, rfl, T, no0, .inl ⟨ha, fun dx hd ne => q dx hd ne⟩⟩
abbrev s_BadRanking : Stmt := inClass (topS 5) 0
theorem sc_BadRanking : FnScope ["self", "place"] ["self", "place"] (defScope s_BadRanking) := ⟨rfl, rfl, rfl, by decide +kernel, rfl, by decide +kernel, by decide +kernel⟩
theorem ok_BadRanking {P : Program} {w : World} {K : PySem.W.Frag} {mg : Str → Option Value} {base : Heap} {f C D : Addr} {fd : FuncData} (F : FunD K "__init__" "BadRanking.__init__" (defArgs s_BadRanking) (defBody s_BadRanking) (defScope s_BadRanking) [.non] [] f fd) (T : XC K C [.type "ValueError", .type "Exception", .type "BaseException", .type "object"] "ValueError.__new__") (Z : XD K mg "ChainError" D "ValueError.__init__") (no0 : PySem.W.findIn K (.ref C) "place" = some none) : FnOk P w K mg base CX0 1 f fd ["self", "place"] (spI1 C "place") := by
  refine F.ok sc_BadRanking (fun vs H Q E h => ?_) (fun cdv A outer s H vs Q E hr h => ?_)
  · obtain ⟨a, v, rfl, _⟩ := h
    rfl
  · obtain ⟨a, v, rfl, ha, q⟩ := h
    refine ⟨_, (pss_cons (ps_expr (pe_xinit xbV (by rfl) Z.m Z.s Z.r Z.f Z.h (pa_cons (pv 0) (pa_cons pe_str pa_nil)))) (pss_one (ps_xset xbV (pv 0) (pv 1)))), ?_⟩
    refine ⟨_, rfl, a, C, _, rfl, by decide, T, ha, ?_⟩
    exact ⟨_, rfl, _, rfl, a, C, rfl, T, no0, .inl ⟨ha, fun dx hd ne => q dx hd ne⟩⟩
theorem dp_strK {K : PySem.W.Frag} {a : Addr} {od : Option Addr} {its : Array Value} {n : Nat} {sl : Array (Option Value)} {xs : List Str} (l : K.lookup a = some ⟨.type "tuple", od, .seq its n, sl⟩) (h : Vals (xs.map V.str) its.toList) (hz : xs.length ≤ 1000 := by decide) (H : Hp) : Dp K H (.ref a) (.tuple (xs.map .str)) :=
  .tup (.inr ⟨_, its, n, l, rfl, rfl, small (by have := h.length; rw [List.length_map] at this; simp at this; omega), h⟩) (dps_of_strs xs)

theorem all_mk {l : PySem.W.OpenLaw} {w : World} {K : PySem.W.Frag} {h : Heap} {mg : Str → Option Value} {fa cc1 cc2 tb1 tb2 aA aS aL q1 q2 q3 T1 T2 C0 C1 C2 C3 C4 C5 C6 C7 C8 C9 C10 C11 C12 C13 C14 C15 C16 C17 C18 f0 f1 f2 f3 f4 f5 f6 f7 f8 f9 f10 f11 f12 f13 f14 f15 f16 f17 f18 f19 f20 f21 f22 f23 f24 f25 f26 f27 f28 f29 f30 f31 f32 f33 f34 f35 f36 f37 f38 f39 f40 f41 f42 f43 f44 f45 f46 f47 f48 f49 f50 f51 f52 f53 f101 f102 : Addr} (X : K.In h) (G : h.Ns mainGlobals mg) (hfa : mg "law" = some (.ref fa)) (hT1 : h.get? tb1 = some (PySem.W.tabObj #[])) (hT2 : h.get? tb2 = some (PySem.W.tabObj #[]))
    {od0 an0 od1 an1 od2 an2 od3 an3 od4 an4 od5 an5 od6 an6 od7 an7 od8 an8 od9 an9 od10 an10 od11 an11 od12 an12 od13 an13 od14 an14 od15 an15 od16 an16 od17 an17 od18 an18 od19 an19 od20 an20 od21 an21 od22 an22 od23 an23 od24 an24 od25 an25 od26 an26 od27 an27 od28 an28 od29 an29 od30 an30 od31 an31 od32 an32 od33 an33 od34 an34 od35 an35 od36 an36 od37 an37 od38 an38 od39 an39 od40 an40 od41 an41 od42 an42 od43 an43 od44 an44 od45 an45 od46 an46 od47 an47 od48 an48 od49 an49 od50 an50 od51 an51 od52 an52 od53 an53 od101 an101 od102 an102 dA0 dA1 dA2 dA3 dA4 dA5 dd1 dd2 : Option Addr} {sl0 sl1 sl2 sl3 sl4 sl5 sl6 sl7 sl8 sl9 sl10 sl11 sl12 sl13 sl14 sl15 sl16 sl17 sl18 sl19 sl20 sl21 sl22 sl23 sl24 sl25 sl26 sl27 sl28 sl29 sl30 sl31 sl32 sl33 sl34 sl35 sl36 sl37 sl38 sl39 sl40 sl41 sl42 sl43 sl44 sl45 sl46 sl47 sl48 sl49 sl50 sl51 sl52 sl53 sl101 sl102 sA0 sA1 sA2 sA3 sA4 sA5 ss1 ss2 : Array (Option Value)} {oc0 kV0 dc0 pm0 cd0 ct0 oc1 kV1 dc1 pm1 cd1 ct1 oc2 kV2 dc2 pm2 cd2 ct2 oc3 kV3 dc3 pm3 cd3 ct3 oc4 kV4 dc4 pm4 cd4 ct4 oc5 kV5 dc5 pm5 cd5 ct5 oc6 kV6 dc6 pm6 cd6 ct6 oc7 kV7 dc7 pm7 cd7 ct7 oc8 kV8 dc8 pm8 cd8 ct8 oc9 kV9 dc9 pm9 cd9 ct9 oc10 kV10 dc10 pm10 cd10 ct10 oc11 kV11 dc11 pm11 cd11 ct11 oc12 kV12 dc12 pm12 cd12 ct12 oc13 kV13 dc13 pm13 cd13 ct13 oc14 kV14 dc14 pm14 cd14 ct14 oc15 kV15 dc15 pm15 cd15 ct15 oc16 kV16 dc16 pm16 cd16 ct16 oc17 kV17 dc17 pm17 cd17 ct17 oc18 kV18 dc18 pm18 cd18 ct18 oc19 kV19 dc19 pm19 cd19 ct19 oc20 kV20 dc20 pm20 cd20 ct20 oc21 kV21 dc21 pm21 cd21 ct21 oc22 kV22 dc22 pm22 cd22 ct22 oc23 kV23 dc23 pm23 ct23 oc24 kV24 dc24 pm24 cd24 ct24 oc25 kV25 dc25 pm25 cd25 ct25 oc26 kV26 dc26 pm26 cd26 ct26 oc27 kV27 dc27 pm27 cd27 ct27 oc28 kV28 dc28 pm28 cd28 ct28 oc29 kV29 dc29 pm29 cd29 ct29 oc30 kV30 dc30 pm30 cd30 ct30 oc31 kV31 dc31 pm31 cd31 ct31 oc32 kV32 dc32 pm32 cd32 ct32 oc33 kV33 dc33 pm33 cd33 ct33 oc34 kV34 dc34 pm34 cd34 ct34 oc35 kV35 dc35 pm35 cd35 ct35 oc36 kV36 dc36 pm36 cd36 ct36 oc37 kV37 dc37 pm37 cd37 ct37 oc38 kV38 dc38 pm38 cd38 ct38 oc39 kV39 dc39 pm39 cd39 ct39 oc40 kV40 dc40 pm40 cd40 ct40 oc41 kV41 dc41 pm41 cd41 ct41 oc42 kV42 dc42 pm42 cd42 ct42 oc43 kV43 dc43 pm43 cd43 ct43 oc44 kV44 dc44 pm44 cd44 ct44 oc45 kV45 dc45 pm45 cd45 ct45 oc46 kV46 dc46 pm46 cd46 ct46 oc47 kV47 dc47 pm47 cd47 ct47 oc48 kV48 dc48 pm48 cd48 ct48 oc49 kV49 dc49 pm49 cd49 ct49 oc50 kV50 dc50 pm50 cd50 ct50 oc51 kV51 dc51 pm51 ct51 oc52 kV52 dc52 pm52 cd52 ct52 oc53 kV53 dc53 pm53 cd53 ct53 oc101 kV101 dc101 pm101 cd101 ct101 oc102 kV102 dc102 pm102 cd102 ct102 ot1 ot2 : Value} {nA0 nA1 nA2 nA3 nA4 nA5 nn1 nn2 : Nat} {tk1 tk2 tk3 tk5 tk6 tk7 tk8 tk9 tk10 tk11 tk12 tk13 tk14 : Nat}
    (c0 : PySem.W.nsIn K mainGlobals "BadRow" = some (some (.ref C0)))
    (c1 : PySem.W.nsIn K mainGlobals "BadPolynomial" = some (some (.ref C1)))
    (c2 : PySem.W.nsIn K mainGlobals "BadRanking" = some (some (.ref C2)))
    (c3 : PySem.W.nsIn K mainGlobals "BadChain" = some (some (.ref C3)))
    (c4 : PySem.W.nsIn K mainGlobals "BadData" = some (some (.ref C4)))
    (c5 : PySem.W.nsIn K mainGlobals "BadJet" = some (some (.ref C5)))
    (c6 : PySem.W.nsIn K mainGlobals "BadPaper" = some (some (.ref C6)))
    (c7 : PySem.W.nsIn K mainGlobals "NoUnknown" = some (some (.ref C7)))
    (c8 : PySem.W.nsIn K mainGlobals "NoEquation" = some (some (.ref C8)))
    (c9 : PySem.W.nsIn K mainGlobals "NoCase" = some (some (.ref C9)))
    (c10 : PySem.W.nsIn K mainGlobals "Contradicted" = some (some (.ref C10)))
    (c11 : PySem.W.nsIn K mainGlobals "Knotted" = some (some (.ref C11)))
    (c12 : PySem.W.nsIn K mainGlobals "Twice" = some (some (.ref C12)))
    (c13 : PySem.W.nsIn K mainGlobals "OutOfPlace" = some (some (.ref C13)))
    (c14 : PySem.W.nsIn K mainGlobals "TooGreat" = some (some (.ref C14)))
    (c15 : PySem.W.nsIn K mainGlobals "Nothing" = some (some (.ref C15)))
    (c16 : PySem.W.nsIn K mainGlobals "ChainError" = some (some (.ref C16)))
    (c17 : PySem.W.nsIn K mainGlobals "MissError" = some (some (.ref C17)))
    (c18 : PySem.W.nsIn K mainGlobals "CaseError" = some (some (.ref C18)))
    (a0 : PySem.W.nsIn K mainGlobals "_law_draw" = some (some (.ref f0)))
    (l0 : K.lookup f0 = some ⟨oc0, od0, .func (PySem.W.fnOf "_law_draw" "_law_draw" (defArgs s_Ldraw) (defBody s_Ldraw) (defScope s_Ldraw) .none kV0 dc0 pm0 an0 cd0 ct0), sl0⟩)
    (e0 : PySem.W.codeIn K cd0 "_law_draw" = true)
    (k0 : PySem.W.keepIn K (.ref f0) = true)
    (a1 : PySem.W.nsIn K mainGlobals "_law_mixed" = some (some (.ref f1)))
    (l1 : K.lookup f1 = some ⟨oc1, od1, .func (PySem.W.fnOf "_law_mixed" "_law_mixed" (defArgs s_Lmixed) (defBody s_Lmixed) (defScope s_Lmixed) .none kV1 dc1 pm1 an1 cd1 ct1), sl1⟩)
    (e1 : PySem.W.codeIn K cd1 "_law_mixed" = true)
    (k1 : PySem.W.keepIn K (.ref f1) = true)
    (a2 : PySem.W.nsIn K mainGlobals "_law_digit" = some (some (.ref f2)))
    (l2 : K.lookup f2 = some ⟨oc2, od2, .func (PySem.W.fnOf "_law_digit" "_law_digit" (defArgs s_Ldigit) (defBody s_Ldigit) (defScope s_Ldigit) .none kV2 dc2 pm2 an2 cd2 ct2), sl2⟩)
    (e2 : PySem.W.codeIn K cd2 "_law_digit" = true)
    (k2 : PySem.W.keepIn K (.ref f2) = true)
    (a3 : PySem.W.nsIn K mainGlobals "_law_word" = some (some (.ref f3)))
    (l3 : K.lookup f3 = some ⟨oc3, od3, .func (PySem.W.fnOf "_law_word" "_law_word" (defArgs s_Lword) (defBody s_Lword) (defScope s_Lword) .none kV3 dc3 pm3 an3 cd3 ct3), sl3⟩)
    (e3 : PySem.W.codeIn K cd3 "_law_word" = true)
    (k3 : PySem.W.keepIn K (.ref f3) = true)
    (a4 : PySem.W.nsIn K mainGlobals "_law_names" = some (some (.ref f4)))
    (l4 : K.lookup f4 = some ⟨oc4, od4, .func (PySem.W.fnOf "_law_names" "_law_names" (defArgs s_Lnames) (defBody s_Lnames) (defScope s_Lnames) .none kV4 dc4 pm4 an4 cd4 ct4), sl4⟩)
    (e4 : PySem.W.codeIn K cd4 "_law_names" = true)
    (k4 : PySem.W.keepIn K (.ref f4) = true)
    (a5 : PySem.W.nsIn K mainGlobals "_law_by" = some (some (.ref f5)))
    (l5 : K.lookup f5 = some ⟨oc5, od5, .func (PySem.W.fnOf "_law_by" "_law_by" (defArgs s_Lby) (defBody s_Lby) (defScope s_Lby) .none kV5 dc5 pm5 an5 cd5 ct5), sl5⟩)
    (e5 : PySem.W.codeIn K cd5 "_law_by" = true)
    (k5 : PySem.W.keepIn K (.ref f5) = true)
    (a6 : PySem.W.nsIn K mainGlobals "_law_derivative" = some (some (.ref f6)))
    (l6 : K.lookup f6 = some ⟨oc6, od6, .func (PySem.W.fnOf "_law_derivative" "_law_derivative" (defArgs s_Lderivative) (defBody s_Lderivative) (defScope s_Lderivative) .none kV6 dc6 pm6 an6 cd6 ct6), sl6⟩)
    (e6 : PySem.W.codeIn K cd6 "_law_derivative" = true)
    (k6 : PySem.W.keepIn K (.ref f6) = true)
    (a7 : PySem.W.nsIn K mainGlobals "_law_is_above" = some (some (.ref f7)))
    (l7 : K.lookup f7 = some ⟨oc7, od7, .func (PySem.W.fnOf "_law_is_above" "_law_is_above" (defArgs s_Lis_above) (defBody s_Lis_above) (defScope s_Lis_above) .none kV7 dc7 pm7 an7 cd7 ct7), sl7⟩)
    (e7 : PySem.W.codeIn K cd7 "_law_is_above" = true)
    (k7 : PySem.W.keepIn K (.ref f7) = true)
    (a8 : PySem.W.nsIn K mainGlobals "_law_comes" = some (some (.ref f8)))
    (l8 : K.lookup f8 = some ⟨oc8, od8, .func (PySem.W.fnOf "_law_comes" "_law_comes" (defArgs s_Lcomes) (defBody s_Lcomes) (defScope s_Lcomes) .none kV8 dc8 pm8 an8 cd8 ct8), sl8⟩)
    (e8 : PySem.W.codeIn K cd8 "_law_comes" = true)
    (k8 : PySem.W.keepIn K (.ref f8) = true)
    (a9 : PySem.W.nsIn K mainGlobals "_law_lowest" = some (some (.ref f9)))
    (l9 : K.lookup f9 = some ⟨oc9, od9, .func (PySem.W.fnOf "_law_lowest" "_law_lowest" (defArgs s_Llowest) (defBody s_Llowest) (defScope s_Llowest) .none kV9 dc9 pm9 an9 cd9 ct9), sl9⟩)
    (e9 : PySem.W.codeIn K cd9 "_law_lowest" = true)
    (k9 : PySem.W.keepIn K (.ref f9) = true)
    (a10 : PySem.W.nsIn K mainGlobals "_law_number" = some (some (.ref f10)))
    (l10 : K.lookup f10 = some ⟨oc10, od10, .func (PySem.W.fnOf "_law_number" "_law_number" (defArgs s_Lnumber) (defBody s_Lnumber) (defScope s_Lnumber) .none kV10 dc10 pm10 an10 cd10 ct10), sl10⟩)
    (e10 : PySem.W.codeIn K cd10 "_law_number" = true)
    (k10 : PySem.W.keepIn K (.ref f10) = true)
    (a11 : PySem.W.nsIn K mainGlobals "_law_added" = some (some (.ref f11)))
    (l11 : K.lookup f11 = some ⟨oc11, od11, .func (PySem.W.fnOf "_law_added" "_law_added" (defArgs s_Ladded) (defBody s_Ladded) (defScope s_Ladded) .none kV11 dc11 pm11 an11 cd11 ct11), sl11⟩)
    (e11 : PySem.W.codeIn K cd11 "_law_added" = true)
    (k11 : PySem.W.keepIn K (.ref f11) = true)
    (a12 : PySem.W.nsIn K mainGlobals "_law_monomial" = some (some (.ref f12)))
    (l12 : K.lookup f12 = some ⟨oc12, od12, .func (PySem.W.fnOf "_law_monomial" "_law_monomial" (defArgs s_Lmonomial) (defBody s_Lmonomial) (defScope s_Lmonomial) .none kV12 dc12 pm12 an12 cd12 ct12), sl12⟩)
    (e12 : PySem.W.codeIn K cd12 "_law_monomial" = true)
    (k12 : PySem.W.keepIn K (.ref f12) = true)
    (a13 : PySem.W.nsIn K mainGlobals "_law_below" = some (some (.ref f13)))
    (l13 : K.lookup f13 = some ⟨oc13, od13, .func (PySem.W.fnOf "_law_below" "_law_below" (defArgs s_Lbelow) (defBody s_Lbelow) (defScope s_Lbelow) .none kV13 dc13 pm13 an13 cd13 ct13), sl13⟩)
    (e13 : PySem.W.codeIn K cd13 "_law_below" = true)
    (k13 : PySem.W.keepIn K (.ref f13) = true)
    (a14 : PySem.W.nsIn K mainGlobals "_law_chain" = some (some (.ref f14)))
    (l14 : K.lookup f14 = some ⟨oc14, od14, .func (PySem.W.fnOf "_law_chain" "_law_chain" (defArgs s_Lchain) (defBody s_Lchain) (defScope s_Lchain) .none kV14 dc14 pm14 an14 cd14 ct14), sl14⟩)
    (e14 : PySem.W.codeIn K cd14 "_law_chain" = true)
    (k14 : PySem.W.keepIn K (.ref f14) = true)
    (a15 : PySem.W.nsIn K mainGlobals "is_name" = some (some (.ref f15)))
    (l15 : K.lookup f15 = some ⟨oc15, od15, .func (PySem.W.fnOf "is_name" "is_name" (defArgs s_is_name) (defBody s_is_name) (defScope s_is_name) .none kV15 dc15 pm15 an15 cd15 ct15), sl15⟩)
    (e15 : PySem.W.codeIn K cd15 "is_name" = true)
    (k15 : PySem.W.keepIn K (.ref f15) = true)
    (a16 : PySem.W.nsIn K mainGlobals "_are_names" = some (some (.ref f16)))
    (l16 : K.lookup f16 = some ⟨oc16, od16, .func (PySem.W.fnOf "_are_names" "_are_names" (defArgs s__are_names) (defBody s__are_names) (defScope s__are_names) .none kV16 dc16 pm16 an16 cd16 ct16), sl16⟩)
    (e16 : PySem.W.codeIn K cd16 "_are_names" = true)
    (k16 : PySem.W.keepIn K (.ref f16) = true)
    (a17 : PySem.W.nsIn K mainGlobals "is_axis" = some (some (.ref f17)))
    (l17 : K.lookup f17 = some ⟨oc17, od17, .func (PySem.W.fnOf "is_axis" "is_axis" (defArgs s_is_axis) (defBody s_is_axis) (defScope s_is_axis) .none kV17 dc17 pm17 an17 cd17 ct17), sl17⟩)
    (e17 : PySem.W.codeIn K cd17 "is_axis" = true)
    (k17 : PySem.W.keepIn K (.ref f17) = true)
    (a18 : PySem.W.nsIn K mainGlobals "_are_axes" = some (some (.ref f18)))
    (l18 : K.lookup f18 = some ⟨oc18, od18, .func (PySem.W.fnOf "_are_axes" "_are_axes" (defArgs s__are_axes) (defBody s__are_axes) (defScope s__are_axes) .none kV18 dc18 pm18 an18 cd18 ct18), sl18⟩)
    (e18 : PySem.W.codeIn K cd18 "_are_axes" = true)
    (k18 : PySem.W.keepIn K (.ref f18) = true)
    (a19 : PySem.W.nsIn K mainGlobals "need_ranking" = some (some (.ref f19)))
    (l19 : K.lookup f19 = some ⟨oc19, od19, .func (PySem.W.fnOf "need_ranking" "need_ranking" (defArgs s_need_ranking) (defBody s_need_ranking) (defScope s_need_ranking) .none kV19 dc19 pm19 an19 cd19 ct19), sl19⟩)
    (e19 : PySem.W.codeIn K cd19 "need_ranking" = true)
    (k19 : PySem.W.keepIn K (.ref f19) = true)
    (a20 : PySem.W.nsIn K mainGlobals "is_whole" = some (some (.ref f20)))
    (l20 : K.lookup f20 = some ⟨oc20, od20, .func (PySem.W.fnOf "is_whole" "is_whole" (defArgs s_is_whole) (defBody s_is_whole) (defScope s_is_whole) .none kV20 dc20 pm20 an20 cd20 ct20), sl20⟩)
    (e20 : PySem.W.codeIn K cd20 "is_whole" = true)
    (k20 : PySem.W.keepIn K (.ref f20) = true)
    (a21 : PySem.W.nsIn K mainGlobals "is_among" = some (some (.ref f21)))
    (l21 : K.lookup f21 = some ⟨oc21, od21, .func (PySem.W.fnOf "is_among" "is_among" (defArgs s_is_among) (defBody s_is_among) (defScope s_is_among) .none kV21 dc21 pm21 an21 cd21 ct21), sl21⟩)
    (e21 : PySem.W.codeIn K cd21 "is_among" = true)
    (k21 : PySem.W.keepIn K (.ref f21) = true)
    (a22 : PySem.W.nsIn K mainGlobals "rank_key" = some (some (.ref f22)))
    (l22 : K.lookup f22 = some ⟨oc22, od22, .func (PySem.W.fnOf "rank_key" "rank_key" (defArgs s_rank_key) (defBody s_rank_key) (defScope s_rank_key) .none kV22 dc22 pm22 an22 cd22 ct22), sl22⟩)
    (e22 : PySem.W.codeIn K cd22 "rank_key" = true)
    (k22 : PySem.W.keepIn K (.ref f22) = true)
    (a23 : PySem.W.nsIn K mainGlobals "rising" = some (some (.ref f23)))
    (l23 : K.lookup f23 = some ⟨oc23, od23, .func (PySem.W.fnOf "rising" "rising" (defArgs s_rising) (defBody s_rising) (defScope s_rising) .none kV23 dc23 pm23 an23 (.ref cc1) ct23), sl23⟩)
    (e23 : PySem.W.codeIn K (.ref cc1) "rising" = true)
    (k23 : PySem.W.keepIn K (.ref f23) = true)
    (a24 : PySem.W.nsIn K mainGlobals "all_to" = some (some (.ref f24)))
    (l24 : K.lookup f24 = some ⟨oc24, od24, .func (PySem.W.fnOf "all_to" "all_to" (defArgs s_all_to) (defBody s_all_to) (defScope s_all_to) .none kV24 dc24 pm24 an24 cd24 ct24), sl24⟩)
    (e24 : PySem.W.codeIn K cd24 "all_to" = true)
    (k24 : PySem.W.keepIn K (.ref f24) = true)
    (a25 : PySem.W.nsIn K mainGlobals "is_derivative" = some (some (.ref f25)))
    (l25 : K.lookup f25 = some ⟨oc25, od25, .func (PySem.W.fnOf "is_derivative" "is_derivative" (defArgs s_is_derivative) (defBody s_is_derivative) (defScope s_is_derivative) .none kV25 dc25 pm25 an25 cd25 ct25), sl25⟩)
    (e25 : PySem.W.codeIn K cd25 "is_derivative" = true)
    (k25 : PySem.W.keepIn K (.ref f25) = true)
    (a26 : PySem.W.nsIn K mainGlobals "_stands_there" = some (some (.ref f26)))
    (l26 : K.lookup f26 = some ⟨oc26, od26, .func (PySem.W.fnOf "_stands_there" "_stands_there" (defArgs s__stands_there) (defBody s__stands_there) (defScope s__stands_there) .none kV26 dc26 pm26 an26 cd26 ct26), sl26⟩)
    (e26 : PySem.W.codeIn K cd26 "_stands_there" = true)
    (k26 : PySem.W.keepIn K (.ref f26) = true)
    (a27 : PySem.W.nsIn K mainGlobals "derivative_fits" = some (some (.ref f27)))
    (l27 : K.lookup f27 = some ⟨oc27, od27, .func (PySem.W.fnOf "derivative_fits" "derivative_fits" (defArgs s_derivative_fits) (defBody s_derivative_fits) (defScope s_derivative_fits) .none kV27 dc27 pm27 an27 cd27 ct27), sl27⟩)
    (e27 : PySem.W.codeIn K cd27 "derivative_fits" = true)
    (k27 : PySem.W.keepIn K (.ref f27) = true)
    (a28 : PySem.W.nsIn K mainGlobals "_is_powered" = some (some (.ref f28)))
    (l28 : K.lookup f28 = some ⟨oc28, od28, .func (PySem.W.fnOf "_is_powered" "_is_powered" (defArgs s__is_powered) (defBody s__is_powered) (defScope s__is_powered) .none kV28 dc28 pm28 an28 cd28 ct28), sl28⟩)
    (e28 : PySem.W.codeIn K cd28 "_is_powered" = true)
    (k28 : PySem.W.keepIn K (.ref f28) = true)
    (a29 : PySem.W.nsIn K mainGlobals "is_monomial" = some (some (.ref f29)))
    (l29 : K.lookup f29 = some ⟨oc29, od29, .func (PySem.W.fnOf "is_monomial" "is_monomial" (defArgs s_is_monomial) (defBody s_is_monomial) (defScope s_is_monomial) .none kV29 dc29 pm29 an29 cd29 ct29), sl29⟩)
    (e29 : PySem.W.codeIn K cd29 "is_monomial" = true)
    (k29 : PySem.W.keepIn K (.ref f29) = true)
    (a30 : PySem.W.nsIn K mainGlobals "is_fraction" = some (some (.ref f30)))
    (l30 : K.lookup f30 = some ⟨oc30, od30, .func (PySem.W.fnOf "is_fraction" "is_fraction" (defArgs s_is_fraction) (defBody s_is_fraction) (defScope s_is_fraction) .none kV30 dc30 pm30 an30 cd30 ct30), sl30⟩)
    (e30 : PySem.W.codeIn K cd30 "is_fraction" = true)
    (k30 : PySem.W.keepIn K (.ref f30) = true)
    (a31 : PySem.W.nsIn K mainGlobals "_is_term" = some (some (.ref f31)))
    (l31 : K.lookup f31 = some ⟨oc31, od31, .func (PySem.W.fnOf "_is_term" "_is_term" (defArgs s__is_term) (defBody s__is_term) (defScope s__is_term) .none kV31 dc31 pm31 an31 cd31 ct31), sl31⟩)
    (e31 : PySem.W.codeIn K cd31 "_is_term" = true)
    (k31 : PySem.W.keepIn K (.ref f31) = true)
    (a32 : PySem.W.nsIn K mainGlobals "need_polynomial" = some (some (.ref f32)))
    (l32 : K.lookup f32 = some ⟨oc32, od32, .func (PySem.W.fnOf "need_polynomial" "need_polynomial" (defArgs s_need_polynomial) (defBody s_need_polynomial) (defScope s_need_polynomial) .none kV32 dc32 pm32 an32 cd32 ct32), sl32⟩)
    (e32 : PySem.W.codeIn K cd32 "need_polynomial" = true)
    (k32 : PySem.W.keepIn K (.ref f32) = true)
    (a33 : PySem.W.nsIn K mainGlobals "is_polynomial" = some (some (.ref f33)))
    (l33 : K.lookup f33 = some ⟨oc33, od33, .func (PySem.W.fnOf "is_polynomial" "is_polynomial" (defArgs s_is_polynomial) (defBody s_is_polynomial) (defScope s_is_polynomial) .none kV33 dc33 pm33 an33 cd33 ct33), sl33⟩)
    (e33 : PySem.W.codeIn K cd33 "is_polynomial" = true)
    (k33 : PySem.W.keepIn K (.ref f33) = true)
    (a34 : PySem.W.nsIn K mainGlobals "derivatives_in" = some (some (.ref f34)))
    (l34 : K.lookup f34 = some ⟨oc34, od34, .func (PySem.W.fnOf "derivatives_in" "derivatives_in" (defArgs s_derivatives_in) (defBody s_derivatives_in) (defScope s_derivatives_in) .none kV34 dc34 pm34 an34 cd34 ct34), sl34⟩)
    (e34 : PySem.W.codeIn K cd34 "derivatives_in" = true)
    (k34 : PySem.W.keepIn K (.ref f34) = true)
    (a35 : PySem.W.nsIn K mainGlobals "polynomial_fits" = some (some (.ref f35)))
    (l35 : K.lookup f35 = some ⟨oc35, od35, .func (PySem.W.fnOf "polynomial_fits" "polynomial_fits" (defArgs s_polynomial_fits) (defBody s_polynomial_fits) (defScope s_polynomial_fits) .none kV35 dc35 pm35 an35 cd35 ct35), sl35⟩)
    (e35 : PySem.W.codeIn K cd35 "polynomial_fits" = true)
    (k35 : PySem.W.keepIn K (.ref f35) = true)
    (a36 : PySem.W.nsIn K mainGlobals "is_pair" = some (some (.ref f36)))
    (l36 : K.lookup f36 = some ⟨oc36, od36, .func (PySem.W.fnOf "is_pair" "is_pair" (defArgs s_is_pair) (defBody s_is_pair) (defScope s_is_pair) .none kV36 dc36 pm36 an36 cd36 ct36), sl36⟩)
    (e36 : PySem.W.codeIn K cd36 "is_pair" = true)
    (k36 : PySem.W.keepIn K (.ref f36) = true)
    (a37 : PySem.W.nsIn K mainGlobals "_refuse_first" = some (some (.ref f37)))
    (l37 : K.lookup f37 = some ⟨oc37, od37, .func (PySem.W.fnOf "_refuse_first" "_refuse_first" (defArgs s__refuse_first) (defBody s__refuse_first) (defScope s__refuse_first) .none kV37 dc37 pm37 an37 cd37 ct37), sl37⟩)
    (e37 : PySem.W.codeIn K cd37 "_refuse_first" = true)
    (k37 : PySem.W.keepIn K (.ref f37) = true)
    (a38 : PySem.W.nsIn K mainGlobals "way_to" = some (some (.ref f38)))
    (l38 : K.lookup f38 = some ⟨oc38, od38, .func (PySem.W.fnOf "way_to" "way_to" (defArgs s_way_to) (defBody s_way_to) (defScope s_way_to) .none kV38 dc38 pm38 an38 cd38 ct38), sl38⟩)
    (e38 : PySem.W.codeIn K cd38 "way_to" = true)
    (k38 : PySem.W.keepIn K (.ref f38) = true)
    (a39 : PySem.W.nsIn K mainGlobals "_is_derived_of" = some (some (.ref f39)))
    (l39 : K.lookup f39 = some ⟨oc39, od39, .func (PySem.W.fnOf "_is_derived_of" "_is_derived_of" (defArgs s__is_derived_of) (defBody s__is_derived_of) (defScope s__is_derived_of) .none kV39 dc39 pm39 an39 cd39 ct39), sl39⟩)
    (e39 : PySem.W.codeIn K cd39 "_is_derived_of" = true)
    (k39 : PySem.W.keepIn K (.ref f39) = true)
    (a40 : PySem.W.nsIn K mainGlobals "_is_below" = some (some (.ref f40)))
    (l40 : K.lookup f40 = some ⟨oc40, od40, .func (PySem.W.fnOf "_is_below" "_is_below" (defArgs s__is_below) (defBody s__is_below) (defScope s__is_below) .none kV40 dc40 pm40 an40 cd40 ct40), sl40⟩)
    (e40 : PySem.W.codeIn K cd40 "_is_below" = true)
    (k40 : PySem.W.keepIn K (.ref f40) = true)
    (a41 : PySem.W.nsIn K mainGlobals "first_by" = some (some (.ref f41)))
    (l41 : K.lookup f41 = some ⟨oc41, od41, .func (PySem.W.fnOf "first_by" "first_by" (defArgs s_first_by) (defBody s_first_by) (defScope s_first_by) .none kV41 dc41 pm41 an41 cd41 ct41), sl41⟩)
    (e41 : PySem.W.codeIn K cd41 "first_by" = true)
    (k41 : PySem.W.keepIn K (.ref f41) = true)
    (a42 : PySem.W.nsIn K mainGlobals "_is_free_of" = some (some (.ref f42)))
    (l42 : K.lookup f42 = some ⟨oc42, od42, .func (PySem.W.fnOf "_is_free_of" "_is_free_of" (defArgs s__is_free_of) (defBody s__is_free_of) (defScope s__is_free_of) .none kV42 dc42 pm42 an42 cd42 ct42), sl42⟩)
    (e42 : PySem.W.codeIn K cd42 "_is_free_of" = true)
    (k42 : PySem.W.keepIn K (.ref f42) = true)
    (a43 : PySem.W.nsIn K mainGlobals "need_chain" = some (some (.ref f43)))
    (l43 : K.lookup f43 = some ⟨oc43, od43, .func (PySem.W.fnOf "need_chain" "need_chain" (defArgs s_need_chain) (defBody s_need_chain) (defScope s_need_chain) .none kV43 dc43 pm43 an43 cd43 ct43), sl43⟩)
    (e43 : PySem.W.codeIn K cd43 "need_chain" = true)
    (k43 : PySem.W.keepIn K (.ref f43) = true)
    (a44 : PySem.W.nsIn K mainGlobals "need_derivative" = some (some (.ref f44)))
    (l44 : K.lookup f44 = some ⟨oc44, od44, .func (PySem.W.fnOf "need_derivative" "need_derivative" (defArgs s_need_derivative) (defBody s_need_derivative) (defScope s_need_derivative) .none kV44 dc44 pm44 an44 cd44 ct44), sl44⟩)
    (e44 : PySem.W.codeIn K cd44 "need_derivative" = true)
    (k44 : PySem.W.keepIn K (.ref f44) = true)
    (a45 : PySem.W.nsIn K mainGlobals "principal_by" = some (some (.ref f45)))
    (l45 : K.lookup f45 = some ⟨oc45, od45, .func (PySem.W.fnOf "principal_by" "principal_by" (defArgs s_principal_by) (defBody s_principal_by) (defScope s_principal_by) .none kV45 dc45 pm45 an45 cd45 ct45), sl45⟩)
    (e45 : PySem.W.codeIn K cd45 "principal_by" = true)
    (k45 : PySem.W.keepIn K (.ref f45) = true)
    (a46 : PySem.W.nsIn K mainGlobals "_need_derivatives" = some (some (.ref f46)))
    (l46 : K.lookup f46 = some ⟨oc46, od46, .func (PySem.W.fnOf "_need_derivatives" "_need_derivatives" (defArgs s__need_derivatives) (defBody s__need_derivatives) (defScope s__need_derivatives) .none kV46 dc46 pm46 an46 cd46 ct46), sl46⟩)
    (e46 : PySem.W.codeIn K cd46 "_need_derivatives" = true)
    (k46 : PySem.W.keepIn K (.ref f46) = true)
    (a47 : PySem.W.nsIn K mainGlobals "derived_by" = some (some (.ref f47)))
    (l47 : K.lookup f47 = some ⟨oc47, od47, .func (PySem.W.fnOf "derived_by" "derived_by" (defArgs s_derived_by) (defBody s_derived_by) (defScope s_derived_by) .none kV47 dc47 pm47 an47 cd47 ct47), sl47⟩)
    (e47 : PySem.W.codeIn K cd47 "derived_by" = true)
    (k47 : PySem.W.keepIn K (.ref f47) = true)
    (a48 : PySem.W.nsIn K mainGlobals "least_common" = some (some (.ref f48)))
    (l48 : K.lookup f48 = some ⟨oc48, od48, .func (PySem.W.fnOf "least_common" "least_common" (defArgs s_least_common) (defBody s_least_common) (defScope s_least_common) .none kV48 dc48 pm48 an48 cd48 ct48), sl48⟩)
    (e48 : PySem.W.codeIn K cd48 "least_common" = true)
    (k48 : PySem.W.keepIn K (.ref f48) = true)
    (a49 : PySem.W.nsIn K mainGlobals "_law_kinds" = some (some (.ref f49)))
    (l49 : K.lookup f49 = some ⟨oc49, od49, .func (PySem.W.fnOf "_law_kinds" "_law_kinds" (defArgs s_Lkinds) (defBody s_Lkinds) (defScope s_Lkinds) .none kV49 dc49 pm49 an49 cd49 ct49), sl49⟩)
    (e49 : PySem.W.codeIn K cd49 "_law_kinds" = true)
    (k49 : PySem.W.keepIn K (.ref f49) = true)
    (a50 : PySem.W.nsIn K mainGlobals "_law_told" = some (some (.ref f50)))
    (l50 : K.lookup f50 = some ⟨oc50, od50, .func (PySem.W.fnOf "_law_told" "_law_told" (defArgs s_Ltold) (defBody s_Ltold) (defScope s_Ltold) .none kV50 dc50 pm50 an50 cd50 ct50), sl50⟩)
    (e50 : PySem.W.codeIn K cd50 "_law_told" = true)
    (k50 : PySem.W.keepIn K (.ref f50) = true)
    (a51 : PySem.W.nsIn K mainGlobals "_law_refused_right" = some (some (.ref f51)))
    (l51 : K.lookup f51 = some ⟨oc51, od51, .func (PySem.W.fnOf "_law_refused_right" "_law_refused_right" (defArgs s_Lrefused_right) (defBody s_Lrefused_right) (defScope s_Lrefused_right) .none kV51 dc51 pm51 an51 (.ref cc2) ct51), sl51⟩)
    (e51 : PySem.W.codeIn K (.ref cc2) "_law_refused_right" = true)
    (k51 : PySem.W.keepIn K (.ref f51) = true)
    (a52 : PySem.W.nsIn K mainGlobals "_law_pair_right" = some (some (.ref f52)))
    (l52 : K.lookup f52 = some ⟨oc52, od52, .func (PySem.W.fnOf "_law_pair_right" "_law_pair_right" (defArgs s_Lpair_right) (defBody s_Lpair_right) (defScope s_Lpair_right) .none kV52 dc52 pm52 an52 cd52 ct52), sl52⟩)
    (e52 : PySem.W.codeIn K cd52 "_law_pair_right" = true)
    (k52 : PySem.W.keepIn K (.ref f52) = true)
    (a53 : PySem.W.nsIn K mainGlobals "law" = some (some (.ref f53)))
    (l53 : K.lookup f53 = some ⟨oc53, od53, .func (PySem.W.fnOf "law" "law" (defArgs s_law) (defBody s_law) (defScope s_law) .none kV53 dc53 pm53 an53 cd53 ct53), sl53⟩)
    (e53 : PySem.W.codeIn K cd53 "law" = true)
    (k53 : PySem.W.keepIn K (.ref f53) = true)
    (i1 : PySem.W.findIn K (.ref C1) "__init__" = some (some (.ref f101)))
    (l101 : K.lookup f101 = some ⟨oc101, od101, .func (PySem.W.fnOf "__init__" "BadPolynomial.__init__" (defArgs s_BadPolynomial) (defBody s_BadPolynomial) (defScope s_BadPolynomial) (.ref T1) kV101 dc101 pm101 an101 cd101 ct101), sl101⟩)
    (e101 : PySem.W.codeIn K cd101 "BadPolynomial.__init__" = true)
    (k101 : PySem.W.keepIn K (.ref f101) = true)
    (t101 : PySem.W.typeIn K (.ref f101) = some (.type "function"))
    (dt1 : K.lookup T1 = some ⟨ot1, dd1, .seq #[.none] nn1, ss1⟩)
    (i2 : PySem.W.findIn K (.ref C2) "__init__" = some (some (.ref f102)))
    (l102 : K.lookup f102 = some ⟨oc102, od102, .func (PySem.W.fnOf "__init__" "BadRanking.__init__" (defArgs s_BadRanking) (defBody s_BadRanking) (defScope s_BadRanking) (.ref T2) kV102 dc102 pm102 an102 cd102 ct102), sl102⟩)
    (e102 : PySem.W.codeIn K cd102 "BadRanking.__init__" = true)
    (k102 : PySem.W.keepIn K (.ref f102) = true)
    (t102 : PySem.W.typeIn K (.ref f102) = some (.type "function"))
    (dt2 : K.lookup T2 = some ⟨ot2, dd2, .seq #[.none] nn2, ss2⟩)
    (n0_row : PySem.W.findIn K (.ref C0) "row" = some none)
    (n0_word : PySem.W.findIn K (.ref C0) "word" = some none)
    (n1_number : PySem.W.findIn K (.ref C1) "number" = some none)
    (n2_place : PySem.W.findIn K (.ref C2) "place" = some none)
    (n3_place : PySem.W.findIn K (.ref C3) "place" = some none)
    (n4_place : PySem.W.findIn K (.ref C4) "place" = some none)
    (n5_place : PySem.W.findIn K (.ref C5) "place" = some none)
    (n6_place : PySem.W.findIn K (.ref C6) "place" = some none)
    (n7_name : PySem.W.findIn K (.ref C7) "name" = some none)
    (n8_number : PySem.W.findIn K (.ref C8) "number" = some none)
    (n9_number : PySem.W.findIn K (.ref C9) "number" = some none)
    (n10_number : PySem.W.findIn K (.ref C10) "number" = some none)
    (n11_number : PySem.W.findIn K (.ref C11) "number" = some none)
    (x0 : xcB K C0 (bmI 0) (nwI 0) = true)
    (x1 : xcB K C1 (bmI 1) (nwI 1) = true)
    (x2 : xcB K C2 (bmI 2) (nwI 2) = true)
    (x3 : xcB K C3 (bmI 3) (nwI 3) = true)
    (x4 : xcB K C4 (bmI 4) (nwI 4) = true)
    (x5 : xcB K C5 (bmI 5) (nwI 5) = true)
    (x6 : xcB K C6 (bmI 6) (nwI 6) = true)
    (x7 : xcB K C7 (bmI 7) (nwI 7) = true)
    (x8 : xcB K C8 (bmI 8) (nwI 8) = true)
    (x9 : xcB K C9 (bmI 9) (nwI 9) = true)
    (x10 : xcB K C10 (bmI 10) (nwI 10) = true)
    (x11 : xcB K C11 (bmI 11) (nwI 11) = true)
    (x12 : xcB K C12 (bmI 12) (nwI 12) = true)
    (q12 : PySem.W.excIn K C12 (bmI 12) (nwI 12) = true)
    (x13 : xcB K C13 (bmI 13) (nwI 13) = true)
    (q13 : PySem.W.excIn K C13 (bmI 13) (nwI 13) = true)
    (x14 : xcB K C14 (bmI 14) (nwI 14) = true)
    (q14 : PySem.W.excIn K C14 (bmI 14) (nwI 14) = true)
    (x15 : xcB K C15 (bmI 15) (nwI 15) = true)
    (q15 : PySem.W.excIn K C15 (bmI 15) (nwI 15) = true)
    (kt0 : (testsOf (cxOfL [C0, C1, C2, C3, C4, C5, C6, C7, C8, C9, C10, C11, C12, C13, C14, C15, C16, C17, C18])).map (PySem.W.kitOne K (.ref C0)) = (kb 0).map some)
    (kt1 : (testsOf (cxOfL [C0, C1, C2, C3, C4, C5, C6, C7, C8, C9, C10, C11, C12, C13, C14, C15, C16, C17, C18])).map (PySem.W.kitOne K (.ref C1)) = (kb 1).map some)
    (kt2 : (testsOf (cxOfL [C0, C1, C2, C3, C4, C5, C6, C7, C8, C9, C10, C11, C12, C13, C14, C15, C16, C17, C18])).map (PySem.W.kitOne K (.ref C2)) = (kb 2).map some)
    (kt3 : (testsOf (cxOfL [C0, C1, C2, C3, C4, C5, C6, C7, C8, C9, C10, C11, C12, C13, C14, C15, C16, C17, C18])).map (PySem.W.kitOne K (.ref C3)) = (kb 3).map some)
    (kt4 : (testsOf (cxOfL [C0, C1, C2, C3, C4, C5, C6, C7, C8, C9, C10, C11, C12, C13, C14, C15, C16, C17, C18])).map (PySem.W.kitOne K (.ref C4)) = (kb 4).map some)
    (kt5 : (testsOf (cxOfL [C0, C1, C2, C3, C4, C5, C6, C7, C8, C9, C10, C11, C12, C13, C14, C15, C16, C17, C18])).map (PySem.W.kitOne K (.ref C5)) = (kb 5).map some)
    (kt6 : (testsOf (cxOfL [C0, C1, C2, C3, C4, C5, C6, C7, C8, C9, C10, C11, C12, C13, C14, C15, C16, C17, C18])).map (PySem.W.kitOne K (.ref C6)) = (kb 6).map some)
    (kt7 : (testsOf (cxOfL [C0, C1, C2, C3, C4, C5, C6, C7, C8, C9, C10, C11, C12, C13, C14, C15, C16, C17, C18])).map (PySem.W.kitOne K (.ref C7)) = (kb 7).map some)
    (kt8 : (testsOf (cxOfL [C0, C1, C2, C3, C4, C5, C6, C7, C8, C9, C10, C11, C12, C13, C14, C15, C16, C17, C18])).map (PySem.W.kitOne K (.ref C8)) = (kb 8).map some)
    (kt9 : (testsOf (cxOfL [C0, C1, C2, C3, C4, C5, C6, C7, C8, C9, C10, C11, C12, C13, C14, C15, C16, C17, C18])).map (PySem.W.kitOne K (.ref C9)) = (kb 9).map some)
    (kt10 : (testsOf (cxOfL [C0, C1, C2, C3, C4, C5, C6, C7, C8, C9, C10, C11, C12, C13, C14, C15, C16, C17, C18])).map (PySem.W.kitOne K (.ref C10)) = (kb 10).map some)
    (kt11 : (testsOf (cxOfL [C0, C1, C2, C3, C4, C5, C6, C7, C8, C9, C10, C11, C12, C13, C14, C15, C16, C17, C18])).map (PySem.W.kitOne K (.ref C11)) = (kb 11).map some)
    (kt12 : (testsOf (cxOfL [C0, C1, C2, C3, C4, C5, C6, C7, C8, C9, C10, C11, C12, C13, C14, C15, C16, C17, C18])).map (PySem.W.kitOne K (.ref C12)) = (kb 12).map some)
    (kt13 : (testsOf (cxOfL [C0, C1, C2, C3, C4, C5, C6, C7, C8, C9, C10, C11, C12, C13, C14, C15, C16, C17, C18])).map (PySem.W.kitOne K (.ref C13)) = (kb 13).map some)
    (kt14 : (testsOf (cxOfL [C0, C1, C2, C3, C4, C5, C6, C7, C8, C9, C10, C11, C12, C13, C14, C15, C16, C17, C18])).map (PySem.W.kitOne K (.ref C14)) = (kb 14).map some)
    (kt15 : (testsOf (cxOfL [C0, C1, C2, C3, C4, C5, C6, C7, C8, C9, C10, C11, C12, C13, C14, C15, C16, C17, C18])).map (PySem.W.kitOne K (.ref C15)) = (kb 15).map some)
    (s16 : PySem.W.specialIn K (.ref C16) "__getattribute__" = some (some (.builtin "type.__getattribute__")))
    (r16 : PySem.W.readsIn K C16 (.type "type") = true)
    (y16 : PySem.W.findCls K (.ref C16) (.type "type") "__init__" = some (.val (.builtin "ValueError.__init__")))
    (z16 : PySem.W.handedIn (.builtin "ValueError.__init__") = true)
    (ty1 : PySem.W.typeIn K (.ref C1) = some (.type "type"))
    (ty2 : PySem.W.typeIn K (.ref C2) = some (.type "type"))
    (ty13 : PySem.W.typeIn K (.ref C13) = some (.type "type"))
    (xm0 : PySem.W.exmOne K (.ref C0) (.ref C16) = some true)
    (xm1 : PySem.W.exmOne K (.ref C1) (.ref C16) = some true)
    (xm2 : PySem.W.exmOne K (.ref C2) (.ref C16) = some true)
    (xm3 : PySem.W.exmOne K (.ref C3) (.ref C16) = some true)
    (xm4 : PySem.W.exmOne K (.ref C4) (.ref C16) = some true)
    (xm5 : PySem.W.exmOne K (.ref C5) (.ref C16) = some true)
    (xm6 : PySem.W.exmOne K (.ref C6) (.ref C16) = some true)
    (xm12 : PySem.W.exmOne K (.ref C12) (.ref C16) = some true)
    (xm13 : PySem.W.exmOne K (.ref C13) (.ref C16) = some true)
    (xm14 : PySem.W.exmOne K (.ref C14) (.ref C16) = some true)
    (xBP : PySem.W.exmOne K (.ref C1) (.ref C1) = some true)
    (kOP : PySem.W.keepIn K (.ref C13) = true)
    (n_LookupError : PySem.W.nsIn K mainGlobals "LookupError" = some none)
    (n_RuntimeError : PySem.W.nsIn K mainGlobals "RuntimeError" = some none)
    (n_ValueError : PySem.W.nsIn K mainGlobals "ValueError" = some none)
    (n_abs : PySem.W.nsIn K mainGlobals "abs" = some none)
    (n_all : PySem.W.nsIn K mainGlobals "all" = some none)
    (n_any : PySem.W.nsIn K mainGlobals "any" = some none)
    (n_bool : PySem.W.nsIn K mainGlobals "bool" = some none)
    (n_dict : PySem.W.nsIn K mainGlobals "dict" = some none)
    (n_enumerate : PySem.W.nsIn K mainGlobals "enumerate" = some none)
    (n_int : PySem.W.nsIn K mainGlobals "int" = some none)
    (n_isinstance : PySem.W.nsIn K mainGlobals "isinstance" = some none)
    (n_len : PySem.W.nsIn K mainGlobals "len" = some none)
    (n_list : PySem.W.nsIn K mainGlobals "list" = some none)
    (n_max : PySem.W.nsIn K mainGlobals "max" = some none)
    (n_range : PySem.W.nsIn K mainGlobals "range" = some none)
    (n_repr : PySem.W.nsIn K mainGlobals "repr" = some none)
    (n_set : PySem.W.nsIn K mainGlobals "set" = some none)
    (n_sorted : PySem.W.nsIn K mainGlobals "sorted" = some none)
    (n_str : PySem.W.nsIn K mainGlobals "str" = some none)
    (n_sum : PySem.W.nsIn K mainGlobals "sum" = some none)
    (n_tuple : PySem.W.nsIn K mainGlobals "tuple" = some none)
    (gML : PySem.W.nsIn K mainGlobals "MOST_LETTERS" = some (some (.int 8 tk1)))
    (gLE : PySem.W.nsIn K mainGlobals "LETTERS" = some (some (.str "abcdefghijklmnopqrstuvwxyz" tk2)))
    (gMN : PySem.W.nsIn K mainGlobals "MOST_NAMES" = some (some (.int 3 tk3)))
    (gGC : PySem.W.nsIn K mainGlobals "gcd" = some (some (.builtin "math.gcd")))
    (gAX : PySem.W.nsIn K mainGlobals "AXES" = some (some (.ref aA)))
    (vAX : K.lookup aA = some ⟨.type "tuple", dA0, .seq #[.str "x" tk5, .str "y" tk6] nA0, sA0⟩)
    (gSO : PySem.W.nsIn K mainGlobals "SORTS" = some (some (.ref aS)))
    (vSO : K.lookup aS = some ⟨.type "tuple", dA1, .seq #[.str "total" tk7, .str "names" tk8] nA1, sA1⟩)
    (gAL : PySem.W.nsIn K mainGlobals "AXES_ALL" = some (some (.ref aL)))
    (vAL : K.lookup aL = some ⟨.type "tuple", dA2, .seq #[.ref q1, .ref q2, .ref q3] nA2, sA2⟩)
    (vb1 : K.lookup q1 = some ⟨.type "tuple", dA3, .seq #[.str "x" tk9] nA3, sA3⟩)
    (vb2 : K.lookup q2 = some ⟨.type "tuple", dA4, .seq #[.str "x" tk10, .str "y" tk11] nA4, sA4⟩)
    (gMO : PySem.W.nsIn K mainGlobals "MOST_ORDER" = some (some (.int 12 tk14)))
    (vb3 : K.lookup q3 = some ⟨.type "tuple", dA5, .seq #[.str "y" tk12, .str "x" tk13] nA5, sA5⟩)
    (hcd1 : PySem.W.codeHdIn K cc1 tb1 = true)
    (htn1 : K.lookup tb1 = none)
    (hcd2 : PySem.W.codeHdIn K cc2 tb2 = true)
    (htn2 : K.lookup tb2 = none)
    (h12 : decide (tb1 ≠ tb2) = true)
    : Gd.LawAtG l w K 17 63 "_law_script" mg fa h := by
  have e := hfa.symm.trans (PySem.W.mg_of X G a53)
  cases e
  have F0 := fun_mk (st := s_Ldraw) l0 e0 k0
  have b0 := F0.binds (ps := ["_law_cell", "_law_k"]) fun _ _ _ _ _ _ us hl => match us, hl with | [_, _], _ => rfl
  have F1 := fun_mk (st := s_Lmixed) l1 e1 k1
  have b1 := F1.binds (ps := ["_law_cell", "_law_k"]) fun _ _ _ _ _ _ us hl => match us, hl with | [_, _], _ => rfl
  have F2 := fun_mk (st := s_Ldigit) l2 e2 k2
  have b2 := F2.binds (ps := ["_law_state", "_law_size"]) fun _ _ _ _ _ _ us hl => match us, hl with | [_, _], _ => rfl
  have F3 := fun_mk (st := s_Lword) l3 e3 k3
  have b3 := F3.binds (ps := ["_law_state"]) fun _ _ _ _ _ _ us hl => match us, hl with | [_], _ => rfl
  have F4 := fun_mk (st := s_Lnames) l4 e4 k4
  have b4 := F4.binds (ps := ["_law_state", "_law_many"]) fun _ _ _ _ _ _ us hl => match us, hl with | [_, _], _ => rfl
  have F5 := fun_mk (st := s_Lby) l5 e5 k5
  have b5 := F5.binds (ps := ["_law_state"]) fun _ _ _ _ _ _ us hl => match us, hl with | [_], _ => rfl
  have F6 := fun_mk (st := s_Lderivative) l6 e6 k6
  have b6 := F6.binds (ps := ["_law_state", "_law_names_here", "_law_axes", "_law_high"]) fun _ _ _ _ _ _ us hl => match us, hl with | [_, _, _, _], _ => rfl
  have F7 := fun_mk (st := s_Lis_above) l7 e7 k7
  have b7 := F7.binds (ps := ["_law_by_here", "_law_a", "_law_b"]) fun _ _ _ _ _ _ us hl => match us, hl with | [_, _, _], _ => rfl
  have F8 := fun_mk (st := s_Lcomes) l8 e8 k8
  have b8 := F8.binds (ps := ["_law_a", "_law_b"]) fun _ _ _ _ _ _ us hl => match us, hl with | [_, _], _ => rfl
  have F9 := fun_mk (st := s_Llowest) l9 e9 k9
  have b9 := F9.binds (ps := ["_law_top", "_law_bottom"]) fun _ _ _ _ _ _ us hl => match us, hl with | [_, _], _ => rfl
  have F10 := fun_mk (st := s_Lnumber) l10 e10 k10
  have b10 := F10.binds (ps := ["_law_state"]) fun _ _ _ _ _ _ us hl => match us, hl with | [_], _ => rfl
  have F11 := fun_mk (st := s_Ladded) l11 e11 k11
  have b11 := F11.binds (ps := ["_law_one", "_law_other", "_law_number_here"]) fun _ _ _ _ _ _ us hl => match us, hl with | [_, _, _], _ => rfl
  have F12 := fun_mk (st := s_Lmonomial) l12 e12 k12
  have b12 := F12.binds (ps := ["_law_pairs"]) fun _ _ _ _ _ _ us hl => match us, hl with | [_], _ => rfl
  have F13 := fun_mk (st := s_Lbelow) l13 e13 k13
  have b13 := F13.binds (ps := ["_law_state", "_law_by_here", "_law_lead", "_law_leads"]) fun _ _ _ _ _ _ us hl => match us, hl with | [_, _, _, _], _ => rfl
  have F14 := fun_mk (st := s_Lchain) l14 e14 k14
  have b14 := F14.binds (ps := ["_law_state", "_law_by_here"]) fun _ _ _ _ _ _ us hl => match us, hl with | [_, _], _ => rfl
  have F15 := fun_mk (st := s_is_name) l15 e15 k15
  have b15 := F15.binds (ps := ["thing"]) fun _ _ _ _ _ _ us hl => match us, hl with | [_], _ => rfl
  have F16 := fun_mk (st := s__are_names) l16 e16 k16
  have b16 := F16.binds (ps := ["thing"]) fun _ _ _ _ _ _ us hl => match us, hl with | [_], _ => rfl
  have F17 := fun_mk (st := s_is_axis) l17 e17 k17
  have b17 := F17.binds (ps := ["thing"]) fun _ _ _ _ _ _ us hl => match us, hl with | [_], _ => rfl
  have F18 := fun_mk (st := s__are_axes) l18 e18 k18
  have b18 := F18.binds (ps := ["thing"]) fun _ _ _ _ _ _ us hl => match us, hl with | [_], _ => rfl
  have F19 := fun_mk (st := s_need_ranking) l19 e19 k19
  have b19 := F19.binds (ps := ["ranking"]) fun _ _ _ _ _ _ us hl => match us, hl with | [_], _ => rfl
  have F20 := fun_mk (st := s_is_whole) l20 e20 k20
  have b20 := F20.binds (ps := ["thing"]) fun _ _ _ _ _ _ us hl => match us, hl with | [_], _ => rfl
  have F21 := fun_mk (st := s_is_among) l21 e21 k21
  have b21 := F21.binds (ps := ["thing", "least", "most"]) fun _ _ _ _ _ _ us hl => match us, hl with | [_, _, _], _ => rfl
  have F22 := fun_mk (st := s_rank_key) l22 e22 k22
  have b22 := F22.binds (ps := ["ranking", "derivative"]) fun _ _ _ _ _ _ us hl => match us, hl with | [_, _], _ => rfl
  have F23 : Nd.FunC K "rising" "rising" s_rising cc1 f23 _ := ⟨⟨oc23, od23, kV23, dc23, pm23, an23, ct23, sl23, rfl, l23, e23⟩⟩
  have b23 := (fun_mk (st := s_rising) l23 e23 k23).binds (ps := ["ranking", "derivatives"]) fun _ _ _ _ _ _ us hl => match us, hl with | [_, _], _ => rfl
  have F24 := fun_mk (st := s_all_to) l24 e24 k24
  have b24 := F24.binds (ps := ["ranking", "order"]) fun _ _ _ _ _ _ us hl => match us, hl with | [_, _], _ => rfl
  have F25 := fun_mk (st := s_is_derivative) l25 e25 k25
  have b25 := F25.binds (ps := ["thing"]) fun _ _ _ _ _ _ us hl => match us, hl with | [_], _ => rfl
  have F26 := fun_mk (st := s__stands_there) l26 e26 k26
  have b26 := F26.binds (ps := ["ranking", "derivative"]) fun _ _ _ _ _ _ us hl => match us, hl with | [_, _], _ => rfl
  have F27 := fun_mk (st := s_derivative_fits) l27 e27 k27
  have b27 := F27.binds (ps := ["ranking", "thing"]) fun _ _ _ _ _ _ us hl => match us, hl with | [_, _], _ => rfl
  have F28 := fun_mk (st := s__is_powered) l28 e28 k28
  have b28 := F28.binds (ps := ["thing"]) fun _ _ _ _ _ _ us hl => match us, hl with | [_], _ => rfl
  have F29 := fun_mk (st := s_is_monomial) l29 e29 k29
  have b29 := F29.binds (ps := ["thing"]) fun _ _ _ _ _ _ us hl => match us, hl with | [_], _ => rfl
  have F30 := fun_mk (st := s_is_fraction) l30 e30 k30
  have b30 := F30.binds (ps := ["thing"]) fun _ _ _ _ _ _ us hl => match us, hl with | [_], _ => rfl
  have F31 := fun_mk (st := s__is_term) l31 e31 k31
  have b31 := F31.binds (ps := ["thing"]) fun _ _ _ _ _ _ us hl => match us, hl with | [_], _ => rfl
  have F32 := fun_mk (st := s_need_polynomial) l32 e32 k32
  have b32 := F32.binds (ps := ["thing"]) fun _ _ _ _ _ _ us hl => match us, hl with | [_], _ => rfl
  have F33 := fun_mk (st := s_is_polynomial) l33 e33 k33
  have b33 := F33.binds (ps := ["thing"]) fun _ _ _ _ _ _ us hl => match us, hl with | [_], _ => rfl
  have F34 := fun_mk (st := s_derivatives_in) l34 e34 k34
  have b34 := F34.binds (ps := ["one"]) fun _ _ _ _ _ _ us hl => match us, hl with | [_], _ => rfl
  have F35 := fun_mk (st := s_polynomial_fits) l35 e35 k35
  have b35 := F35.binds (ps := ["ranking", "thing"]) fun _ _ _ _ _ _ us hl => match us, hl with | [_, _], _ => rfl
  have F36 := fun_mk (st := s_is_pair) l36 e36 k36
  have b36 := F36.binds (ps := ["ranking", "thing"]) fun _ _ _ _ _ _ us hl => match us, hl with | [_, _], _ => rfl
  have F37 := fun_mk (st := s__refuse_first) l37 e37 k37
  have b37 := F37.binds (ps := ["word", "fits"]) fun _ _ _ _ _ _ us hl => match us, hl with | [_, _], _ => rfl
  have F38 := fun_mk (st := s_way_to) l38 e38 k38
  have b38 := F38.binds (ps := ["one", "other"]) fun _ _ _ _ _ _ us hl => match us, hl with | [_, _], _ => rfl
  have F39 := fun_mk (st := s__is_derived_of) l39 e39 k39
  have b39 := F39.binds (ps := ["leader", "others"]) fun _ _ _ _ _ _ us hl => match us, hl with | [_, _], _ => rfl
  have F40 := fun_mk (st := s__is_below) l40 e40 k40
  have b40 := F40.binds (ps := ["ranking", "polynomial", "key"]) fun _ _ _ _ _ _ us hl => match us, hl with | [_, _, _], _ => rfl
  have F41 := fun_mk (st := s_first_by) l41 e41 k41
  have b41 := F41.binds (ps := ["chain", "derivative"]) fun _ _ _ _ _ _ us hl => match us, hl with | [_, _], _ => rfl
  have F42 := fun_mk (st := s__is_free_of) l42 e42 k42
  have b42 := F42.binds (ps := ["chain", "polynomial"]) fun _ _ _ _ _ _ us hl => match us, hl with | [_, _], _ => rfl
  have F43 := fun_mk (st := s_need_chain) l43 e43 k43
  have b43 := F43.binds (ps := ["ranking", "chain"]) fun _ _ _ _ _ _ us hl => match us, hl with | [_, _], _ => rfl
  have F44 := fun_mk (st := s_need_derivative) l44 e44 k44
  have b44 := F44.binds (ps := ["ranking", "thing"]) fun _ _ _ _ _ _ us hl => match us, hl with | [_, _], _ => rfl
  have F45 := fun_mk (st := s_principal_by) l45 e45 k45
  have b45 := F45.binds (ps := ["ranking", "chain", "derivative"]) fun _ _ _ _ _ _ us hl => match us, hl with | [_, _, _], _ => rfl
  have F46 := fun_mk (st := s__need_derivatives) l46 e46 k46
  have b46 := F46.binds (ps := ["one", "other"]) fun _ _ _ _ _ _ us hl => match us, hl with | [_, _], _ => rfl
  have F47 := fun_mk (st := s_derived_by) l47 e47 k47
  have b47 := F47.binds (ps := ["one", "other"]) fun _ _ _ _ _ _ us hl => match us, hl with | [_, _], _ => rfl
  have F48 := fun_mk (st := s_least_common) l48 e48 k48
  have b48 := F48.binds (ps := ["one", "other"]) fun _ _ _ _ _ _ us hl => match us, hl with | [_, _], _ => rfl
  have F49 := fun_mk (st := s_Lkinds) l49 e49 k49
  have b49 := F49.binds (ps := ["_law_error"]) fun _ _ _ _ _ _ us hl => match us, hl with | [_], _ => rfl
  have F50 := fun_mk (st := s_Ltold) l50 e50 k50
  have b50 := F50.binds (ps := ["_law_deed"]) fun _ _ _ _ _ _ us hl => match us, hl with | [_], _ => rfl
  have F51 : Nd.FunC K "_law_refused_right" "_law_refused_right" s_Lrefused_right cc2 f51 _ := ⟨⟨oc51, od51, kV51, dc51, pm51, an51, ct51, sl51, rfl, l51, e51⟩⟩
  have b51 := (fun_mk (st := s_Lrefused_right) l51 e51 k51).binds (ps := ["_law_state", "_law_by_here", "_law_links", "_law_a"]) fun _ _ _ _ _ _ us hl => match us, hl with | [_, _, _, _], _ => rfl
  have F52 := fun_mk (st := s_Lpair_right) l52 e52 k52
  have b52 := F52.binds (ps := ["_law_a", "_law_b", "_law_c"]) fun _ _ _ _ _ _ us hl => match us, hl with | [_, _, _], _ => rfl
  have F53 := fun_mk (st := s_law) l53 e53 k53
  have F101 : FunD K "__init__" "BadPolynomial.__init__" (defArgs s_BadPolynomial) (defBody s_BadPolynomial) (defScope s_BadPolynomial) [.non] [] f101 _ := ⟨⟨oc101, od101, .ref T1, kV101, dc101, pm101, an101, cd101, ct101, sl101, rfl, l101, e101, .inr ⟨by simp, T1, _, [.none], nn1, rfl, dt1, rfl, .cons rfl .nil⟩, .inl rfl⟩, k101⟩
  obtain ⟨_, kP1⟩ := F101.kbindsD (ps := ["self", "number"]) 2 [] (fun us _ _ => us) (by simp) (fun a _ _ => a) fun T kV doc pm an cdv ct us its ws l1 l2 l3 => match us, its, ws, l1, l2, l3 with | [_, _], [_], [], _, _, _ => ⟨_, rfl, rfl⟩
  obtain ⟨_, kZ1⟩ := F101.kbindsD (ps := ["self", "number"]) 1 [] (fun us its _ => us ++ its) (by simp) (fun a b _ => a.append b) fun T kV doc pm an cdv ct us its ws l1 l2 l3 => match us, its, ws, l1, l2, l3 with | [_], [_], [], _, _, _ => ⟨_, rfl, rfl⟩
  have F102 : FunD K "__init__" "BadRanking.__init__" (defArgs s_BadRanking) (defBody s_BadRanking) (defScope s_BadRanking) [.non] [] f102 _ := ⟨⟨oc102, od102, .ref T2, kV102, dc102, pm102, an102, cd102, ct102, sl102, rfl, l102, e102, .inr ⟨by simp, T2, _, [.none], nn2, rfl, dt2, rfl, .cons rfl .nil⟩, .inl rfl⟩, k102⟩
  obtain ⟨_, kP2⟩ := F102.kbindsD (ps := ["self", "place"]) 2 [] (fun us _ _ => us) (by simp) (fun a _ _ => a) fun T kV doc pm an cdv ct us its ws l1 l2 l3 => match us, its, ws, l1, l2, l3 with | [_, _], [_], [], _, _, _ => ⟨_, rfl, rfl⟩
  obtain ⟨_, kZ2⟩ := F102.kbindsD (ps := ["self", "place"]) 1 [] (fun us its _ => us ++ its) (by simp) (fun a b _ => a.append b) fun T kV doc pm an cdv ct us its ws l1 l2 l3 => match us, its, ws, l1, l2, l3 with | [_], [_], [], _, _, _ => ⟨_, rfl, rfl⟩
  have m_LookupError := PySem.W.mg_none_of X G n_LookupError
  have m_RuntimeError := PySem.W.mg_none_of X G n_RuntimeError
  have m_ValueError := PySem.W.mg_none_of X G n_ValueError
  have m_abs := PySem.W.mg_none_of X G n_abs
  have m_all := PySem.W.mg_none_of X G n_all
  have m_any := PySem.W.mg_none_of X G n_any
  have m_bool := PySem.W.mg_none_of X G n_bool
  have m_dict := PySem.W.mg_none_of X G n_dict
  have m_enumerate := PySem.W.mg_none_of X G n_enumerate
  have m_int := PySem.W.mg_none_of X G n_int
  have m_isinstance := PySem.W.mg_none_of X G n_isinstance
  have m_len := PySem.W.mg_none_of X G n_len
  have m_list := PySem.W.mg_none_of X G n_list
  have m_max := PySem.W.mg_none_of X G n_max
  have m_range := PySem.W.mg_none_of X G n_range
  have m_repr := PySem.W.mg_none_of X G n_repr
  have m_set := PySem.W.mg_none_of X G n_set
  have m_sorted := PySem.W.mg_none_of X G n_sorted
  have m_str := PySem.W.mg_none_of X G n_str
  have m_sum := PySem.W.mg_none_of X G n_sum
  have m_tuple := PySem.W.mg_none_of X G n_tuple
  have T : XT K mg (cxOfL [C0, C1, C2, C3, C4, C5, C6, C7, C8, C9, C10, C11, C12, C13, C14, C15, C16, C17, C18]) := by
    refine ⟨?_, ?_, n0_row, n0_word, n1_number, n2_place, n3_place, n4_place, n5_place, n6_place, n7_name, n8_number, n9_number, n10_number, n11_number, ?_, PySem.W.mg_of X G c0, PySem.W.mg_of X G c1, PySem.W.mg_of X G c2, PySem.W.mg_of X G c3, PySem.W.mg_of X G c4, PySem.W.mg_of X G c5, PySem.W.mg_of X G c6, PySem.W.mg_of X G c7, PySem.W.mg_of X G c8, PySem.W.mg_of X G c9, PySem.W.mg_of X G c10, PySem.W.mg_of X G c11, PySem.W.mg_of X G c12, PySem.W.mg_of X G c13, PySem.W.mg_of X G c14, PySem.W.mg_of X G c15, PySem.W.mg_of X G c16, PySem.W.mg_of X G c17, PySem.W.mg_of X G c18, m_isinstance, m_ValueError, m_LookupError, m_RuntimeError⟩
    · intro i hi
      match i, hi with
      | 0, _ => exact xc_of x0
      | 1, _ => exact xc_of x1
      | 2, _ => exact xc_of x2
      | 3, _ => exact xc_of x3
      | 4, _ => exact xc_of x4
      | 5, _ => exact xc_of x5
      | 6, _ => exact xc_of x6
      | 7, _ => exact xc_of x7
      | 8, _ => exact xc_of x8
      | 9, _ => exact xc_of x9
      | 10, _ => exact xc_of x10
      | 11, _ => exact xc_of x11
      | 12, _ => exact xc_of x12
      | 13, _ => exact xc_of x13
      | 14, _ => exact xc_of x14
      | 15, _ => exact xc_of x15
      | n + 16, h => exact absurd h (by omega)
    · intro i hi h12
      match i, hi, h12 with
      | 12, _, _ => exact q12
      | 13, _, _ => exact q13
      | 14, _, _ => exact q14
      | 15, _, _ => exact q15
      | 0, _, h | 1, _, h | 2, _, h | 3, _, h | 4, _, h | 5, _, h | 6, _, h | 7, _, h | 8, _, h | 9, _, h | 10, _, h | 11, _, h => exact absurd h (by decide)
      | n + 16, h, _ => exact absurd h (by omega)
    · intro i hi
      match i, hi with
      | 0, _ => exact kt0
      | 1, _ => exact kt1
      | 2, _ => exact kt2
      | 3, _ => exact kt3
      | 4, _ => exact kt4
      | 5, _ => exact kt5
      | 6, _ => exact kt6
      | 7, _ => exact kt7
      | 8, _ => exact kt8
      | 9, _ => exact kt9
      | 10, _ => exact kt10
      | 11, _ => exact kt11
      | 12, _ => exact kt12
      | 13, _ => exact kt13
      | 14, _ => exact kt14
      | 15, _ => exact kt15
      | n + 16, h => exact absurd h (by omega)
  have hx : ∀ i, i < 16 → (kb i).getD 16 false = true → PySem.W.exmOne K (.ref ((cxOfL [C0, C1, C2, C3, C4, C5, C6, C7, C8, C9, C10, C11, C12, C13, C14, C15, C16, C17, C18]) i)) (.ref ((cxOfL [C0, C1, C2, C3, C4, C5, C6, C7, C8, C9, C10, C11, C12, C13, C14, C15, C16, C17, C18]) 16)) = some true := by
    intro i hi hk
    match i, hi, hk with
    | 0, _, _ => exact xm0
    | 1, _, _ => exact xm1
    | 2, _, _ => exact xm2
    | 3, _, _ => exact xm3
    | 4, _, _ => exact xm4
    | 5, _, _ => exact xm5
    | 6, _, _ => exact xm6
    | 12, _, _ => exact xm12
    | 13, _, _ => exact xm13
    | 14, _, _ => exact xm14
    | 7, _, h | 8, _, h | 9, _, h | 10, _, h | 11, _, h | 15, _, h => exact absurd h (by decide)
    | n + 16, h, _ => exact absurd h (by omega)
  have Z16 : XD K mg "ChainError" C16 "ValueError.__init__" := ⟨PySem.W.mg_of X G c16, s16, r16, y16, z16⟩
  have vA := dp_strK (xs := ["x", "y"]) vAX (.cons ⟨_, rfl⟩ (.cons ⟨_, rfl⟩ .nil))
  have vS := dp_strK (xs := ["total", "names"]) vSO (.cons ⟨_, rfl⟩ (.cons ⟨_, rfl⟩ .nil))
  have v1 := dp_strK (xs := ["x"]) vb1 (.cons ⟨_, rfl⟩ .nil)
  have v2 := dp_strK (xs := ["x", "y"]) vb2 (.cons ⟨_, rfl⟩ (.cons ⟨_, rfl⟩ .nil))
  have v3 := dp_strK (xs := ["y", "x"]) vb3 (.cons ⟨_, rfl⟩ (.cons ⟨_, rfl⟩ .nil))
  have vL : ∀ H, Dp K H (.ref aL) (.tuple [PyData.tuple [.str "x"], .tuple [.str "x", .str "y"], .tuple [.str "y", .str "x"]]) := fun H =>
    .tup (xs := [V.ref q1, V.ref q2, V.ref q3]) (.inr ⟨_, _, nA2, vAL, rfl, rfl, (show 3 ≤ sizeLine by decide), .cons rfl (.cons rfl (.cons rfl .nil))⟩) (.cons (v1 H) (.cons (v2 H) (.cons (v3 H) .nil)))
  have d12 : tb1 ≠ tb2 := of_decide_eq_true h12

  let TT : List (Addr × Str) := [(tb1, "rising.<locals>.<lambda>"), (tb2, "_law_refused_right.<locals>.<lambda>")]
  have O1 : Nd.TO TT tb1 "rising.<locals>.<lambda>" := ⟨List.mem_cons_self, fun p hp e => by
    rcases List.mem_cons.mp hp with rfl | hp
    · rfl
    · rw [List.mem_singleton.mp hp] at e
      exact absurd e.symm d12⟩
  have O2 : Nd.TO TT tb2 "_law_refused_right.<locals>.<lambda>" := ⟨List.mem_cons_of_mem _ List.mem_cons_self, fun p hp e => by
    rcases List.mem_cons.mp hp with rfl | hp
    · exact absurd e d12
    · rw [List.mem_singleton.mp hp]⟩
  have sc3 : ∀ {Q : Addr × Addr → Prop}, Q (cc1, tb1) → Q (cc2, tb2) → ∀ p ∈ [(cc1, tb1), (cc2, tb2)], Q p := fun {Q} h1 h2 p hp => by
    rcases List.mem_cons.mp hp with rfl | hp
    · exact h1
    · rw [List.mem_singleton.mp hp]
      exact h2
  refine ⟨PySem.W.fnOf "law" "law" (defArgs s_law) (defBody s_law) (defScope s_law) .none kV53 dc53 pm53 an53 cd53 ct53, [(cc1, tb1), (cc2, tb2)], spLaw K TT, sc3 (Q := fun p => h.get? p.2 = some Gd.tabO) hT1 hT2, sc3 (Q := fun p => K.lookup p.2 = none) htn1 htn2, sc3 (Q := fun p => PySem.W.CodeHd h p.1 p.2) (PySem.W.codeHd_of_K X hcd1) (PySem.W.codeHd_of_K X hcd2), fun s v => .of_eq rfl, fun H a ns hl _ hT hS => ⟨a, ns, rfl, hS, hl, fun p hp => ?_, fun _ => rfl⟩, fun base hKb hNb hTB => ?_⟩
  · rcases List.mem_cons.mp hp with rfl | hp
    · exact TabS.nil (hT (cc1, tb1) List.mem_cons_self)
    · rw [List.mem_singleton.mp hp]
      exact TabS.nil (hT (cc2, tb2) (List.mem_cons_of_mem _ List.mem_cons_self))
  have TB1 := hTB (cc1, tb1) List.mem_cons_self
  have TB2 := hTB (cc2, tb2) (List.mem_cons_of_mem _ List.mem_cons_self)
  have RBP : RP l.prog w K mg base "BadPolynomial" C1 "number" f101 _ _ := ⟨xc_of x1, ⟨(xc_of x1).ex, ty1⟩, PySem.W.mg_of X G c1, i1, t101, ok_BadPolynomial F101 (xc_of x1) Z16 n1_number, kP1, kZ1⟩
  have RBR : RP l.prog w K mg base "BadRanking" C2 "place" f102 _ _ := ⟨xc_of x2, ⟨(xc_of x2).ex, ty2⟩, PySem.W.mg_of X G c2, i2, t102, ok_BadRanking F102 (xc_of x2) Z16 n2_place, kP2, kZ2⟩
  have ROP : RQ K mg "OutOfPlace" C13 := ⟨q13, kOP, ⟨(xc_of x13).ex, ty13⟩, PySem.W.mg_of X G c13⟩
  have C0_ : Cal l.prog w K mg base "_law_draw" 1 ["_law_cell", "_law_k"] spDraw f0 _ := ⟨ok_Ldraw F0, PySem.W.mg_of X G a0, k0, b0⟩
  have gM := ok_Lmixed (P := l.prog) (w := w) (mg := mg) (base := base) F1
  have C2_ : Cal l.prog w K mg base "_law_digit" 2 ["_law_state", "_law_size"] spDigit f2 _ := ⟨ok_Ldigit F2 gM m_range (PySem.W.mg_of X G a1) k1 b1, PySem.W.mg_of X G a2, k2, b2⟩
  have C3_ : Cal l.prog w K mg base "_law_word" 3 ["_law_state"] spWord f3 _ := ⟨ok_Lword F3 C2_.G m_range (PySem.W.mg_of X G a2) k2 b2, PySem.W.mg_of X G a3, k3, b3⟩
  have C4_ : Cal l.prog w K mg base "_law_names" 4 ["_law_state", "_law_many"] spNames f4 _ := ⟨ok_Lnames F4 C3_ m_range m_list, PySem.W.mg_of X G a4, k4, b4⟩
  have C5_ : Cal l.prog w K mg base "_law_by" 5 ["_law_state"] (spBy K) f5 _ := ⟨ok_Lby F5 C4_ C2_ m_tuple, PySem.W.mg_of X G a5, k5, b5⟩
  have C6_ : Cal l.prog w K mg base "_law_derivative" 3 ["_law_state", "_law_names_here", "_law_axes", "_law_high"] spDer f6 _ := ⟨ok_Lderivative F6 C2_ m_len, PySem.W.mg_of X G a6, k6, b6⟩
  have C7_ : Cal l.prog w K mg base "_law_is_above" 1 ["_law_by_here", "_law_a", "_law_b"] (spP (Rab K)) f7 _ := ⟨ok_Lis_above F7 , PySem.W.mg_of X G a7, k7, b7⟩
  have C8_ : Cal l.prog w K mg base "_law_comes" 1 ["_law_a", "_law_b"] (spP (Rcomes K)) f8 _ := ⟨ok_Lcomes F8 , PySem.W.mg_of X G a8, k8, b8⟩
  have C9_ : Cal l.prog w K mg base "_law_lowest" 1 ["_law_top", "_law_bottom"] (spP (Rlow2 K)) f9 _ := ⟨ok_Llowest F9 m_abs, PySem.W.mg_of X G a9, k9, b9⟩
  have C10_ : Cal l.prog w K mg base "_law_number" 3 ["_law_state"] (spNum K TT) f10 _ := ⟨ok_Lnumber F10 C2_ C9_, PySem.W.mg_of X G a10, k10, b10⟩
  have CT : Cal l.prog w K mg base "_law_added" 2 ["_law_one", "_law_other", "_law_number_here"] (spP (RaddT K)) f11 _ := ⟨ok_LaddedT F11 C9_ m_dict m_tuple m_sorted, PySem.W.mg_of X G a11, k11, b11⟩
  have C11_ : Cal l.prog w K mg base "_law_added" 2 ["_law_one", "_law_other", "_law_number_here"] (spP (Radd K)) f11 _ := ⟨ok_Ladded F11 C9_ m_dict m_tuple m_sorted, PySem.W.mg_of X G a11, k11, b11⟩
  have C12_ : Cal l.prog w K mg base "_law_monomial" 1 ["_law_pairs"] (spP (Rlm K)) f12 _ := ⟨ok_Lmonomial F12 m_tuple m_sorted, PySem.W.mg_of X G a12, k12, b12⟩
  have C13_ : Cal l.prog w K mg base "_law_below" 5 ["_law_state", "_law_by_here", "_law_lead", "_law_leads"] (spBelow K TT) f13 _ := ⟨ok_Lbelow F13 C2_ C6_ C7_ C8_ C10_ C11_ C12_ m_range m_len m_tuple, PySem.W.mg_of X G a13, k13, b13⟩
  have C14_ : Cal l.prog w K mg base "_law_chain" 6 ["_law_state", "_law_by_here"] (spChain K TT) f14 _ := ⟨ok_Lchain F14 C2_ C6_ C7_ C8_ C13_ m_range m_len m_tuple, PySem.W.mg_of X G a14, k14, b14⟩
  have C15_ : Cal l.prog w K mg base "is_name" 2 ["thing"] (spP (RB K nameB)) f15 _ := ⟨ok_is_name F15 m_isinstance m_str m_len m_all (PySem.W.mg_of X G gML) (PySem.W.mg_of X G gLE), PySem.W.mg_of X G a15, k15, b15⟩
  have C16_ : Cal l.prog w K mg base "_are_names" 3 ["thing"] (spP (RnamesA K)) f16 _ := ⟨ok__are_names F16 C15_ m_isinstance m_tuple m_len m_all m_set (PySem.W.mg_of X G gMN), PySem.W.mg_of X G a16, k16, b16⟩
  have C17_ : Cal l.prog w K mg base "is_axis" 1 ["thing"] (spP Raxis) f17 _ := ⟨ok_is_axis F17 m_isinstance m_str (PySem.W.mg_of X G gAX) vA, PySem.W.mg_of X G a17, k17, b17⟩
  have C18_ : Cal l.prog w K mg base "_are_axes" 2 ["thing"] (spP (RaxesA K)) f18 _ := ⟨ok__are_axes F18 C17_ m_isinstance m_tuple m_all (PySem.W.mg_of X G gAL) vL, PySem.W.mg_of X G a18, k18, b18⟩
  have C19_ : CalX l.prog w K mg base "need_ranking" 4 ["ranking"] (spO (RrkO K C2)) f19 _ := ⟨ok_need_ranking F19 C16_ C18_ m_isinstance m_tuple m_len m_str (PySem.W.mg_of X G gSO) vS RBR, PySem.W.mg_of X G a19, k19, b19⟩
  have C20_ : Cal l.prog w K mg base "is_whole" 2 ["thing"] (spP (RB K wholeB)) f20 _ := ⟨ok_is_whole F20 m_isinstance m_int m_bool, PySem.W.mg_of X G a20, k20, b20⟩
  have C21_ : Cal l.prog w K mg base "is_among" 3 ["thing", "least", "most"] (spP Ramong) f21 _ := ⟨ok_is_among F21 C20_, PySem.W.mg_of X G a21, k21, b21⟩
  have C22_ : Cal l.prog w K mg base "rank_key" 1 ["ranking", "derivative"] (spP (Rrd K fun r u => IsD K (.tuple ((r.key u).map .int)))) f22 _ := ⟨ok_rank_key F22 , PySem.W.mg_of X G a22, k22, b22⟩
  have C23_ : Cal l.prog w K mg base "rising" 5 ["ranking", "derivatives"] (spRis K TT) f23 _ := ⟨ok_rising F23 C22_ m_sorted TB1 O1, PySem.W.mg_of X G a23, k23, b23⟩
  have C24_ : Cal l.prog w K mg base "all_to" 6 ["ranking", "order"] (spAll K TT) f24 _ := ⟨ok_all_to F24 C19_ C21_ C23_ m_range (PySem.W.mg_of X G gMO), PySem.W.mg_of X G a24, k24, b24⟩
  have C25_ : Cal l.prog w K mg base "is_derivative" 3 ["thing"] (spP (RB K dvB)) f25 _ := ⟨ok_is_derivative F25 C15_ C20_ m_isinstance m_tuple m_len, PySem.W.mg_of X G a25, k25, b25⟩
  have C26_ : Cal l.prog w K mg base "_stands_there" 1 ["ranking", "derivative"] (spP (Rst K)) f26 _ := ⟨ok__stands_there F26 , PySem.W.mg_of X G a26, k26, b26⟩
  have C27_ : Cal l.prog w K mg base "derivative_fits" 4 ["ranking", "thing"] (spP (RB2 K fitsB)) f27 _ := ⟨ok_derivative_fits F27 C25_ C26_, PySem.W.mg_of X G a27, k27, b27⟩
  have C28_ : Cal l.prog w K mg base "_is_powered" 4 ["thing"] (spP (RB K pwB)) f28 _ := ⟨ok__is_powered F28 C25_ C20_ m_isinstance m_tuple m_len, PySem.W.mg_of X G a28, k28, b28⟩
  have C29_ : Cal l.prog w K mg base "is_monomial" 5 ["thing"] (spP (RB K moB)) f29 _ := ⟨ok_is_monomial F29 C28_ m_isinstance m_tuple, PySem.W.mg_of X G a29, k29, b29⟩
  have C30_ : Cal l.prog w K mg base "is_fraction" 3 ["thing"] (spP (RB K frB)) f30 _ := ⟨ok_is_fraction F30 C20_ m_isinstance m_tuple m_len (PySem.W.mg_of X G gGC), PySem.W.mg_of X G a30, k30, b30⟩
  have C31_ : Cal l.prog w K mg base "_is_term" 6 ["thing"] (spP (RB K tmB)) f31 _ := ⟨ok__is_term F31 C29_ C30_ m_isinstance m_tuple m_len, PySem.W.mg_of X G a31, k31, b31⟩
  have C32_ : CalX l.prog w K mg base "need_polynomial" 7 ["thing"] (spO (RpoO K C1)) f32 _ := ⟨ok_need_polynomial F32 C31_ m_isinstance m_tuple m_enumerate RBP, PySem.W.mg_of X G a32, k32, b32⟩
  have C33_ : Cal l.prog w K mg base "is_polynomial" 8 ["thing"] (spP (RB K poB)) f33 _ := ⟨ok_is_polynomial F33 C32_ (PySem.W.mg_of X G c1) xBP, PySem.W.mg_of X G a33, k33, b33⟩
  have C34_ : Cal l.prog w K mg base "derivatives_in" 1 ["one"] (spP (Rdin K)) f34 _ := ⟨ok_derivatives_in F34 m_tuple m_sorted, PySem.W.mg_of X G a34, k34, b34⟩
  have C35_ : Cal l.prog w K mg base "polynomial_fits" 9 ["ranking", "thing"] (spP (RpfG K)) f35 _ := ⟨ok_polynomial_fits F35 C33_ C34_ C26_ m_all, PySem.W.mg_of X G a35, k35, b35⟩
  have C36_ : Cal l.prog w K mg base "is_pair" 10 ["ranking", "thing"] (spP (Rpr K)) f36 _ := ⟨ok_is_pair F36 C27_ C35_ m_isinstance m_tuple m_len, PySem.W.mg_of X G a36, k36, b36⟩
  have C37_ : Cal l.prog w K mg base "_refuse_first" 1 ["word", "fits"] (spP (Rref K)) f37 _ := ⟨ok__refuse_first F37 m_enumerate, PySem.W.mg_of X G a37, k37, b37⟩
  have C38_ : Cal l.prog w K mg base "way_to" 1 ["one", "other"] (spP (Rway K)) f38 _ := ⟨ok_way_to F38 , PySem.W.mg_of X G a38, k38, b38⟩
  have C39_ : Cal l.prog w K mg base "_is_derived_of" 2 ["leader", "others"] (spP (Rdo K)) f39 _ := ⟨ok__is_derived_of F39 C38_ m_any, PySem.W.mg_of X G a39, k39, b39⟩
  have C40_ : Cal l.prog w K mg base "_is_below" 2 ["ranking", "polynomial", "key"] (spP (Rbl K)) f40 _ := ⟨ok__is_below F40 C34_ C22_ m_all, PySem.W.mg_of X G a40, k40, b40⟩
  have C41_ : Cal l.prog w K mg base "first_by" 2 ["chain", "derivative"] (spP (Rfst K)) f41 _ := ⟨ok_first_by F41 C38_ m_enumerate, PySem.W.mg_of X G a41, k41, b41⟩
  have C42_ : Cal l.prog w K mg base "_is_free_of" 3 ["chain", "polynomial"] (spP (Rfo K)) f42 _ := ⟨ok__is_free_of F42 C34_ C41_ m_all, PySem.W.mg_of X G a42, k42, b42⟩
  have C43_ : Cal l.prog w K mg base "need_chain" 11 ["ranking", "chain"] (spP (Rch K)) f43 _ := ⟨ok_need_chain F43 C19_ C36_ C37_ C22_ C39_ C40_ C42_ m_isinstance m_tuple m_list m_range m_len, PySem.W.mg_of X G a43, k43, b43⟩
  have C44_ : CalX l.prog w K mg base "need_derivative" 5 ["ranking", "thing"] (spO (RndO K C13)) f44 _ := ⟨ok_need_derivative F44 C27_ ROP, PySem.W.mg_of X G a44, k44, b44⟩
  have C45_ : CalX l.prog w K mg base "principal_by" 12 ["ranking", "chain", "derivative"] (spO (RpbO K C13)) f45 _ := ⟨ok_principal_by F45 C43_ C44_ C41_, PySem.W.mg_of X G a45, k45, b45⟩
  have C46_ : CalX l.prog w K mg base "_need_derivatives" 4 ["one", "other"] (spO (Rnd2O K C13)) f46 _ := ⟨ok__need_derivatives F46 C25_ ROP, PySem.W.mg_of X G a46, k46, b46⟩
  have C47_ : CalX l.prog w K mg base "derived_by" 5 ["one", "other"] (spO (RdbO K C13)) f47 _ := ⟨ok_derived_by F47 C46_ C38_, PySem.W.mg_of X G a47, k47, b47⟩
  have C48_ : CalX l.prog w K mg base "least_common" 5 ["one", "other"] (spO (RlcO K C13)) f48 _ := ⟨ok_least_common F48 C46_ m_max, PySem.W.mg_of X G a48, k48, b48⟩
  have C49_ : Cal l.prog w K mg base "_law_kinds" 1 ["_law_error"] (spKinds (cxOfL [C0, C1, C2, C3, C4, C5, C6, C7, C8, C9, C10, C11, C12, C13, C14, C15, C16, C17, C18])) f49 _ := ⟨ok_Lkinds F49 T, PySem.W.mg_of X G a49, k49, b49⟩
  have C51_ : Cal l.prog w K mg base "_law_refused_right" 16 ["_law_state", "_law_by_here", "_law_links", "_law_a"] (spRef K TT) f51 _ := ⟨ok_Lrefused_right F51 rfl C2_ C47_ C48_ C45_ C49_ m_len F50 (PySem.W.mg_of X G a50) k50 b50 T hx TB2 O2, PySem.W.mg_of X G a51, k51, b51⟩
  have C52_ : Gd.CalG l.prog w K mg base "_law_pair_right" 7 ["_law_a", "_law_b", "_law_c"] (spP (Rpair K)) f52 _ := ⟨ok_Lpair_right F52 C8_ C47_ C48_ m_repr, PySem.W.mg_of X G a52, k52, b52⟩
  exact ok_law F53 C0_ C5_ C14_ C24_ C8_ C45_ C6_ C51_ m_enumerate m_sum m_range m_repr m_len C52_
theorem walk {l : PySem.W.OpenLaw} {q : Program} {loose : List Str} {XP : (Str → Option Value) → Heap → Prop} {YP : World → Heap → Prop} {d : DefRec} {K : Params → PySem.W.Frag} (hn : l.most = some 63) (hdf : d.params.defaults = [])
    (hY : ∀ (w : World) (h : Heap), YP w h → (K w.params).In h)
    (F : ∀ (w : World) (mg : Str → Option Value) (fa : Addr) (h : Heap), YP w h → (K w.params).In h → h.Ns mainGlobals mg → mg d.name = some (.ref fa) → Gd.LawAtG l w (K w.params) 17 63 "_law_script" mg fa h) :
    PySem.W.WalkO q loose XP YP l.row.toRowW d [] (fun f vs => PySem.call f vs) :=
  Gd.walkG hn (by decide) hdf ⟨rfl, by decide, by decide⟩ hY F
end K12
open PySem PySem.W PyProof.Rows
set_option maxRecDepth 100000 in
set_option maxHeartbeats 0 in
theorem PySem.Challenge.cw_rankedchains_k18_whole_derived_and_princ_holds : PySem.Challenge.rw_rankedchains_k18_whole_derived_and_princ.Holds := by
  w_on; o_law; k_head; (case hw => w_witness2)
  k_fill
  refine K12.walk (l := PySem.Challenge.rw_rankedchains_k18_whole_derived_and_princ) rfl rfl (fun w h Y => PySem.W.km_in_of Y) ?F
  case F =>
    intro w mg fa h Y KX G hmg
    have hT8 := PySem.W.km_tabs_of Y
    refine' K12.all_mk KX G hmg (hT8 _ (List.mem_cons_of_mem _ List.mem_cons_self)) (hT8 _ List.mem_cons_self) ?c0 ?c1 ?c2 ?c3 ?c4 ?c5 ?c6 ?c7 ?c8 ?c9 ?c10 ?c11 ?c12 ?c13 ?c14 ?c15 ?c16 ?c17 ?c18 ?a0 ?l0 ?e0 ?k0 ?a1 ?l1 ?e1 ?k1 ?a2 ?l2 ?e2 ?k2 ?a3 ?l3 ?e3 ?k3 ?a4 ?l4 ?e4 ?k4 ?a5 ?l5 ?e5 ?k5 ?a6 ?l6 ?e6 ?k6 ?a7 ?l7 ?e7 ?k7 ?a8 ?l8 ?e8 ?k8 ?a9 ?l9 ?e9 ?k9 ?a10 ?l10 ?e10 ?k10 ?a11 ?l11 ?e11 ?k11 ?a12 ?l12 ?e12 ?k12 ?a13 ?l13 ?e13 ?k13 ?a14 ?l14 ?e14 ?k14 ?a15 ?l15 ?e15 ?k15 ?a16 ?l16 ?e16 ?k16 ?a17 ?l17 ?e17 ?k17 ?a18 ?l18 ?e18 ?k18 ?a19 ?l19 ?e19 ?k19 ?a20 ?l20 ?e20 ?k20 ?a21 ?l21 ?e21 ?k21 ?a22 ?l22 ?e22 ?k22 ?a23 ?l23 ?e23 ?k23 ?a24 ?l24 ?e24 ?k24 ?a25 ?l25 ?e25 ?k25 ?a26 ?l26 ?e26 ?k26 ?a27 ?l27 ?e27 ?k27 ?a28 ?l28 ?e28 ?k28 ?a29 ?l29 ?e29 ?k29 ?a30 ?l30 ?e30 ?k30 ?a31 ?l31 ?e31 ?k31 ?a32 ?l32 ?e32 ?k32 ?a33 ?l33 ?e33 ?k33 ?a34 ?l34 ?e34 ?k34 ?a35 ?l35 ?e35 ?k35 ?a36 ?l36 ?e36 ?k36 ?a37 ?l37 ?e37 ?k37 ?a38 ?l38 ?e38 ?k38 ?a39 ?l39 ?e39 ?k39 ?a40 ?l40 ?e40 ?k40 ?a41 ?l41 ?e41 ?k41 ?a42 ?l42 ?e42 ?k42 ?a43 ?l43 ?e43 ?k43 ?a44 ?l44 ?e44 ?k44 ?a45 ?l45 ?e45 ?k45 ?a46 ?l46 ?e46 ?k46 ?a47 ?l47 ?e47 ?k47 ?a48 ?l48 ?e48 ?k48 ?a49 ?l49 ?e49 ?k49 ?a50 ?l50 ?e50 ?k50 ?a51 ?l51 ?e51 ?k51 ?a52 ?l52 ?e52 ?k52 ?a53 ?l53 ?e53 ?k53 ?i1 ?l101 ?e101 ?k101 ?t101 ?dt1 ?i2 ?l102 ?e102 ?k102 ?t102 ?dt2 ?n0_row ?n0_word ?n1_number ?n2_place ?n3_place ?n4_place ?n5_place ?n6_place ?n7_name ?n8_number ?n9_number ?n10_number ?n11_number ?x0 ?x1 ?x2 ?x3 ?x4 ?x5 ?x6 ?x7 ?x8 ?x9 ?x10 ?x11 ?x12 ?q12 ?x13 ?q13 ?x14 ?q14 ?x15 ?q15 ?kt0 ?kt1 ?kt2 ?kt3 ?kt4 ?kt5 ?kt6 ?kt7 ?kt8 ?kt9 ?kt10 ?kt11 ?kt12 ?kt13 ?kt14 ?kt15 ?s16 ?r16 ?y16 ?z16 ?ty1 ?ty2 ?ty13 ?xm0 ?xm1 ?xm2 ?xm3 ?xm4 ?xm5 ?xm6 ?xm12 ?xm13 ?xm14 ?xBP ?kOP ?n_LookupError ?n_RuntimeError ?n_ValueError ?n_abs ?n_all ?n_any ?n_bool ?n_dict ?n_enumerate ?n_int ?n_isinstance ?n_len ?n_list ?n_max ?n_range ?n_repr ?n_set ?n_sorted ?n_str ?n_sum ?n_tuple ?gML ?gLE ?gMN ?gGC ?gAX ?vAX ?gSO ?vSO ?gAL ?vAL ?vb1 ?vb2 ?gMO ?vb3 ?hcd1 ?htn1 ?hcd2 ?htn2 ?h12
    (case c0 => k_is)
    (case c1 => k_is)
    (case c2 => k_is)
    (case c3 => k_is)
    (case c4 => k_is)
    (case c5 => k_is)
    (case c6 => k_is)
    (case c7 => k_is)
    (case c8 => k_is)
    (case c9 => k_is)
    (case c10 => k_is)
    (case c11 => k_is)
    (case c12 => k_is)
    (case c13 => k_is)
    (case c14 => k_is)
    (case c15 => k_is)
    (case c16 => k_is)
    (case c17 => k_is)
    (case c18 => k_is)
    (case a0 => k_is)
    (case l0 => k_is)
    (case e0 => k_is)
    (case k0 => k_is)
    (case a1 => k_is)
    (case l1 => k_is)
    (case e1 => k_is)
    (case k1 => k_is)
    (case a2 => k_is)
    (case l2 => k_is)
    (case e2 => k_is)
    (case k2 => k_is)
    (case a3 => k_is)
    (case l3 => k_is)
    (case e3 => k_is)
    (case k3 => k_is)
    (case a4 => k_is)
    (case l4 => k_is)
    (case e4 => k_is)
    (case k4 => k_is)
    (case a5 => k_is)
    (case l5 => k_is)
    (case e5 => k_is)
    (case k5 => k_is)
    (case a6 => k_is)
    (case l6 => k_is)
    (case e6 => k_is)
    (case k6 => k_is)
    (case a7 => k_is)
    (case l7 => k_is)
    (case e7 => k_is)
    (case k7 => k_is)
    (case a8 => k_is)
    (case l8 => k_is)
    (case e8 => k_is)
    (case k8 => k_is)
    (case a9 => k_is)
    (case l9 => k_is)
    (case e9 => k_is)
    (case k9 => k_is)
    (case a10 => k_is)
    (case l10 => k_is)
    (case e10 => k_is)
    (case k10 => k_is)
    (case a11 => k_is)
    (case l11 => k_is)
    (case e11 => k_is)
    (case k11 => k_is)
    (case a12 => k_is)
    (case l12 => k_is)
    (case e12 => k_is)
    (case k12 => k_is)
    (case a13 => k_is)
    (case l13 => k_is)
    (case e13 => k_is)
    (case k13 => k_is)
    (case a14 => k_is)
    (case l14 => k_is)
    (case e14 => k_is)
    (case k14 => k_is)
    (case a15 => k_is)
    (case l15 => k_is)
    (case e15 => k_is)
    (case k15 => k_is)
    (case a16 => k_is)
    (case l16 => k_is)
    (case e16 => k_is)
    (case k16 => k_is)
    (case a17 => k_is)
    (case l17 => k_is)
    (case e17 => k_is)
    (case k17 => k_is)
    (case a18 => k_is)
    (case l18 => k_is)
    (case e18 => k_is)
    (case k18 => k_is)
    (case a19 => k_is)
    (case l19 => k_is)
    (case e19 => k_is)
    (case k19 => k_is)
    (case a20 => k_is)
    (case l20 => k_is)
    (case e20 => k_is)
    (case k20 => k_is)
    (case a21 => k_is)
    (case l21 => k_is)
    (case e21 => k_is)
    (case k21 => k_is)
    (case a22 => k_is)
    (case l22 => k_is)
    (case e22 => k_is)
    (case k22 => k_is)
    (case a23 => k_is)
    (case l23 => k_is)
    (case e23 => k_is)
    (case k23 => k_is)
    (case a24 => k_is)
    (case l24 => k_is)
    (case e24 => k_is)
    (case k24 => k_is)
    (case a25 => k_is)
    (case l25 => k_is)
    (case e25 => k_is)
    (case k25 => k_is)
    (case a26 => k_is)
    (case l26 => k_is)
    (case e26 => k_is)
    (case k26 => k_is)
    (case a27 => k_is)
    (case l27 => k_is)
    (case e27 => k_is)
    (case k27 => k_is)
    (case a28 => k_is)
    (case l28 => k_is)
    (case e28 => k_is)
    (case k28 => k_is)
    (case a29 => k_is)
    (case l29 => k_is)
    (case e29 => k_is)
    (case k29 => k_is)
    (case a30 => k_is)
    (case l30 => k_is)
    (case e30 => k_is)
    (case k30 => k_is)
    (case a31 => k_is)
    (case l31 => k_is)
    (case e31 => k_is)
    (case k31 => k_is)
    (case a32 => k_is)
    (case l32 => k_is)
    (case e32 => k_is)
    (case k32 => k_is)
    (case a33 => k_is)
    (case l33 => k_is)
    (case e33 => k_is)
    (case k33 => k_is)
    (case a34 => k_is)
    (case l34 => k_is)
    (case e34 => k_is)
    (case k34 => k_is)
    (case a35 => k_is)
    (case l35 => k_is)
    (case e35 => k_is)
    (case k35 => k_is)
    (case a36 => k_is)
    (case l36 => k_is)
    (case e36 => k_is)
    (case k36 => k_is)
    (case a37 => k_is)
    (case l37 => k_is)
    (case e37 => k_is)
    (case k37 => k_is)
    (case a38 => k_is)
    (case l38 => k_is)
    (case e38 => k_is)
    (case k38 => k_is)
    (case a39 => k_is)
    (case l39 => k_is)
    (case e39 => k_is)
    (case k39 => k_is)
    (case a40 => k_is)
    (case l40 => k_is)
    (case e40 => k_is)
    (case k40 => k_is)
    (case a41 => k_is)
    (case l41 => k_is)
    (case e41 => k_is)
    (case k41 => k_is)
    (case a42 => k_is)
    (case l42 => k_is)
    (case e42 => k_is)
    (case k42 => k_is)
    (case a43 => k_is)
    (case l43 => k_is)
    (case e43 => k_is)
    (case k43 => k_is)
    (case a44 => k_is)
    (case l44 => k_is)
    (case e44 => k_is)
    (case k44 => k_is)
    (case a45 => k_is)
    (case l45 => k_is)
    (case e45 => k_is)
    (case k45 => k_is)
    (case a46 => k_is)
    (case l46 => k_is)
    (case e46 => k_is)
    (case k46 => k_is)
    (case a47 => k_is)
    (case l47 => k_is)
    (case e47 => k_is)
    (case k47 => k_is)
    (case a48 => k_is)
    (case l48 => k_is)
    (case e48 => k_is)
    (case k48 => k_is)
    (case a49 => k_is)
    (case l49 => k_is)
    (case e49 => k_is)
    (case k49 => k_is)
    (case a50 => k_is)
    (case l50 => k_is)
    (case e50 => k_is)
    (case k50 => k_is)
    (case a51 => k_is)
    (case l51 => k_is)
    (case e51 => k_is)
    (case k51 => k_is)
    (case a52 => k_is)
    (case l52 => k_is)
    (case e52 => k_is)
    (case k52 => k_is)
    (case a53 => k_is)
    (case l53 => k_is)
    (case e53 => k_is)
    (case k53 => k_is)
    (case i1 => k_is)
    (case l101 => k_is)
    (case e101 => k_is)
    (case k101 => k_is)
    (case t101 => k_is)
    (case dt1 => k_is)
    (case i2 => k_is)
    (case l102 => k_is)
    (case e102 => k_is)
    (case k102 => k_is)
    (case t102 => k_is)
    (case dt2 => k_is)
    (case n0_row => k_is)
    (case n0_word => k_is)
    (case n1_number => k_is)
    (case n2_place => k_is)
    (case n3_place => k_is)
    (case n4_place => k_is)
    (case n5_place => k_is)
    (case n6_place => k_is)
    (case n7_name => k_is)
    (case n8_number => k_is)
    (case n9_number => k_is)
    (case n10_number => k_is)
    (case n11_number => k_is)
    (case x0 => kernel_rfl)
    (case x1 => kernel_rfl)
    (case x2 => kernel_rfl)
    (case x3 => kernel_rfl)
    (case x4 => kernel_rfl)
    (case x5 => kernel_rfl)
    (case x6 => kernel_rfl)
    (case x7 => kernel_rfl)
    (case x8 => kernel_rfl)
    (case x9 => kernel_rfl)
    (case x10 => kernel_rfl)
    (case x11 => kernel_rfl)
    (case x12 => kernel_rfl)
    (case q12 => first | k_exc | kernel_rfl)
    (case x13 => kernel_rfl)
    (case q13 => first | k_exc | kernel_rfl)
    (case x14 => kernel_rfl)
    (case q14 => first | k_exc | kernel_rfl)
    (case x15 => kernel_rfl)
    (case q15 => first | k_exc | kernel_rfl)
    (case kt0 => kernel_rfl)
    (case kt1 => kernel_rfl)
    (case kt2 => kernel_rfl)
    (case kt3 => kernel_rfl)
    (case kt4 => kernel_rfl)
    (case kt5 => kernel_rfl)
    (case kt6 => kernel_rfl)
    (case kt7 => kernel_rfl)
    (case kt8 => kernel_rfl)
    (case kt9 => kernel_rfl)
    (case kt10 => kernel_rfl)
    (case kt11 => kernel_rfl)
    (case kt12 => kernel_rfl)
    (case kt13 => kernel_rfl)
    (case kt14 => kernel_rfl)
    (case kt15 => kernel_rfl)
    (case s16 => k_is)
    (case r16 => k_is)
    (case y16 => k_is)
    (case z16 => decide +kernel)
    (case ty1 => k_is)
    (case ty2 => k_is)
    (case ty13 => k_is)
    (case xm0 => first | kernel_rfl | decide +kernel)
    (case xm1 => first | kernel_rfl | decide +kernel)
    (case xm2 => first | kernel_rfl | decide +kernel)
    (case xm3 => first | kernel_rfl | decide +kernel)
    (case xm4 => first | kernel_rfl | decide +kernel)
    (case xm5 => first | kernel_rfl | decide +kernel)
    (case xm6 => first | kernel_rfl | decide +kernel)
    (case xm12 => first | kernel_rfl | decide +kernel)
    (case xm13 => first | kernel_rfl | decide +kernel)
    (case xm14 => first | kernel_rfl | decide +kernel)
    (case xBP => first | kernel_rfl | decide +kernel)
    (case kOP => k_is)
    (case n_LookupError => k_is)
    (case n_RuntimeError => k_is)
    (case n_ValueError => k_is)
    (case n_abs => k_is)
    (case n_all => k_is)
    (case n_any => k_is)
    (case n_bool => k_is)
    (case n_dict => k_is)
    (case n_enumerate => k_is)
    (case n_int => k_is)
    (case n_isinstance => k_is)
    (case n_len => k_is)
    (case n_list => k_is)
    (case n_max => k_is)
    (case n_range => k_is)
    (case n_repr => k_is)
    (case n_set => k_is)
    (case n_sorted => k_is)
    (case n_str => k_is)
    (case n_sum => k_is)
    (case n_tuple => k_is)
    (case gML => k_is)
    (case gLE => k_is)
    (case gMN => k_is)
    (case gGC => k_is)
    (case gAX => k_is)
    (case vAX => k_is)
    (case gSO => k_is)
    (case vSO => k_is)
    (case gAL => k_is)
    (case vAL => k_is)
    (case vb1 => k_is)
    (case vb2 => k_is)
    (case gMO => k_is)
    (case vb3 => k_is)
    (case hcd1 => kernel_rfl)
    (case htn1 => first | rfl | kernel_rfl | decide +kernel)
    (case hcd2 => kernel_rfl)
    (case htn2 => first | rfl | kernel_rfl | decide +kernel)
    (case h12 => first | rfl | kernel_rfl | decide +kernel)
#print axioms PySem.Challenge.cw_rankedchains_k18_whole_derived_and_princ_holds
