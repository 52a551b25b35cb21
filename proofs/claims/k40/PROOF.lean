import PyProof.Rows.All
import Wide.All
import OpenK.AllK
import Wide.FinOn
import HandS.ForMost
import HandS.ForExc
import HandS.Walk
import HandS.Strs
import HandS.Deep
import HandS.Conv
import HandS.IsInst
import HandS.Style
import HandS.Evl
import HandS.Wide
import HandS.Set
import HandS.Nested
import HandS.EndTab
import KE.SortKeyHeap
import KE.KDictCopyH
import HandS.NoneIn
import HandS.TupAny
import HandS.More
import HandS.Defaults
import HandS.RaiseMore
import HandS.Gcd
import HandS.TryOnly
import HandS.Conv
import HandS.Comp
import HandS.Lambda
import HandS.DictTup
import PyProof.ReprRoads
import PyProof.CallFns
import PyProof.ReprLen
import PyProof.StrLawsRepr
import PyProof.ReprText
import PyProof.DictRoadsH
import KE.KRevSl
import KE.DataCmp
import KE.KDictKeyed
import KE.KDictWalk
import KE.GoesMore
import KE.GoesEnum
import KE.SortData
import KE.SortCalls
import KE.LtData
import PySem.Challenge.RW_rankedchains_k40_cones_by_columns
set_option Elab.async false
set_option maxRecDepth 100000
set_option maxHeartbeats 4000000
namespace My
open PySem L2
theorem isP {p : Prop} (h : p) : p := h
theorem new {H : Hp} {p : Addr} {o : HO} (hp : H p = none) : Same H (upd H p o) := fun b u e => by
  rw [upd_ne (ne_of_none e hp)]
  exact e
theorem new2 {H : Hp} {p : Addr} {o o' : HO} (hp : H p = none) : Same H (upd (upd H p o) p o') := fun b u e => by
  rw [upd_ne (ne_of_none e hp), upd_ne (ne_of_none e hp)]
  exact e
theorem sqt {K : PySem.W.Frag} {H H' : Hp} {a : Addr} {xs : List V} (e : Same H H') (h : SqT K H a xs) : SqT K H' a xs := by
  rcases h with (h | ⟨o, h⟩) | h
  · exact .inl (.inl (e _ _ h))
  · exact .inl (.inr ⟨o, e _ _ h⟩)
  · exact .inr h
theorem lstNew {K : PySem.W.Frag} {H : Hp} {p : Addr} {xs : List V} : SqL K (upd H p (.lst xs)) p xs := .inl (.inl upd_same)
theorem tupNew {K : PySem.W.Frag} {H : Hp} {p : Addr} {xs : List V} : SqT K (upd H p (.tup xs)) p xs := .inl (.inl upd_same)
theorem atIn {α : Type} (xs : List α) (i : Int) (h0 : 0 ≤ i) (h1 : i < xs.length) : ∃ v, v ∈ xs ∧ atI xs i = some v := by
  obtain ⟨n, rfl⟩ : ∃ n : Nat, i = (n : Int) := ⟨i.toNat, by omega⟩
  have hn : n < xs.length := by omega
  exact ⟨xs[n], List.getElem_mem hn, atI_nat (List.getElem?_eq_getElem hn)⟩
theorem cutTo (xs : List V) (k : Nat) : cutV xs none (some (k : Int)) = xs.take k := by
  unfold cutV
  rw [HT.sIx_none, HT.sIx_nat, List.drop_zero, Nat.sub_zero]
  by_cases h : k ≤ xs.length
  · rw [Nat.min_eq_left h]
  · rw [Nat.min_eq_right (by omega), List.take_length, List.take_of_length_le (by omega)]
theorem small {n : Nat} (h : n ≤ 1000) : n ≤ sizeLine := Nat.le_of_lt (small1000 h)
end My
namespace My
set_option autoImplicit false
open PySem L2 Evl
/-- what is known of a value, whatever is made beside -/
structure Pr where
  P : V → Hp → Prop
  m : ∀ {v : V} {H H' : Hp}, Ex H H' → P v H → P v H'
def AllP : List Pr → List V → Hp → Prop
  | [], [], _ => True
  | p :: ps, v :: vs, H => p.P v H ∧ AllP ps vs H
  | [], _ :: _, _ => False
  | _ :: _, [], _ => False
theorem AllP.m {H H' : Hp} (e : Ex H H') : ∀ {ps : List Pr} {vs : List V}, AllP ps vs H → AllP ps vs H'
  | [], [], _ => trivial
  | _ :: _, _ :: _, h => ⟨Pr.m _ e h.1, AllP.m e h.2⟩
theorem AllP.len {H : Hp} : ∀ {ps : List Pr} {vs : List V}, AllP ps vs H → vs.length = ps.length
  | [], [], _ => rfl
  | _ :: _, _ :: _, h => congrArg Nat.succ (AllP.len h.2)
theorem AllP.app {H : Hp} : ∀ {ps qs : List Pr} {vs ws : List V}, AllP ps vs H → AllP qs ws H → AllP (ps ++ qs) (vs ++ ws) H
  | [], _, [], _, _, h => h
  | _ :: _, _, _ :: _, _, a, h => ⟨a.1, AllP.app a.2 h⟩
theorem AllP.get {H : Hp} : ∀ {ps : List Pr} {vs : List V} {i : Nat} {v : V}, AllP ps vs H → vs[i]? = some v → ∃ p, ps[i]? = some p ∧ p.P v H
  | [], [], i, v, _, h => by simp at h
  | p :: _, w :: _, 0, v, a, h => by
    obtain rfl : w = v := Option.some.inj h
    exact ⟨p, rfl, a.1⟩
  | _ :: _, _ :: _, i + 1, v, a, h => AllP.get (i := i) a.2 h
theorem AllP.at {H : Hp} : ∀ {ps : List Pr} {vs : List V} {i : Nat} {p : Pr}, AllP ps vs H → ps[i]? = some p → ∃ v, vs[i]? = some v ∧ p.P v H
  | [], [], i, v, _, h => by simp at h
  | q :: _, w :: _, 0, p, a, h => by
    obtain rfl : q = p := Option.some.inj h
    exact ⟨w, rfl, a.1⟩
  | _ :: _, _ :: _, i + 1, v, a, h => AllP.at (i := i) a.2 h
/-- without tables of code -/
def NoTab (B : Hp) : Prop := ∀ b ps, B b ≠ some (.tbl ps)
/-- from what is known, B, within the heap H, to B' within H': what is known of B' leans on nothing else that stood in H -/
structure Gr (B H B' H' : Hp) : Prop where
  a : Ex H H'
  b : Ex B B'
  c : Ex B' H'
  d : ∀ x, B x = none → H x ≠ none → B' x = none
  e : NoTab B → NoTab B'
theorem Gr.refl {B H : Hp} (e : Ex B H) : Gr B H B H := ⟨Ex.refl H, Ex.refl B, e, fun _ h _ => h, id⟩
theorem has {H H' : Hp} {x : Addr} (e : Ex H H') (h : H x ≠ none) : H' x ≠ none := by
  cases q : H x with
  | none => exact absurd q h
  | some o =>
    rw [e x o q]
    exact fun z => nomatch z
theorem Gr.trans {B H B1 H1 B2 H2 : Hp} (g : Gr B H B1 H1) (k : Gr B1 H1 B2 H2) : Gr B H B2 H2 :=
  ⟨g.a.trans k.a, g.b.trans k.b, k.c, fun x hb hh => k.d x (g.d x hb hh) (has g.a hh), fun z => k.e (g.e z)⟩
/-- nothing new is known -/
theorem Gr.wide {B H H1 : Hp} (e : Ex B H) (k : Ex H H1) : Gr B H B H1 := ⟨k, Ex.refl B, e.trans k, fun _ h _ => h, id⟩
/-- a new object -/
theorem Gr.new {B H : Hp} {r : Addr} (o : HO) (e : Ex B H) (hr : H r = none) (ho : ∀ ps, o ≠ .tbl ps := by intro _ z; cases z) : Gr B H (upd B r o) (upd H r o) :=
  ⟨Ex.new hr, Ex.new (fresh_back e hr), fun a u h => by
    by_cases q : a = r
    · subst q
      rw [upd_same] at h ⊢
      exact h
    · rw [upd_ne q] at h ⊢
      exact e a u h, fun x hb hh => by
    by_cases q : x = r
    · subst q
      exact absurd hr hh
    · rw [upd_ne q]
      exact hb, fun z b ps q => by
    by_cases n : b = r
    · subst n
      rw [upd_same] at q
      exact ho ps (Option.some.inj q)
    · rw [upd_ne n] at q
      exact z b ps q⟩
/-- two parts of one heap together -/
def both (B C : Hp) : Hp := fun b => match B b with
  | some o => some o
  | none => C b
theorem both_l {B C : Hp} : Ex B (both B C) := fun a o h => by
  unfold both
  rw [h]
theorem both_r {B C H : Hp} (e : Ex B H) (k : Ex C H) : Ex C (both B C) := fun a o h => by
  unfold both
  cases q : B a with
  | none => exact h
  | some u =>
    have h1 := e a u q
    have h2 := k a o h
    rw [h1] at h2
    exact h2
theorem both_in {B C H : Hp} (e : Ex B H) (k : Ex C H) : Ex (both B C) H := fun a o h => by
  unfold both at h
  cases q : B a with
  | none =>
    rw [q] at h
    exact k a o h
  | some u =>
    rw [q] at h
    obtain rfl : u = o := Option.some.inj h
    exact e a u q
theorem both_none {B C : Hp} {x : Addr} (h : B x = none) (k : C x = none) : both B C x = none := by
  unfold both
  rw [h]
  exact k
theorem both_nt {B C : Hp} (h : NoTab B) (k : NoTab C) : NoTab (both B C) := fun b ps q => by
  unfold both at q
  cases z : B b with
  | none =>
    rw [z] at q
    exact k b ps q
  | some o =>
    rw [z] at q
    have q : some o = some (HO.tbl ps) := q
    rw [q] at z
    exact h b ps z
/-- one behind the other, each from the same B -/
theorem Gr.join {B H B1 H1 B2 H2 : Hp} (g : Gr B H B1 H1) (k : Gr B H1 B2 H2) : Gr B H (both B1 B2) H2 :=
  ⟨g.a.trans k.a, g.b.trans both_l, both_in (g.c.trans k.a) k.c, fun x hb hh => both_none (g.d x hb hh) (k.d x hb (has g.a hh)), fun z => both_nt (g.e z) (k.e z)⟩
/-- without D -/
def wo (D : Addr) (H : Hp) : Hp := fun b => if b = D then none else H b
theorem wo_ne {D b : Addr} {H : Hp} (n : b ≠ D) : wo D H b = H b := if_neg n
theorem wo_same {D : Addr} {H : Hp} : wo D H D = none := if_pos rfl
theorem wo_some {D b : Addr} {H : Hp} {o : HO} (h : wo D H b = some o) : b ≠ D ∧ H b = some o := by
  by_cases n : b = D
  · rw [n, wo_same] at h
    exact nomatch h
  · rw [wo_ne n] at h
    exact ⟨n, h⟩
theorem wo_ex {D : Addr} {H : Hp} : Ex (wo D H) H := fun _ _ e => (wo_some e).2
theorem ex_wo {B H : Hp} {D : Addr} (e : Ex B H) (h : B D = none) : Ex B (wo D H) := fun b o k => by
  rw [wo_ne (ne_of_none k h)]
  exact e b o k
theorem wo_none {B H : Hp} {D : Addr} (e : Ex B (wo D H)) : B D = none := by
  cases q : B D with
  | none => rfl
  | some o =>
    have := e _ _ q
    rw [wo_same] at this
    exact nomatch this
theorem wo_new {H : Hp} {D : Addr} {o : HO} (h : H D = none) : wo D (upd H D o) = H := funext fun b => by
  by_cases n : b = D
  · rw [n, wo_same, h]
  · rw [wo_ne n, upd_ne n]
theorem wo_upd {H : Hp} {D : Addr} {o : HO} : wo D (upd H D o) = wo D H := funext fun b => by
  by_cases n : b = D
  · rw [n, wo_same, wo_same]
  · rw [wo_ne n, wo_ne n, upd_ne n]
theorem wo_mono {H H' : Hp} {D : Addr} (e : Ex H H') : Ex (wo D H) (wo D H') := fun b o k => by
  obtain ⟨n, q⟩ := wo_some k
  rw [wo_ne n]
  exact e b o q
/-- what a turn adds, the list at D left aside -/
theorem Gr.side {B H B1 H1 B2 H2 : Hp} {D : Addr} (g : Gr B H B1 (wo D H1)) (hD : H1 D ≠ none) (k : Gr B1 H1 B2 H2) : Gr B H B2 (wo D H2) :=
  ⟨fun b o e => by
    obtain ⟨n, q⟩ := wo_some (g.a b o e)
    rw [wo_ne n]
    exact k.a b o q, g.b.trans k.b, ex_wo k.c (k.d D (wo_none g.c) hD), fun x hb hh => k.d x (g.d x hb hh) (has wo_ex (has g.a hh)), fun z => k.e (g.e z)⟩
/-- just this value -/
def IsV (x : V) : Pr := ⟨fun v _ => v = x, fun _ h => h⟩
/-- a new list | a list | a tuple, of what -/
def LsP (ps : List Pr) : Pr := ⟨fun v H => ∃ p xs, v = .ref p ∧ H p = some (.lst xs) ∧ AllP ps xs H, fun e ⟨p, xs, a, b, c⟩ => ⟨p, xs, a, e _ _ b, c.m e⟩⟩
def LqP (K : PySem.W.Frag) (ps : List Pr) : Pr := ⟨fun v H => ∃ p xs, v = .ref p ∧ SqL K H p xs ∧ AllP ps xs H, fun e ⟨p, xs, a, b, c⟩ => ⟨p, xs, a, ex_l e b, c.m e⟩⟩
def TuP (K : PySem.W.Frag) (ps : List Pr) : Pr := ⟨fun v H => ∃ p xs, v = .ref p ∧ SqT K H p xs ∧ AllP ps xs H, fun e ⟨p, xs, a, b, c⟩ => ⟨p, xs, a, ex_t e b, c.m e⟩⟩
theorem lq_ls {K : PySem.W.Frag} {ps : List Pr} {v : V} {H : Hp} (h : (LsP ps).P v H) : (LqP K ps).P v H := by
  obtain ⟨p, xs, a, b, c⟩ := h
  exact ⟨p, xs, a, sq_of b, c⟩
mutual
theorem dp_m {K : PySem.W.Frag} {H H' : Hp} (e : Ex H H') : ∀ {d : PyData} {v : V}, Dp K H v d → Dp K H' v d
  | _, _, .non => .non
  | _, _, .bl b => .bl b
  | _, _, .int i => .int i
  | _, _, .str x => .str x
  | _, _, .lst a b => .lst (ex_l e a) (dps_m e b)
  | _, _, .tup a b => .tup (ex_t e a) (dps_m e b)
theorem dps_m {K : PySem.W.Frag} {H H' : Hp} (e : Ex H H') : ∀ {ds : List PyData} {vs : List V}, DpAll K H vs ds → DpAll K H' vs ds
  | _, _, .nil => .nil
  | _, _, .cons a b => .cons (dp_m e a) (dps_m e b)
end
/-- plain data -/
def IsD (K : PySem.W.Frag) (d : PyData) : Pr := ⟨fun v H => Dp K H v d, fun e h => dp_m e h⟩
theorem dps_of {K : PySem.W.Frag} {H : Hp} : ∀ {ds : List PyData} {vs : List V}, AllP (ds.map (IsD K)) vs H → DpAll K H vs ds
  | [], [], _ => .nil
  | _ :: _, _ :: _, h => .cons h.1 (dps_of h.2)
theorem dps_to {K : PySem.W.Frag} {H : Hp} : ∀ {ds : List PyData} {vs : List V}, DpAll K H vs ds → AllP (ds.map (IsD K)) vs H
  | [], [], _ => trivial
  | _ :: _, _ :: _, .cons a b => ⟨a, dps_to b⟩
/-- an expression gives such a value, over all that stands beside -/
def EvP (te : TE) (σ : L2.St) (B : Hp) (p : Pr) : Prop := ∀ H1, Ex B H1 → ∀ Q : VK, (∀ v B' H2, Gr B H1 B' H2 → p.P v B' → Q v H2) → te σ H1 Q
def EvPs (ta : TA) (σ : L2.St) (B : Hp) (ps : List Pr) : Prop := ∀ H1, Ex B H1 → ∀ Q : List V → Hp → Prop, (∀ vs B' H2, Gr B H1 B' H2 → AllP ps vs B' → Q vs H2) → ta σ H1 Q
section
variable {te ta tb : TE} {t tr : TA} {σ : L2.St} {B B' H : Hp} {p q : Pr} {ps qs : List Pr} {v : V} {K : PySem.W.Frag} {D : Ends}
theorem EvP.mono (e : Ex B B') (h : EvP te σ B p) : EvP te σ B' p := fun H1 a Q k => h H1 (e.trans a) Q fun v C H2 g b =>
  k v (both B' C) H2 ⟨g.a, both_l, both_in (a.trans g.a) g.c, fun x hb hh => both_none hb (g.d x (fresh_back e hb) hh), fun z => both_nt z (g.e fun b ps q => z b ps (e _ _ q))⟩ (p.m (both_r (a.trans g.a) g.c) b)
theorem EvP.imp (h : EvP te σ B p) (i : ∀ v B1, Ex B B1 → p.P v B1 → q.P v B1) : EvP te σ B q := fun H1 a _ k => h H1 a _ fun v B2 H2 g b => k v B2 H2 g (i v B2 g.b b)
theorem p_var {i : Nat} (h : σ[i]? = some (some v)) (hp : p.P v B) : EvP (tVar i) σ B p := fun H1 a _ k => ⟨v, h, k v B H1 (Gr.refl a) hp⟩
theorem p_c : EvP (tC v) σ B (IsV v) := fun H1 a _ k => k v B H1 (Gr.refl a) rfl
theorem p_ev (h : Ev te σ B v) : EvP te σ B (IsV v) := fun H1 a _ k => h H1 a _ fun H2 e => k v B H2 (Gr.wide a e) rfl
theorem ev_p (h : EvP te σ B (IsV v)) : Ev te σ B v := fun H1 a _ k => h H1 a _ fun w B2 H2 g b => by
  obtain rfl : w = v := b
  exact k H2 g.a
theorem q_nil : EvPs tNil σ B [] := fun H1 a _ k => k [] B H1 (Gr.refl a) trivial
theorem q_cons (h : EvP te σ B p) (hr : EvPs tr σ B ps) : EvPs (tCons te tr) σ B (p :: ps) := fun H1 a _ k =>
  h H1 a _ fun v B2 H2 g b => hr H2 (g.b.trans g.c) _ fun vs B3 H3 g3 b3 => k (v :: vs) (both B2 B3) H3 (g.join g3) ⟨p.m both_l b, b3.m (both_r (g.c.trans g3.a) g3.c)⟩
theorem p_lst (h : EvPs t σ B ps) (hl : ps.length ≤ 100000) : EvP (tLst t) σ B (LsP ps) := fun H1 a _ k =>
  h H1 a _ fun vs B2 H2 g b => ⟨sz_of (by rw [b.len]; exact hl), fun r hr => k _ _ _ (g.trans (Gr.new _ g.c hr)) ⟨r, vs, rfl, upd_same, b.m (Ex.new (fresh_back g.c hr))⟩⟩
theorem p_tup (h : EvPs t σ B ps) (hl : ps.length ≤ 100000) : EvP (tTup t) σ B (TuP K ps) := fun H1 a _ k =>
  h H1 a _ fun vs B2 H2 g b => ⟨sz_of (by rw [b.len]; exact hl), fun r hr => k _ _ _ (g.trans (Gr.new _ g.c hr)) ⟨r, vs, rfl, st_of upd_same, b.m (Ex.new (fresh_back g.c hr))⟩⟩
theorem p_cat (ha : EvP ta σ B (LsP ps)) (hb : EvP tb σ B (LsP qs)) (hl : ps.length + qs.length ≤ 100000) : EvP (tOp rCat ta tb) σ B (LsP (ps ++ qs)) := fun H1 a Q k =>
  ha H1 a _ fun v B2 H2 g b => hb H2 (g.b.trans g.c) _ fun w B3 H3 g3 b3 => by
    obtain ⟨p, xs, rfl, hp, hx⟩ := b
    obtain ⟨q, ys, rfl, hq, hy⟩ := b3
    have l1 := hx.len
    have l2 := hy.len
    have gj := g.join g3
    refine ⟨p, q, xs, ys, rfl, rfl, g3.a _ _ (g.c _ _ hp), g3.c _ _ hq, sz_of (by omega), fun r hr => k _ _ _ (gj.trans (Gr.new _ gj.c hr)) ⟨r, xs ++ ys, rfl, upd_same, ?_⟩⟩
    have en : Ex (both B2 B3) (upd (both B2 B3) r (.lst (xs ++ ys))) := Ex.new (fresh_back gj.c hr)
    exact (hx.m (both_l.trans en)).app (hy.m ((both_r (g.c.trans g3.a) g3.c).trans en))
/-- of data -/
theorem d_lst {ds : List PyData} (h : EvP te σ B (LsP (ds.map (IsD K)))) : EvP te σ B (IsD K (.list ds)) := h.imp fun v H1 _ b => by
  obtain ⟨r, xs, rfl, hr, hx⟩ := b
  exact .lst (sq_of hr) (dps_of hx)
theorem d_tup {ds : List PyData} (h : EvP te σ B (TuP K (ds.map (IsD K)))) : EvP te σ B (IsD K (.tuple ds)) := h.imp fun v H1 _ b => by
  obtain ⟨r, xs, rfl, hr, hx⟩ := b
  exact .tup hr (dps_of hx)
theorem d_int {i : Int} (h : EvP te σ B (IsV (.int i))) : EvP te σ B (IsD K (.int i)) := h.imp fun v H1 _ b => by
  obtain rfl : v = V.int i := b
  exact .int i
theorem d_str {x : Str} (h : EvP te σ B (IsV (.str x))) : EvP te σ B (IsD K (.str x)) := h.imp fun v H1 _ b => by
  obtain rfl : v = V.str x := b
  exact .str x
theorem d_bl {x : Bool} (h : EvP te σ B (IsV (.bl x))) : EvP te σ B (IsD K (.bool x)) := h.imp fun v H1 _ b => by
  obtain rfl : v = V.bl x := b
  exact .bl x
theorem d_non (h : EvP te σ B (IsV .non)) : EvP te σ B (IsD K .none) := h.imp fun v H1 _ b => by
  obtain rfl : v = V.non := b
  exact .non
theorem ev_eqD {d e : PyData} (ha : EvP ta σ B (IsD K d)) (hb : EvP tb σ B (IsD K e)) (hd : SeqAt.shaped d = true) (he : SeqAt.shaped e = true) : Ev (tOp (rEqD K) ta tb) σ B (.bl (PyData.eqv d e)) := fun H1 a Q k =>
  ha H1 a _ fun v B2 H2 g b => hb H2 (g.b.trans g.c) _ fun w B3 H3 g3 b3 => ⟨d, e, dp_m (g.c.trans g3.a) b, dp_m g3.c b3, hd, he, k H3 (g.a.trans g3.a)⟩
theorem ev_neD {d e : PyData} (ha : EvP ta σ B (IsD K d)) (hb : EvP tb σ B (IsD K e)) (hd : SeqAt.shaped d = true) (he : SeqAt.shaped e = true) : Ev (tOp (rNeD K) ta tb) σ B (.bl (!PyData.eqv d e)) := fun H1 a Q k =>
  ha H1 a _ fun v B2 H2 g b => hb H2 (g.b.trans g.c) _ fun w B3 H3 g3 b3 => ⟨d, e, dp_m (g.c.trans g3.a) b, dp_m g3.c b3, hd, he, k H3 (g.a.trans g3.a)⟩
theorem ps_asg {i : Nat} (a : Ex B H) (h : EvP te σ B p) (k : ∀ v B1 H1, Gr B H B1 H1 → p.P v B1 → D.nx (σ.set i (some v)) H1) : tAsg te (gName i) D σ H := h H a _ k
theorem ps_asgN {i : Nat} (σ' : V → L2.St) (a : Ex B H) (h : EvP te σ B p) (k : ∀ v B1 H1, Gr B H B1 H1 → p.P v B1 → D.nx (σ' v) H1) (e : ∀ v, σ.set i (some v) = σ' v := by intro _; rfl) : tAsg te (gName i) D σ H := h H a _ fun v B1 H1 g b => by
  have := k v B1 H1 g b
  rw [← e v] at this
  exact this
theorem ps_ret (a : Ex B H) (h : EvP te σ B p) (k : ∀ v B1 H1, Gr B H B1 H1 → p.P v B1 → D.rt v H1) : tRet te D σ H := h H a _ k
/-- a call: what the def is handed, what it tells -/
def SpOk (sp : Sp) (ps : List Pr) (p : Pr) : Prop := ∀ vs B H Q E, Ex B H → AllP ps vs B → (∀ u B' H', Gr B H B' H' → p.P u B' → Q u H') → sp vs H Q E
theorem p_call {sp : Sp} (h : EvPs t σ B ps) (hs : SpOk sp ps p) : EvP (tCall sp [] E0 t) σ B p := fun H1 a Q k =>
  h H1 a _ fun vs B2 H2 g b => by
    rw [List.append_nil]
    exact hs vs B2 H2 Q E0 g.c b fun u B3 H3 g3 c => k u B3 H3 (g.trans g3) c
/-- a comprehension over a list, some items left out -/
theorem p_lc {g : TG} {tt : TT} {vs : List Nat} (h : EvP ta σ B (LqP K ps)) (hl : ps.length ≤ 100000) (keep : Nat → Bool) (res : Nat → Pr)
    (step : ∀ i p v B1, ps[i]? = some p → Ex B B1 → p.P v B1 → ∃ σ2, wipe σ2 vs = wipe σ vs ∧ (∀ H2 Q, Ex B1 H2 → Q σ2 H2 → g v (wipe σ vs) H2 Q) ∧ EvT tt σ2 B1 (keep i) ∧ (keep i = true → EvP te σ2 B1 (res i))) :
    EvP (tLc (iList K ta) g tt te vs) σ B (LsP (((List.range ps.length).filter keep).map res)) := fun H1 a Q k =>
  h H1 a _ fun v B2 H2 gr b => by
    obtain ⟨l, xs, rfl, hx, hal⟩ := b
    have hlen := hal.len
    refine ⟨l, rfl, ⟨xs, ex_l gr.c hx⟩, fun Dd hD => ?_⟩
    refine lc_list (K := K) (a := l) (xs := xs) (fun i H3 => ∃ B3 acc, Gr B2 H2 B3 (wo Dd H3) ∧ H3 Dd = some (.lst acc) ∧ AllP (((List.range i).filter keep).map res) acc B3) ?_ ?_ ?_ ?_
    · exact ⟨B2, [], by rw [wo_new hD]; exact Gr.refl gr.c, upd_same, trivial⟩
    · rintro i H3 _ ⟨B3, acc, g3, _, _⟩
      exact ex_l (g3.b.trans (g3.c.trans wo_ex)) hx
    · rintro i x H3 hi ⟨B3, acc, g3, hDd, hacc⟩
      obtain ⟨p, hp, px⟩ := hal.get hi
      have hil : i < xs.length := (List.getElem?_eq_some_iff.mp hi).1
      have exB : Ex B3 H3 := g3.c.trans wo_ex
      have hB3 : B3 Dd = none := wo_none g3.c
      have some3 : H3 Dd ≠ none := by
        rw [hDd]
        exact fun z => nomatch z
      obtain ⟨σ2, hw, hg, ht, he⟩ := step i p x B3 hp (gr.b.trans g3.b) (p.m g3.b px)
      refine hg H3 _ exB ⟨hw, ht H3 exB _ fun H4 e4 => ?_⟩
      have e34 : Ex B3 H4 := exB.trans e4
      have hD4 := e4 _ _ hDd
      have g4 : Gr B2 H2 B3 (wo Dd H4) := g3.side some3 (Gr.wide exB e4)
      have some4 : H4 Dd ≠ none := has e4 some3
      cases hk : keep i with
      | true =>
        rw [if_pos rfl]
        refine he hk H4 e34 _ fun y B5 H5 g5 hy => ?_
        have la : acc.length ≤ i := by
          rw [hacc.len, List.length_map]
          exact Nat.le_trans (List.length_filter_le _ _) (by rw [List.length_range]; exact Nat.le_refl _)
        refine ⟨acc, g5.a _ _ hD4, sz_lt (by omega), B5, acc ++ [y], by rw [wo_upd]; exact g4.side some4 g5, upd_same, ?_⟩
        rw [List.range_succ, List.filter_append, List.map_append]
        refine (hacc.m g5.b).app ?_
        have : List.filter keep [i] = [i] := by simp [hk]
        rw [this]
        exact ⟨hy, trivial⟩
      | false =>
        rw [if_neg Bool.false_ne_true]
        refine ⟨B3, acc, g4, hD4, ?_⟩
        rw [List.range_succ, List.filter_append, List.map_append]
        have : List.filter keep [i] = [] := by simp [hk]
        rw [this, List.map_nil, List.append_nil]
        exact hacc
    · rintro H3 ⟨B3, acc, g3, hDd, hacc⟩
      have hB3 : B3 Dd = none := wo_none g3.c
      rw [hlen] at hacc
      refine k (.ref Dd) (upd B3 Dd (.lst acc)) H3 ⟨gr.a.trans (g3.a.trans wo_ex), gr.b.trans (g3.b.trans (Ex.new hB3)), fun b o e => ?_, fun x hb hh => ?_, fun z b ps q => ?_⟩ ⟨Dd, acc, rfl, upd_same, hacc.m (Ex.new hB3)⟩
      · by_cases n : b = Dd
        · subst n
          rw [upd_same] at e
          rw [hDd]
          exact e
        · rw [upd_ne n] at e
          exact g3.c.trans wo_ex _ _ e
      · have n : x ≠ Dd := fun z => by
          subst z
          exact has gr.a hh hD
        rw [upd_ne n]
        exact g3.d x (gr.d x hb hh) (has gr.a hh)
      · by_cases n : b = Dd
        · subst n
          rw [upd_same] at q
          cases q
        · rw [upd_ne n] at q
          exact g3.e (gr.e z) b ps q
end
end My
namespace My
set_option autoImplicit false
open PySem L2 Evl
/-- what is known says which data it is -/
def To (K : PySem.W.Frag) (p : Pr) (d : PyData) : Prop := ∀ v H, p.P v H → Dp K H v d
inductive ToAll (K : PySem.W.Frag) : List Pr → List PyData → Prop
  | nil : ToAll K [] []
  | cons {p : Pr} {d : PyData} {ps : List Pr} {ds : List PyData} : To K p d → ToAll K ps ds → ToAll K (p :: ps) (d :: ds)
section
variable {te ta tb : TE} {t tr : TA} {σ : L2.St} {B B' H : Hp} {p q : Pr} {ps qs : List Pr} {v : V} {K : PySem.W.Frag} {D : Ends} {d e : PyData} {ds : List PyData}
theorem to_int {i : Int} : To K (IsV (.int i)) (.int i) := fun v H h => by
  obtain rfl : v = _ := h
  exact .int i
theorem to_str {x : Str} : To K (IsV (.str x)) (.str x) := fun v H h => by
  obtain rfl : v = _ := h
  exact .str x
theorem to_bl {b : Bool} : To K (IsV (.bl b)) (.bool b) := fun v H h => by
  obtain rfl : v = _ := h
  exact .bl b
theorem to_non : To K (IsV .non) .none := fun v H h => by
  obtain rfl : v = _ := h
  exact .non
theorem to_d : To K (IsD K d) d := fun _ _ h => h
theorem toAll_all {H : Hp} : ∀ {ps : List Pr} {ds : List PyData} {vs : List V}, ToAll K ps ds → AllP ps vs H → DpAll K H vs ds
  | [], _, [], .nil, _ => .nil
  | _ :: _, _, _ :: _, .cons a b, h => .cons (a _ _ h.1) (toAll_all b h.2)
theorem to_lst (h : ToAll K ps ds) : To K (LsP ps) (.list ds) := fun v H hv => by
  obtain ⟨r, xs, rfl, hr, hx⟩ := hv
  exact .lst (sq_of hr) (toAll_all h hx)
theorem to_lq (h : ToAll K ps ds) : To K (LqP K ps) (.list ds) := fun v H hv => by
  obtain ⟨r, xs, rfl, hr, hx⟩ := hv
  exact .lst hr (toAll_all h hx)
theorem to_tup (h : ToAll K ps ds) : To K (TuP K ps) (.tuple ds) := fun v H hv => by
  obtain ⟨r, xs, rfl, hr, hx⟩ := hv
  exact .tup hr (toAll_all h hx)
theorem toAll_map {α : Type} {f : α → Pr} {g : α → PyData} (l : List α) (h : ∀ x, To K (f x) (g x)) : ToAll K (l.map f) (l.map g) := by
  induction l with
  | nil => exact .nil
  | cons x r ih => exact .cons (h x) ih
theorem p_to (h : EvP te σ B p) (k : To K p d) : EvP te σ B (IsD K d) := h.imp fun v B1 _ b => k v B1 b
theorem p_varV {i : Nat} (h : σ[i]? = some (some v)) : EvP (tVar i) σ B (IsV v) := p_var h rfl
theorem p_lq (h : EvP te σ B (LsP ps)) : EvP te σ B (LqP K ps) := h.imp fun _ _ _ b => lq_ls b
/-- an item at a written place -/
theorem p_ix {j : Int} (h : EvP ta σ B (LqP K ps)) (hj : EvP tb σ B (IsV (.int j))) (hp : atI ps j = some p) : EvP (tOp (rIxL K) ta tb) σ B p := fun H1 a Q k =>
  h H1 a _ fun v B2 H2 g b => hj H2 (g.b.trans g.c) _ fun w B3 H3 g3 b3 => by
    obtain ⟨l, xs, rfl, hx, hal⟩ := b
    obtain rfl : w = _ := b3
    have hlen := hal.len
    unfold atI at hp
    rw [← hlen] at hp
    obtain ⟨n, hn, hq⟩ := Option.bind_eq_some_iff.mp hp
    obtain ⟨z, hz, pz⟩ := hal.at hq
    have gj := g.join g3
    refine ⟨l, xs, j, z, rfl, rfl, ex_l (g.c.trans g3.a) hx, ?_, k z _ _ gj (p.m both_l pz)⟩
    unfold atI
    rw [hn]
    exact hz
theorem p_ixT {j : Int} (h : EvP ta σ B (TuP K ps)) (hj : EvP tb σ B (IsV (.int j))) (hp : atI ps j = some p) : EvP (tOp (rIxT K) ta tb) σ B p := fun H1 a Q k =>
  h H1 a _ fun v B2 H2 g b => hj H2 (g.b.trans g.c) _ fun w B3 H3 g3 b3 => by
    obtain ⟨l, xs, rfl, hx, hal⟩ := b
    obtain rfl : w = _ := b3
    have hlen := hal.len
    unfold atI at hp
    rw [← hlen] at hp
    obtain ⟨n, hn, hq⟩ := Option.bind_eq_some_iff.mp hp
    obtain ⟨z, hz, pz⟩ := hal.at hq
    have gj := g.join g3
    refine ⟨l, xs, j, z, rfl, rfl, ex_t (g.c.trans g3.a) hx, ?_, k z _ _ gj (p.m both_l pz)⟩
    unfold atI
    rw [hn]
    exact hz
theorem AllP.rep {H : Hp} {vs : List V} (h : AllP ps vs H) : ∀ n, AllP (List.replicate n ps).flatten (List.replicate n vs).flatten H
  | 0 => trivial
  | n + 1 => by
    rw [List.replicate_succ, List.replicate_succ, List.flatten_cons, List.flatten_cons]
    exact h.app (AllP.rep h n)
theorem p_rep {n : Nat} (h : EvP ta σ B (LsP ps)) (hb : EvP tb σ B (IsV (.int (n : Int)))) (hn : n ≤ 100000) (hl : ps.length * n ≤ 100000) : EvP (tOp rRep ta tb) σ B (LsP (List.replicate n ps).flatten) := fun H1 a Q k =>
  h H1 a _ fun v B2 H2 g b => hb H2 (g.b.trans g.c) _ fun w B3 H3 g3 b3 => by
    obtain ⟨l, xs, rfl, hx, hal⟩ := b
    obtain rfl : w = _ := b3
    have gj := g.join g3
    have hlen := hal.len
    refine ⟨l, (n : Int), xs, rfl, rfl, g3.a _ _ (g.c _ _ hx), by omega, by omega, sz_of (by rw [hlen]; exact hl), fun r hr => k _ _ _ (gj.trans (Gr.new _ gj.c hr)) ⟨r, _, rfl, upd_same, ?_⟩⟩
    exact (AllP.rep (hal.m both_l) n).m (Ex.new (fresh_back gj.c hr))
theorem et_yes : EvT tYes σ B true := fun H1 _ _ q => q H1 (Ex.refl H1)
theorem p_lcM {g : TG} {tt : TT} {vs : List Nat} (h : EvP ta σ B (LqP K ps)) (hl : ps.length ≤ 100000) (res : Nat → Pr)
    (step : ∀ i p v B1, ps[i]? = some p → Ex B B1 → p.P v B1 → ∃ σ2, wipe σ2 vs = wipe σ vs ∧ (∀ H2 Q, Ex B1 H2 → Q σ2 H2 → g v (wipe σ vs) H2 Q) ∧ EvT tt σ2 B1 true ∧ EvP te σ2 B1 (res i)) :
    EvP (tLc (iList K ta) g tt te vs) σ B (LsP ((List.range ps.length).map res)) := by
  have := p_lc h hl (fun _ => true) res fun i p v B1 hp e pv => by
    obtain ⟨σ2, a, b, c, d⟩ := step i p v B1 hp e pv
    exact ⟨σ2, a, b, c, fun _ => d⟩
  rw [List.filter_eq_self.mpr (fun _ _ => rfl)] at this
  exact this
/-- a test whose answer is known -/
theorem ps_ifF {t : TT} {tu tw : TS} (a : Ex B H) (h : EvT t σ B false) (k : ∀ H1, Ex H H1 → tw D σ H1) : tIfS t tu tw D σ H := h H a _ fun H1 e => by
  rw [if_neg Bool.false_ne_true]
  exact k H1 e
theorem ps_ifT {t : TT} {tu tw : TS} (a : Ex B H) (h : EvT t σ B true) (k : ∀ H1, Ex H H1 → tu D σ H1) : tIfS t tu tw D σ H := h H a _ fun H1 e => by
  rw [if_pos rfl]
  exact k H1 e
theorem et_ne {d : PyData} (ha : EvP ta σ B (IsD K d)) (hb : EvP tb σ B (IsD K d)) (hd : SeqAt.shaped d = true) : EvT (tTest (tOp (rNeD K) ta tb)) σ B false :=
  et_is (et_test (ev_neD ha hb hd hd)) (by rw [SeqAt.eqv_refl d (Bool.and_eq_true_iff.mp hd).1]; rfl)
theorem ev_notN (h : EvP ta σ B (IsV .non)) : Ev (tOp (fun x y H Q => y = V.non ∧ Q (.bl (!decide (x = V.non))) H) ta (tC .non)) σ B (.bl false) := fun H1 a Q k =>
  h H1 a _ fun v B2 H2 g b => by
    obtain rfl : v = V.non := b
    exact ⟨rfl, k H2 g.a⟩
end
end My
namespace My
set_option autoImplicit false
open PySem PySem.Spec PySem.W PyProof.Rows L2 Evl NdefX LamX
/-- an address of ours that nothing else speaks of -/
structure Fre (X : Cx) (pins : List (Addr × Obj)) (a : Addr) : Prop where
  base : X.s_0.heap.objs.size ≤ a
  loc : a ≠ X.env.locals
  cel : ∀ y c, X.env.cells.lookup y = some c → c ≠ a
  pin : ∀ p ∈ X.pn ++ pins, p.1 ≠ a
  fs : a ∉ X.fs
section
variable {X : Cx} {pins : List (Addr × Obj)} {σ : L2.St} {H : Hp} {s : Shared} {a b : Addr}
theorem Fre.of (I : Inv X pins σ H s) (h : s.heap.objs.size ≤ a) : Fre X pins a := by
  have no : ∀ c : Addr, c < s.heap.objs.size → c ≠ a := fun c hc z => by
    rw [z] at hc
    exact Nat.lt_irrefl _ (Nat.lt_of_lt_of_le hc h)
  refine ⟨Nat.le_trans I.sz h, (no _ I.lt).symm, fun y c e => ?_, fun p hp => ?_, I.nofs h⟩
  · obtain ⟨v, o, ho, _⟩ := I.cell y c e
    exact no c (Heap.lt_size ho)
  · exact no p.1 (Heap.lt_size (I.pin p hp).1)
theorem Fre.more (f : Fre X pins a) {o : Obj} (h : b ≠ a) : Fre X ((b, o) :: pins) a :=
  ⟨f.base, f.loc, f.cel, fun p hp => (List.mem_append.mp hp).elim (fun z => f.pin p (List.mem_append_left _ z)) fun z => by
    rcases List.mem_cons.mp z with rfl | z
    · exact h
    · exact f.pin p (List.mem_append_right _ z), f.fs⟩
/-- fewer pins -/
theorem unpin {p : Addr × Obj} (I : Inv X (p :: pins) σ H s) : Inv X pins σ H s := I.pins_of fun q hq => I.pin q (List.mem_append_right _ (List.mem_cons_of_mem _ hq))
theorem repin {o : Obj} (I : Inv X pins σ H s) (f : Fre X pins a) (ho : s.heap.get? a = some o) (hn : H a = none) (hd : ∀ v, o.data ≠ .cell v) : Inv X ((a, o) :: pins) σ H s := I.pins_of fun q hq => by
  rcases List.mem_cons.mp hq with rfl | hq
  · exact ⟨ho, hn, f.loc, f.fs, hd⟩
  · exact I.pin q (List.mem_append_right _ hq)
/-- two objects that are not known of, written; one may be known from now on -/
theorem free2 {h' : Heap} {t' : Nat} {ys : List V} (I : Inv X pins σ H s) (fa : Fre X pins a) (fb : Fre X pins b) (na : H a = none) (nb : H b = none)
    (k : ∀ c o, c ≠ a → c ≠ b → s.heap.get? c = some o → h'.get? c = some o) (new : ys.length ≤ sizeLine ∧ ∃ (its : List Value) (n : Nat), Vals ys its ∧ h'.get? a = some { cls := .type "list", data := .seq its.toArray n }) :
    Inv X pins σ (upd H a (.lst ys)) { s with heap := h', toks := t' } := by
  have ne : ∀ c u, H c = some u → c ≠ a := fun c u e => ne_of_none e na
  have neb : ∀ c u, H c = some u → c ≠ b := fun c u e => ne_of_none e nb
  have up : ∀ c u, H c = some u → upd H a (.lst ys) c = some u := fun c u e => by rw [upd_ne (ne c u e)]; exact e
  have out : ∀ c, c ∉ [a, b] → c ≠ a ∧ c ≠ b := fun c hc => ⟨fun z => hc (by simp [z]), fun z => hc (by simp [z])⟩
  refine I.step (g' := s.gens) (d' := s.drawn) (ch := [a, b]) (fun c hc => ?_) (fun c o _ _ hc e _ => k c o (out c hc).1 (out c hc).2 e) (fun c o _ _ hc e _ => ⟨o.slots, k c o (out c hc).1 (out c hc).2 e⟩) (fun c o hc _ n => ?_)
    (fun c o hc e => ⟨o, k c o (out c hc).1 (out c hc).2 e⟩) (fun c xs e => up _ _ e) (fun c o u e => up _ _ e) (fun c ps e => ⟨#[], by rw [up _ _ e]; simp⟩) (fun m hn => ?_) (fun c u e => ?_) I.bare
  · rcases List.mem_cons.mp hc with rfl | hc
    · exact ⟨.inr fa.base, fa.loc, fa.cel, fa.pin⟩
    · obtain rfl := List.mem_singleton.mp hc
      exact ⟨.inr fb.base, fb.loc, fb.cel, fb.pin⟩
  · rw [upd_ne (out c hc).1]
    exact n
  · obtain ⟨ob, es, ep, ho, r⟩ := hn
    exact ⟨ob, es, ep, k _ ob fa.loc.symm fb.loc.symm ho, r⟩
  · by_cases hc : c = a
    · subst hc
      rw [upd_same] at e
      cases e
      exact new
    · rw [upd_ne hc] at e
      refine (I.hok c u e).stay (fun d v hd q => ?_) (fun d q => up _ _ q) fun d xs q => up _ _ q
      rcases hd with rfl | z
      · exact k _ v (ne _ _ e) (neb _ _ e) q
      · exact k _ v (ne _ _ z) (neb _ _ z) q
/-- one pinned object, written -/
theorem pinSet {o o' : Obj} {h' : Heap} {t' : Nat} (I : Inv X ((a, o) :: pins) σ H s) (fa : Fre X pins a) (k : ∀ c o, c ≠ a → s.heap.get? c = some o → h'.get? c = some o) (ha : h'.get? a = some o') (hd : ∀ v, o'.data ≠ .cell v) :
    Inv X ((a, o') :: pins) σ H { s with heap := h', toks := t' } := by
  have na : H a = none := (I.pin (a, o) (List.mem_append_right _ List.mem_cons_self)).2.1
  have ne : ∀ c u, H c = some u → c ≠ a := fun c u e => ne_of_none e na
  have out : ∀ c, c ∉ [a] → c ≠ a := fun c hc z => hc (by simp [z])
  have J := (unpin I).step (h' := h') (H' := H) (g' := s.gens) (d' := s.drawn) (t' := t') (ch := [a]) (fun c hc => by
      obtain rfl := List.mem_singleton.mp hc
      exact ⟨.inr fa.base, fa.loc, fa.cel, fa.pin⟩) (fun c o _ _ hc e _ => k c o (out c hc) e) (fun c o _ _ hc e _ => ⟨o.slots, k c o (out c hc) e⟩) (fun c o hc _ n => n)
    (fun c o hc e => ⟨o, k c o (out c hc) e⟩) (fun c xs e => e) (fun c o u e => e) (fun c ps e => ⟨#[], by rw [e]; simp⟩) (fun m hn => by
      obtain ⟨ob, es, ep, ho, r⟩ := hn
      exact ⟨ob, es, ep, k _ ob fa.loc.symm ho, r⟩) (fun c u e => by
      refine (I.hok c u e).stay (fun d v hd q => ?_) (fun d q => q) fun d xs q => q
      rcases hd with rfl | z
      · exact k _ v (ne _ _ e) q
      · exact k _ v (ne _ _ z) q) I.bare
  exact repin J fa ha na hd
/-- a lambda of one parameter is called -/
theorem lam_call {A : Around} {F : NF} {body : Expr} {x0 : Str} {N fr : List Str} {f : Addr} {pm ctv : Value} {tb : TE} {k : Nat} {u : Value} {x : V} {js : List Nat} {Q : VK} {E' : Value → Shared → Prop}
    (I : Inv X pins σ H s) (S : NScope N [x0] fr F.scope) (hA : A.frames = some X.stack) (hr : Room (k + 1) A) (hf : s.heap.get? f = some (kla_obj F.name F.qual F.params body F.scope F.cl pm F.c ctv)) (hc : H F.c = some (CodeO F.c F.qual))
    (hbind : bindArgs (kla_fn F.name F.qual F.params body F.scope F.cl pm (.ref F.c) ctv) ⟨[u], []⟩ = pure [(x0, u)]) (cp : Caps X F.cl fr js) (r : RelV x u)
    (hbody : ∀ (s0 : Shared) (H0 : Hp), Room k (A.deeper (envF F f s0.heap.objs.size)) → PE (ncx C8.CX0 X.prog X.w X.K X.mg X.base N F f A X.stack s0 H0 C8.E0) body tb)
    (q : tb (startF N [x] (js.map (slotAt σ))) H Q) : wpAny (model X.prog X.w) A (call (.ref f) [u]) (EP X pins σ Q) E' s := by
  have e0 : Env0 X.prog X.w X.K X.mg X.base A X.stack s H := ⟨hA, I.ok.mod, I.bs, Nat.le_trans I.ok.bsz I.sz, I.stack, I.stkFree, I.hok, I.bare⟩
  have rc : codeAny (model X.prog X.w) A (.call (.ref f) ⟨[u], []⟩) (CR C8.CX0 X.stack X.prog X.w H s Q C8.E0) s := by
    refine kla_callFunE hr.depth hf rfl S.co S.gen rfl (codeO_at I.hok hc) ?_
    rw [hbind]
    refine wpAny_pure (wpAny_newFunctionEnv S.nocell (fun y hy => by
      obtain rfl := List.mem_singleton.mp hy
      exact S.par x0 List.mem_cons_self) (fun h1 hns hsb => ⟨I.nolimit.fresh _ hsb, ?_⟩) S.kind)
    show codeAny _ _ (.expr body (envF F f s.heap.objs.size)) _ _
    have kp : ∀ b o, s.heap.get? b = some o → h1.get? b = some o := fun b o e => hsb.extBut b o (Nat.ne_of_lt (Heap.lt_size e)) (Heap.get?_push_of_some _ e)
    have J : Inv (ncx C8.CX0 X.prog X.w X.K X.mg X.base N F f A X.stack s H C8.E0) [] (startF N [x] (js.map (slotAt σ))) H { s with heap := h1, toks := s.toks + [(x0, u)].length } :=
      inv_startN (us := [u]) S hr.hd e0 rfl (.cons r .nil) (cells_of I cp) hns kp
    refine kla_codeExpr (wpAny_mono ((hbody s H (hr.deeper _)).run [] _ _ H Q J q) (fun v s1 hq => ?_) fun e s1 hq => hq)
    obtain ⟨w', H', J', rv, qq⟩ := hq
    exact ⟨w', H', J'.os, J'.bare, J'.base, J'.hok, rv, qq⟩
  refine wpAny_call (codeAny_mono rc fun r s2 hq => ?_)
  cases r with
  | error e => exact (show False from hq).elim
  | ok fl =>
    cases fl with
    | ret u => exact I.after hq
    | next => exact False.elim hq
    | brk => exact False.elim hq
    | cont => exact False.elim hq
end
end My
namespace My
set_option autoImplicit false
open PySem PySem.Spec PySem.W PySem.Calls PyProof.Rows L2 Evl NdefX LamX
theorem dpAll_len {K : PySem.W.Frag} {H : Hp} : ∀ {vs : List V} {ds : List PyData}, DpAll K H vs ds → vs.length = ds.length
  | [], [], _ => rfl
  | _ :: _, _ :: _, .cons _ b => congrArg Nat.succ (dpAll_len b)
theorem dpAll_get {K : PySem.W.Frag} {H : Hp} : ∀ {vs : List V} {ds : List PyData} {i : Nat} {d : PyData}, DpAll K H vs ds → ds[i]? = some d → ∃ v, vs[i]? = some v ∧ Dp K H v d
  | [], [], i, d, _, h => by simp at h
  | v :: _, e :: _, 0, d, .cons a _, h => by
    obtain rfl : e = d := Option.some.inj h
    exact ⟨v, rfl, a⟩
  | _ :: _, _ :: _, i + 1, d, .cons _ b, h => dpAll_get (i := i) b h
theorem dpAll_app {K : PySem.W.Frag} {H : Hp} : ∀ {vs ws : List V} {ds es : List PyData}, DpAll K H vs ds → DpAll K H ws es → DpAll K H (vs ++ ws) (ds ++ es)
  | [], _, [], _, _, h => h
  | _ :: _, _, _ :: _, _, .cons a b, h => .cons a (dpAll_app b h)
theorem vals_app {vs ws : List V} {us zs : List Value} (a : Vals vs us) (b : Vals ws zs) : Vals (vs ++ ws) (us ++ zs) := by
  induction a with
  | nil => exact b
  | cons r _ ih => exact .cons r ih
/-- the items, each with its key, in order, equal ones as they stood: the items alone -/
def byKey (xs : List V) (ks : List PyData) : List V := ((xs.zip ks).mergeSort (dataLe false (·.2))).map (·.1)
theorem vals_each {h : Heap} : ∀ {xs : List V} {us : List Value} {ks : List PyData}, Vals xs us → ks.length = xs.length → EachIs (fun (u : Value) (p : V × PyData) => RelV p.1 u) us (xs.zip ks)
  | [], [], ks, _, h => by
    obtain rfl := List.length_eq_zero_iff.mp h
    exact .nil
  | _ :: _, _ :: _, [], _, h => by simp at h
  | _ :: _, _ :: _, _ :: _, .cons r t, h => .cons r (vals_each (h := ‹Heap›) t (by simpa using h))
theorem each_vals : ∀ {us : List Value} {ps : List (V × PyData)}, EachIs (fun (u : Value) (p : V × PyData) => RelV p.1 u) us ps → Vals (ps.map (·.1)) us
  | _, _, .nil => .nil
  | _, _, .cons r t => .cons r (each_vals t)
theorem zip_snd {α β : Type} : ∀ {xs : List α} {ks : List β}, ks.length = xs.length → (xs.zip ks).map (·.2) = ks
  | [], ks, h => by
    obtain rfl := List.length_eq_zero_iff.mp h
    rfl
  | _ :: _, [], h => by simp at h
  | _ :: _, k :: _, h => congrArg (k :: ·) (zip_snd (by simpa using h))
theorem dps_each {X : Cx} {pins : List (Addr × Obj)} {σ : L2.St} {H : Hp} {s : Shared} (I : Inv X pins σ H s) : ∀ {vs : List V} {us : List Value} {ds : List PyData}, Vals vs us → DpAll X.K H vs ds → EachIs (fun u d => ∃ as, Reads s.heap u d as) us ds
  | [], [], [], _, _ => .nil
  | _ :: _, _ :: _, _ :: _, .cons r t, .cons a b => .cons (Dp.reads I _ _ _ a r) (dps_each I t b)
/-- f, called for x while the heap is at least H0, gives k -/
def KeyRun (X : Cx) (σ : L2.St) (A : Around) (f : Addr) (fo : Obj) (H0 : Hp) (x : V) (k : PyData) : Prop := ∀ (pins : List (Addr × Obj)) (s : Shared) (H : Hp) (u : Value) (E : Value → Shared → Prop),
  Inv X pins σ H s → (f, fo) ∈ pins → Ex H0 H → RelV x u → wpAny (model X.prog X.w) A (call (.ref f) [u]) (EP X pins σ fun v H' => Ex H H' ∧ Dp X.K H' v k) E s
section
variable {X : Cx} {pins : List (Addr × Obj)} {σ : L2.St} {H : Hp} {s : Shared} {A : Around} {f : Addr} {fo : Obj} {xs : List V} {ks : List PyData} {E : Value → Shared → Prop}
/-- the keys are made, one behind the other, then all is sorted -/
theorem rest_inv {a kS : Addr} {vs : List Value} {e1 : Nat} {Q : VK} (I : Inv X ((kS, seqObj "list" #[] 0) :: (a, seqObj "list" #[] e1) :: pins) σ H s) (hf : (f, fo) ∈ pins) (fa : Fre X pins a) (fk : Fre X pins kS) (hka : kS ≠ a)
    (hv : Vals xs vs) (hl : ks.length = xs.length) (hZ : xs.length ≤ sizeLine) (hal : AllAlike ks) (hsk : Sortable ks) (hu : ∀ d, d ∈ ks → A.units + d.depth < cLine)
    (key : ∀ (i : Nat) (x : V) (k : PyData), xs[i]? = some x → ks[i]? = some k → KeyRun X σ A f fo H x k)
    (q : ∀ H', Ex H H' → H' a = none → Q (.ref a) (upd H' a (.lst (byKey xs ks)))) :
    wpAny (model X.prog X.w) A (ksk_rest a (.ref f) false vs.toArray e1 (.ref kS)) (fun fin s' => fin = .done (.ret .none) ∧ EP X pins σ Q (.ref a) s') E s := by
  have hvl := hv.length
  have hks : ∀ z : Value, ∀ v, (seqObj "list" #[z] 0 : Obj).data ≠ .cell v := fun z v h => nomatch h
  have one : ∀ {i : Nat} {u : Value}, vs[i]? = some u → ∃ x k, xs[i]? = some x ∧ ks[i]? = some k ∧ RelV x u := fun {i u} hu => by
    have hi : i < vs.length := (List.getElem?_eq_some_iff.mp hu).1
    have e1 : xs[i]? = some xs[i] := List.getElem?_eq_getElem (by omega)
    have e2 : ks[i]? = some ks[i] := List.getElem?_eq_getElem (by omega)
    obtain ⟨w, hw, r⟩ := hv.get e1
    rw [hu] at hw
    obtain rfl := Option.some.inj hw
    exact ⟨_, _, e1, e2, r⟩
  unfold ksk_rest
  apply wpAny_bind
  apply wpAny_rule
  first
    | rw [List.forIn_toArray]
    | (rw [← Array.forIn_toList]; simp only [List.toList_toArray])
  apply wpAny_bind
  refine ksk_fold (fun i s' => ∃ (H' : Hp) (kA : Array Value) (n : Nat) (kvs : List V), Inv X ((kS, seqObj "list" kA n) :: (a, seqObj "list" #[] e1) :: pins) σ H' s' ∧ Ex H H' ∧ Vals kvs kA.toList ∧ DpAll X.K H' kvs (ks.take i)) vs 0 s
    ⟨H, #[], 0, [], I, Ex.refl H, .nil, by rw [List.take_zero]; exact .nil⟩ ?_ ?_
  · rintro j u s1 hj ⟨H1, kA, n, kvs, I1, x1, r1, d1⟩
    simp only [Nat.zero_add] at d1 ⊢
    obtain ⟨x, k, hx, hk, rx⟩ := one hj
    have jl : j < vs.length := (List.getElem?_eq_some_iff.mp hj).1
    have kz : kA.size ≤ sizeLine := by
      have h1 := r1.length
      have h2 := dpAll_len d1
      have h3 : kA.toList.length = kA.size := by simp
      rw [List.length_take] at h2
      omega
    refine wpAny_bind (wpAny_attempt (wpAny_mono (key j x k hx hk _ s1 H1 u (fun _ _ => False) I1 (List.mem_cons_of_mem _ (List.mem_cons_of_mem _ hf)) x1 rx) (fun w s2 hw => ?_) fun _ _ z => z.elim))
    obtain ⟨v, H2, I2, rv, x2, dv⟩ := hw
    dsimp only
    have at1 := (I2.pin _ (List.mem_append_right _ List.mem_cons_self)).1
    obtain ⟨n2, at2⟩ : ∃ n2, (s2.heap.update kS (Obj.mapSeq (·.push w))).get? kS = some (seqObj "list" (kA.push w) n2) := ⟨_, get?_update_seq at1 (·.push w)⟩
    have sb := Heap.SameBut.update s2.heap kS (Obj.mapSeq (·.push w))
    refine wpAny_bind (listUpdate_at at1 rfl ?_ kz (by rw [Array.size_push]; omega))
    refine wpAny_pure ⟨rfl, H2, kA.push w, n2, kvs ++ [v], pinSet (t' := s2.toks) I2 (fk.more hka.symm) (fun c o hc e => (sb.2 c hc).trans e) at2 (fun v z => nomatch z), x1.trans x2, ?_, ?_⟩
    · have : (kA.push w).toList = kA.toList ++ [w] := by simp
      rw [this]
      exact vals_app r1 (.cons rv .nil)
    · rw [List.take_add_one, hk]
      exact dpAll_app (dps_m x2 d1) (.cons dv .nil)
  · rintro s1 ⟨H1, kA, n, kvs, I1, x1, r1, d1⟩
    have ek : ks.take (0 + vs.length) = ks := List.take_of_length_le (by omega)
    rw [ek] at d1
    have at1 := (I1.pin _ (List.mem_append_right _ List.mem_cons_self)).1
    have nk := (I1.pin _ (List.mem_append_right _ List.mem_cons_self)).2.1
    have at2 := (I1.pin _ (List.mem_append_right _ (List.mem_cons_of_mem _ List.mem_cons_self))).1
    have na := (I1.pin _ (List.mem_append_right _ (List.mem_cons_of_mem _ List.mem_cons_self))).2.1
    have ksz : kA.size = vs.length := by
      have h1 := r1.length
      have h2 := dpAll_len d1
      have h3 : kA.toList.length = kA.size := by simp
      omega
    have ev := dps_each I1 r1 d1
    obtain ⟨G, g1, g2⟩ := restrict s1.heap fun c => decide (c ≠ kS)
    have kp : KeepsBut a G s1.heap := fun c o _ e => by
      by_cases hc : c = kS
      · rw [hc, g2 kS (decide_eq_false fun z => z rfl)] at e
        cases e
      · rw [← g1 c (decide_eq_true hc)]
        exact e
    refine wpAny_bind (listItems_at at1 rfl ?_)
    refine keyH_end (κ := dataKind s1.heap ks) (h₁ := G) kp (g2 kS (decide_eq_false fun z => z rfl)) at1 at2 hka (SortsAt.data ev hal hsk hu) ksz (by omega) fun h3 tk3 c k3 n3 => ⟨rfl, ?_⟩
    have out : KeyedOut false ks vs (sortVals (dataKind s1.heap ks) false kA.toList vs) := ⟨s1.heap, kA.toList, hal, rfl, ev⟩
    have ez := zip_snd hl
    have o2 : EachIs (fun (u : Value) (p : V × PyData) => RelV p.1 u) (sortVals (dataKind s1.heap ks) false kA.toList vs) ((xs.zip ks).mergeSort (dataLe false (·.2))) :=
      keyedOut_each (·.2) (by rw [ez]; exact out) (vals_each (h := s.heap) hv hl)
    have rv := each_vals o2
    have vl : (byKey xs ks).length ≤ sizeLine := by
      show (((xs.zip ks).mergeSort (dataLe false (·.2))).map (·.1)).length ≤ _
      rw [List.length_map, List.length_mergeSort, List.length_zip]
      omega
    exact ⟨.ref a, _, free2 (b := kS) (t' := tk3) (unpin (unpin I1)) fa fk na nk (fun d o h1 h2 e => k3 d o h1 (by rw [g1 d (decide_eq_true h2)]; exact e)) ⟨vl, _, c, rv, n3⟩, rfl, q H1 x1 na⟩
/-- the list at a, nobody's yet, is sorted by keys -/
theorem tree_inv {a : Addr} {vs : List Value} {n : Nat} {Q : VK} (I : Inv X pins σ H s) (hf : (f, fo) ∈ pins) (fa : Fre X pins a) (na : H a = none) (ha : s.heap.get? a = some (seqObj "list" vs.toArray n))
    (hv : Vals xs vs) (hl : ks.length = xs.length) (hZ : xs.length ≤ sizeLine) (hal : AllAlike ks) (hsk : Sortable ks) (hu : ∀ d, d ∈ ks → A.units + d.depth < cLine)
    (key : ∀ (i : Nat) (x : V) (k : PyData), xs[i]? = some x → ks[i]? = some k → KeyRun X σ A f fo H x k)
    (q : ∀ H', Ex H H' → H' a = none → Q (.ref a) (upd H' a (.lst (byKey xs ks)))) :
    wpAny (model X.prog X.w) A (ksk_tree a (.ref f) false) (fun fin s' => fin = .done (.ret .none) ∧ EP X pins σ Q (.ref a) s') E s := by
  have hvl := hv.length
  obtain ⟨e1, a1⟩ : ∃ e1, (s.heap.update a (Obj.mapSeq fun _ => (#[] : Array Value))).get? a = some (seqObj "list" #[] e1) := ⟨_, get?_update_seq ha fun _ => #[]⟩
  have sb := Heap.SameBut.update s.heap a (Obj.mapSeq fun _ => (#[] : Array Value))
  unfold ksk_tree
  refine wpAny_bind (listItems_at ha rfl ?_)
  refine wpAny_bind (listUpdate_at ha rfl ?_ (by rw [List.size_toArray]; omega) (Nat.zero_le _))
  refine wpAny_bind (seqEpoch_at a1 rfl ?_)
  refine wpAny_bind (wpAny_newTuple ?_ (by show vs.length ≤ _; omega))
  refine wpAny_bind (wpAny_newList ?_ (Nat.zero_le _))
  apply wpAny_holding
  have I0 : Inv X ((a, seqObj "list" #[] e1) :: pins) σ H { s with heap := s.heap.update a (Obj.mapSeq fun _ => (#[] : Array Value)), toks := s.toks } :=
    pinSet (repin I fa ha na fun v z => nomatch z) fa (fun c o hc e => (sb.2 c hc).trans e) a1 fun v z => nomatch z
  have I1 := I0.kept (t' := s.toks) (h' := ((s.heap.update a (Obj.mapSeq fun _ => (#[] : Array Value))).push (seqObj "tuple" vs.toArray 0))) (fun c o e => Heap.get?_push_of_some _ e)
  have hk : Fre X ((a, seqObj "list" #[] e1) :: pins) ((s.heap.update a (Obj.mapSeq fun _ => (#[] : Array Value))).push (seqObj "tuple" vs.toArray 0)).objs.size := Fre.of I1 (Nat.le_refl _)
  have I2 := I1.kept (t' := s.toks) (h' := (((s.heap.update a (Obj.mapSeq fun _ => (#[] : Array Value))).push (seqObj "tuple" vs.toArray 0)).push (seqObj "list" #[] 0))) (fun c o e => Heap.get?_push_of_some _ e)
  have I3 := repin I2 hk (Heap.get?_push_size _ rfl) (I1.hok.fresh (Nat.le_refl _)) (fun v z => nomatch z)
  exact rest_inv I3 hf fa ⟨hk.base, hk.loc, hk.cel, fun p hp => hk.pin p ((List.mem_append.mp hp).elim (List.mem_append_left _) fun z => List.mem_append_right _ (List.mem_cons_of_mem _ z)), hk.fs⟩
    (fun z => hk.pin (a, seqObj "list" #[] e1) (List.mem_append_right _ List.mem_cons_self) z.symm) hv hl hZ hal hsk hu key q
/-- sorted(xs, key=f) of a list -/
theorem sorted_list {l : Addr} {Q : VK} (I : Inv X pins σ H s) (hf : (f, fo) ∈ pins) (hs : SqL X.K H l xs) (hl : ks.length = xs.length) (hal : AllAlike ks) (hsk : Sortable ks) (hu : ∀ d, d ∈ ks → A.units + 2 + d.depth < cLine)
    (key : ∀ (i : Nat) (x : V) (k : PyData), xs[i]? = some x → ks[i]? = some k → KeyRun X σ A.in1.in1 f fo H x k)
    (q : ∀ H' a, Ex H H' → H' a = none → Q (.ref a) (upd H' a (.lst (byKey xs ks)))) :
    wpAny (model X.prog X.w) A (call (.builtin "sorted") [.ref l] [(Str.ofString "key", .ref f)]) (EP X pins σ Q) E s := by
  obtain ⟨vs, rv, pl, hz⟩ := I.list hs
  have hvl := rv.length
  refine sorted_of_sort pl.isList (by omega) (ksk_s1 _ _) (fun _ => ksk_l1 _ _) fun E' => ?_
  rw [ksk_t1]
  have I1 := I.kept (t' := s.toks) (h' := copyHeap s.heap vs) (fun c o e => copyHeap_old e)
  exact tree_inv (s := { s with heap := copyHeap s.heap vs, toks := s.toks }) I1 hf (Fre.of I (Nat.le_succ _)) (I.hok.fresh (Nat.le_succ _)) (copyHeap_at s.heap vs) rv hl hz hal hsk hu key fun H' x n => q H' _ x n
end
end My
namespace My
set_option autoImplicit false
open PySem PySem.Spec PySem.W PySem.Calls PyProof.Rows L2 Evl NdefX LamX
/-- what a list, or a dict by tuples, hands to whoever walks it -/
def SortSrc (K : PySem.W.Frag) (v : V) (H : Hp) (P : List V → Prop) : Prop := (∃ l xs, v = .ref l ∧ SqL K H l xs ∧ P xs) ∨
  ∃ d kvs, v = .ref d ∧ Rd H d (.dT kvs) ∧ ∀ as : List Addr, as.length = kvs.length → (∀ (i : Nat) (p : List Key × V), kvs[i]? = some p → ∃ a, as[i]? = some a ∧ H a = some (.tup (p.1.map kV))) → P (as.map V.ref)
theorem paired_get {α β : Type} {R : α → β → Prop} : ∀ {xs : List α} {ys : List β} {i : Nat} {x : α}, Paired R xs ys → xs[i]? = some x → ∃ y, ys[i]? = some y ∧ R x y
  | [], [], i, x, _, h => by simp at h
  | x :: _, y :: _, 0, z, .cons r _, h => by
    obtain rfl : x = z := Option.some.inj h
    exact ⟨y, rfl, r⟩
  | _ :: _, _ :: _, i + 1, z, .cons _ t, h => paired_get (i := i) t h
theorem paired_len {α β : Type} {R : α → β → Prop} : ∀ {xs : List α} {ys : List β}, Paired R xs ys → xs.length = ys.length
  | [], [], _ => rfl
  | _ :: _, _ :: _, .cons _ t => congrArg Nat.succ (paired_len t)
section
variable {X : Cx} {pins : List (Addr × Obj)} {σ : L2.St} {H : Hp} {s : Shared} {A : Around} {f : Addr} {fo : Obj} {E : Value → Shared → Prop}
theorem vals_refs : ∀ (as : List Addr), Vals (as.map V.ref) (as.map Value.ref)
  | [] => .nil
  | _ :: r => .cons rfl (vals_refs r)
/-- sorted(d, key=f) of a dict by tuples -/
theorem sorted_dict {d : Addr} {ks : List PyData} {as : List Addr} {Q : VK} (I : Inv X pins σ H s) (hf : (f, fo) ∈ pins) (hh : A.in1.handled = none) {o : Obj} {es : Array DictEntry} {ep : Nat} (lo : (d == sysModules) = false)
    (ho : s.heap.get? d = some o) (ex : o.ExactDict) (hd : o.data = .dict es ep) (hes : es.toList.map (·.key) = as.map Value.ref) (hz : as.length ≤ sizeLine)
    (hl : ks.length = as.length) (hal : AllAlike ks) (hsk : Sortable ks) (hu : ∀ d, d ∈ ks → A.units + 2 + d.depth < cLine)
    (key : ∀ (i : Nat) (x : V) (k : PyData), (as.map V.ref)[i]? = some x → ks[i]? = some k → KeyRun X σ A.in1.in1 f fo H x k)
    (q : ∀ H' a, Ex H H' → H' a = none → Q (.ref a) (upd H' a (.lst (byKey (as.map V.ref) ks)))) :
    wpAny (model X.prog X.w) A (call (.builtin "sorted") [.ref d] [(Str.ofString "key", .ref f)]) (EP X pins σ Q) E s := by
  have hsz : es.size = as.length := by
    have := congrArg List.length hes
    simpa using this
  refine call_function_entry_kw kind_sorted plain_sorted entry_sorted (ksk_s1 _ _) ?_
  unfold Builtin.«sorted»
  refine wpAny_bind (m := checkCount "sorted" 1 1 _) (wpAny_pure ?_)
  refine wpAny_bind (kdu_collect (A := A.in1) (KdlSrc.rawDict (es := es) (ep := ep) lo) hh ⟨o, ho, ex, hd⟩ (by omega) fun h1 tk acc hk hacc => ?_)
  have hA : acc.toList = as.map Value.ref := by
    apply List.ext_getElem?
    intro i
    by_cases hi : i < as.length
    · have hi2 : i < acc.size := by rw [hacc.1]; omega
      obtain ⟨hi3, e⟩ := hacc.2 i acc[i] (by rw [Array.getElem?_eq_getElem hi2])
      have e2 : (es.toList.map (·.key))[i]? = some es[i].key := by
        rw [List.getElem?_map, List.getElem?_eq_getElem (by simpa using hi3)]
        simp
      rw [← hes, e2, ← e]
      simp [hi2]
    · rw [List.getElem?_eq_none (by rw [Array.length_toList, hacc.1]; omega), List.getElem?_eq_none (by rw [List.length_map]; omega)]
  rw [hA]
  refine wpAny_bind (wpAny_newList ?_ (by rw [List.length_map]; exact hz))
  have I1 := I.kept (t' := tk) (h' := h1) hk
  have I2 := I1.kept (t' := tk) (h' := h1.push (seqObj "list" (as.map Value.ref).toArray 0)) (fun c o e => Heap.get?_push_of_some _ e)
  have at1 : (h1.push (seqObj "list" (as.map Value.ref).toArray 0)).get? h1.objs.size = some (seqObj "list" (as.map Value.ref).toArray 0) := Heap.get?_push_size _ rfl
  refine wpAny_bind (wpAny_holding (wpAny_call_entry_kw slot_list_sort ⟨_, at1, rfl⟩ entry_list_sort ?_ (ksk_l1 _ _)))
  rw [ksk_t1]
  refine wpAny_mono (tree_inv (A := A.in1.in1) (Q := Q) (E := E) I2 hf (Fre.of I1 (Nat.le_refl _)) (I1.hok.fresh (Nat.le_refl _)) at1 (vals_refs as) (by rw [List.length_map]; exact hl) (by rw [List.length_map]; exact hz) hal hsk hu key fun H' x n => q H' _ x n) (fun fin s1 hq => ?_) fun _ _ z => z
  obtain ⟨rfl, hq⟩ := hq
  exact ⟨_, rfl, wpAny_pure ⟨_, rfl, hq⟩⟩
end
/-- sorted(e, key=lambda a: body) -/
def tSortK (T : List (Addr × Str)) (K : PySem.W.Frag) (tl : TE) (N : List Str) (js : List Nat) (te : TE) : TE := fun σ H Q => te σ H fun v H1 => Tabs T H1 ∧ ∀ H2, ExtN H1 H2 → Tabs T H2 → SortSrc K v H2 fun xs =>
  ∃ ks, ks.length = xs.length ∧ AllAlike ks ∧ Sortable ks ∧ (∀ d, d ∈ ks → d.depth ≤ 50) ∧ (∀ (i : Nat) (x : V) (k : PyData), xs[i]? = some x → ks[i]? = some k → EvP tl (startF N [x] (js.map (slotAt σ))) H2 (IsD K k)) ∧
    ∀ H3 a, Ex H2 H3 → H3 a = none → Q (.ref a) (upd H3 a (.lst (byKey xs ks)))
theorem pe_sortK {X : Cx} {T : List (Addr × Str)} {te tl : TE} {e : Expr} {x0 : Str} {N fr : List Str} {js : List Nat} {c P : Addr} {params : Arguments} {body : Expr} {scope : Scope} {k : Nat} {p lpos kpos pos : Pos}
    (hg : Gl X "sorted") (hm : X.mg "sorted" = none) (he : PE X e te) (TB : TabB X.base X.mg c P) (hcode : X.env.code = .ref c) (hmT : (P, X.env.qual ++ "<lambda>") ∈ T) (hu : ∀ p ∈ T, p.1 = P → p.2 = X.env.qual ++ "<lambda>")
    (S : NScope N [x0] fr scope) (hfree : ∀ y ∈ scope.names, y.2 = .free → X.env.scope.names.lookup y.1 = some .cell ∨ X.env.scope.names.lookup y.1 = some .free) (hfr : ∀ y ∈ fr, (y, NameKind.free) ∈ scope.names) (hjs : js.map (fun j => X.N[j]?) = fr.map some)
    (hdef : defaultsOf params X.env = ([], [])) (hr : Room (k + 3) X.A)
    (hbind : ∀ (q : Str) (cl : List (Str × Addr)) (pm cv ctv u : Value), bindArgs (kla_fn "<lambda>" q params body scope cl pm cv ctv) ⟨[u], []⟩ = pure [(x0, u)])
    (hbody : ∀ (A : Around) (outer : List Env) (s0 : Shared) (H0 : Hp) (F : NF) (f : Addr), F.scope = scope → Room k (A.deeper (envF F f s0.heap.objs.size)) → PE (ncx C8.CX0 X.prog X.w X.K X.mg X.base N F f A outer s0 H0 C8.E0) body tl)
    (hs : starEach [e] X.env = (false, eval e X.env) :: starEach [] X.env := by rfl)
    (he1 : backTo pos (starEach [e] X.env) = (false, eval e X.env) :: backTo pos (starEach [] X.env) := by rfl) (hpl : (backTo pos (starEach [e] X.env)).any (·.1) = false := by rfl)
    (hall : (backToKw pos (keywordEach [⟨some "key", .Lambda params body scope lpos, kpos⟩] X.env)).all (·.1.isSome) = true := by rfl) (hnone : (backToKw pos (keywordEach [⟨some "key", .Lambda params body scope lpos, kpos⟩] X.env)).any (·.1.isNone) = false := by rfl)
    (hks : (backToKw pos (keywordEach [⟨some "key", .Lambda params body scope lpos, kpos⟩] X.env)).filterMap (·.1) = [Str.ofString "key"] := by rfl) :
    PE X (.Call (.Name "sorted" p) [e] [⟨some "key", .Lambda params body scope lpos, kpos⟩] pos) (tSortK T X.K tl N js te) := by
  refine ⟨fun pins s σ H Q I h => ?_⟩
  refine wpAny_Call_Name_kw (ld_blt I hg hm (u := .builtin "sorted") (by decide +kernel) ?_)
  refine PyProof.Rows.callWith_kw ?_ he1 hpl hall hnone
  rw [he1, hks]
  refine spliced_cons (thn (he.run pins s σ H _ I h) fun u s1 ⟨v, H1, I1, r1, q1⟩ => ?_)
  refine spliced_nil ?_
  obtain ⟨hT, q1⟩ := q1
  have hcl : ∀ y ∈ scope.names, y.2 = .free → ∃ c, X.env.cells.lookup y.1 = some c := fun y hy e => (hfree y hy e).elim (fun z => I.ok.has _ (.inl z)) fun z => I.ok.has _ (.inr z)
  show wpAny _ _ (evalAll [do let v ← eval (.Lambda params body scope lpos) X.env; standAt pos; pure v]) _ _ s1
  refine wpAny_evalAll_cons (wpAny_bind (lam_make2 I1 TB hcode hmT hu hT hdef hcl fun f c' pm ctv H2 s2 I2 eN T2 hf hfn hfs hco => wpAny_bind (wpAny_standAt (wpAny_pure (wpAny_evalAll_nil ?_)))))
  have nl : f ≠ X.env.locals := fun z => by
    obtain ⟨m, ⟨o, es, ep, ho, hd, _⟩, _⟩ := I2.loc
    rw [← z, hf] at ho
    rw [← Option.some.inj ho] at hd
    cases hd
  have nf : f ∉ X.fs := fun z => hfs (by
    rcases I.ok.stk with e | ⟨e, e2⟩
    · rw [e]
      exact z
    · rw [e]
      show f ∈ List.filterMap _ _
      rw [List.filterMap_cons, e2]
      exact List.mem_cons_of_mem _ z)
  obtain ⟨fo, hfo⟩ : ∃ fo : Obj, fo = kla_obj "<lambda>" (X.env.qual ++ "<lambda>") params body scope (cloFrom X.env.cells scope.names []) pm c' ctv := ⟨_, rfl⟩
  rw [← hfo] at hf
  have I3 : Inv X ((f, fo) :: pins) σ H2 s2 := I2.pins_of fun p hp => by
    rcases List.mem_cons.mp hp with rfl | hp
    · exact ⟨hf, hfn, nl, nf, fun v z => by rw [hfo] at z; cases z⟩
    · exact I2.pin p (List.mem_append_right _ hp)
  have key : ∀ (x : V) (kd : PyData), EvP tl (startF N [x] (js.map (slotAt σ))) H2 (IsD X.K kd) → KeyRun X σ X.A.in1.in1 f fo H2 x kd := fun x kd hev pins' s' H' u' E' I' hp eX r => by
    have hf' := (I'.pin _ (List.mem_append_right _ hp)).1
    rw [hfo] at hf'
    exact lam_call (F := ⟨"<lambda>", X.env.qual ++ "<lambda>", params, [], scope, cloFrom X.env.cells scope.names [], c'⟩) I' S I.ok.frames (show Room (k + 1) X.A.in1.in1 from hr.in1.in1) hf' (eX _ _ hco) (hbind _ _ _ _ _ _) (Caps.made I.ok hfree hfr hjs) r
      (fun s0 H0 hr' => hbody _ _ s0 H0 _ f rfl hr') (hev H' eX _ fun w B' H4 g pw => ⟨g.a, dp_m g.c pw⟩)
  have un := hr.un
  have dp : ∀ ks : List PyData, (∀ d, d ∈ ks → d.depth ≤ 50) → ∀ d, d ∈ ks → X.A.units + 2 + d.depth < cLine := fun ks h d hd => by
    have := h d hd
    omega
  have fin : ∀ {u : Value} {s' : Shared}, EP X ((f, fo) :: pins) σ Q u s' → EP X pins σ Q u s' := fun ⟨v, H', J, r, q⟩ => ⟨v, H', unpin J, r, q⟩
  rcases q1 H2 eN T2 with ⟨l, xs, rfl, hl, ks, a1, a2, a3, a4, a5, a6⟩ | ⟨d, kvs, rfl, hd, hq⟩
  · obtain rfl : u = Value.ref l := r1
    exact wpAny_mono (sorted_list (E := X.xe) I3 List.mem_cons_self hl a1 a2 a3 (dp ks a4) (fun i x kd e1 e2 => key x kd (a5 i x kd e1 e2)) fun H' a e n => a6 H' a e n) (fun _ _ z => fin z) fun _ _ z => z
  · obtain rfl : u = Value.ref d := r1
    have ok : ObjOk X.prog X.w H2 s2.heap d (.dT kvs) := by
      rcases hd with hd | ⟨o, hd⟩
      · exact I2.hok d _ hd
      · exact (I2.hok d _ hd).2
    obtain ⟨z, lo, xs, pr, o, es, ep, e1, e2, e3, e4, e5⟩ := ok
    have hlen := paired_len pr
    obtain ⟨ks, a1, a2, a3, a4, a5, a6⟩ := hq (xs.map (·.2.1)) (by rw [List.length_map]; exact hlen.symm) fun i p hp => by
      obtain ⟨y, hy, r⟩ := paired_get pr hp
      exact ⟨y.2.1, by rw [List.getElem?_map, hy]; rfl, by rw [← r.1] at *; exact r.2.1⟩
    exact wpAny_mono (sorted_dict (E := X.xe) I3 List.mem_cons_self (show X.A.in1.handled = none from hr.hd) lo e1 e2 e3 (as := xs.map (·.2.1)) (by rw [e4, List.map_map, List.map_map]; rfl) (by rw [List.length_map]; omega) (by rw [a1, List.length_map]) a2 a3 (dp ks a4) (fun i x kd e1 e2 => key x kd (a5 i x kd e1 e2)) fun H' a e n => a6 H' a e n) (fun _ _ z => fin z) fun _ _ z => z
end My
namespace My
set_option autoImplicit false
open PySem L2 Evl
/-- what a walk over this hands out: n things, the i-th of which P i is known -/
def Src (wi : TI) (σ : L2.St) (B : Hp) (n : Nat) (P : Nat → Pr) : Prop := ∀ H1, Ex B H1 → ∀ R : It → Hp → Prop, (∀ (J : It) (B' H2 : Hp) (G : Hp → Prop) (Y : Nat → Hp → V → Hp → Prop), Gr B H1 B' H2 → Walk J n G Y → (∀ H, Ex B' H → G H) →
  (∀ i H v H', i < n → Ex B' H → Y i H v H' → H' = H ∧ (P i).P v B') → R J H2) → wi σ H1 R
def DAt (K : PySem.W.Frag) (ds : List PyData) (i : Nat) : Pr := IsD K (ds.getD i .none)
section
variable {te ta tb : TE} {t tr : TA} {tt : TT} {σ : L2.St} {B B' H : Hp} {p q : Pr} {ps qs : List Pr} {v : V} {K : PySem.W.Frag} {D : Ends} {d e : PyData} {ds es : List PyData}
theorem dps_at : ∀ {vs : List V} {ds : List PyData} {i : Nat} {v : V}, DpAll K H vs ds → vs[i]? = some v → Dp K H v (ds.getD i .none)
  | [], [], i, v, _, h => by simp at h
  | w :: _, _ :: _, 0, v, .cons a _, h => by
    obtain rfl : w = v := Option.some.inj h
    exact a
  | _ :: _, _ :: _, i + 1, v, .cons _ b, h => dps_at (i := i) b h
theorem dps_len : ∀ {vs : List V} {ds : List PyData}, DpAll K H vs ds → vs.length = ds.length
  | [], [], _ => rfl
  | _ :: _, _ :: _, .cons _ b => congrArg Nat.succ (dps_len b)
theorem src_tup (h : EvP te σ B (IsD K (.tuple ds))) : Src (iTup K te) σ B ds.length (DAt K ds) := fun H1 a R k => h H1 a _ fun v B2 H2 g b => by
  cases b with
  | tup x y =>
    refine ⟨_, rfl, ⟨_, ex_t g.c x⟩, k _ B2 H2 _ _ g (by rw [← dps_len y]; exact walk_tup) (fun H e => ex_t e x) fun i H v H' _ e (z : H' = H ∧ _) => ⟨z.1, dps_at y z.2⟩⟩
theorem src_lst (h : EvP te σ B (IsD K (.list ds))) : Src (iList K te) σ B ds.length (DAt K ds) := fun H1 a R k => h H1 a _ fun v B2 H2 g b => by
  cases b with
  | lst x y =>
    refine ⟨_, rfl, ⟨_, ex_l g.c x⟩, k _ B2 H2 _ _ g (by rw [← dps_len y]; exact walk_list) (fun H e => ex_l e x) fun i H v H' _ e (z : H' = H ∧ _) => ⟨z.1, dps_at y z.2⟩⟩
def oneS (x : Str) (i : Nat) : Str := ⟨#[x.cps.getD i 0]⟩
theorem src_str {x : Str} (h : Ev te σ B (.str x)) : Src (iStr te) σ B x.cps.size (fun i => IsV (.str (oneS x i))) := fun H1 a R k => h H1 a _ fun H2 e =>
  ⟨x, rfl, k _ B H2 _ _ (Gr.wide a e) walk_str (fun _ _ => trivial) fun i H v H' hi _ z => by
    obtain ⟨z1, c, z2, rfl⟩ := z
    refine ⟨z1, ?_⟩
    show V.str ⟨#[c]⟩ = V.str (oneS x i)
    unfold oneS
    rw [Array.getD_eq_getD_getElem?, z2]
    rfl⟩
theorem src_rng {j : Nat} (h : EvPs t σ B [IsV (.int (j : Int))]) (hj : (j : Int) < 2 ^ 62) : Src (iRng1 t) σ B j (fun i => IsV (.int (i : Int))) := fun H1 a R k => h H1 a _ fun vs B2 H2 g b => by
  match vs, b with
  | [v], b =>
    obtain rfl : v = V.int j := b.1
    refine ⟨j, rfl, by omega, hj, ?_⟩
    rw [show ((j : Int)).toNat = j from rfl]
    refine k _ B2 H2 _ _ g walk_range (fun _ _ => trivial) fun i H v H' _ _ z => ⟨z.1, ?_⟩
    show v = V.int i
    rw [z.2]
    simp
/-- a comprehension over it, some items left out -/
theorem p_lcS {wi : TI} {n : Nat} {P : Nat → Pr} {g : TG} {vs : List Nat} (h : Src wi σ B n P) (hl : n ≤ 100000) (keep : Nat → Bool) (res : Nat → Pr)
    (step : ∀ i v B1, i < n → Ex B B1 → (P i).P v B1 → ∃ σ2, wipe σ2 vs = wipe σ vs ∧ (∀ H2 Q, Ex B1 H2 → Q σ2 H2 → g v (wipe σ vs) H2 Q) ∧ EvT tt σ2 B1 (keep i) ∧ (keep i = true → EvP te σ2 B1 (res i))) :
    EvP (tLc wi g tt te vs) σ B (LsP (((List.range n).filter keep).map res)) := fun H1 a Q k =>
  h H1 a _ fun J B2 H2 G Y gr w hG hY Dd hD => by
    refine lc_it w (fun i H3 => ∃ B3 acc, Gr B2 H2 B3 (wo Dd H3) ∧ H3 Dd = some (.lst acc) ∧ AllP (((List.range i).filter keep).map res) acc B3) ?_ ?_ ?_ ?_
    · exact ⟨B2, [], by rw [wo_new hD]; exact Gr.refl gr.c, upd_same, trivial⟩
    · rintro i H3 _ ⟨B3, acc, g3, _, _⟩
      exact hG H3 (g3.b.trans (g3.c.trans wo_ex))
    · rintro i v H3 H3' hi ⟨B3, acc, g3, hDd, hacc⟩ hy
      have exB : Ex B3 H3 := g3.c.trans wo_ex
      obtain ⟨rfl, pv⟩ := hY i H3 v H3' hi (g3.b.trans exB) hy
      have some3 : H3' Dd ≠ none := by
        rw [hDd]
        exact fun z => nomatch z
      obtain ⟨σ2, hw, hg, ht, he⟩ := step i v B3 hi (gr.b.trans g3.b) ((P i).m g3.b pv)
      refine hg H3' _ exB ⟨hw, ht H3' exB _ fun H4 e4 => ?_⟩
      have hD4 := e4 _ _ hDd
      have g4 : Gr B2 H2 B3 (wo Dd H4) := g3.side some3 (Gr.wide exB e4)
      have some4 : H4 Dd ≠ none := has e4 some3
      cases hk : keep i with
      | true =>
        rw [if_pos rfl]
        refine he hk H4 (exB.trans e4) _ fun y B5 H5 g5 hy => ?_
        have la : acc.length ≤ i := by
          rw [hacc.len, List.length_map]
          exact Nat.le_trans (List.length_filter_le _ _) (by rw [List.length_range]; exact Nat.le_refl _)
        refine ⟨acc, g5.a _ _ hD4, sz_lt (by omega), B5, acc ++ [y], by rw [wo_upd]; exact g4.side some4 g5, upd_same, ?_⟩
        rw [List.range_succ, List.filter_append, List.map_append]
        refine (hacc.m g5.b).app ?_
        have : List.filter keep [i] = [i] := by simp [hk]
        rw [this]
        exact ⟨hy, trivial⟩
      | false =>
        rw [if_neg Bool.false_ne_true]
        refine ⟨B3, acc, g4, hD4, ?_⟩
        rw [List.range_succ, List.filter_append, List.map_append]
        have : List.filter keep [i] = [] := by simp [hk]
        rw [this, List.map_nil, List.append_nil]
        exact hacc
    · rintro H3 ⟨B3, acc, g3, hDd, hacc⟩
      have hB3 : B3 Dd = none := wo_none g3.c
      refine k (.ref Dd) (upd B3 Dd (.lst acc)) H3 ⟨gr.a.trans (g3.a.trans wo_ex), gr.b.trans (g3.b.trans (Ex.new hB3)), fun b o e => ?_, fun x hb hh => ?_, fun z b ps q => ?_⟩ ⟨Dd, acc, rfl, upd_same, hacc.m (Ex.new hB3)⟩
      · by_cases n : b = Dd
        · subst n
          rw [upd_same] at e
          rw [hDd]
          exact e
        · rw [upd_ne n] at e
          exact g3.c.trans wo_ex _ _ e
      · have n : x ≠ Dd := fun z => by
          subst z
          exact has gr.a hh hD
        rw [upd_ne n]
        exact g3.d x (gr.d x hb hh) (has gr.a hh)
      · by_cases n : b = Dd
        · subst n
          rw [upd_same] at q
          cases q
        · rw [upd_ne n] at q
          exact g3.e (gr.e z) b ps q
/-- all items kept -/
theorem p_lcA {wi : TI} {n : Nat} {P : Nat → Pr} {g : TG} {vs : List Nat} (h : Src wi σ B n P) (hl : n ≤ 100000) (res : Nat → PyData)
    (step : ∀ i v B1, i < n → Ex B B1 → (P i).P v B1 → ∃ σ2, wipe σ2 vs = wipe σ vs ∧ (∀ H2 Q, Ex B1 H2 → Q σ2 H2 → g v (wipe σ vs) H2 Q) ∧ EvP te σ2 B1 (IsD K (res i))) :
    EvP (tLc wi g tYes te vs) σ B (IsD K (.list ((List.range n).map res))) := by
  have := p_lcS (tt := tYes) (te := te) h hl (fun _ => true) (fun i => IsD K (res i)) fun i v B1 hi e pv => by
    obtain ⟨σ2, a, b, c⟩ := step i v B1 hi e pv
    exact ⟨σ2, a, b, et_yes, fun _ => c⟩
  rw [List.filter_eq_self.mpr (fun _ _ => rfl)] at this
  refine d_lst (K := K) ?_
  rw [List.map_map]
  exact this
/-! ### data -/
theorem ev_bl {b : Bool} (h : EvP te σ B (IsD K (.bool b))) : Ev te σ B (.bl b) := ev_p (h.imp fun v B1 _ x => by cases x; rfl)
theorem ev_in {i : Int} (h : EvP te σ B (IsD K (.int i))) : Ev te σ B (.int i) := ev_p (h.imp fun v B1 _ x => by cases x; rfl)
theorem ev_st {x : Str} (h : EvP te σ B (IsD K (.str x))) : Ev te σ B (.str x) := ev_p (h.imp fun v B1 _ x => by cases x; rfl)
theorem ed_bl {b : Bool} (h : Ev te σ B (.bl b)) : EvP te σ B (IsD K (.bool b)) := d_bl (p_ev h)
theorem ed_in {i : Int} (h : Ev te σ B (.int i)) : EvP te σ B (IsD K (.int i)) := d_int (p_ev h)
theorem ed_st {x : Str} (h : Ev te σ B (.str x)) : EvP te σ B (IsD K (.str x)) := d_str (p_ev h)
theorem ed_var {i : Nat} (h : σ[i]? = some (some v)) (hd : Dp K B v d) : EvP (tVar i) σ B (IsD K d) := p_var h hd
theorem ed_ref {a : Addr} (hd : Dp K B (.ref a) d) : EvP (tC (.ref a)) σ B (IsD K d) := fun H1 e _ k => k _ B H1 (Gr.refl e) hd
/-- the class of data -/
def tyS : PyData → String
  | .none => "NoneType"
  | .bool _ => "bool"
  | .int _ => "int"
  | .str _ => "str"
  | .list _ => "list"
  | .tuple _ => "tuple"
  | .dict _ => "dict"
theorem ty_d (h : Dp K H v d) : TyX K H v (.type (tyS d)) := by
  cases h with
  | non => exact .base .non
  | bl b => exact .base (.bl b)
  | int i => exact .base (.int i)
  | str x => exact .base (.str x)
  | lst a b =>
    rcases a with (a | ⟨o, a⟩) | ⟨o, its, n, hk, hc, _⟩
    · exact .base (.lst a)
    · exact .base (.frz a)
    · exact .kList hk hc
  | tup a b =>
    rcases a with (a | ⟨o, a⟩) | ⟨o, its, n, hk, hc, _⟩
    · exact .base (.tup a)
    · exact .fTuple a
    · exact .kTuple hk hc
theorem ev_isi {T : String} {b : Bool} (h : EvP te σ B (IsD K d)) (hk : kitB (tyS d) T = some b) : Ev (tCB (rIsi K) (tCons te (tCons (tC (.ty T)) tNil))) σ B (.bl b) := fun H1 a Q k =>
  h H1 a _ fun v B2 H2 g x => ⟨v, .ty T, .type (tyS d), .type T, b, rfl, .ty T, ty_d (dp_m g.c x), kit_ty hk, k H2 g.a⟩
theorem ev_lenD {es : List PyData} (h : EvP te σ B (IsD K d)) (hd : d = .tuple es ∨ d = .list es) : Ev (tCB (rLenS K) (tCons te tNil)) σ B (.int (es.length : Int)) := fun H1 a Q k =>
  h H1 a _ fun v B2 H2 g x => by
    rcases hd with rfl | rfl
    · cases x with
      | tup y z =>
        refine ⟨_, _, rfl, .inr (ex_t g.c y), ?_⟩
        rw [dps_len z]
        exact k H2 g.a
    · cases x with
      | lst y z =>
        refine ⟨_, _, rfl, .inl (ex_l g.c y), ?_⟩
        rw [dps_len z]
        exact k H2 g.a
theorem dps_strs : ∀ {vs : List V} {ys : List Str}, DpAll K H vs (ys.map .str) → vs = ys.map .str
  | [], [], _ => rfl
  | _ :: _, _ :: _, .cons a b => by
    cases a
    rw [dps_strs b]
    rfl
theorem dps_ints : ∀ {vs : List V} {ns : List Int}, DpAll K H vs (ns.map .int) → vs = ns.map .int
  | [], [], _ => rfl
  | _ :: _, _ :: _, .cons a b => by
    cases a
    rw [dps_ints b]
    rfl
theorem dps_bls : ∀ {vs : List V} {bs : List Bool}, DpAll K H vs (bs.map .bool) → vs = bs.map .bl
  | [], [], _ => rfl
  | _ :: _, _ :: _, .cons a b => by
    cases a
    rw [dps_bls b]
    rfl
theorem inV_strs (x : Str) : ∀ ys : List Str, inV (.str x) (ys.map .str) = decide (x ∈ ys)
  | [] => rfl
  | y :: ys => by
    have ih := inV_strs x ys
    unfold inV at ih ⊢
    rw [List.map_cons, List.any_cons, ih]
    by_cases e : y = x
    · subst e
      simp [eqV]
    · have : eqV (V.str y) (V.str x) = false := by
        simp [eqV]
        exact e
      rw [this]
      simp [e, Ne.symm e, eq_comm]
theorem flat_strs (ys : List Str) : (ys.map V.str).all flatV = true := by
  rw [List.all_map, List.all_eq_true]
  intro _ _
  rfl
theorem ev_inT {x : Str} {ys : List Str} {neg : Bool} (ha : Ev ta σ B (.str x)) (hb : EvP tb σ B (IsD K (.tuple (ys.map .str)))) : Ev (tOp (rIn K neg) ta tb) σ B (.bl (if neg then !decide (x ∈ ys) else decide (x ∈ ys))) := fun H1 a Q k =>
  ha H1 a _ fun H2 e => hb H2 (a.trans e) _ fun v B2 H3 g z => by
    cases z with
    | tup y z =>
      have := dps_strs z
      subst this
      refine ⟨_, _, rfl, .inr (ex_t g.c y), rfl, flat_strs ys, ?_⟩
      rw [inV_strs]
      exact k H3 (e.trans g.a)
theorem ev_ltT {ns ms : List Int} (ha : EvP ta σ B (IsD K (.tuple (ns.map .int)))) (hb : EvP tb σ B (IsD K (.tuple (ms.map .int)))) : Ev (tOp (rLtT K) ta tb) σ B (.bl (HT.lexLt ns ms)) := fun H1 a Q k =>
  ha H1 a _ fun v B2 H2 g x => hb H2 (g.b.trans g.c) _ fun w B3 H3 g3 y => by
    cases x with
    | tup x1 x2 =>
      cases y with
      | tup y1 y2 =>
        have e1 := dps_ints x2
        have e2 := dps_ints y2
        subst e1
        subst e2
        exact ⟨_, _, ns, ms, rfl, rfl, ex_t (g.c.trans g3.a) x1, ex_t g3.c y1, k H3 (g.a.trans g3.a)⟩
theorem ev_allL {bs : List Bool} (h : EvP te σ B (IsD K (.list (bs.map .bool)))) : Ev (tCB (rAll K) (tCons te tNil)) σ B (.bl (bs.all id)) := fun H1 a Q k =>
  h H1 a _ fun v B2 H2 g x => by
    cases x with
    | lst y z =>
      have := dps_bls z
      subst this
      exact ⟨_, bs, rfl, ex_l g.c y, k H2 g.a⟩
theorem dps_ix {i : Nat} {d : PyData} : ∀ {vs : List V} {ds : List PyData}, DpAll K H vs ds → ds[i]? = some d → ∃ v, vs[i]? = some v ∧ Dp K H v d := fun {vs ds} h e => by
  have hl := dps_len h
  have hi : i < vs.length := by rw [hl]; exact (List.getElem?_eq_some_iff.mp e).1
  refine ⟨vs[i], List.getElem?_eq_getElem hi, ?_⟩
  have := dps_at h (List.getElem?_eq_getElem hi)
  rw [List.getD_eq_getElem?_getD, e] at this
  exact this
theorem atI_len {α β : Type} {xs : List α} {ys : List β} {j : Int} {y : β} (hl : xs.length = ys.length) (h : atI ys j = some y) : ∃ n : Nat, ys[n]? = some y ∧ ∀ x, xs[n]? = some x → atI xs j = some x := by
  unfold atI at h ⊢
  rw [← hl] at h
  obtain ⟨n, hn, hy⟩ := Option.bind_eq_some_iff.mp h
  refine ⟨n, hy, fun x hx => ?_⟩
  rw [hn]
  exact hx
theorem ed_ixT {j : Int} (h : EvP ta σ B (IsD K (.tuple ds))) (hj : Ev tb σ B (.int j)) (hd : atI ds j = some d) : EvP (tOp (rIxT K) ta tb) σ B (IsD K d) := fun H1 a Q k =>
  h H1 a _ fun v B2 H2 g x => hj H2 (g.b.trans g.c) _ fun H3 e3 => by
    cases x with
    | tup y z =>
      obtain ⟨n, h1, h2⟩ := atI_len (dps_len z) hd
      obtain ⟨u, h3, h4⟩ := dps_ix z h1
      exact ⟨_, _, j, u, rfl, rfl, ex_t (g.c.trans e3) y, h2 u h3, k u B2 H3 (g.trans (Gr.wide g.c e3)) h4⟩
theorem ed_ixL {j : Int} (h : EvP ta σ B (IsD K (.list ds))) (hj : Ev tb σ B (.int j)) (hd : atI ds j = some d) : EvP (tOp (rIxL K) ta tb) σ B (IsD K d) := fun H1 a Q k =>
  h H1 a _ fun v B2 H2 g x => hj H2 (g.b.trans g.c) _ fun H3 e3 => by
    cases x with
    | lst y z =>
      obtain ⟨n, h1, h2⟩ := atI_len (dps_len z) hd
      obtain ⟨u, h3, h4⟩ := dps_ix z h1
      exact ⟨_, _, j, u, rfl, rfl, ex_l (g.c.trans e3) y, h2 u h3, k u B2 H3 (g.trans (Gr.wide g.c e3)) h4⟩
theorem ed_tup (h : EvPs t σ B (ds.map (IsD K))) (hl : ds.length ≤ 100000) : EvP (tTup t) σ B (IsD K (.tuple ds)) := d_tup (p_tup h (by rw [List.length_map]; exact hl))
theorem ed_lst (h : EvPs t σ B (ds.map (IsD K))) (hl : ds.length ≤ 100000) : EvP (tLst t) σ B (IsD K (.list ds)) := d_lst (p_lst h (by rw [List.length_map]; exact hl))
theorem ed_if {b : Bool} (h : EvT tt σ B b) (h1 : b = true → EvP ta σ B p) (h2 : b = false → EvP tb σ B p) : EvP (tIf tt ta tb) σ B p := fun H1 a Q k => h H1 a _ fun H2 e2 => by
  cases b with
  | true => exact h1 rfl H2 (a.trans e2) _ fun v B3 H3 g x => k v B3 H3 ((Gr.wide a e2).trans g) x
  | false => exact h2 rfl H2 (a.trans e2) _ fun v B3 H3 g x => k v B3 H3 ((Gr.wide a e2).trans g) x
/-! ### statements -/
theorem ps_un3 {i j k : Nat} {d1 d2 d3 : PyData} (a : Ex B H) (h : EvP te σ B (IsD K (.tuple [d1, d2, d3])))
    (n : ∀ v1 v2 v3 B1 H1, Gr B H B1 H1 → Dp K B1 v1 d1 → Dp K B1 v2 d2 → Dp K B1 v3 d3 → D.nx (((σ.set i (some v1)).set j (some v2)).set k (some v3)) H1) :
    tAsg te (gTup K 3 (gCons (gName i) (gCons (gName j) (gCons (gName k) gNil)))) D σ H := h H a _ fun v B1 H1 g x => by
  cases x with
  | tup y z =>
    cases z with
    | cons z1 z =>
      cases z with
      | cons z2 z =>
        cases z with
        | cons z3 z =>
          cases z
          exact ⟨_, _, rfl, ex_t g.c y, rfl, _, _, rfl, _, _, rfl, _, _, rfl, rfl, n _ _ _ B1 H1 g z1 z2 z3⟩
/-! ### defs from data to data -/
def spR (K : PySem.W.Frag) (R : List PyData → PyData → Prop) : Sp := fun vs H Q _ => ∃ B ds d, Ex B H ∧ DpAll K B vs ds ∧ R ds d ∧ ∀ v B' H', Gr B H B' H' → Dp K B' v d → Q v H'
theorem ed_call {R : List PyData → PyData → Prop} (h : EvPs t σ B (ds.map (IsD K))) (hr : R ds d) : EvP (tCall (spR K R) [] E0 t) σ B (IsD K d) := fun H1 a Q k =>
  h H1 a _ fun vs B2 H2 g b => by
    rw [List.append_nil]
    exact ⟨B2, ds, d, g.c, dps_of b, hr, fun v B3 H3 g3 x => k v B3 H3 (g.trans g3) x⟩
theorem sp_len {R : List PyData → PyData → Prop} {n : Nat} (h : ∀ ds d, R ds d → ds.length = n) : ∀ vs H Q E, spR K R vs H Q E → vs.length = n := fun vs H Q E ⟨B, ds, d, _, a, b, _⟩ => by rw [dps_len a, h ds d b]
/-- a def of the program's, as it is called -/
structure Cal (P : Program) (w : World) (K : PySem.W.Frag) (mg : Str → Option Value) (base : Heap) (x : Str) (k : Nat) (ps : List Str) (sp : Sp) (f : Addr) (fd : FuncData) : Prop where
  G : FnOk P w K mg base CX0 k f fd ps sp
  m : mg x = some (.ref f)
  k : PySem.W.keepIn K (.ref f) = true
  b : Binds K fd ps []
end
end My
namespace My
set_option autoImplicit false
open PySem PySem.Spec PyProof.Rows L2 Evl
section
variable {X : Cx}
/-- x in t, t a tuple of data of any depth -/
def rInT (K : PySem.W.Frag) : R2 := fun x y H Q => ∃ d ds, Dp K H x d ∧ Dp K H y (.tuple ds) ∧ SeqAt.shaped d = true ∧ SeqAt.shaped (.tuple ds) = true ∧ Q (.bl (ds.any fun z => PyData.eqv z d)) H
theorem op_inT (hu : X.A.units + 65 < cLine) : OpR X (compareOp .In) (rInT X.K) := by
  intro pins s σ H x y v u Q I rx ry ⟨d, ds, hd, he, sd, se, q⟩
  obtain ⟨as, r1⟩ := Dp.reads I d x v hd rx
  obtain ⟨bs, r2⟩ := Dp.reads I _ y u he ry
  exact SeqAt.in_tuple_reads r2 r1 (SeqAt.canLay_of_shaped se) (SeqAt.canLay_of_shaped sd) (room_in_shaped sd hu) ⟨.bl _, H, I, rfl, q⟩
end
section
variable {te ta tb : TE} {t tr : TA} {tt : TT} {σ : L2.St} {B B' H : Hp} {p q : Pr} {v : V} {K : PySem.W.Frag} {D : Ends} {d e : PyData} {ds es : List PyData}
theorem ev_inDT (ha : EvP ta σ B (IsD K d)) (hb : EvP tb σ B (IsD K (.tuple ds))) (hd : SeqAt.shaped d = true) (he : SeqAt.shaped (.tuple ds) = true) : Ev (tOp (rInT K) ta tb) σ B (.bl (ds.any fun z => PyData.eqv z d)) := fun H1 a Q k =>
  ha H1 a _ fun v B2 H2 g b => hb H2 (g.b.trans g.c) _ fun w B3 H3 g3 b3 => ⟨d, ds, dp_m (g.c.trans g3.a) b, dp_m g3.c b3, hd, he, k H3 (g.a.trans g3.a)⟩
end
/-! ### rankings and derivatives -/
def isNmB (x : Str) : Bool := decide (1 ≤ x.length) && decide (x.length ≤ 8) && x.cps.toList.all fun c => decide (97 ≤ c) && decide (c ≤ 122)
def IsNm (x : Str) : Prop := isNmB x = true
structure Rk where
  tot : Bool
  ns : List Str
  ax : Fin 3
def axsOf (a : Fin 3) : List Str := if a = 0 then ["x"] else if a = 1 then ["x", "y"] else ["y", "x"]
def Rk.axs (r : Rk) : List Str := axsOf r.ax
def Rk.srt (r : Rk) : Str := if r.tot then "total" else "names"
def Rk.D (r : Rk) : PyData := .tuple [.str r.srt, .tuple (r.ns.map .str), .tuple (r.axs.map .str)]
structure Rk.Ok (r : Rk) : Prop where
  ne : 1 ≤ r.ns.length
  le : r.ns.length ≤ 3
  nd : r.ns.Nodup
  nm : ∀ x ∈ r.ns, IsNm x
structure Dv where
  n : Str
  i : Int
  j : Int
deriving DecidableEq
def Dv.D (v : Dv) : PyData := .tuple [.str v.n, .int v.i, .int v.j]
structure Dv.Of (v : Dv) (r : Rk) : Prop where
  n : v.n ∈ r.ns
  i : 0 ≤ v.i
  j : 0 ≤ v.j
  y : v.j = 0 ∨ (Str.ofString "y") ∈ r.axs
def Rk.first (r : Rk) (v : Dv) : Int := if r.ax = 2 then v.j else v.i
def Rk.ahead (r : Rk) (v : Dv) : Int := -((r.ns.idxOf v.n : Nat) : Int)
def Rk.key (r : Rk) (v : Dv) : List Int := if r.tot then [v.i + v.j, r.first v, r.ahead v] else [r.ahead v, v.i + v.j, r.first v]
def cmpL (a b : List Int) : Int := if a = b then 0 else if HT.lexLt a b = true then -1 else 1
def Rk.cmp (r : Rk) (v u : Dv) : Int := cmpL (r.key v) (r.key u)

/-! ### what is known of such values -/
def NmP (ns : List Str) : Pr := ⟨fun v H => ∃ a o, v = .ref a ∧ H a = some (.frz o (.tup (ns.map .str))) ∧ o.dict = none, fun e ⟨a, o, h1, h2, h3⟩ => ⟨a, o, h1, e _ _ h2, h3⟩⟩
def DvP (u : Dv) : Pr := ⟨fun v H => ∃ a, v = .ref a ∧ H a = some (.tup [.str u.n, .int u.i, .int u.j]), fun e ⟨a, h1, h2⟩ => ⟨a, h1, e _ _ h2⟩⟩
def RkP (K : PySem.W.Frag) (r : Rk) : Pr := ⟨fun v H => ∃ a vn va, v = .ref a ∧ SqT K H a [.str r.srt, vn, va] ∧ (NmP r.ns).P vn H ∧ Dp K H va (.tuple (r.axs.map .str)), fun e ⟨a, vn, va, h1, h2, h3, h4⟩ => ⟨a, vn, va, h1, ex_t e h2, (NmP r.ns).m e h3, dp_m e h4⟩⟩
theorem dps_of_strs {K : PySem.W.Frag} {H : Hp} : ∀ ys : List Str, DpAll K H (ys.map V.str) (ys.map .str)
  | [] => .nil
  | y :: ys => .cons (.str y) (dps_of_strs ys)
theorem nm_d {K : PySem.W.Frag} {ns : List Str} {v : V} {H : Hp} (h : (NmP ns).P v H) : Dp K H v (.tuple (ns.map .str)) := by
  obtain ⟨a, o, rfl, h2, _⟩ := h
  exact .tup (.inl (.inr ⟨o, h2⟩)) (dps_of_strs ns)
theorem rk_d {K : PySem.W.Frag} {r : Rk} {v : V} {H : Hp} (h : (RkP K r).P v H) : Dp K H v r.D := by
  obtain ⟨a, vn, va, rfl, h2, h3, h4⟩ := h
  exact .tup h2 (.cons (.str _) (.cons (nm_d h3) (.cons h4 .nil)))
theorem dv_d {K : PySem.W.Frag} {u : Dv} {v : V} {H : Hp} (h : (DvP u).P v H) : Dp K H v u.D := by
  obtain ⟨a, rfl, h2⟩ := h
  exact .tup (st_of h2) (.cons (.str _) (.cons (.int _) (.cons (.int _) .nil)))
section
variable {te ta tb : TE} {t tr : TA} {tt : TT} {σ : L2.St} {B B' H : Hp} {p q : Pr} {ps : List Pr} {v : V} {K : PySem.W.Frag} {D : Ends} {r : Rk} {u : Dv}
theorem ed_rk (h : EvP te σ B (RkP K r)) : EvP te σ B (IsD K r.D) := h.imp fun _ _ _ x => rk_d x
theorem ed_dv (h : EvP te σ B (DvP u)) : EvP te σ B (IsD K u.D) := h.imp fun _ _ _ x => dv_d x
theorem ed_nm {ns : List Str} (h : EvP te σ B (NmP ns)) : EvP te σ B (IsD K (.tuple (ns.map .str))) := h.imp fun _ _ _ x => nm_d x
/-- (name, i, j), made -/
theorem p_dv {a b c : V} (ha : a = .str u.n) (hb : b = .int u.i) (hc : c = .int u.j) (h : EvPs t σ B [IsV a, IsV b, IsV c]) : EvP (tTup t) σ B (DvP u) := fun H1 e Q k =>
  h H1 e _ fun vs B2 H2 g b => by
    subst ha hb hc
    match vs, b with
    | [x, y, z], b =>
      obtain rfl : x = _ := b.1
      obtain rfl : y = _ := b.2.1
      obtain rfl : z = _ := b.2.2.1
      exact ⟨sz_of (by show 3 ≤ 100000; decide), fun w hw => k _ _ _ (g.trans (Gr.new _ g.c hw)) ⟨w, rfl, upd_same⟩⟩
/-- a ranking unpacked -/
theorem ps_unR {i j k : Nat} (a : Ex B H) (h : EvP te σ B (RkP K r))
    (n : ∀ v2 v3 B1 H1, Gr B H B1 H1 → (NmP r.ns).P v2 B1 → Dp K B1 v3 (.tuple (r.axs.map .str)) → D.nx (((σ.set i (some (.str r.srt))).set j (some v2)).set k (some v3)) H1) :
    tAsg te (gTup K 3 (gCons (gName i) (gCons (gName j) (gCons (gName k) gNil)))) D σ H := h H a _ fun v B1 H1 g x => by
  obtain ⟨p, vn, va, rfl, h2, h3, h4⟩ := x
  exact ⟨_, _, rfl, ex_t g.c h2, rfl, _, _, rfl, _, _, rfl, _, _, rfl, rfl, n _ _ B1 H1 g h3 h4⟩
theorem ps_unD {i j k : Nat} (a : Ex B H) (h : EvP te σ B (DvP u)) (n : ∀ B1 H1, Gr B H B1 H1 → D.nx (((σ.set i (some (.str u.n))).set j (some (.int u.i))).set k (some (.int u.j))) H1) :
    tAsg te (gTup K 3 (gCons (gName i) (gCons (gName j) (gCons (gName k) gNil)))) D σ H := h H a _ fun v B1 H1 g x => by
  obtain ⟨p, rfl, h2⟩ := x
  exact ⟨_, _, rfl, st_of (g.c _ _ h2), rfl, _, _, rfl, _, _, rfl, _, _, rfl, rfl, n B1 H1 g⟩
/-! ### defs by what is known of what is handed in -/
def spP (R : List Pr → Pr → Prop) : Sp := fun vs H Q _ => ∃ B ps p, Ex B H ∧ AllP ps vs B ∧ R ps p ∧ ∀ v B' H', Gr B H B' H' → p.P v B' → Q v H'
theorem p_callP {R : List Pr → Pr → Prop} (h : EvPs t σ B ps) (hr : R ps p) : EvP (tCall (spP R) [] E0 t) σ B p := fun H1 a Q k =>
  h H1 a _ fun vs B2 H2 g b => by
    rw [List.append_nil]
    exact ⟨B2, ps, p, g.c, b, hr, fun v B3 H3 g3 x => k v B3 H3 (g.trans g3) x⟩
theorem spP_len {R : List Pr → Pr → Prop} {n : Nat} (h : ∀ ps p, R ps p → ps.length = n) : ∀ vs H Q E, spP R vs H Q E → vs.length = n := fun vs H Q E ⟨B, ps, p, _, a, b, _⟩ => by rw [a.len, h ps p b]
end
/-! ### t.index(x) -/
section
open PySem PySem.Spec PyProof.Rows
variable {X : Cx}
theorem pe_tupIndex {o e : Expr} {to te : TE} {apos cpos : Pos} (ho : PE X o to) (he : PE X e te)
    (hbase : attributeBase o "index" X.env (eval o X.env) = eval o X.env := by rfl) (hline : (apos.endLine == cpos.line) = true := by rfl) (hs : starEach [e] X.env = (false, eval e X.env) :: starEach [] X.env := by rfl) (hs2 : backTo cpos (starEach [e] X.env) = [(false, eval e X.env)] := by rfl) :
    PE X (.Call (.Attribute o "index" apos) [e] [] cpos) (fun σ H Q => to σ H fun v H1 => ∃ (a : Addr) (ob : Obj) (ys : List Str), v = .ref a ∧ H1 a = some (.frz ob (.tup (ys.map .str))) ∧ ob.dict = none ∧
      te σ H1 fun y H2 => ∃ z : Str, y = .str z ∧ H2 a = some (.frz ob (.tup (ys.map .str))) ∧ z ∈ ys ∧ Q (.int ((ys.idxOf z : Nat) : Int)) H2) := by
  refine ⟨fun pins s σ H Q I h => ?_⟩
  refine wpAny_Call_method1_late hbase hline hs2 (thn (ho.run pins s σ H _ I h) fun v s1 ⟨x, H1, I1, r1, a, ob, ys, ex, h1, hd, q1⟩ => ?_)
  subst ex
  obtain rfl : v = Value.ref a := r1
  obtain ⟨g1, _, its, rv, ob2, g2, hc, _⟩ := (show ObjOk X.prog X.w H1 s1.heap a (.frz ob (.tup (ys.map .str))) from I1.hok a _ h1)
  rw [g1] at g2
  obtain rfl := Option.some.inj g2
  refine ⟨"tuple", "tuple.index", PySem.F.plainAttrs_tuple, PySem.F.slot_tuple_index, PySem.F.type_tuple_index, ⟨ob, g1, hc⟩, fun c e => ?_, ?_⟩
  · cases e
    exact ⟨ob, g1, hd⟩
  · have hA := (pa_cons he pa_nil hs).run cpos pins s1 σ H1 (fun vs H2 => ∃ y, vs = [y] ∧ ∃ z : Str, y = .str z ∧ H2 a = some (.frz ob (.tup (ys.map .str))) ∧ z ∈ ys ∧ Q (.int ((ys.idxOf z : Nat) : Int)) H2) I1
      (by
        show te σ H1 fun y H2 => ∃ y', [y] = [y'] ∧ _
        have : (fun y H2 => ∃ z : Str, y = V.str z ∧ H2 a = some (.frz ob (.tup (ys.map .str))) ∧ z ∈ ys ∧ Q (.int ((ys.idxOf z : Nat) : Int)) H2) = (fun y H2 => ∃ y', [y] = [y'] ∧ ∃ z : Str, y' = .str z ∧ H2 a = some (.frz ob (.tup (ys.map .str))) ∧ z ∈ ys ∧ Q (.int ((ys.idxOf z : Nat) : Int)) H2) := by
          funext y H2
          apply propext
          constructor
          · intro q
            exact ⟨y, rfl, q⟩
          · rintro ⟨y', e, q⟩
            obtain rfl : y = y' := by simpa using e
            exact q
        rw [← this]
        exact q1)
    rw [hs2] at hA
    refine Calls.callWith_builtin rfl (Calls.evalArgs_plain ?_)
    refine thn hA fun us s2 ⟨vs, H2, I2, r2, y, ev, z, ey, h2, hm, q2⟩ => ?_
    subst ev
    subst ey
    have hl := List.idxOf_lt_length_of_mem hm
    exact mt_tup_index pins s2 σ H2 (.ref a) [.str z] (.ref a) us Q I2 rfl r2 ⟨a, ys, z, ys.idxOf z, rfl, rfl, .inl (.inr ⟨ob, h2⟩), by rw [List.getElem?_eq_getElem hl, List.getElem_idxOf hl], fun m hm' e => by
      have hlt : m < ys.length := (List.getElem?_eq_some_iff.mp e).1
      have e2 : ys[m] = z := (List.getElem?_eq_some_iff.mp e).2
      have := List.not_of_lt_findIdx (p := fun y => y == z) (xs := ys) (i := m) (by exact hm')
      rw [e2] at this
      simp at this, q2⟩
/-- tuple(l), the new tuple known as it stands -/
theorem call_tupleF : CallR X (.type "tuple") (fun xs H Q => ∃ p ys, xs = [.ref p] ∧ SqL X.K H p ys ∧ ∀ l o, H l = none → o.dict = none → Q (.ref l) (upd H l (.frz o (.tup ys)))) := by
  intro pins s σ H xs us Q I r ⟨p, ys, ex, hq, q⟩
  subst ex
  obtain ⟨u, rfl, rx⟩ := vals1 r
  obtain rfl : u = Value.ref p := rx
  obtain ⟨its, rv, pl, hz⟩ := I.list hq
  have hlen := rv.length
  refine call_tuple_list pl.isList (fun h1 kp => ?_) (by simp only [List.size_toArray] <;> omega)
  have I1 : Inv X pins σ H { s with heap := h1 } := I.kept (t' := s.toks) kp
  have n1 := I1.hok.fresh (Nat.le_refl h1.objs.size)
  have I2 : Inv X pins σ (upd H h1.objs.size (.frz { cls := .type "tuple", data := .seq its.toArray } (.tup ys))) { s with heap := h1.push { cls := .type "tuple", data := .seq its.toArray } } :=
    I1.laid (t' := s.toks) (fun b o e => Heap.get?_push_of_some _ e) (Nat.le_refl _) ⟨Heap.get?_push_size _ rfl, hz, its, rv, IsTup.new _ _⟩
  exact ⟨.ref h1.objs.size, _, I2, rfl, q _ _ n1 rfl⟩
end
section
open PySem L2 Evl
variable {te ta tb : TE} {t tr : TA} {tt : TT} {σ : L2.St} {B B' H : Hp} {p q : Pr} {ps : List Pr} {v : V} {K : PySem.W.Frag} {D : Ends} {r : Rk} {u : Dv}
theorem ev_tupIx {x : Str} {ys : List Str} (h : EvP ta σ B (NmP ys)) (hx : Ev tb σ B (.str x)) (hm : x ∈ ys) :
    Ev (fun σ H Q => ta σ H fun v H1 => ∃ (a : Addr) (ob : Obj) (ys : List Str), v = .ref a ∧ H1 a = some (.frz ob (.tup (ys.map .str))) ∧ ob.dict = none ∧
      tb σ H1 fun y H2 => ∃ z : Str, y = .str z ∧ H2 a = some (.frz ob (.tup (ys.map .str))) ∧ z ∈ ys ∧ Q (.int ((ys.idxOf z : Nat) : Int)) H2) σ B (.int ((ys.idxOf x : Nat) : Int)) := fun H1 a Q k =>
  h H1 a _ fun v B2 H2 g b => by
    obtain ⟨p, o, rfl, h2, h3⟩ := b
    exact ⟨p, o, ys, rfl, g.c _ _ h2, h3, hx H2 (g.b.trans g.c) _ fun H3 e3 => ⟨x, rfl, e3 _ _ (g.c _ _ h2), hm, k H3 (g.a.trans e3)⟩⟩
end
end My
namespace My
set_option autoImplicit false
open PySem PySem.Spec PySem.W PySem.Calls PyProof.Rows L2 Evl
/-- the values are these texts, all unlike -/
def TxtAt (items : Array Value) (xs : List Str) : Prop := items.size = xs.length ∧ ∀ (i : Nat) (v : Value), items[i]? = some v → ∃ t x, v = .str x t ∧ xs[i]? = some x
theorem txtAt_of {xs : List Str} {us : List Value} (h : Vals (xs.map V.str) us) : TxtAt us.toArray xs := by
  refine ⟨by rw [List.size_toArray, ← h.length, List.length_map], fun i v hv => ?_⟩
  have hi : i < us.length := by
    rw [List.getElem?_toArray] at hv
    exact (List.getElem?_eq_some_iff.mp hv).1
  have hx : i < xs.length := by
    have := h.length
    rw [List.length_map] at this
    omega
  obtain ⟨u, hu, r⟩ := h.get (i := i) (x := .str xs[i]) (by rw [List.getElem?_map, List.getElem?_eq_getElem hx]; rfl)
  rw [List.getElem?_toArray, hu] at hv
  obtain rfl := Option.some.inj hv
  obtain ⟨t, rfl⟩ := r
  exact ⟨t, _, rfl, List.getElem?_eq_getElem hx⟩
section
variable {prog : Program} {w : World} {A : Around} {R : Result → Shared → Prop} {I : Addr} {fp wr : List Addr} {n : Nat} {G : Array GenState → Array GenState → Prop} {P : Nat → Value → Prop} {St : Nat → Shared → Prop}
/-- the first i of them are in the set at S -/
abbrev SetTo (prog : Program) (w : World) (h : Heap) (S : Addr) (xs : List Str) (i : Nat) : Prop := h.SetOf (PySem.strKind prog w) S (fun z => decide (z ∈ xs.take i)) i
theorem SetTo.moved {h h' : Heap} {S : Addr} {xs : List Str} {i : Nat} (x : SetTo prog w h S xs i) (k : ∀ o, h.get? S = some o → h'.get? S = some o) : SetTo prog w h' S xs i := by
  obtain ⟨ob, es, ep, tb, ho, more⟩ := x
  exact ⟨ob, es, ep, tb, k _ ho, more⟩
theorem setLoop (W : WalksS prog w A.in1 I fp wr G n P St) (S : Addr) (ns : S ∉ fp) (xs : List Str) (hlen : xs.length = n) (nd : xs.Nodup) (hbig : n + 1 < scanBound) (hv : ∀ i v, P i v → ∃ t x, v = .str x t ∧ xs[i]? = some x) :
    ∀ (m i : Nat) (s : Shared), n - i = m → i ≤ n → St i s → SetTo prog w s.heap S xs i →
      (∀ z, Moved (S :: wr) G s z → SetTo prog w z.heap S xs n → R (.ok (.ret .none)) z) → codeAny (model prog w) A (.builtin "set.update.loop" ⟨[.ref S, .ref I], []⟩) R s := by
  have nw : S ∉ wr := fun q => ns (W.sub _ q)
  have more : ∀ c ∈ wr, c ∈ S :: wr := fun c q => List.mem_cons_of_mem _ q
  intro m
  induction m with
  | zero =>
    intro i s hm hi st x k
    obtain rfl : i = n := by omega
    refine codeAny_builtin PyProof.Rows.F.entry_set_update_loop ?_
    rw [Around.under_plainId (PyProof.Rows.F.plain_set_update_loop) _]
    show wpAny _ A.in1 (pyNext (.ref I) >>= _) _ _ s
    refine wpAny_bind (W.done s _ _ st fun z mv => ?_)
    show wpAny _ _ (ret .none) _ _ z
    exact wpAny_pure (k z (mv.mono more) (x.moved fun o e => mv.heap S o nw e))
  | succ m ih =>
    intro i s hm hi st x k
    have il : i < n := by omega
    refine codeAny_builtin PyProof.Rows.F.entry_set_update_loop ?_
    rw [Around.under_plainId (PyProof.Rows.F.plain_set_update_loop) _]
    show wpAny _ A.in1 (pyNext (.ref I) >>= _) _ _ s
    refine wpAny_bind (W.item i s _ _ il st fun v z pv st1 mv => ?_)
    obtain ⟨t, y, rfl, hy⟩ := hv i v pv
    have x1 : SetTo prog w z.heap S xs i := x.moved fun o e => mv.heap S o nw e
    show wpAny _ _ (holding [Value.str y t] (setAdd S (.str y t)) >>= _) _ _ z
    refine wpAny_bind (wpAny_holding ?_)
    unfold setAdd
    refine wpAny_holding (wpAny_bind ((PySem.strKind prog w).pyHash (k := y) (strKind_is _ _ _ _) ?_))
    refine wpAny_setAddHashed_of (knd := PySem.strKind prog w) (s := { z with toks := z.toks + 1 }) (strKind_is _ _ _ _) rfl x1 (by omega) fun h1 sb x2 => ?_
    have no : y ∉ xs.take i := fun q => by
      obtain ⟨j, hj⟩ := List.mem_iff_getElem?.mp q
      rw [List.getElem?_take] at hj
      by_cases hji : j < i
      · rw [if_pos hji] at hj
        obtain ⟨a1, a2⟩ := List.getElem?_eq_some_iff.mp hj
        obtain ⟨b1, b2⟩ := List.getElem?_eq_some_iff.mp hy
        exact List.pairwise_iff_getElem.mp nd j i a1 b1 hji (a2.trans b2.symm)
      · rw [if_neg hji] at hj
        cases hj
    have x3 : SetTo prog w h1 S xs (i + 1) := PyProof.Rows.SetOf_congr x2 (fun q => by
      rw [List.take_add_one, hy]
      simp [List.mem_append]) (by simp [no])
    refine wpAny_pure ⟨plainId_quiet (PyProof.Rows.F.plain_set_update_loop) _, ih (i + 1) _ (by omega) il (W.frame _ z _ _ st1 (Nat.le_succ _) fun c hc o e => ?_) x3 fun z2 mv2 x4 => ?_⟩
    · rw [sb.2 c fun q : c = S => ns (by rw [← q]; exact hc)]
      exact e
    · refine k z2 (Moved.trans W.gtrans ((mv.mono more).then_heap (Nat.le_succ _) fun c o hc e => ?_) mv2) x4
      rw [sb.2 c fun q : c = S => hc (by rw [q]; exact List.mem_cons_self)]
      exact e
end
section
variable {prog : Program} {w : World} {A : Around} {E : Value → Shared → Prop} {s : Shared}
set_option maxHeartbeats 8000000 in
/-- set(t), t a tuple of unlike texts -/
theorem call_setT {l : Addr} {items : Array Value} {xs : List Str} {Q : Value → Shared → Prop} (hh : A.handled = none) (tup : s.heap.IsTuple l items) (tx : TxtAt items xs) (nd : xs.Nodup) (hbig : xs.length + 1 < scanBound)
    (k : ∀ (h1 : Heap) (tk : Nat), SetTo prog w h1 s.heap.objs.size xs xs.length → (∀ c o, c < s.heap.objs.size → s.heap.get? c = some o → h1.get? c = some o) → Q (.ref s.heap.objs.size) { s with heap := h1, toks := tk }) :
    wpAny (model prog w) A (call (.type "set") [.ref l]) Q E s := by
  obtain ⟨mc, mt, mro⟩ := PySem.F.called_set.mro
  have m1 := PySem.F.called_set.made
  have m2 := PySem.F.called_set.sub
  refine wpAny_call (codeAny_of_tree ?_)
  show wpAny _ _ (callAny (.type "set") ⟨[.ref l], []⟩) _ _ _
  refine wpAny_pure ⟨Code.quiet_builtin _ (by decide +kernel), codeAny_builtin (PySem.F.entry_type_call) ?_⟩
  rw [Around.under_plain (weight_type_call_type "set" [.ref l] ([] : List (Str × Value))) rfl]
  have m3 := PySem.F.called_set.notType
  have m4 := PySem.F.called_set.canCreate
  have m5 := PySem.F.typeCall_set_1 (.ref l)
  repeat (any_goals (first | assumption | wp_step))

  refine codeAny_mono (code_set_new_1 (.ref l) (E := E) (Q₁ := fun u z => ∃ led : Bool, u = .ref s.heap.objs.size ∧ z = { s with heap := s.heap.push { cls := .type "set", dict := none, data := .set #[] 0 (.fresh 0 0 led) } }) fun led => ⟨led, rfl, rfl⟩) fun r z hr => ?_
  cases r with
  | error e => exact hr
  | ok fl =>
    cases fl with
    | ret u =>
      obtain ⟨led, rfl, rfl⟩ := hr
      have at0 : (s.heap.push { cls := .type "set", dict := none, data := .set #[] 0 (.fresh 0 0 led) }).get? s.heap.objs.size = some { cls := .type "set", dict := none, data := .set #[] 0 (.fresh 0 0 led) } := Heap.get?_push_size _ rfl
      have ty0 : Shared.TypeIs { s with heap := s.heap.push { cls := .type "set", dict := none, data := .set #[] 0 (.fresh 0 0 led) } } (.ref s.heap.objs.size) "set" := ⟨_, at0, rfl⟩
      have m6 := PySem.F.called_set.init.lookup
      have m7 := PySem.F.called_set.init.bind (.ref s.heap.objs.size)
      repeat (any_goals (first | assumption | wp_step))

      refine codeAny_mono (codeAny_call_builtin (R := wants (fun r z => r = .none ∧ ∃ h1 tk, z = { s with heap := h1, toks := tk } ∧ SetTo prog w h1 s.heap.objs.size xs xs.length ∧ ∀ c o, c < s.heap.objs.size → s.heap.get? c = some o → h1.get? c = some o) E)
        (PySem.F.called_set.init.plain) (PySem.F.entry_set_init) (check_set_init_1 ty0 ?_)) fun r2 z2 hr2 => ?_
      · obtain ⟨⟨tc, td, tda, ts⟩, to, tcl, tn, tdt⟩ := tup
        simp only at tcl tdt
        subst tcl
        subst tdt
        have to' : (s.heap.push { cls := .type "set", dict := none, data := .set #[] 0 (.fresh 0 0 led) }).get? l = some { cls := .type "tuple", dict := td, data := .seq items tn, slots := ts } := Heap.get?_push_of_some _ to
        have b1 := PySem.F.sub_tuple_set
        have b2 := PySem.F.sub_tuple_frozenset
        have b3 : (Value.type "tuple" == .type "dict") = false := by decide
        have tup1 : (s.heap.push { cls := .type "set", dict := none, data := .set #[] 0 (.fresh 0 0 led) }).IsTuple l items := ⟨_, to', rfl, tn, rfl⟩
        unfold Builtin.«set.__init__» noKeywords Builtin.Frozenset.updateFrom
        generalize eIt : pyIter = It
        wp_walk
        subst eIt

        refine wpAny_pyIter_tuple tup1 ?_
        refine wpAny_bind (wpAny_runValue ?_)
        have lt : l < s.heap.objs.size := Heap.lt_size to
        have hh3 : A.in1.in1.in1.handled = none := by simp [hh]
        have z1 : (s.heap.push { cls := .type "set", dict := none, data := .set #[] 0 (.fresh 0 0 led) }).objs.size = s.heap.objs.size + 1 := Heap.size_push ..
        have d1 : l ≠ (s.heap.push { cls := .type "set", dict := none, data := .set #[] 0 (.fresh 0 0 led) }).objs.size := by
          rw [z1]
          exact Nat.ne_of_lt (Nat.lt_succ_of_lt lt)
        have d2 : s.heap.objs.size ∉ [(s.heap.push { cls := .type "set", dict := none, data := .set #[] 0 (.fresh 0 0 led) }).objs.size, l] := by
          rw [z1]
          intro q
          rcases List.mem_cons.mp q with q | q
          · exact Nat.ne_of_lt (Nat.lt_succ_self _) q
          · exact Nat.ne_of_gt lt (List.mem_singleton.mp q)
        have tx2 : ∀ (i : Nat) (v : Value), items[i]? = some v → ∃ t x, v = .str x t ∧ xs[i]? = some x := tx.2
        have z2 : items.size = xs.length := tx.1
        refine setLoop ((Walks.tuple hh3 _ l d1 items).toS) s.heap.objs.size d2 xs z2.symm nd (by omega) tx2 (items.size - 0) 0 _ (by omega) (Nat.zero_le _) ⟨⟨_, Heap.get?_push_size _ rfl, rfl, rfl⟩, tup1.push _⟩ ?_ ?_
        · have at1 : ((s.heap.push { cls := .type "set", dict := none, data := .set #[] 0 (.fresh 0 0 led) }).push { cls := .type "tuple_iterator", data := .fields #[.ref l, .int 0 0] }).get? s.heap.objs.size
              = some { cls := .type "set", dict := none, data := .set #[] 0 (.fresh 0 0 led) } := Heap.get?_push_of_some _ at0
          exact PyProof.Rows.SetOf_congr ((PyProof.Rows.setObjOf_fresh (knd := PySem.strKind prog w) led).setOf at1 (by unfold scanBound; omega)) (fun q => by simp) rfl
        · intro z mv x
          obtain ⟨h1, g1, d3, tk1, os1⟩ := z
          obtain rfl : g1 = s.gens := mv.gens
          obtain rfl : d3 = s.drawn := mv.drawn
          obtain rfl : os1 = s.os := mv.os
          show wpAny _ _ _ _ _ _
          apply wpAny_pure
          show wpAny _ _ (ret .none) _ _ _
          rw [z2] at x
          refine wpAny_pure ⟨rfl, h1, tk1, rfl, x, fun c o hc e => ?_⟩
          refine mv.heap c o (fun q => ?_) (Heap.get?_push_of_some _ (Heap.get?_push_of_some _ e))
          rcases List.mem_cons.mp q with q | q
          · exact Nat.ne_of_lt hc q
          · have q1 := List.mem_singleton.mp q
            rw [z1] at q1
            exact Nat.ne_of_lt (Nat.lt_succ_of_lt hc) q1
      · cases r2 with
        | error e => exact hr2
        | ok fl2 =>
          cases fl2 with
          | ret r =>
            obtain ⟨rfl, h1, tk, rfl, x, kp⟩ := hr2
            repeat (any_goals (first | assumption | wp_step))
            exact k _ _ x kp
          | _ => exact hr2.elim
    | _ => exact hr.elim
end
/-- len(set(t)), t a tuple of unlike texts -/
def tLenSetT (K : PySem.W.Frag) (ta : TE) : TE := fun σ H Q => ta σ H fun x H1 => ∃ (l : Addr) (xs : List Str), x = .ref l ∧ SqT K H1 l (xs.map V.str) ∧ xs.Nodup ∧ xs.length ≤ 4000 ∧ Q (.int (xs.length : Nat)) H1
theorem pe_lenSetT {X : Cx} {a : Expr} {ta : TE} {p p2 q pos : Pos} (hc : X.calm = true) (hg : Gl X "len") (hm : X.mg "len" = none) (hg2 : Gl X "set") (hm2 : X.mg "set" = none) (ha : PE X a ta)
    (na : starEach [a] X.env = (false, eval a X.env) :: starEach [] X.env := by rfl) : PE X (.Call (.Name "len" p) [.Call (.Name "set" p2) [a] [] q] [] pos) (tLenSetT X.K ta) := by
  refine ⟨fun pins s σ H Q I h => ?_⟩
  refine PyProof.Rows.Call_ (ld_blt I hg hm (PySem.boot_len) ?_)
  refine PyProof.Rows.callWith_builtin1 (PyProof.Rows.args_cons ?_ rfl) rfl rfl
  refine PyProof.Rows.Call_ (ld_blt I hg2 hm2 (u := .type "set") (by decide +kernel) ?_)
  refine PyProof.Rows.callWith_type1 (PyProof.Rows.args_cons (thn (ha.run pins s σ H _ I h) fun v s1 ⟨x, H1, I1, r1, q1⟩ => PyProof.Rows.args_nil ?_) na) na rfl
  obtain ⟨l, xs, rfl, hq, nd, hl, q1⟩ := q1
  obtain rfl : v = Value.ref l := r1
  obtain ⟨us, r, tup, hz⟩ := I1.tuple hq
  refine call_setT (I1.ok.hd hc) tup (txtAt_of r) nd (by unfold scanBound; omega) fun h1 tk x kp => ?_
  refine PyProof.Rows.args_nil ?_
  obtain ⟨o, es, ep, tb, ho, hex, hd, _, _, _, hf, hn⟩ := x
  have I2 : Inv X pins σ H1 { s1 with heap := h1, toks := tk } := I1.kept fun c o e => kp c o (Heap.lt_size e) e
  exact call_len_set ho hex hd hf (by rw [hn] <;> omega) ⟨.int xs.length, H1, I2.tok _, ⟨_, by rw [hn]⟩, q1⟩
end My
namespace My
set_option autoImplicit false
open PySem L2 Evl
section
variable {te ta tb tc : TE} {t tr : TA} {tt : TT} {σ : L2.St} {B B' H : Hp} {p q : Pr} {ps : List Pr} {v : V} {K : PySem.W.Frag} {D : Ends}
theorem ev_chain {r1 r2 : Int → Int → Bool} {i j k : Int} (ha : Ev ta σ B (.int i)) (hb : Ev tb σ B (.int j)) (hc : Ev tc σ B (.int k)) : Ev (tChain (rI0 fun i j => .bl (r1 i j)) (rI0 fun i j => .bl (r2 i j)) ta tb tc) σ B (.bl (r1 i j && r2 j k)) := fun H1 e Q q =>
  ha H1 e _ fun H2 e2 => hb H2 (e.trans e2) _ fun H3 e3 => ⟨i, j, rfl, rfl, _, rfl, by
    cases h : r1 i j with
    | true =>
      show tc σ H3 _
      refine hc H3 ((e.trans e2).trans e3) _ fun H4 e4 => ?_
      have := q H4 ((e2.trans e3).trans e4)
      rw [h] at this
      exact ⟨j, k, rfl, rfl, this⟩
    | false =>
      have := q H3 (e2.trans e3)
      rw [h] at this
      exact this⟩
theorem ev_lenS {x : Str} (h : Ev te σ B (.str x)) (hl : x.length ≤ 100000) : Ev (tCB (fun xs H Q => ∃ z : Str, xs = [.str z] ∧ z.length ≤ sizeLine ∧ Q (.int (z.length : Nat)) H) (tCons te tNil)) σ B (.int (x.length : Int)) := fun H1 e Q q =>
  h H1 e _ fun H2 e2 => ⟨x, rfl, sz_of hl, q H2 e2⟩
theorem ev_sign {c : Nat} {z : Str} (ha : Ev ta σ B (.str ⟨#[c]⟩)) (hb : Ev tb σ B (.str z)) : Ev (tOp (fun x y H Q => ∃ (c : Nat) (z : Str), x = .str ⟨#[c]⟩ ∧ y = .str z ∧ Q (.bl (decide (c ∈ z.cps.toList))) H) ta tb) σ B (.bl (decide (c ∈ z.cps.toList))) := fun H1 e Q q =>
  ha H1 e _ fun H2 e2 => hb H2 (e.trans e2) _ fun H3 e3 => ⟨c, z, rfl, rfl, q H3 (e2.trans e3)⟩
/-- an if whose test fails, without an else -/
theorem ps_ifN {tu : TS} (a : Ex B H) (h : EvT tt σ B false) (k : ∀ H1, Ex H H1 → D.nx σ H1) : tIfS tt tu tNext D σ H := h H a _ fun H1 e => by
  rw [if_neg Bool.false_ne_true]
  exact k H1 e
theorem ps_exE (a : Ex B H) (h : EvP te σ B p) (k : ∀ H1, Ex H H1 → D.nx σ H1) : tDrop te D σ H := h H a _ fun _ _ H1 g _ => k H1 g.a
theorem ev_lenSet {xs : List Str} (h : EvP te σ B (NmP xs)) (nd : xs.Nodup) (hl : xs.length ≤ 4000) : Ev (tLenSetT K te) σ B (.int (xs.length : Int)) := fun H1 e Q q =>
  h H1 e _ fun v B2 H2 g x => by
    obtain ⟨a, o, rfl, h2, _⟩ := x
    exact ⟨a, xs, rfl, .inl (.inr ⟨o, g.c _ _ h2⟩), nd, hl, q H2 g.a⟩
end
theorem k_ii : kitB "int" "int" = some true := by decide +kernel
theorem k_ib : kitB "int" "bool" = some false := by decide +kernel
theorem k_ss : kitB "str" "str" = some true := by decide +kernel
theorem k_tt : kitB "tuple" "tuple" = some true := by decide +kernel
theorem k_ll : kitB "list" "list" = some true := by decide +kernel
theorem nm_facts {x : Str} (h : IsNm x) : 1 ≤ x.length ∧ x.length ≤ 8 ∧ ∀ c ∈ x.cps, 97 ≤ c ∧ c ≤ 122 := by
  unfold IsNm isNmB at h
  simp only [Bool.and_eq_true, decide_eq_true_eq, List.all_eq_true] at h
  exact ⟨h.1.1, h.1.2, fun c hc => h.2 c (by simpa using hc)⟩
theorem let_low {c : Nat} (h1 : 97 ≤ c) (h2 : c ≤ 122) : c ∈ (Str.ofString "abcdefghijklmnopqrstuvwxyz").cps.toList := by
  have : (Str.ofString "abcdefghijklmnopqrstuvwxyz").cps.toList = (List.range 26).map (· + 97) := by decide +kernel
  rw [this]
  exact List.mem_map.mpr ⟨c - 97, List.mem_range.mpr (by omega), by omega⟩
end My
namespace My
set_option autoImplicit false
open PySem PySem.W L2 Evl
/-! ### the order of derivatives -/
def Rk.lt (r : Rk) (u v : Dv) : Prop := r.key u < r.key v
instance (r : Rk) (u v : Dv) : Decidable (r.lt u v) := inferInstanceAs (Decidable (r.key u < r.key v))
def Rk.le (r : Rk) (u v : Dv) : Bool := !decide (r.lt v u)
theorem lt3 (a b c x y z : Int) : [a, b, c] < [x, y, z] ↔ a < x ∨ (a = x ∧ (b < y ∨ (b = y ∧ c < z))) := by
  simp [List.cons_lt_cons_iff]
theorem lex3 (a b c x y z : Int) : HT.lexLt [a, b, c] [x, y, z] = decide ([a, b, c] < [x, y, z]) := by
  rw [Bool.eq_iff_iff, decide_eq_true_iff, lt3]
  unfold HT.lexLt
  by_cases h : a = x
  · rw [if_pos h]
    unfold HT.lexLt
    by_cases h2 : b = y
    · rw [if_pos h2]
      unfold HT.lexLt
      by_cases h3 : c = z
      · rw [if_pos h3]
        unfold HT.lexLt
        simp
        omega
      · rw [if_neg h3]
        simp
        omega
    · rw [if_neg h2]
      simp
      omega
  · rw [if_neg h]
    simp
    omega
theorem Rk.key3 (r : Rk) (u : Dv) : ∃ a b c, r.key u = [a, b, c] := by
  unfold Rk.key
  cases r.tot
  · exact ⟨_, _, _, rfl⟩
  · exact ⟨_, _, _, rfl⟩
theorem Rk.lt_irrefl (r : Rk) (u : Dv) : ¬ r.lt u u := by
  unfold Rk.lt
  obtain ⟨a, b, c, e⟩ := r.key3 u
  rw [e, lt3]
  omega
theorem Rk.lt_trans (r : Rk) {u v w : Dv} (h : r.lt u v) (k : r.lt v w) : r.lt u w := by
  unfold Rk.lt at *
  obtain ⟨a, b, c, e⟩ := r.key3 u
  obtain ⟨a', b', c', e'⟩ := r.key3 v
  obtain ⟨a2, b2, c2, e2⟩ := r.key3 w
  rw [e, e', lt3] at h
  rw [e', e2, lt3] at k
  rw [e, e2, lt3]
  omega
theorem Rk.tri (r : Rk) (u v : Dv) : r.lt u v ∨ r.key u = r.key v ∨ r.lt v u := by
  unfold Rk.lt
  obtain ⟨a, b, c, e⟩ := r.key3 u
  obtain ⟨a', b', c', e'⟩ := r.key3 v
  rw [e, e', lt3, lt3]
  by_cases h : a = a'
  · by_cases h2 : b = b'
    · by_cases h3 : c = c'
      · exact .inr (.inl (by rw [h, h2, h3]))
      · omega
    · omega
  · omega
theorem idx_inj {ns : List Str} {x y : Str} (hx : x ∈ ns) (hy : y ∈ ns) (h : ns.idxOf x = ns.idxOf y) : x = y := by
  have h1 := List.getElem_idxOf (List.idxOf_lt_length_of_mem hx)
  have h2 := List.getElem_idxOf (List.idxOf_lt_length_of_mem hy)
  rw [← h1, ← h2]
  congr 1
theorem Rk.key_inj (r : Rk) {u v : Dv} (hu : u.n ∈ r.ns) (hv : v.n ∈ r.ns) (h : r.key u = r.key v) : u = v := by
  obtain ⟨n, i, j⟩ := u
  obtain ⟨n', i', j'⟩ := v
  have : (i + j = i' + j') ∧ r.first ⟨n, i, j⟩ = r.first ⟨n', i', j'⟩ ∧ r.ahead ⟨n, i, j⟩ = r.ahead ⟨n', i', j'⟩ := by
    unfold Rk.key at h
    cases ht : r.tot with
    | true =>
      rw [ht, if_pos rfl, if_pos rfl] at h
      simp at h
      exact h
    | false =>
      rw [ht, if_neg Bool.false_ne_true, if_neg Bool.false_ne_true] at h
      simp at h
      exact ⟨h.2.1, h.2.2, h.1⟩
  obtain ⟨h1, h2, h3⟩ := this
  have e : n = n' := idx_inj hu hv (by unfold Rk.ahead at h3; simp only at h3; omega)
  subst e
  unfold Rk.first at h2
  by_cases hx : r.ax = 2
  · rw [if_pos hx, if_pos hx] at h2
    simp only at h2
    have : i = i' := by omega
    rw [this, h2]
  · rw [if_neg hx, if_neg hx] at h2
    simp only at h2
    have : j = j' := by omega
    rw [this, h2]
theorem Rk.cmp_lt (r : Rk) (u v : Dv) : r.cmp u v = -1 ↔ r.lt u v := by
  unfold Rk.cmp cmpL Rk.lt
  obtain ⟨a, b, c, e⟩ := r.key3 u
  obtain ⟨a', b', c', e'⟩ := r.key3 v
  rw [e, e', lex3]
  by_cases h : [a, b, c] = [a', b', c']
  · rw [if_pos h, ← h, lt3]
    omega
  · rw [if_neg h]
    by_cases k : [a, b, c] < [a', b', c']
    · simp [k]
    · simp [k]
theorem Rk.cmp_eq (r : Rk) (u v : Dv) : r.cmp u v = 0 ↔ r.key u = r.key v := by
  unfold Rk.cmp cmpL
  by_cases h : r.key u = r.key v
  · simp [h]
  · rw [if_neg h]
    constructor
    · intro k
      split at k <;> omega
    · intro k
      exact absurd k h
theorem Rk.cmp_gt (r : Rk) (u v : Dv) : r.cmp u v = 1 ↔ r.lt v u := by
  have h := r.tri u v
  have h1 := r.cmp_lt u v
  have h2 := r.cmp_eq u v
  have h3 : r.cmp u v = -1 ∨ r.cmp u v = 0 ∨ r.cmp u v = 1 := by
    unfold Rk.cmp cmpL
    split
    · exact .inr (.inl rfl)
    · split
      · exact .inl rfl
      · exact .inr (.inr rfl)
  have n1 : r.lt u v → r.lt v u → False := fun a b => r.lt_irrefl u (r.lt_trans a b)
  have n2 : r.key u = r.key v → r.lt v u → False := fun a b => by
    unfold Rk.lt at b
    rw [a] at b
    exact r.lt_irrefl v b
  constructor
  · intro k
    rcases h with h | h | h
    · rw [h1.mpr h] at k
      omega
    · rw [h2.mpr h] at k
      omega
    · exact h
  · intro k
    rcases h3 with e | e | e
    · exact (n1 (h1.mp e) k).elim
    · exact (n2 (h2.mp e) k).elim
    · exact e
theorem Rk.cmp_3 (r : Rk) (u v : Dv) : r.cmp u v = -1 ∨ r.cmp u v = 0 ∨ r.cmp u v = 1 := by
  unfold Rk.cmp cmpL
  split
  · exact .inr (.inl rfl)
  · split
    · exact .inl rfl
    · exact .inr (.inr rfl)
theorem Rk.cmp_neg (r : Rk) (u v : Dv) : r.cmp u v = -r.cmp v u := by
  rcases r.cmp_3 v u with e | e | e
  · rw [e, (r.cmp_gt u v).mpr ((r.cmp_lt v u).mp e)]
    rfl
  · rw [e, (r.cmp_eq u v).mpr ((r.cmp_eq v u).mp e).symm]
    rfl
  · rw [e, (r.cmp_lt u v).mpr ((r.cmp_gt v u).mp e)]
/-- from u on, once more by x, or by y -/
def Dv.up (u : Dv) (x : Str) : Dv := if x = "x" then ⟨u.n, u.i + 1, u.j⟩ else ⟨u.n, u.i, u.j + 1⟩
theorem Rk.key_up (r : Rk) (x : Str) : ∃ a b c : Int, 0 < b ∧ (r.tot = true → ∀ u : Dv, r.key (u.up x) = [u.i + u.j + 1, r.first u + a, r.ahead u]) ∧ (r.tot = false → ∀ u : Dv, r.key (u.up x) = [r.ahead u, u.i + u.j + 1, r.first u + a]) := by
  by_cases hx : x = "x"
  · by_cases h2 : r.ax = 2
    · refine ⟨0, 1, 0, by decide, fun ht u => ?_, fun ht u => ?_⟩ <;>
      · unfold Rk.key Dv.up Rk.first Rk.ahead
        rw [ht, if_pos hx]
        simp [h2]
        omega
    · refine ⟨1, 1, 0, by decide, fun ht u => ?_, fun ht u => ?_⟩ <;>
      · unfold Rk.key Dv.up Rk.first Rk.ahead
        rw [ht, if_pos hx]
        simp [h2]
        omega
  · by_cases h2 : r.ax = 2
    · refine ⟨1, 1, 0, by decide, fun ht u => ?_, fun ht u => ?_⟩ <;>
      · unfold Rk.key Dv.up Rk.first Rk.ahead
        rw [ht, if_neg hx]
        simp [h2]
        omega
    · refine ⟨0, 1, 0, by decide, fun ht u => ?_, fun ht u => ?_⟩ <;>
      · unfold Rk.key Dv.up Rk.first Rk.ahead
        rw [ht, if_neg hx]
        simp [h2]
        omega
theorem Rk.lt_up (r : Rk) (x : Str) (u v : Dv) : r.lt (u.up x) (v.up x) ↔ r.lt u v := by
  obtain ⟨a, b, c, hb, h1, h2⟩ := r.key_up x
  unfold Rk.lt
  cases ht : r.tot with
  | true =>
    rw [h1 ht u, h1 ht v, lt3]
    unfold Rk.key
    rw [ht, if_pos rfl, if_pos rfl, lt3]
    omega
  | false =>
    rw [h2 ht u, h2 ht v, lt3]
    unfold Rk.key
    rw [ht, if_neg Bool.false_ne_true, if_neg Bool.false_ne_true, lt3]
    omega
theorem Rk.up_lt (r : Rk) (x : Str) (u : Dv) : r.lt u (u.up x) := by
  obtain ⟨a, b, c, hb, h1, h2⟩ := r.key_up x
  unfold Rk.lt
  cases ht : r.tot with
  | true =>
    rw [h1 ht u]
    unfold Rk.key
    rw [ht, if_pos rfl, lt3]
    omega
  | false =>
    rw [h2 ht u]
    unfold Rk.key
    rw [ht, if_neg Bool.false_ne_true, lt3]
    omega
theorem Rk.cmp_up (r : Rk) (x : Str) (u v : Dv) : r.cmp (u.up x) (v.up x) = r.cmp u v := by
  rcases r.cmp_3 u v with e | e | e
  · rw [e, r.cmp_lt, r.lt_up, ← r.cmp_lt, e]
  · have n1 : ¬ r.lt u v := fun h => by rw [(r.cmp_lt u v).mpr h] at e; omega
    have n2 : ¬ r.lt v u := fun h => by rw [(r.cmp_gt u v).mpr h] at e; omega
    rw [e]
    rcases r.tri (u.up x) (v.up x) with h | h | h
    · exact (n1 ((r.lt_up x u v).mp h)).elim
    · exact (r.cmp_eq _ _).mpr h
    · exact (n2 ((r.lt_up x v u).mp h)).elim
  · rw [e, r.cmp_gt, r.lt_up, ← r.cmp_gt, e]
theorem Rk.cmp_tr (r : Rk) {u v w : Dv} (h : r.cmp u v = r.cmp v w) : r.cmp u w = r.cmp u v := by
  rcases r.cmp_3 u v with e | e | e
  · rw [e] at h ⊢
    exact (r.cmp_lt _ _).mpr (r.lt_trans ((r.cmp_lt _ _).mp e) ((r.cmp_lt _ _).mp h.symm))
  · rw [e] at h ⊢
    exact (r.cmp_eq _ _).mpr (((r.cmp_eq _ _).mp e).trans ((r.cmp_eq _ _).mp h.symm))
  · rw [e] at h ⊢
    exact (r.cmp_gt _ _).mpr (r.lt_trans ((r.cmp_gt _ _).mp h.symm) ((r.cmp_gt _ _).mp e))
/-! ### sorted by it -/
def Rk.sort (r : Rk) (us : List Dv) : List Dv := us.mergeSort r.le
theorem Rk.le_tot (r : Rk) (u v : Dv) : (r.le u v || r.le v u) = true := by
  unfold Rk.le
  simp
  by_cases h : r.lt v u
  · right
    intro k
    exact r.lt_irrefl u (r.lt_trans k h)
  · exact .inl h
theorem Rk.le_tr (r : Rk) (u v w : Dv) (h : r.le u v = true) (k : r.le v w = true) : r.le u w = true := by
  unfold Rk.le at *
  simp at *
  intro z
  rcases r.tri u v with a | a | a
  · exact k (r.lt_trans z a)
  · apply k
    unfold Rk.lt at *
    rw [← a]
    exact z
  · exact h a
theorem Rk.sort_le (r : Rk) (us : List Dv) : (r.sort us).Pairwise (fun u v => r.le u v = true) := List.pairwise_mergeSort (r.le_tr) (r.le_tot) us
theorem Rk.sort_perm (r : Rk) (us : List Dv) : (r.sort us).Perm us := List.mergeSort_perm us r.le
theorem Rk.sort_one (r : Rk) {us vs : List Dv} (hu : ∀ u ∈ us, u.n ∈ r.ns) (h : us.Perm vs) : r.sort us = r.sort vs := by
  refine List.Perm.eq_of_pairwise (le := fun u v => r.le u v = true) (fun u v mu mv a b => ?_) (r.sort_le us) (r.sort_le vs) (((r.sort_perm us).trans h).trans (r.sort_perm vs).symm)
  have m1 : u.n ∈ r.ns := hu u ((r.sort_perm us).mem_iff.mp mu)
  have m2 : v.n ∈ r.ns := hu v (h.mem_iff.mpr ((r.sort_perm vs).mem_iff.mp mv))
  unfold Rk.le at a b
  simp at a b
  rcases r.tri u v with z | z | z
  · exact (b z).elim
  · exact r.key_inj m1 m2 z
  · exact (a z).elim
/-- strictly rising -/
theorem Rk.sort_lt (r : Rk) {us : List Dv} (hu : ∀ u ∈ us, u.n ∈ r.ns) (nd : us.Nodup) : (r.sort us).Pairwise r.lt := by
  have nd2 : (r.sort us).Nodup := (r.sort_perm us).nodup_iff.mpr nd
  have m : ∀ u ∈ r.sort us, u.n ∈ r.ns := fun u h => hu u ((r.sort_perm us).mem_iff.mp h)
  have h := r.sort_le us
  rw [List.pairwise_iff_getElem] at *
  intro i j hi hj hij
  have a := h i j hi hj hij
  have b := List.pairwise_iff_getElem.mp nd2 i j hi hj hij
  unfold Rk.le at a
  simp at a
  rcases r.tri (r.sort us)[i] (r.sort us)[j] with z | z | z
  · exact z
  · exact (b (r.key_inj (m _ (List.getElem_mem hi)) (m _ (List.getElem_mem hj)) z)).elim
  · exact (a z).elim
theorem Rk.sort_idem (r : Rk) {us : List Dv} (hu : ∀ u ∈ us, u.n ∈ r.ns) : r.sort (r.sort us).reverse = r.sort us :=
  r.sort_one (fun u h => hu u ((r.sort_perm us).mem_iff.mp (List.mem_reverse.mp h))) ((List.reverse_perm _).trans (r.sort_perm us))
/-! ### what sorted with keys makes of them -/
theorem dataLt_keys (a b : List Int) : dataLt (.tuple (a.map .int)) (.tuple (b.map .int)) = decide (a < b) := by
  rw [dataLt_tuple]
  exact dataLt_ints a b
def Rk.keyD (r : Rk) (u : Dv) : PyData := .tuple ((r.key u).map .int)
theorem zip_pairs {α β γ : Type} (f : β → γ) : ∀ {xs : List α} {us : List β}, xs.length = us.length → xs.zip (us.map f) = (xs.zip us).map fun p => (p.1, f p.2)
  | [], [], _ => rfl
  | _ :: _, _ :: _, h => congrArg (_ :: ·) (zip_pairs f (by simpa using h))
theorem AllP.zip {H : Hp} (f : Dv → Pr) : ∀ {xs : List V} {us : List Dv}, AllP (us.map f) xs H → ∀ p ∈ xs.zip us, (f p.2).P p.1 H
  | [], [], _, p, h => by simp at h
  | x :: xs, u :: us, a, p, h => by
    rcases List.mem_cons.mp h with rfl | h
    · exact a.1
    · exact AllP.zip f a.2 p h
theorem AllP.of {H : Hp} (f : Dv → Pr) : ∀ {ps : List (V × Dv)}, (∀ p ∈ ps, (f p.2).P p.1 H) → AllP ((ps.map (·.2)).map f) (ps.map (·.1)) H
  | [], _ => trivial
  | p :: ps, h => ⟨h p List.mem_cons_self, AllP.of f fun q hq => h q (List.mem_cons_of_mem _ hq)⟩
theorem byKey_all (r : Rk) {H : Hp} {xs : List V} {us : List Dv} (h : AllP (us.map DvP) xs H) : AllP ((r.sort us).map DvP) (byKey xs (us.map r.keyD)) H := by
  have hl : xs.length = us.length := by
    have := h.len
    rw [List.length_map] at this
    exact this
  have e1 : xs.zip (us.map r.keyD) = (xs.zip us).map fun p => (p.1, r.keyD p.2) := zip_pairs _ hl
  have e2 : ((xs.zip us).mergeSort fun p q => r.le p.2 q.2).map (fun p => (p.1, r.keyD p.2)) = (xs.zip (us.map r.keyD)).mergeSort (dataLe false (·.2)) := by
    rw [e1]
    refine List.map_mergeSort fun p _ q _ => ?_
    rw [dataLe_eq]
    show r.le p.2 q.2 = !dataLt (r.keyD q.2) (r.keyD p.2)
    unfold Rk.keyD
    rw [dataLt_keys]
    rfl
  have e3 : ((xs.zip us).mergeSort fun p q => r.le p.2 q.2).map (·.2) = r.sort us := by
    have : us = (xs.zip us).map (·.2) := by rw [List.map_snd_zip (by omega)]
    unfold Rk.sort
    rw [this]
    simp only [List.map_snd_zip (show us.length ≤ xs.length by omega)]
    have := List.map_mergeSort (r := fun p q : V × Dv => r.le p.2 q.2) (s := r.le) (f := fun p : V × Dv => p.2) (l := xs.zip us) (fun _ _ _ _ => rfl)
    rw [this, List.map_snd_zip (by omega)]
  have e4 : byKey xs (us.map r.keyD) = ((xs.zip us).mergeSort fun p q => r.le p.2 q.2).map (·.1) := by
    unfold byKey
    rw [← e2, List.map_map]
    rfl
  rw [e4, ← e3]
  exact AllP.of DvP fun p hp => AllP.zip DvP h p ((List.mergeSort_perm _ _).mem_iff.mp hp)
end My
namespace My
set_option autoImplicit false
open PySem PySem.W L2 Evl LamX
theorem AllP.ix {H : Hp} : ∀ {ps : List Pr} {vs : List V}, ps.length = vs.length → (∀ (i : Nat) (p : Pr) (v : V), ps[i]? = some p → vs[i]? = some v → p.P v H) → AllP ps vs H
  | [], [], _, _ => trivial
  | p :: ps, v :: vs, hl, h => ⟨h 0 p v rfl rfl, AllP.ix (by simpa using hl) fun i q u a b => h (i + 1) q u a b⟩
theorem AllP.ixD {H : Hp} (f : Dv → Pr) {us : List Dv} {vs : List V} {i : Nat} {v : V} (h : AllP (us.map f) vs H) (hv : vs[i]? = some v) : ∃ u, us[i]? = some u ∧ (f u).P v H := by
  obtain ⟨p, hp, k⟩ := h.get hv
  rw [List.getElem?_map] at hp
  cases e : us[i]? with
  | none =>
    rw [e] at hp
    cases hp
  | some u =>
    rw [e] at hp
    obtain rfl : f u = p := Option.some.inj hp
    exact ⟨u, rfl, k⟩
/-- tables of code: what of the heap they lean on -/
theorem exN_ex {B H H2 : Hp} (e : Ex B H) (n : NoTab B) (k : ExtN H H2) : Ex B H2 := fun b o h => k b o (e b o h) fun ps z => n b ps (by rw [← z]; exact h)
theorem exN_of {H H' : Hp} (e : Ex H H') : ExtN H H' := fun b o h _ => e b o h
theorem nt_upd {B : Hp} {a : Addr} {o : HO} (n : NoTab B) (ho : ∀ ps, o ≠ .tbl ps) : NoTab (upd B a o) := fun b ps q => by
  by_cases h : b = a
  · subst h
    rw [upd_same] at q
    exact ho ps (Option.some.inj q)
  · rw [upd_ne h] at q
    exact n b ps q
/-! ### a for over what is known -/
section
variable {te ta tb : TE} {t tr : TA} {tt : TT} {σ : L2.St} {B B' H : Hp} {p q : Pr} {ps : List Pr} {v : V} {K : PySem.W.Frag} {D : Ends}
theorem ps_forS {wi : TI} {n : Nat} {P : Nat → Pr} {g : TG} {tbd : TS} (a : Ex B H) (h : Src wi σ B n P)
    (k : ∀ B1 H1, Gr B H B1 H1 → ∃ Pv : Nat → L2.St → Hp → Prop, Pv 0 σ H1 ∧ (∀ i σ' H', i ≤ n → Pv i σ' H' → Ex B1 H') ∧
      (∀ i v σ' H', i < n → Pv i σ' H' → (P i).P v B1 → g v σ' H' fun σ2 H2 => tbd { D with nx := Pv (i + 1), ct := Pv (i + 1), bk := D.nx } σ2 H2) ∧ ∀ σ' H', Pv n σ' H' → D.nx σ' H') :
    tFor wi g tbd D σ H := h H a _ fun J B1 H1 G Y gr w hG hY => by
  obtain ⟨Pv, h0, hE, hs, hd⟩ := k B1 H1 gr
  refine for_it w Pv h0 (fun i σ' H' hi pv => hG H' (hE i σ' H' hi pv)) (fun i x σ' H' H2 hi pv y => ?_) hd
  obtain ⟨rfl, px⟩ := hY i H' x H2 hi (hE i σ' H' (Nat.le_of_lt hi) pv) y
  exact hs i x σ' H2 hi pv px
theorem src_lq (h : EvP te σ B (LqP K ps)) : Src (iList K te) σ B ps.length (fun i => ps.getD i (IsV .non)) := fun H1 a R k => h H1 a _ fun v B2 H2 g b => by
  obtain ⟨l, xs, rfl, hx, al⟩ := b
  refine ⟨l, rfl, ⟨xs, ex_l g.c hx⟩, k _ B2 H2 _ _ g (by rw [← al.len]; exact walk_list) (fun H e => ex_l e hx) fun i H v H' _ e (z : H' = H ∧ _) => ⟨z.1, ?_⟩⟩
  obtain ⟨p, hp, k2⟩ := al.get z.2
  show (ps.getD i (IsV .non)).P v B2
  rw [List.getD_eq_getElem?_getD, hp]
  exact k2
theorem ev_isiLT {d : PyData} {b : Bool} (h : EvP te σ B (IsD K d)) (hk : PySem.W.kitAny K (.type (tyS d)) [.type "list", .type "tuple"] = some b) :
    Ev (tCB (rIsiT K) (tCons te (tCons (tTup (tCons (tC (.ty "list")) (tCons (tC (.ty "tuple")) tNil))) tNil))) σ B (.bl b) := fun H1 a Q k =>
  h H1 a _ fun v B2 H2 g x => ⟨sz_of (by show 2 ≤ 100000; decide), fun r hr => ⟨v, r, _, .type (tyS d), _, b, rfl, upd_same, .cons (.ty "list") (.cons (.ty "tuple") .nil), ty_d (dp_m (g.c.trans (Ex.new hr)) x), hk, k _ (g.a.trans (Ex.new hr))⟩⟩
end
/-! ### dicts by derivatives -/
def dvK (u : Dv) : List Key := [.inr u.n, .inl u.i, .inl u.j]
theorem dvK_inj {u v : Dv} (h : dvK u = dvK v) : u = v := by
  obtain ⟨n, i, j⟩ := u
  obtain ⟨n', i', j'⟩ := v
  simp [dvK] at h
  obtain ⟨rfl, rfl, rfl⟩ := h
  rfl
def addD (ds : List Dv) (u : Dv) : List Dv := if u ∈ ds then ds else ds ++ [u]
def dedD (us : List Dv) : List Dv := us.foldl addD []
def asK (ds : List Dv) : List (List Key × V) := ds.map fun u => (dvK u, .bl true)
theorem put_add (ds : List Dv) (u : Dv) : putK (asK ds) (dvK u) (.bl true) = asK (addD ds u) := by
  unfold putK addD
  by_cases h : u ∈ ds
  · rw [if_pos h, if_pos]
    · unfold asK
      rw [List.map_map]
      apply List.map_congr_left
      intro v _
      show (if dvK v = dvK u then (dvK v, V.bl true) else (dvK v, .bl true)) = _
      split <;> rfl
    · unfold asK
      rw [List.any_map, List.any_eq_true]
      exact ⟨u, h, by simp⟩
  · rw [if_neg h, if_neg]
    · unfold asK
      rw [List.map_append]
      rfl
    · unfold asK
      rw [List.any_map, List.any_eq_true]
      rintro ⟨v, hv, e⟩
      simp at e
      exact h (by rw [← dvK_inj e]; exact hv)
theorem add_mem {ds : List Dv} {u v : Dv} : v ∈ addD ds u ↔ v ∈ ds ∨ v = u := by
  unfold addD
  by_cases h : u ∈ ds
  · rw [if_pos h]
    constructor
    · exact .inl
    · rintro (k | rfl)
      · exact k
      · exact h
  · rw [if_neg h]
    simp
theorem add_nd {ds : List Dv} {u : Dv} (h : ds.Nodup) : (addD ds u).Nodup := by
  unfold addD
  by_cases k : u ∈ ds
  · rw [if_pos k]
    exact h
  · rw [if_neg k, List.nodup_append]
    exact ⟨h, by simp, fun a ha b hb => by
      rw [List.mem_singleton.mp hb]
      rintro rfl
      exact k ha⟩
theorem fold_add : ∀ (us ds : List Dv), (∀ v, v ∈ us.foldl addD ds ↔ v ∈ ds ∨ v ∈ us) ∧ (ds.Nodup → (us.foldl addD ds).Nodup)
  | [], ds => ⟨fun v => by simp, id⟩
  | u :: us, ds => by
    obtain ⟨h1, h2⟩ := fold_add us (addD ds u)
    refine ⟨fun v => ?_, fun h => h2 (add_nd h)⟩
    show v ∈ us.foldl addD (addD ds u) ↔ _
    rw [h1, add_mem, List.mem_cons]
    constructor
    · rintro ((a | a) | a)
      · exact .inl a
      · exact .inr (.inl a)
      · exact .inr (.inr a)
    · rintro (a | a | a)
      · exact .inl (.inl a)
      · exact .inl (.inr a)
      · exact .inr a
theorem ded_mem {us : List Dv} {v : Dv} : v ∈ dedD us ↔ v ∈ us := by
  unfold dedD
  rw [(fold_add us []).1]
  simp
theorem ded_nd (us : List Dv) : (dedD us).Nodup := (fold_add us []).2 List.nodup_nil
theorem ded_perm {us vs : List Dv} (h : ∀ v, v ∈ us ↔ v ∈ vs) : (dedD us).Perm (dedD vs) := (List.perm_ext_iff_of_nodup (ded_nd us) (ded_nd vs)).mpr fun v => by rw [ded_mem, ded_mem, h]
theorem ded_len (us : List Dv) : (dedD us).length ≤ us.length := by
  have : ∀ (us ds : List Dv), (us.foldl addD ds).length ≤ ds.length + us.length := by
    intro us
    induction us with
    | nil => intro ds; simp
    | cons u us ih =>
      intro ds
      show (us.foldl addD (addD ds u)).length ≤ _
      have := ih (addD ds u)
      have h : (addD ds u).length ≤ ds.length + 1 := by
        unfold addD
        split <;> simp
      rw [List.length_cons]
      omega
  have := this us []
  unfold dedD
  simpa using this
theorem ded_same {us : List Dv} (h : us.Nodup) : dedD us = us := by
  have : ∀ (us ds : List Dv), (ds ++ us).Nodup → us.foldl addD ds = ds ++ us := by
    intro us
    induction us with
    | nil => intro ds _; simp
    | cons u us ih =>
      intro ds hd
      show us.foldl addD (addD ds u) = _
      have nu : u ∉ ds := fun k => by
        rw [List.nodup_append] at hd
        exact hd.2.2 u k u List.mem_cons_self rfl
      have : addD ds u = ds ++ [u] := by
        unfold addD
        rw [if_neg nu]
      rw [this, ih _ (by simpa using hd)]
      simp
  unfold dedD
  simpa using this us [] (by simpa using h)
/-! ### all derivatives to an order -/
def Rk.most (r : Rk) (o i : Nat) : Nat := if (Str.ofString "y") ∈ r.axs then o - i else 0
def Rk.row (r : Rk) (o : Nat) (n : Str) (i : Nat) : List Dv := (List.range (r.most o i + 1)).map fun (j : Nat) => ⟨n, (i : Int), (j : Int)⟩
def Rk.rowsN (r : Rk) (o : Nat) (n : Str) (m : Nat) : List Dv := (List.range m).flatMap (r.row o n)
def Rk.rowsT (r : Rk) (o m : Nat) : List Dv := (r.ns.take m).flatMap fun n => r.rowsN o n (o + 1)
def Rk.all (r : Rk) (o : Nat) : List Dv := r.ns.flatMap fun n => r.rowsN o n (o + 1)
theorem Rk.mem_row {r : Rk} {o i : Nat} {n : Str} {u : Dv} (h : u ∈ r.row o n i) : u.n = n ∧ u.i = i ∧ 0 ≤ u.j ∧ u.j ≤ r.most o i := by
  unfold Rk.row at h
  obtain ⟨j, hj, rfl⟩ := List.mem_map.mp h
  have := List.mem_range.mp hj
  exact ⟨rfl, rfl, by simp, by simp; omega⟩
theorem Rk.mem_all {r : Rk} {o : Nat} {u : Dv} (h : u ∈ r.all o) : u.Of r := by
  unfold Rk.all Rk.rowsN at h
  obtain ⟨n, hn, h⟩ := List.mem_flatMap.mp h
  obtain ⟨i, hi, h⟩ := List.mem_flatMap.mp h
  obtain ⟨h1, h2, h3, h4⟩ := Rk.mem_row h
  refine ⟨by rw [h1]; exact hn, by rw [h2]; simp, h3, ?_⟩
  unfold Rk.most at h4
  by_cases hy : (Str.ofString "y") ∈ r.axs
  · exact .inr hy
  · rw [if_neg hy] at h4
    exact .inl (by simp at h4; omega)
theorem nd_flat {α β : Type} {f : α → List β} : ∀ {l : List α}, l.Nodup → (∀ a ∈ l, (f a).Nodup) → (∀ a ∈ l, ∀ b ∈ l, ∀ x, x ∈ f a → x ∈ f b → a = b) → (l.flatMap f).Nodup
  | [], _, _, _ => List.nodup_nil
  | a :: l, nd, h1, h2 => by
    rw [List.flatMap_cons, List.nodup_append]
    refine ⟨h1 a List.mem_cons_self, nd_flat (List.nodup_cons.mp nd).2 (fun b hb => h1 b (List.mem_cons_of_mem _ hb)) (fun b hb c hc => h2 b (List.mem_cons_of_mem _ hb) c (List.mem_cons_of_mem _ hc)), fun x hx y hy => ?_⟩
    rintro rfl
    obtain ⟨b, hb, hx2⟩ := List.mem_flatMap.mp hy
    have := h2 a List.mem_cons_self b (List.mem_cons_of_mem _ hb) x hx hx2
    subst this
    exact (List.nodup_cons.mp nd).1 hb
theorem Rk.all_nd {r : Rk} (o : Nat) (h : r.ns.Nodup) : (r.all o).Nodup := by
  unfold Rk.all
  refine nd_flat h (fun n _ => ?_) fun a _ b _ x hx hy => ?_
  · unfold Rk.rowsN
    refine nd_flat List.nodup_range (fun i _ => ?_) fun a _ b _ x hx hy => ?_
    · unfold Rk.row
      rw [List.nodup_iff_pairwise_ne, List.pairwise_map]
      refine List.Pairwise.imp ?_ (List.pairwise_lt_range)
      intro a b hab e
      simp at e
      omega
    · have := (Rk.mem_row hx).2.1
      have := (Rk.mem_row hy).2.1
      omega
  · unfold Rk.rowsN at hx hy
    obtain ⟨i, _, hx⟩ := List.mem_flatMap.mp hx
    obtain ⟨j, _, hy⟩ := List.mem_flatMap.mp hy
    rw [← (Rk.mem_row hx).1, (Rk.mem_row hy).1]
theorem flat_len {α β : Type} {f : α → List β} {m : Nat} : ∀ {l : List α}, (∀ a ∈ l, (f a).length ≤ m) → (l.flatMap f).length ≤ l.length * m
  | [], _ => by simp
  | a :: l, h => by
    rw [List.flatMap_cons, List.length_append, List.length_cons, Nat.add_mul]
    have := h a List.mem_cons_self
    have := flat_len (l := l) fun b hb => h b (List.mem_cons_of_mem _ hb)
    omega
theorem Rk.rowsN_len (r : Rk) {o : Nat} (n : Str) {m : Nat} (hm : m ≤ 13) (ho : o ≤ 12) : (r.rowsN o n m).length ≤ 169 := by
  have : (r.rowsN o n m).length ≤ (List.range m).length * 13 := flat_len fun i _ => by
    unfold Rk.row Rk.most
    rw [List.length_map, List.length_range]
    split <;> omega
  rw [List.length_range] at this
  have : m * 13 ≤ 13 * 13 := Nat.mul_le_mul_right 13 hm
  omega
theorem Rk.rowsT_len (r : Rk) {o m : Nat} (ho : o ≤ 12) (hr : r.ns.length ≤ 3) : (r.rowsT o m).length ≤ 507 := by
  have : (r.rowsT o m).length ≤ (r.ns.take m).length * 169 := flat_len fun n _ => r.rowsN_len n (by omega) ho
  have h2 : (r.ns.take m).length ≤ 3 := by rw [List.length_take]; omega
  have : (r.ns.take m).length * 169 ≤ 3 * 169 := Nat.mul_le_mul_right 169 h2
  omega
theorem Rk.rowsT_all (r : Rk) (o : Nat) : r.rowsT o r.ns.length = r.all o := by
  unfold Rk.rowsT Rk.all
  rw [List.take_length]
theorem Rk.rowsT_succ (r : Rk) (o m : Nat) (h : m < r.ns.length) : r.rowsT o (m + 1) = r.rowsT o m ++ r.rowsN o r.ns[m] (o + 1) := by
  unfold Rk.rowsT
  rw [List.take_add_one, List.getElem?_eq_getElem h, List.flatMap_append]
  simp
theorem Rk.rowsN_succ (r : Rk) (o : Nat) (n : Str) (m : Nat) : r.rowsN o n (m + 1) = r.rowsN o n m ++ r.row o n m := by
  unfold Rk.rowsN
  rw [List.range_succ]
  simp
theorem Rk.all_ne (r : Rk) (o : Nat) (h : 1 ≤ r.ns.length) : r.all o ≠ [] := by
  match e : r.ns, h with
  | n :: ns, _ =>
    unfold Rk.all
    rw [e, List.flatMap_cons]
    unfold Rk.rowsN
    rw [List.range_succ_eq_map, List.flatMap_cons]
    unfold Rk.row
    rw [List.range_succ_eq_map]
    simp
end My
namespace My
open PySem L2 Evl
theorem ev_isiLL {K : PySem.W.Frag} {te : TE} {σ : L2.St} {B : Hp} {ps : List Pr} (h : EvP te σ B (LqP K ps)) :
    Ev (tCB (rIsiT K) (tCons te (tCons (tTup (tCons (tC (.ty "list")) (tCons (tC (.ty "tuple")) tNil))) tNil))) σ B (.bl true) := fun H1 a Q k =>
  h H1 a _ fun v B2 H2 g x => ⟨sz_of (by show 2 ≤ 100000; decide), fun r hr => ⟨v, r, _, .type "list", _, true, rfl, upd_same, .cons (.ty "list") (.cons (.ty "tuple") .nil), by
    obtain ⟨l, xs, rfl, hl, _⟩ := x
    rcases ex_l (g.c.trans (Ex.new hr)) hl with (a | ⟨o, a⟩) | ⟨o, its, n, hk, hc, _⟩
    · exact .base (.lst a)
    · exact .base (.frz a)
    · exact .kList hk hc, kitAny_cons (b := true) (kit_ty k_ll) (fun z => nomatch z) (fun _ => rfl), k _ (g.a.trans (Ex.new hr))⟩⟩
end My
namespace My
set_option autoImplicit false
open PySem L2 Evl
theorem p_lcP {te : TE} {σ : L2.St} {B : Hp} {wi : TI} {n : Nat} {P : Nat → Pr} {g : TG} {vs : List Nat} (h : Src wi σ B n P) (hl : n ≤ 100000) (res : Nat → Pr)
    (step : ∀ i v B1, i < n → Ex B B1 → (P i).P v B1 → ∃ σ2, wipe σ2 vs = wipe σ vs ∧ (∀ H2 Q, Ex B1 H2 → Q σ2 H2 → g v (wipe σ vs) H2 Q) ∧ EvP te σ2 B1 (res i)) :
    EvP (tLc wi g tYes te vs) σ B (LsP ((List.range n).map res)) := by
  have := p_lcS (tt := tYes) (te := te) h hl (fun _ => true) res fun i v B1 hi e pv => by
    obtain ⟨σ2, a, b, c⟩ := step i v B1 hi e pv
    exact ⟨σ2, a, b, et_yes, fun _ => c⟩
  rw [List.filter_eq_self.mpr (fun _ _ => rfl)] at this
  exact this
end My
namespace My
set_option autoImplicit false
open PySem PySem.Spec PyProof.Rows L2
def signsOf (x : Str) : List Str := (List.range x.cps.size).map (oneS x)
/-- list(x) of a text -/
theorem call_listS {X : Cx} (hc : X.calm = true) : CallR X (.type "list") (fun xs H Q => ∃ x : Str, xs = [.str x] ∧ x.length ≤ 100000 ∧ ∀ l, H l = none → Q (.ref l) (upd H l (.lst ((signsOf x).map V.str)))) := by
  intro pins s σ H xs us Q I r ⟨x, ex, hx, q⟩
  subst ex
  obtain ⟨u, rfl, rx⟩ := vals1 r
  obtain ⟨t, rfl⟩ := rx
  have hz : x.cps.size ≤ sizeLine := Evl.sz_of hx
  refine call_list_str (I.ok.hd hc) x t (fun h1 tk acc c kp at1 items => ?_) hz
  have hl : ((signsOf x).map V.str).length = x.cps.size := by
    unfold signsOf
    rw [List.length_map, List.length_map, List.length_range]
  refine ⟨.ref s.heap.objs.size, _, I.laid kp (Nat.le_refl _) (show ObjOk X.prog X.w _ _ _ (.lst ((signsOf x).map V.str)) from ⟨by rw [hl]; exact hz, acc.toList, c, ?_, by simpa using at1⟩), rfl, q _ (I.hok.fresh (Nat.le_refl _))⟩
  have ha : acc.toList.length = acc.size := by simp
  refine vals_of_at (by rw [hl, ha, items.1]) fun j v w h1 h2 => ?_
  obtain hs := items.2 j w (by rw [← Array.getElem?_toList]; exact h2)
  have hj : j < x.cps.size := by
    have := (List.getElem?_eq_some_iff.mp h1).1
    rw [hl] at this
    exact this
  have hv : v = .str (oneS x j) := by
    unfold signsOf at h1
    rw [List.getElem?_map, List.getElem?_map, List.getElem?_range hj] at h1
    exact (Option.some.inj h1).symm
  subst hv
  obtain ⟨c, tk2, hc2, rfl⟩ := hs
  refine ⟨tk2, ?_⟩
  unfold oneS
  rw [Array.getD_eq_getD_getElem?, hc2]
  rfl
end My
namespace My
set_option autoImplicit false
open PySem PySem.W L2 Evl LamX
section
variable {te ta tb : TE} {t tr : TA} {tt : TT} {σ : L2.St} {B B' H : Hp} {p q : Pr} {ps : List Pr} {v : V} {K : PySem.W.Frag} {D : Ends}
theorem AllP.take {H : Hp} : ∀ {ps : List Pr} {vs : List V} (n : Nat), AllP ps vs H → AllP (ps.take n) (vs.take n) H
  | _, _, 0, _ => trivial
  | [], [], _ + 1, _ => trivial
  | _ :: _, _ :: _, n + 1, h => ⟨h.1, AllP.take n h.2⟩
/-- the first k of a list -/
theorem p_sl {k : Nat} (h : EvP te σ B (LqP K ps)) (hk : Ev tb σ B (.int (k : Int))) : EvP (tSl (rSlL K) te tNoPart (tPart tb)) σ B (LsP (ps.take k)) := fun H1 a Q q =>
  h H1 a _ fun v B2 H2 g x => hk H2 (g.b.trans g.c) _ fun H3 e3 => ⟨k, rfl, by
    obtain ⟨l, xs, rfl, hl, al⟩ := x
    refine ⟨l, xs, rfl, ex_l (g.c.trans e3) hl, fun r hr => ?_⟩
    rw [cutTo]
    have g2 := (g.trans (Gr.wide g.c e3)).trans (Gr.new (.lst (xs.take k)) (g.c.trans e3) hr)
    exact q _ _ _ g2 ⟨r, _, rfl, upd_same, (al.take k).m (Ex.new (fresh_back (g.c.trans e3) hr))⟩⟩
theorem ev_lenQ (h : EvP te σ B (LqP K ps)) : Ev (tCB (rLenS K) (tCons te tNil)) σ B (.int (ps.length : Int)) := fun H1 a Q k =>
  h H1 a _ fun v B2 H2 g x => by
    obtain ⟨l, xs, rfl, hl, al⟩ := x
    refine ⟨l, xs, rfl, .inl (ex_l g.c hl), ?_⟩
    rw [al.len]
    exact k H2 g.a
theorem ls_dv {us : List Dv} (h : EvP te σ B (LsP (us.map DvP))) : EvP te σ B (IsD K (.list (us.map Dv.D))) := h.imp fun v H1 _ x => by
  obtain ⟨r, xs, rfl, hr, hx⟩ := x
  refine .lst (sq_of hr) ?_
  have : ∀ {us : List Dv} {xs : List V}, AllP (us.map DvP) xs H1 → DpAll K H1 xs (us.map Dv.D) := by
    intro us
    induction us with
    | nil =>
      intro xs h
      match xs, h with
      | [], _ => exact .nil
    | cons u us ih =>
      intro xs h
      match xs, h with
      | x :: xs, h => exact .cons (dv_d h.1) (ih h.2)
  exact this hx
end
theorem canAll {us : List Dv} (h : ∀ u ∈ us, SeqAt.shaped u.D = true) : PyData.canLayAll0 (us.map Dv.D) = true ∧ PyData.depthAll (us.map Dv.D) ≤ 1 := by
  induction us with
  | nil => exact ⟨rfl, Nat.zero_le _⟩
  | cons u us ih =>
    obtain ⟨h1, h2⟩ := ih fun v hv => h v (List.mem_cons_of_mem _ hv)
    have h0 := SeqAt.canLay_of_shaped (h u List.mem_cons_self)
    rw [List.map_cons, PyData.canLayAll0, PyData.depthAll, h0, h1]
    refine ⟨rfl, ?_⟩
    have : u.D.depth = 1 := by
      unfold Dv.D
      simp [PyData.depth, PyData.depthAll]
    omega
theorem sh_list {us : List Dv} (h : ∀ u ∈ us, SeqAt.shaped u.D = true) : SeqAt.shaped (.list (us.map Dv.D)) = true := by
  obtain ⟨h1, h2⟩ := canAll h
  unfold SeqAt.shaped
  rw [PyData.canLay0, h1, PyData.depth]
  simp
  omega
theorem eqv_nil (ds : List PyData) : PyData.eqv (.list ds) (.list []) = ds.isEmpty := by
  cases ds <;> simp [PyData.eqv, PyData.eqvAll]
theorem range_lt (L k : Nat) (h : k ≤ L) : (List.range L).filter (fun i => decide (i < k)) = List.range k := by
  have : List.range L = List.range k ++ (List.range (L - k)).map (k + ·) := by
    have := List.range_add (n := k) (m := L - k)
    rw [show k + (L - k) = L by omega] at this
    exact this
  rw [this, List.filter_append, List.filter_eq_self.mpr (fun i hi => decide_eq_true (List.mem_range.mp hi)), List.filter_eq_nil_iff.mpr, List.append_nil]
  intro i hi
  obtain ⟨j, _, rfl⟩ := List.mem_map.mp hi
  simp
theorem range_take {α : Type} (us : List α) (d : α) (k : Nat) (h : k ≤ us.length) : (List.range k).map (fun i => us.getD i d) = us.take k := by
  apply List.ext_getElem?
  intro i
  by_cases hi : i < k
  · rw [List.getElem?_map, List.getElem?_range hi, List.getElem?_take_of_lt hi]
    rw [Option.map_some, List.getD_eq_getElem?_getD, List.getElem?_eq_getElem (by omega)]
    rfl
  · rw [List.getElem?_eq_none (by simp; omega), List.getElem?_eq_none (by rw [List.length_take]; omega)]
/-- which of a rising row is below the k-th -/
theorem Rk.below {r : Rk} {us : List Dv} (h : us.Pairwise r.lt) {i k : Nat} (hi : i < us.length) (hk : k < us.length) : decide (r.cmp us[i] us[k] < 0) = decide (i < k) := by
  rw [List.pairwise_iff_getElem] at h
  by_cases e : i < k
  · rw [decide_eq_true e, (r.cmp_lt _ _).mpr (h i k hi hk e)]
    rfl
  · rw [decide_eq_false e, decide_eq_false_iff_not]
    by_cases e2 : i = k
    · subst e2
      rw [(r.cmp_eq _ _).mpr rfl]
      decide
    · rw [(r.cmp_gt _ _).mpr (h k i hk hi (by omega))]
      decide
/-- an object at d, a dict, left out -/
theorem wo_at {d b : Addr} {H : Hp} {o : HO} {kvs : List (Key × V)} (hd : H d = some (.dK kvs)) (h : H b = some o) (n : ∀ kvs, o ≠ .dK kvs) : wo d H b = some o := by
  rw [wo_ne fun z => by
    subst z
    rw [hd] at h
    exact n kvs (Option.some.inj h).symm]
  exact h
theorem dvs_wo {d : Addr} {H : Hp} {kvs : List (Key × V)} (hd : H d = some (.dK kvs)) : ∀ {us : List Dv} {xs : List V}, AllP (us.map DvP) xs H → AllP (us.map DvP) xs (wo d H)
  | [], [], _ => trivial
  | _ :: _, _ :: _, ⟨⟨a, e, h⟩, t⟩ => ⟨⟨a, e, wo_at hd h fun _ z => nomatch z⟩, dvs_wo hd t⟩
/-- all but d and the tables of code -/
def ExtB (d : Addr) (H H' : Hp) : Prop := ∀ b o, b ≠ d → H b = some o → (∀ ps, o ≠ .tbl ps) → H' b = some o
theorem ExtB.of {d : Addr} {H H' : Hp} (h : ExtN H H') : ExtB d H H' := fun b o _ e n => h b o e n
theorem ExtB.trans {d : Addr} {H H1 H2 : Hp} (a : ExtB d H H1) (b : ExtB d H1 H2) : ExtB d H H2 := fun c o h e n => b c o h (a c o h e n) n
theorem ExtB.ex {d : Addr} {B H H' : Hp} (h : ExtB d H H') (e : Ex B H) (n : NoTab B) (hd : B d = none) : Ex B H' := fun b o k => h b o (ne_of_none k hd) (e b o k) fun ps z => n b ps (by rw [← z]; exact k)
theorem tabs_but {T : List (Addr × Str)} {d : Addr} {H H' : Hp} {kvs : List (Key × V)} (t : Tabs T H) (hd : H d = some (.dK kvs)) (s : ∀ b o, b ≠ d → H b = some o → H' b = some o) : Tabs T H' := by
  have e : ∀ b o, wo d H b = some o → H' b = some o := fun b o k => by
    obtain ⟨n, q⟩ := wo_some k
    exact s b o n q
  refine Tabs.ext (H := wo d H) (fun p hp => ?_) e
  obtain ⟨ps, h1, h2, h3⟩ := t p hp
  refine ⟨ps, (wo_at hd h1 (fun _ z => nomatch z)), h2, fun pos cv hc => ?_⟩
  obtain ⟨c, e1, e2⟩ := h3 pos cv hc
  exact ⟨c, e1, wo_at hd e2 fun kvs z => by unfold CodeO at z; cases z⟩
end My
namespace My
set_option autoImplicit false
open PySem PySem.W L2 Evl LamX
section
variable {te ta tb : TE} {t tr : TA} {tt : TT} {σ : L2.St} {B B' H : Hp} {p q : Pr} {ps : List Pr} {v : V} {K : PySem.W.Frag} {D : Ends}
/-- a pair unpacked -/
theorem ps_un2 {i j : Nat} (a : Ex B H) (h : EvP te σ B (TuP K [p, q])) (n : ∀ v w B1 H1, Gr B H B1 H1 → p.P v B1 → q.P w B1 → D.nx ((σ.set i (some v)).set j (some w)) H1) :
    tAsg te (gTup K 2 (gCons (gName i) (gCons (gName j) gNil))) D σ H := h H a _ fun v B1 H1 g x => by
  obtain ⟨l, xs, rfl, h2, h3⟩ := x
  match xs, h3 with
  | [v, w], h3 => exact ⟨_, _, rfl, ex_t g.c h2, rfl, _, _, rfl, _, _, rfl, rfl, n v w B1 H1 g h3.1 h3.2.1⟩
theorem ev_notR {a : Addr} {i : Nat} (h : σ[i]? = some (some (.ref a))) : Ev (tOp (fun x y H Q => y = V.non ∧ Q (.bl (!decide (x = V.non))) H) (tVar i) (tC .non)) σ B (.bl true) := fun H1 _ Q k =>
  ⟨.ref a, h, rfl, k H1 (Ex.refl H1)⟩
end
end My
namespace My
set_option autoImplicit false
open PySem PySem.W L2 Evl
/-! ### which one is above, told otherwise -/
def Rk.abv (r : Rk) (a b : Dv) : Bool :=
  if r.tot = false ∧ a.n ≠ b.n then decide (r.ns.idxOf a.n < r.ns.idxOf b.n)
  else if a.i + a.j ≠ b.i + b.j then decide (b.i + b.j < a.i + a.j)
  else if r.first a ≠ r.first b then decide (r.first b < r.first a) else decide (r.ns.idxOf a.n < r.ns.idxOf b.n)
theorem Rk.abv_lt (r : Rk) {a b : Dv} (ha : a.n ∈ r.ns) (hb : b.n ∈ r.ns) : r.abv a b = decide (r.lt b a) := by
  have hi : a.n = b.n ↔ r.ns.idxOf a.n = r.ns.idxOf b.n := ⟨fun e => by rw [e], idx_inj ha hb⟩
  unfold Rk.abv
  rw [Bool.eq_iff_iff, @decide_eq_true_iff (r.lt b a)]
  unfold Rk.lt Rk.key
  cases ht : r.tot with
  | true =>
    rw [if_neg (by simp), if_pos rfl, if_pos rfl, lt3]
    unfold Rk.ahead
    by_cases h1 : a.i + a.j ≠ b.i + b.j
    · rw [if_pos h1, decide_eq_true_iff]
      omega
    · rw [if_neg h1]
      by_cases h2 : r.first a ≠ r.first b
      · rw [if_pos h2, decide_eq_true_iff]
        omega
      · rw [if_neg h2, decide_eq_true_iff]
        omega
  | false =>
    rw [if_neg Bool.false_ne_true, if_neg Bool.false_ne_true, lt3]
    unfold Rk.ahead
    by_cases h0 : a.n ≠ b.n
    · rw [if_pos ⟨rfl, h0⟩, decide_eq_true_iff]
      have : ¬ r.ns.idxOf a.n = r.ns.idxOf b.n := fun e => h0 (hi.mpr e)
      omega
    · have e0 : a.n = b.n := Classical.not_not.mp h0
      have e1 := hi.mp e0
      rw [if_neg (fun z => h0 z.2)]
      by_cases h1 : a.i + a.j ≠ b.i + b.j
      · rw [if_pos h1, decide_eq_true_iff]
        omega
      · rw [if_neg h1]
        by_cases h2 : r.first a ≠ r.first b
        · rw [if_pos h2, decide_eq_true_iff]
          omega
        · rw [if_neg h2, decide_eq_true_iff]
          omega
/-! ### rising, one put in behind the other -/
theorem count_split {α : Type} (p : α → Bool) : ∀ {l : List α}, (∀ (i j : Nat) (hi : i < l.length) (hj : j < l.length), i < j → p l[j] = true → p l[i] = true) → (∀ (i : Nat) (hi : i < l.length), p l[i] = decide (i < (l.filter p).length))
  | [], _ => fun i hi => absurd hi (Nat.not_lt_zero i)
  | x :: l, h => by
    have ih := count_split p (l := l) fun i j hi hj e q => h (i + 1) (j + 1) (by simpa using hi) (by simpa using hj) (by omega) q
    intro i hi
    cases hx : p x with
    | true =>
      rw [List.filter_cons_of_pos hx, List.length_cons]
      match i, hi with
      | 0, _ => simpa using hx
      | i + 1, hi =>
        have hi' : i < l.length := by simpa using hi
        show p (l[i]'hi') = _
        rw [ih i hi']
        simp
    | false =>
      rw [List.filter_cons_of_neg (by simp [hx])]
      have none : ∀ j (hj : j < l.length), p l[j] = false := fun j hj => by
        cases e : p l[j] with
        | false => rfl
        | true =>
          have := h 0 (j + 1) (by simp) (by simpa using hj) (by omega) e
          rw [List.getElem_cons_zero, hx] at this
          cases this
      have nil : l.filter p = [] := List.filter_eq_nil_iff.mpr fun y hy => by
        obtain ⟨j, hj, rfl⟩ := List.mem_iff_getElem.mp hy
        simp [none j hj]
      rw [nil]
      match i, hi with
      | 0, _ => simpa using hx
      | i + 1, hi => simpa using none i (by simpa using hi)
/-- where a derivative is put -/
def Rk.spot (r : Rk) (us : List Dv) (a : Dv) : Nat := (us.filter fun b => decide (r.lt b a)).length
def Rk.put (r : Rk) (us : List Dv) (a : Dv) : List Dv := if a ∈ us then us else us.insertIdx (r.spot us a) a
theorem Rk.spot_le (r : Rk) (us : List Dv) (a : Dv) : r.spot us a ≤ us.length := List.length_filter_le _ _
theorem ins_eq {α : Type} (a : α) : ∀ (n : Nat) (l : List α), n ≤ l.length → l.insertIdx n a = l.take n ++ a :: l.drop n
  | 0, l, _ => by simp
  | n + 1, x :: l, h => by
    rw [List.insertIdx_succ_cons, ins_eq a n l (by simpa using h)]
    simp
theorem Rk.put_mem (r : Rk) {us : List Dv} {a v : Dv} : v ∈ r.put us a ↔ v ∈ us ∨ v = a := by
  unfold Rk.put
  by_cases h : a ∈ us
  · rw [if_pos h]
    constructor
    · exact .inl
    · rintro (k | rfl)
      · exact k
      · exact h
  · rw [if_neg h, ins_eq _ _ _ (r.spot_le us a), List.mem_append, List.mem_cons]
    have : v ∈ us ↔ v ∈ us.take (r.spot us a) ∨ v ∈ us.drop (r.spot us a) := by
      rw [← List.mem_append, List.take_append_drop]
    rw [this]
    constructor
    · rintro (k | k | k)
      · exact .inl (.inl k)
      · exact .inr k
      · exact .inl (.inr k)
    · rintro ((k | k) | k)
      · exact .inl k
      · exact .inr (.inr k)
      · exact .inr (.inl k)
theorem Rk.put_rise (r : Rk) {us : List Dv} {a : Dv} (h : us.Pairwise r.lt) (hn : ∀ u ∈ us, u.n ∈ r.ns) (ha : a.n ∈ r.ns) : (r.put us a).Pairwise r.lt := by
  unfold Rk.put
  by_cases m : a ∈ us
  · rw [if_pos m]
    exact h
  · rw [if_neg m, ins_eq _ _ _ (r.spot_le us a), List.pairwise_append, List.pairwise_cons]
    have hg := List.pairwise_iff_getElem.mp h
    have split := count_split (fun b => decide (r.lt b a)) (l := us) fun i j hi hj e q => by
      exact decide_eq_true (r.lt_trans (hg i j hi hj e) (of_decide_eq_true q))
    have low : ∀ x ∈ us.take (r.spot us a), r.lt x a := fun x hx => by
      obtain ⟨i, hi, rfl⟩ := List.mem_iff_getElem.mp hx
      rw [List.length_take] at hi
      rw [List.getElem_take]
      have := split i (by omega)
      exact of_decide_eq_true (this.trans (decide_eq_true (show i < r.spot us a by omega)))
    have high : ∀ x ∈ us.drop (r.spot us a), r.lt a x := fun x hx => by
      obtain ⟨i, hi, rfl⟩ := List.mem_iff_getElem.mp hx
      rw [List.length_drop] at hi
      rw [List.getElem_drop]
      have := split (r.spot us a + i) (by omega)
      have n1 : ¬ r.lt us[r.spot us a + i] a := fun z => by
        have e : decide (r.lt us[r.spot us a + i] a) = decide (r.spot us a + i < r.spot us a) := this
        rw [decide_eq_true z] at e
        have := of_decide_eq_true e.symm
        omega
      have hm : us[r.spot us a + i] ∈ us := List.getElem_mem _
      rcases r.tri us[r.spot us a + i] a with z | z | z
      · exact (n1 z).elim
      · exact (m (by rw [← r.key_inj (hn _ hm) ha z]; exact hm)).elim
      · exact z
    refine ⟨h.sublist (List.take_sublist _ _), ⟨high, h.sublist (List.drop_sublist _ _)⟩, fun x hx y hy => ?_⟩
    rcases List.mem_cons.mp hy with rfl | hy
    · exact low x hx
    · exact r.lt_trans (low x hx) (high y hy)
theorem Rk.put_len (r : Rk) (us : List Dv) (a : Dv) : (r.put us a).length ≤ us.length + 1 := by
  unfold Rk.put
  split
  · omega
  · rw [ins_eq _ _ _ (r.spot_le us a), List.length_append, List.length_cons, List.length_take, List.length_drop]
    have := r.spot_le us a
    omega
def Rk.rise (r : Rk) (us : List Dv) : List Dv := us.foldl r.put []
theorem Rk.rise_all (r : Rk) : ∀ (us ds : List Dv), (∀ u ∈ us, u.n ∈ r.ns) → (∀ u ∈ ds, u.n ∈ r.ns) → ds.Pairwise r.lt → (us.foldl r.put ds).Pairwise r.lt ∧ ∀ v, v ∈ us.foldl r.put ds ↔ v ∈ ds ∨ v ∈ us
  | [], ds, _, _, h => ⟨h, fun v => by simp⟩
  | u :: us, ds, hu, hd, h => by
    have hun := hu u List.mem_cons_self
    obtain ⟨h1, h2⟩ := r.rise_all us (r.put ds u) (fun x hx => hu x (List.mem_cons_of_mem _ hx)) (fun x hx => by
      rcases r.put_mem.mp hx with k | rfl
      · exact hd x k
      · exact hun) (r.put_rise h hd hun)
    refine ⟨h1, fun v => ?_⟩
    show v ∈ us.foldl r.put (r.put ds u) ↔ _
    rw [h2, r.put_mem, List.mem_cons]
    constructor
    · rintro ((a | a) | a)
      · exact .inl a
      · exact .inr (.inl a)
      · exact .inr (.inr a)
    · rintro (a | a | a)
      · exact .inl (.inl a)
      · exact .inl (.inr a)
      · exact .inr a
/-- strictly rising rows of the same derivatives are the same -/
theorem Rk.rise_one (r : Rk) {us vs : List Dv} (h : us.Pairwise r.lt) (k : vs.Pairwise r.lt) (e : ∀ v, v ∈ us ↔ v ∈ vs) : us = vs := by
  have nd : ∀ {l : List Dv}, l.Pairwise r.lt → l.Nodup := fun {l} h => List.Pairwise.imp (fun {a b} z e => by
    subst e
    exact r.lt_irrefl _ z) h
  refine List.Perm.eq_of_pairwise (le := r.lt) (fun u v _ _ a b => (r.lt_irrefl u (r.lt_trans a b)).elim) h k ((List.perm_ext_iff_of_nodup (nd h) (nd k)).mpr e)
theorem Rk.rise_sort (r : Rk) {us vs : List Dv} (hu : ∀ u ∈ us, u.n ∈ r.ns) (e : ∀ v, v ∈ us ↔ v ∈ vs) : r.rise us = r.sort (dedD vs) := by
  obtain ⟨h1, h2⟩ := r.rise_all us [] hu (fun u h => absurd h List.not_mem_nil) List.Pairwise.nil
  have hv : ∀ v ∈ dedD vs, v.n ∈ r.ns := fun v h => hu v ((e v).mpr (ded_mem.mp h))
  refine r.rise_one h1 (r.sort_lt hv (ded_nd vs)) fun v => ?_
  unfold Rk.rise at *
  rw [h2, (r.sort_perm _).mem_iff, ded_mem, ← e]
  simp
/-! ### all to an order, told otherwise -/
def Rk.line (r : Rk) (n : Str) (t : Nat) : List Dv := (List.range (if r.axs.length = 2 then t + 1 else 1)).map fun (j : Nat) => ⟨n, (t : Int) - j, (j : Int)⟩
def Rk.linesN (r : Rk) (n : Str) (m : Nat) : List Dv := (List.range m).flatMap (r.line n)
def Rk.lines (r : Rk) (o m : Nat) : List Dv := (r.ns.take m).flatMap fun n => r.linesN n (o + 1)
theorem ax2 (r : Rk) : (r.axs.length = 2) ↔ (Str.ofString "y") ∈ r.axs := by
  have : ∀ a : Fin 3, ((axsOf a).length = 2) ↔ (Str.ofString "y") ∈ axsOf a := by decide +kernel
  exact this r.ax
theorem Rk.mem_lines (r : Rk) (o : Nat) (v : Dv) : v ∈ r.lines o r.ns.length ↔ v ∈ r.all o := by
  unfold Rk.lines Rk.all Rk.linesN Rk.rowsN Rk.line Rk.row Rk.most
  rw [List.take_length]
  simp only [List.mem_flatMap, List.mem_map, List.mem_range]
  have hax := ax2 r
  constructor
  · rintro ⟨n, hn, t, ht, j, hj, rfl⟩
    by_cases h : r.axs.length = 2
    · rw [if_pos h] at hj
      refine ⟨n, hn, t - j, by omega, j, ?_, ?_⟩
      · rw [if_pos (hax.mp h)]
        omega
      · congr 1
        omega
    · rw [if_neg h] at hj
      refine ⟨n, hn, t, by omega, 0, by omega, ?_⟩
      congr 1 <;> omega
  · rintro ⟨n, hn, i, hi, j, hj, rfl⟩
    by_cases h : r.axs.length = 2
    · rw [if_pos (hax.mp h)] at hj
      refine ⟨n, hn, i + j, by omega, j, by rw [if_pos h]; omega, ?_⟩
      congr 1
      omega
    · rw [if_neg (fun z => h (hax.mpr z))] at hj
      refine ⟨n, hn, i, by omega, 0, by rw [if_neg h]; omega, ?_⟩
      congr 1 <;> omega
theorem Rk.lines_succ (r : Rk) (o m : Nat) (h : m < r.ns.length) : r.lines o (m + 1) = r.lines o m ++ r.linesN r.ns[m] (o + 1) := by
  unfold Rk.lines
  rw [List.take_add_one, List.getElem?_eq_getElem h, List.flatMap_append]
  simp
theorem Rk.linesN_succ (r : Rk) (n : Str) (m : Nat) : r.linesN n (m + 1) = r.linesN n m ++ r.line n m := by
  unfold Rk.linesN
  rw [List.range_succ]
  simp
theorem Rk.linesN_len (r : Rk) (n : Str) {m : Nat} (hm : m ≤ 13) : (r.linesN n m).length ≤ 169 := by
  have : (r.linesN n m).length ≤ (List.range m).length * 13 := flat_len fun t ht => by
    unfold Rk.line
    rw [List.length_map, List.length_range]
    have := List.mem_range.mp ht
    split <;> omega
  rw [List.length_range] at this
  have : m * 13 ≤ 13 * 13 := Nat.mul_le_mul_right 13 hm
  omega
theorem Rk.lines_len (r : Rk) {o m : Nat} (ho : o ≤ 12) (hr : r.ns.length ≤ 3) : (r.lines o m).length ≤ 507 := by
  have : (r.lines o m).length ≤ (r.ns.take m).length * 169 := flat_len fun n _ => r.linesN_len n (by omega)
  have h2 : (r.ns.take m).length ≤ 3 := by rw [List.length_take]; omega
  have : (r.ns.take m).length * 169 ≤ 3 * 169 := Nat.mul_le_mul_right 169 h2
  omega
theorem flat_sum {α β : Type} {f : α → List β} {m : Nat} : ∀ {l : List α}, (∀ a ∈ l, (f a).length = m) → (l.flatMap f).length = l.length * m
  | [], _ => by simp
  | a :: l, h => by
    rw [List.flatMap_cons, List.length_append, List.length_cons, Nat.add_mul, h a List.mem_cons_self, flat_sum (l := l) fun b hb => h b (List.mem_cons_of_mem _ hb)]
    omega
theorem Rk.all12 (r : Rk) : (r.all 12).length = r.ns.length * (if r.axs.length = 2 then 91 else 13) := by
  have hax := ax2 r
  refine flat_sum fun n _ => ?_
  unfold Rk.rowsN
  rw [List.length_flatMap]
  have : ∀ i, (r.row 12 n i).length = (if r.axs.length = 2 then 12 - i else 0) + 1 := fun i => by
    unfold Rk.row Rk.most
    rw [List.length_map, List.length_range]
    by_cases h : r.axs.length = 2
    · rw [if_pos (hax.mp h), if_pos h]
    · rw [if_neg (fun z => h (hax.mpr z)), if_neg h]
  rw [List.map_congr_left (fun i _ => this i)]
  by_cases h : r.axs.length = 2
  · simp only [if_pos h]
    decide
  · simp only [if_neg h]
    decide
/-- those of the order 0, rising -/
theorem Rk.zero (r : Rk) (hn : r.ns.Nodup) : r.sort (r.all 0) = r.ns.reverse.map fun n => ⟨n, 0, 0⟩ := by
  have e0 : r.all 0 = r.ns.map fun n => (⟨n, 0, 0⟩ : Dv) := by
    unfold Rk.all Rk.rowsN Rk.row Rk.most
    induction r.ns with
    | nil => rfl
    | cons n ns ih =>
      rw [List.flatMap_cons, ih, List.map_cons]
      split <;> simp [List.range_succ]
  refine r.rise_one (r.sort_lt (fun u hu => (Rk.mem_all hu).n) (r.all_nd 0 hn)) ?_ fun v => ?_
  · rw [List.pairwise_map, List.pairwise_reverse]
    rw [List.pairwise_iff_getElem]
    intro i j hi hj hij
    unfold Rk.lt Rk.key Rk.first Rk.ahead
    have ix : ∀ (k : Nat) (hk : k < r.ns.length), r.ns.idxOf r.ns[k] = k := fun k hk => by
      have h1 := List.idxOf_lt_length_of_mem (List.getElem_mem hk)
      have h2 := List.getElem_idxOf h1
      by_cases e : r.ns.idxOf r.ns[k] = k
      · exact e
      · exact ((List.nodup_iff_pairwise_ne.mp hn) |> fun hp => by
          rw [List.pairwise_iff_getElem] at hp
          rcases Nat.lt_or_gt_of_ne e with z | z
          · exact (hp _ _ h1 hk z h2).elim
          · exact (hp _ _ hk h1 z h2.symm).elim)
    have e1 := ix i hi
    have e2 := ix j hj
    simp only [e1, e2]
    cases r.tot
    · simp [lt3]
      omega
    · simp only [if_true, lt3]
      exact .inr ⟨trivial, .inr ⟨trivial, by omega⟩⟩
  · rw [(r.sort_perm _).mem_iff, e0]
    simp
end My
namespace Gd
set_option autoImplicit false
open PySem PySem.Spec PyProof.Rows L2 LamX My
/-- a def's promise, where no repr is under way -/
structure FnG (P : Program) (w : World) (K : PySem.W.Frag) (mg : Str → Option Value) (base : Heap) (k : Nat) (f : Addr) (fd : FuncData) (ps : List Str) (sp : Sp) : Prop where
  len : ∀ vs H Q E, sp vs H Q E → vs.length = ps.length
  run : ∀ (A : Around) (outer : List Env) (s : Shared) (H : Hp) (args : Args) (us : List Value) (vs : List V) (Q : VK) (E : XK), Room k A → A.guards = some [] → Env0 P w K mg base A outer s H → BindsTo s fd args (ps.zip us) → Vals vs us → sp vs H Q E →
    codeAny (model P w) A (.call (.ref f) args) (CR CX0 outer P w H s Q E) s
section
variable {P : Program} {w : World} {K : PySem.W.Frag} {mg : Str → Option Value} {base : Heap} {k : Nat} {f : Addr} {fd : FuncData} {ps : List Str} {sp : Sp}
theorem FnG.of (F : FnOk P w K mg base CX0 k f fd ps sp) : FnG P w K mg base k f fd ps sp := ⟨F.len, fun A outer s H args us vs Q E hr _ => F.run A outer s H args us vs Q E hr⟩
theorem fnG_of {name qual : Str} {params : Arguments} {body : List Stmt} {scope : Scope} {dV kV doc pm cdv ct oc : Value} {an od : Option Addr} {osl : Array (Option Value)} {N : List Str}
    (lk : K.lookup f = some ⟨oc, od, .func (PySem.W.fnOf name qual params body scope dV kV doc pm an cdv ct), osl⟩) (hcd : PySem.W.codeIn K cdv qual = true) (S : FnScope N ps scope) (len : ∀ vs H Q E, sp vs H Q E → vs.length = ps.length)
    (go : ∀ (A : Around) (outer : List Env) (s : Shared) (H : Hp) (vs : List V) (Q : VK) (E : XK), Room k (A.deeper (envOfC qual scope s.heap.objs.size f cdv)) → (A.deeper (envOfC qual scope s.heap.objs.size f cdv)).guards = some [] → sp vs H Q E →
      ∃ t, PSs (cxOf CX0 P w K mg base N qual scope f cdv A outer s H E) body t ∧ t { nx := fun _ H' => Q .non H', rt := Q } (start N vs) H) :
    FnG P w K mg base (k + 1) f (PySem.W.fnOf name qual params body scope dV kV doc pm an cdv ct) ps sp := by
  refine ⟨len, fun A outer s H args us vs Q E hr hg e0 hb r hsp => ?_⟩
  have old := fun (b : Addr) (o : Obj) (e : base.get? b = some o) => (e0.bs b o e).1
  have inK : K.In s.heap := e0.mod.kin.keeps old
  have local_ := fun (y : Str × Value) (hy : y ∈ ps.zip us) => (S.par y.1 (List.of_mem_zip hy).1).imp id fun q => (⟨q, PySem.W.cellsFrom_some _ _ _ (.inl q)⟩ : scope.names.lookup y.1 = some .cell ∧ ((cellsFrom (s.heap.objs.size + 1) scope.names []).lookup y.1).isSome = true)
  refine codeAny_call_function hr.depth (inK _ _ lk) rfl S.co S.gen rfl (PySem.W.codeRec_of inK hcd) (hb _ _ _ _ (wpAny_newFunctionEnv_cells S.kind local_ fun env he s1 x => ?_))
  subst he
  obtain ⟨t, ht, hq⟩ := go A outer s H vs Q E (hr.deeper _) hg hsp
  refine ⟨(e0.mod.nolimit.keeps old).keeps x.toInCall.keep, codeAny_func (wpAny_mono (ht.run [] s1 _ H _ (inv_start S hr.hd e0 (len _ _ _ _ hsp) r x) hq) (fun fl s' hs => ?_) fun e s' hs => hs)⟩
  cases fl with
  | ret u => exact let ⟨v, _, H', J, rv, q⟩ := hs; ⟨v, H', J.os, J.bare, J.base, J.hok, rv, q⟩
  | next => exact let ⟨_, H', J, q⟩ := hs; ⟨V.non, H', J.os, J.bare, J.base, J.hok, rfl, q⟩
  | brk => exact let ⟨_, _, _, q⟩ := hs; q.elim
  | cont => exact let ⟨_, _, _, q⟩ := hs; q.elim
/-- the rule for a def by its body -/
theorem okG {x qual : Str} {st : Stmt} {N : List Str} (F : Fun K x qual st f fd) (S : FnScope N ps (defScope st)) (len : ∀ vs H Q E, sp vs H Q E → vs.length = ps.length)
    (go : ∀ (cdv : Value) (A : Around) (outer : List Env) (s : Shared) (H : Hp) (vs : List V) (Q : VK) (E : XK), Room k (A.deeper (envOfC qual (defScope st) s.heap.objs.size f cdv)) → (A.deeper (envOfC qual (defScope st) s.heap.objs.size f cdv)).guards = some [] → sp vs H Q E →
      ∃ t, PSs (cxOf CX0 P w K mg base N qual (defScope st) f cdv A outer s H E).nox (defBody st) t ∧ t { nx := fun _ H' => Q .non H', rt := Q } (start N vs) H) : FnG P w K mg base (k + 1) f fd ps sp := by
  obtain ⟨oc, od, kV, doc, pm, an, cdv, ct, osl, rfl, lk, hcd⟩ := F.ex
  exact fnG_of lk hcd S len fun A outer s H vs Q E hr hg hsp => let ⟨t, h1, h2⟩ := go cdv A outer s H vs Q E hr hg hsp; ⟨t, h1.nox, h2⟩
/-- a def as it is called -/
structure CalG (P : Program) (w : World) (K : PySem.W.Frag) (mg : Str → Option Value) (base : Heap) (x : Str) (k : Nat) (ps : List Str) (sp : Sp) (f : Addr) (fd : FuncData) : Prop where
  G : FnG P w K mg base k f fd ps sp
  m : mg x = some (.ref f)
  k : PySem.W.keepIn K (.ref f) = true
  b : Binds K fd ps []
end
section
variable {X : Cx} {k : Nat} {f : Addr} {fd : FuncData} {ps : List Str} {sp : Sp} {dvs : List V} {ds : List Value} {E : XK} {x : Str} {p pos : Pos} {e : Expr} {es : List Expr} {t : TA}
theorem pe_callG (F : FnG X.prog X.w X.K X.mg X.base k f fd ps sp) (hr : Room k X.A) (hG : X.A.guards = some []) (hg : Gl X x) (hm : X.mg x = some (.ref f)) (hk : PySem.W.keepIn X.K (.ref f) = true) (hb : Binds X.K fd ps ds) (hd : Vals dvs ds) (hx : Passes CX0 X E) (ha : PA X (e :: es) t)
    (hdb : (x == ("__debug__" : Str)) = false := by decide) (he : starEach (e :: es) X.env = (false, eval e X.env) :: starEach es X.env := by rfl) (hpl : (backTo pos (starEach es X.env)).any (·.1) = false := by rfl) : PE X (.Call (.Name x p) (e :: es) [] pos) (tCall sp dvs E t) :=
  ⟨fun pins s σ H Q I h => wpAny_Call_Name_kw (ld_glob I hg hm (PySem.W.callWith_K (h₀ := X.base) I.ok.mod.kin hk (thn (ha.run pos pins s σ H _ I h) fun us s1 ⟨vs, H1, I1, r, q⟩ => ⟨I1.kIn, by
    have ra := r.append hd
    have hl : (us ++ ds).length = ps.length := ra.length.symm.trans (F.len _ _ _ _ q)
    refine wpAny_call (codeAny_mono (F.run X.A X.stack s1 H1 ⟨us, []⟩ (us ++ ds) (vs ++ dvs) Q E hr hG I1.env0 (hb s1 us I1.kIn hl) ra q) fun r s' hq => ?_)
    match r, hq with
    | .error e, hq => exact hx pins σ H1 s1 e s' I1 hq
    | .ok (.ret u), hq => exact I1.after hq⟩) he hpl) hdb)⟩
end
/-! ### repr of data -/
mutual
theorem dp_nd {K : PySem.W.Frag} {H : Hp} : ∀ {d : PyData} {v : V}, Dp K H v d → d.hasDict = false
  | _, _, .non => by simp only [PyData.hasDict]
  | _, _, .bl b => by simp only [PyData.hasDict]
  | _, _, .int i => by simp only [PyData.hasDict]
  | _, _, .str x => by simp only [PyData.hasDict]
  | _, _, .lst _ b => by simp only [PyData.hasDict]; exact dps_nd b
  | _, _, .tup _ b => by simp only [PyData.hasDict]; exact dps_nd b
theorem dps_nd {K : PySem.W.Frag} {H : Hp} : ∀ {ds : List PyData} {vs : List V}, DpAll K H vs ds → PyData.hasDictAll ds = false
  | _, _, .nil => by simp only [PyData.hasDictAll]
  | _, _, .cons a b => by simp only [PyData.hasDictAll, dp_nd a, dps_nd b, Bool.or_self]
end
def rRepr (K : PySem.W.Frag) : List V → Hp → VK → Prop := fun xs H Q => ∃ x d, xs = [x] ∧ Dp K H x d ∧ d.showable = true ∧ d.depth ≤ 60 ∧ d.shown.length ≤ 1000000 ∧ Q (.str d.shown) H
theorem call_reprG {X : Cx} (hG : X.A.guards = some []) (hu : X.A.units + 64 < cLine) : CallR X (.builtin "repr") (rRepr X.K) := by
  intro pins s σ H xs us Q I r ⟨x, d, e, hd, hs, hp, hz, q⟩
  subst e
  obtain ⟨u, rfl, rx⟩ := vals1 r
  have hz' : d.shown.length ≤ sizeLine := Nat.le_trans hz (by decide)
  have hn := dp_nd hd
  have fin : ∀ {a : Addr}, u = .ref a → wpAny (model X.prog X.w) X.A (call (.builtin "repr") [u]) (EP X pins σ Q) X.xe s := fun {a} e => by
    subst e
    obtain ⟨as, ra⟩ := Dp.reads I d x _ hd rx
    exact repr_of_reads' ra hs (PyData.noDict_hsm hn) hG (by omega) (fun _ _ e => e) (fun h' u tk hk => ⟨.str d.shown, H, I.kept (t' := tk) hk, ⟨u, rfl⟩, q⟩) hz'
  cases hd with
  | non =>
    obtain rfl : u = Value.none := rx
    simp only [PyData.shown] at q
    exact PySem.P.repr_of_none ⟨.str _, H, I.tok _, ⟨_, rfl⟩, q⟩
  | bl b =>
    obtain rfl : u = Value.bool b := rx
    simp only [PyData.shown] at q
    exact PySem.P.repr_of_bool ⟨.str _, H, I.tok _, ⟨_, rfl⟩, q⟩
  | int i =>
    obtain ⟨t, rfl⟩ := rx
    simp only [PyData.shown] at q
    refine PySem.P.repr_of_int ?_ ⟨.str _, H, I.tok _, ⟨_, rfl⟩, q⟩
    simpa only [PyData.showable, decide_eq_true_eq] using hs
  | str y =>
    obtain ⟨t, rfl⟩ := rx
    simp only [PyData.shown] at q hz'
    exact PySem.P.repr_of_str ⟨.str _, H, I.tok _, ⟨_, rfl⟩, q⟩ hz'
  | lst a b => exact fin rx
  | tup a b => exact fin rx
end Gd
namespace Gd
set_option autoImplicit false
open PySem PySem.Spec PyProof.Rows L2 LamX My
/-- the abstract heap at the law's call: the script where it isn't written, the empty tables -/
def scrO (vs : List Value) : Obj := { cls := .type "list", data := .seq vs.toArray }
def tabO : Obj := { cls := .none, data := .fields #[] }
open Classical in
noncomputable def H0 (K : PySem.W.Frag) (a : Addr) (vs : List Value) (ns : List Int) (ts : List Addr) : Hp := fun b => if b ∈ ts then some (.tbl #[]) else if b = a ∧ K.lookup a = none then some (.frz (scrO vs) (.lst (ns.map V.int))) else none
theorem H0_t {K : PySem.W.Frag} {a : Addr} {vs : List Value} {ns : List Int} {ts : List Addr} {b : Addr} (h : b ∈ ts) : H0 K a vs ns ts b = some (.tbl #[]) := if_pos h
theorem H0_some {K : PySem.W.Frag} {a : Addr} {vs : List Value} {ns : List Int} {ts : List Addr} {b : Addr} {u : HO} (h : H0 K a vs ns ts b = some u) : (b ∈ ts ∧ u = .tbl #[]) ∨ (b = a ∧ K.lookup a = none ∧ u = .frz (scrO vs) (.lst (ns.map V.int))) := by
  unfold H0 at h
  split at h
  · rename_i q
    exact .inl ⟨q, (Option.some.inj h).symm⟩
  · split at h
    · rename_i q
      exact .inr ⟨q.1, q.2, (Option.some.inj h).symm⟩
    · cases h
section
variable {P : Program} {w : World} {K : PySem.W.Frag} {mg mb : Str → Option Value} {k : Nat} {fa a : Addr} {cs : List (Addr × Addr)} {fd : FuncData} {x : Str} {sp : Sp} {s1 : Shared} {vs : List Value} {ns : List Int}
theorem lawG (KX : K.In s1.heap) (hns : s1.heap.Ns mainGlobals mg) (hb : s1.heap.Ns builtinsNs mb) (hbb : ∀ x : Str, x ≠ "__name__" → mb x = bootBuiltins x) (hlim : s1.heap.NoLimit) (hgen : s1.gens = #[])
    (hT : ∀ p ∈ cs, s1.heap.get? p.2 = some tabO) (nT : ∀ p ∈ cs, K.lookup p.2 = none) (hC : ∀ p ∈ cs, PySem.W.CodeHd s1.heap p.1 p.2)
    (hbm : ∃ (bm : Addr) (ob : Obj), mg "__builtins__" = some (.ref bm) ∧ bm ≠ builtinsNs ∧ s1.heap.get? bm = some ob ∧ ob.cls = .type "module" ∧ ob.dict = some builtinsNs ∧ ob.data = .plain)
    (ha : s1.heap.get? a = some (scrO vs)) (hi : IntsAre vs ns) (hl : ns.length ≤ sizeLine) (hr : Room k callerA)
    (F : ∀ base : Heap, K.In base → base.Ns mainGlobals mg → (∀ p ∈ cs, TabB base mg p.1 p.2) → FnG P w K mg base k fa fd [x] sp) (hbind : ∀ (s : Shared) (u : Value), BindsTo s fd ⟨[u], []⟩ [(x, u)])
    (hsp : ∀ H : Hp, (∀ p ∈ cs, H p.2 = some (.tbl #[])) → SqL K H a (ns.map V.int) → sp [.ref a] H (fun v _ => v = .bl true) fun _ _ _ => False) :
    codeAny (model P w) callerA (.call (.ref fa) ⟨[.ref a], []⟩) (fun r s' => r = .ok (.ret (.bool true)) ∧ OldK s1.heap s'.heap ∧ s'.os = s1.os ∧ AllBare s'.gens) s1 := by
  let ts := cs.map (·.2)
  have tab : ∀ b ∈ ts, ∃ p ∈ cs, p.2 = b := fun b q => by
    obtain ⟨p, h1, h2⟩ := List.mem_map.mp q
    exact ⟨p, h1, h2⟩
  have inT : ∀ p ∈ cs, p.2 ∈ ts := fun p q => List.mem_map.mpr ⟨p, q, rfl⟩
  have tAt : ∀ b ∈ ts, s1.heap.get? b = some tabO := fun b q => by
    obtain ⟨p, h1, rfl⟩ := tab b q
    exact hT p h1
  have aT : a ∉ ts := fun q => by
    have := tAt a q
    rw [ha] at this
    exact nomatch congrArg Obj.data (Option.some.inj this)
  generalize hH : H0 K a vs ns ts = H
  have at1 : ∀ {b u}, H b = some u → (b ∈ ts ∧ u = .tbl #[]) ∨ (b = a ∧ K.lookup a = none ∧ u = .frz (scrO vs) (.lst (ns.map V.int))) := fun {b u} q => by
    rw [← hH] at q
    exact H0_some q
  have atT : ∀ p ∈ cs, H p.2 = some (.tbl #[]) := fun p q => by
    rw [← hH]
    exact H0_t (inT p q)
  -- what is neither a list of that kind nor a table is not tracked
  have free : ∀ {b : Addr} {o : Obj}, s1.heap.get? b = some o → (∀ us m, o.data ≠ .seq us m) → o.data ≠ .fields #[] → H b = none := fun {b o} e n1 n2 => by
    cases q : H b with
    | none => rfl
    | some u =>
      rcases at1 q with ⟨h1, _⟩ | ⟨h1, _⟩
      · have := tAt b h1
        rw [e] at this
        exact absurd (congrArg Obj.data (Option.some.inj this)) n2
      · rw [h1, ha] at e
        exact absurd (congrArg Obj.data (Option.some.inj e)).symm (n1 _ _)
  have ground : ∀ {b : Addr} {m : Str → Option Value}, s1.heap.Ns b m → (hidT s1.heap H).Ns b m := fun {b m} h => by
    obtain ⟨o, es, ep, e, d, r⟩ := h
    exact ⟨o, es, ep, hidT_get e (free e (fun us m z => by rw [d] at z; cases z) fun z => by rw [d] at z; cases z), d, r⟩
  have KB : K.In (hidT s1.heap H) := fun b o e => hidT_get (KX b o e) <| by
    cases q : H b with
    | none => rfl
    | some u =>
      rcases at1 q with ⟨h1, _⟩ | ⟨h1, h2, _⟩
      · obtain ⟨p, hp, rfl⟩ := tab b h1
        rw [nT p hp] at e
        cases e
      · rw [h1, h2] at e
        cases e
  have TB : ∀ p ∈ cs, TabB (hidT s1.heap H) mg p.1 p.2 := fun p hp => by
    have t1 := hT p hp
    have gne : mainGlobals ≠ p.2 := fun z => by
      obtain ⟨o, es, ep, e, hd, _⟩ := hns
      rw [z, t1] at e
      cases e
      cases hd
    refine ⟨?_, ?_, gne⟩
    · obtain ⟨o, us, fi, tf, fl, tg, inF, tx, tt, e1, r1, r2, r3, rest⟩ := hC p hp
      exact ⟨o, us, fi, tf, fl, tg, inF, tx, tt, hidT_get e1 (free e1 (fun us m z => by rw [r2] at z; cases z) fun z => by rw [r2] at z; cases z; simp at r3), r1, r2, r3, rest⟩
    · obtain ⟨bm, ob, b1, b2, b3, b4, b5, b6⟩ := hbm
      refine ⟨bm, ob, b1, b2, fun z => ?_, fun z => ?_, hidT_get b3 (free b3 (fun us m z => by rw [b6] at z; cases z) fun z => by rw [b6] at z; cases z), b4, b5, b6⟩
      · obtain ⟨o, es, ep, e, hd, _⟩ := hns
        rw [← z, b3] at e
        cases e
        rw [b6] at hd
        cases hd
      · rw [z, t1] at b3
        cases b3
        cases b6
  have rv := vals_ints hi
  have hvs := hi.length
  have sq : SqL K H a (ns.map V.int) := by
    cases q : K.lookup a with
    | none => exact .inl (.inr ⟨scrO vs, by rw [← hH]; exact (if_neg aT).trans (if_pos ⟨rfl, q⟩)⟩)
    | some o =>
      have e := KX a o q
      rw [ha] at e
      cases e
      exact .inr ⟨scrO vs, vs.toArray, _, q, rfl, rfl, rfl, by rw [List.size_toArray, hvs]; exact hl, by simpa using rv⟩
  have hok : HOk P w H s1.heap := fun b u q => by
    rcases at1 q with ⟨h1, rfl⟩ | ⟨rfl, _, rfl⟩
    · exact tAt b h1
    · exact ⟨ha, by rw [List.length_map]; exact hl, vs, _, rv, ha⟩
  have env : Env0 P w K mg (hidT s1.heap H) callerA [] s1 H := ⟨rfl, ⟨KB, ground hns, ⟨mb, ground hb, hbb⟩, (let ⟨mc, h1, h2⟩ := hlim; ⟨mc, ground h1, h2⟩)⟩, fun b o e => of_hidT e, Nat.le_of_eq (hidT_size _ _), trivial, fun b z => (nomatch z), hok, .of_eq hgen⟩
  refine codeAny_mono ((F _ KB (ground hns) TB).run callerA [] s1 H ⟨[.ref a], []⟩ [.ref a] [.ref a] _ _ hr rfl env (hbind s1 (.ref a)) (.cons rfl .nil) (hsp H atT sq)) fun r s' h => ?_
  match r, h with
  | .ok (.ret u), h =>
    obtain ⟨v, H', os, bare, un, hok', r', q⟩ := h
    obtain rfl : v = .bl true := q
    obtain rfl : u = Value.bool true := r'
    have more : ∀ b ∈ ts, ∃ m : Array Value, s'.heap.get? b = some { cls := .none, data := .fields m } := fun b hb => by
      obtain ⟨p, hp, rfl⟩ := tab b hb
      obtain ⟨m, z⟩ := un.tbls _ #[] (atT p hp)
      exact ⟨_, hok' _ _ z⟩
    have stay : ∀ b o, b ∉ ts → s1.heap.get? b = some o → s'.heap.get? b = some o := fun b o nb e => by
      cases q : H b with
      | none => exact un.keep b o e q (fun z => (nomatch z)) (fun z => (nomatch z))
      | some u =>
        rcases at1 q with ⟨h1, _⟩ | ⟨_, _, rfl⟩
        · exact absurd h1 nb
        · have e1 := (hok b _ q).1
          have e2 := (hok' b _ (un.frzs b _ _ q)).1
          rw [e1] at e
          cases e
          exact e2
    refine ⟨rfl, ⟨fun b o e => ?_, fun b o e => ?_⟩, os, bare⟩
    · by_cases hbt : b ∈ ts
      · obtain ⟨m, hm⟩ := more b hbt
        obtain ⟨p, hp, rfl⟩ := tab b hbt
        have t1 := hT p hp
        rw [t1] at e
        cases e
        exact .inr (.inl ⟨((hC p hp).tab t1).isCodeTable, rfl, #[], m, rfl, by rw [Array.empty_append]; exact hm⟩)
      · exact .inl (stay b o hbt e)
    · by_cases hbt : b ∈ ts
      · exact let ⟨m, hm⟩ := more b hbt; ⟨_, hm⟩
      · exact ⟨o, stay b o hbt e⟩
/-- what the end asks, at the head's heap -/
def LawAtG (l : PySem.W.OpenLaw) (w : World) (K : PySem.W.Frag) (k n : Nat) (x : Str) (mg : Str → Option Value) (fa : Addr) (h : Heap) : Prop :=
  ∃ (fd : FuncData) (cs : List (Addr × Addr)) (sp : Sp), (∀ p ∈ cs, h.get? p.2 = some tabO) ∧ (∀ p ∈ cs, K.lookup p.2 = none) ∧ (∀ p ∈ cs, PySem.W.CodeHd h p.1 p.2) ∧ (∀ (s : Shared) (u : Value), BindsTo s fd ⟨[u], []⟩ [(x, u)]) ∧
    (∀ (H : Hp) (a : Addr) (ns : List Int), ns.length ≤ n → (∀ z ∈ ns, Builtin.Int.intBits z ≤ 1048576) → (∀ p ∈ cs, H p.2 = some (.tbl #[])) → SqL K H a (ns.map V.int) → sp [.ref a] H (fun v _ => v = .bl true) fun _ _ _ => False) ∧
    ∀ base : Heap, K.In base → base.Ns mainGlobals mg → (∀ p ∈ cs, TabB base mg p.1 p.2) → FnG l.prog w K mg base k fa fd [x] sp
theorem walkG {l : PySem.W.OpenLaw} {n k : Nat} {q : Program} {loose : List Str} {XP : (Str → Option Value) → Heap → Prop} {YP : World → Heap → Prop} {d : DefRec} {K : Params → PySem.W.Frag} {x : Str} (hn : l.most = some n) (hn2 : n ≤ sizeLine) (hdf : d.params.defaults = []) (hr : Room k callerA)
    (hY : ∀ (w : World) (h : Heap), YP w h → (K w.params).In h) (F : ∀ (w : World) (mg : Str → Option Value) (fa : Addr) (h : Heap), YP w h → (K w.params).In h → h.Ns mainGlobals mg → mg d.name = some (.ref fa) → LawAtG l w (K w.params) k n x mg fa h) :
    PySem.W.WalkO q loose XP YP l.row.toRowW d [] (fun f vs => PySem.call f vs) :=
  Att.attach_callB hn hdf fun w _ _ mg _ fa _ _ _ _ a _ ns G Y _ _ _ hmg hobj hints hlen hbits hg => by
    obtain ⟨fd, cs, sp, hT, nT, C, hb, hsp, hF⟩ := F w mg fa _ Y (hY w _ Y) G.T.g hmg
    exact lawG (hY w _ Y) G.T.g G.T.b G.T.builtins G.T.nolimit hg hT nT C G.T.bmain hobj hints (Nat.le_trans hlen hn2) hr hF hb fun H hH hS => hsp H a ns hlen hbits hH hS
end
end Gd
namespace Gd
set_option autoImplicit false
open PySem PySem.Spec PyProof.Rows L2 LamX My Evl
/-! ### how long what repr tells is -/
theorem small_int {i : Int} (h0 : -100 ≤ i) (h1 : i ≤ 100) : ((toString i : String) : Str).length ≤ 4 ∧ i.natAbs.log2 < 1920 := by
  have : ∀ k : Fin 201, ((toString ((k.val : Int) - 100) : String) : Str).length ≤ 4 ∧ ((k.val : Int) - 100).natAbs.log2 < 1920 := by decide +kernel
  have := this ⟨(i + 100).toNat, by omega⟩
  have e : (((i + 100).toNat : Nat) : Int) - 100 = i := by omega
  simp only [e] at this
  exact this
theorem sum_le {l : List Nat} {m : Nat} (h : ∀ x ∈ l, x ≤ m) : l.sum ≤ l.length * m := by
  induction l with
  | nil => simp
  | cons x l ih =>
    rw [List.sum_cons, List.length_cons, Nat.add_mul]
    have := h x List.mem_cons_self
    have := ih fun y hy => h y (List.mem_cons_of_mem _ hy)
    omega
theorem all_len {ds : List PyData} {m : Nat} (h : ∀ d ∈ ds, d.shown.length ≤ m) : ((PyData.shownAll ds).map (·.length)).sum ≤ ds.length * m ∧ (PyData.shownAll ds).length = ds.length := by
  induction ds with
  | nil => simp [PyData.shownAll]
  | cons d ds ih =>
    obtain ⟨h1, h2⟩ := ih fun e he => h e (List.mem_cons_of_mem _ he)
    simp only [PyData.shownAll, List.map_cons, List.sum_cons, List.length_cons, h2, Nat.add_mul]
    have := h d List.mem_cons_self
    refine ⟨by omega, trivial⟩
theorem shown_lst {ds : List PyData} {m : Nat} (h : ∀ d ∈ ds, d.shown.length ≤ m) : (PyData.list ds).shown.length ≤ ds.length * (m + 2) + 3 := by
  simp only [PyData.shown]
  have h1 := listText_len_le (PyData.shownAll ds)
  obtain ⟨h2, h3⟩ := all_len h
  rw [h3] at h1
  rw [Nat.mul_add]
  omega
theorem shown_tup {ds : List PyData} {m : Nat} (h : ∀ d ∈ ds, d.shown.length ≤ m) : (PyData.tuple ds).shown.length ≤ ds.length * (m + 2) + 3 := by
  simp only [PyData.shown]
  have h1 := tupleText_len_le (PyData.shownAll ds)
  obtain ⟨h2, h3⟩ := all_len h
  rw [h3] at h1
  rw [Nat.mul_add]
  omega
theorem shown_int {i : Int} (h0 : -100 ≤ i) (h1 : i ≤ 100) : (PyData.int i).shown.length ≤ 4 ∧ (PyData.int i).showable = true := by
  obtain ⟨a, b⟩ := small_int h0 h1
  refine ⟨by simp only [PyData.shown]; exact a, ?_⟩
  simp only [PyData.showable, decide_eq_true_eq]
  exact b
theorem shown_nm {x : Str} (h : My.IsNm x) : (PyData.str x).shown.length ≤ 82 := by
  obtain ⟨h1, h2, h3⟩ := nm_facts h
  simp only [PyData.shown]
  have := StrLaws.reprText_len x fun c hc => by
    have := h3 c (by simpa using hc)
    omega
  omega
theorem nm_okS {x : Str} (h : My.IsNm x) : PyData.strOk x = true := by
  have h2 := (nm_facts h).2.2
  unfold PyData.strOk
  rw [Array.all_eq_true']
  intro c hc
  have := h2 c hc
  simp
  omega
theorem shp_dv {r : Rk} {u : Dv} (hr : r.Ok) (h : u.Of r) : SeqAt.shaped u.D = true := by
  have := nm_okS (hr.nm _ h.n)
  unfold Dv.D SeqAt.shaped
  simp [PyData.canLay0, PyData.canLayAll0, PyData.depth, PyData.depthAll, this]
theorem show_dv {r : Rk} {u : Dv} (hr : r.Ok) (h : u.Of r) (hi : u.i ≤ 20) (hj : u.j ≤ 20) : u.D.shown.length ≤ 300 ∧ u.D.showable = true := by
  have i0 := h.i
  have j0 := h.j
  have h1 := shown_nm (hr.nm _ h.n)
  obtain ⟨h2, h4⟩ := shown_int (i := u.i) (by omega) (by omega)
  obtain ⟨h3, h5⟩ := shown_int (i := u.j) (by omega) (by omega)
  unfold Dv.D
  refine ⟨?_, ?_⟩
  · have := shown_tup (ds := [.str u.n, .int u.i, .int u.j]) (m := 82) fun d hd => by
      simp only [List.mem_cons, List.not_mem_nil, or_false] at hd
      rcases hd with rfl | rfl | rfl <;> omega
    simp only [List.length_cons, List.length_nil] at this
    omega
  · simp only [PyData.showable, PyData.showableAll, Bool.and_true, Bool.true_and] at h4 h5 ⊢
    rw [h4, h5]
    rfl
theorem show_dvs {r : Rk} {us : List Dv} (hr : r.Ok) (h : ∀ u ∈ us, u.Of r ∧ u.i ≤ 20 ∧ u.j ≤ 20) (hl : us.length ≤ 1000) : (PyData.list (us.map Dv.D)).shown.length ≤ 1000000 ∧ (PyData.list (us.map Dv.D)).showable = true ∧ (PyData.list (us.map Dv.D)).depth ≤ 60 := by
  refine ⟨?_, ?_, ?_⟩
  · have := shown_lst (ds := us.map Dv.D) (m := 300) fun d hd => by
      obtain ⟨u, hu, rfl⟩ := List.mem_map.mp hd
      exact (show_dv hr (h u hu).1 (h u hu).2.1 (h u hu).2.2).1
    rw [List.length_map] at this
    omega
  · simp only [PyData.showable]
    refine showableAll_of fun d hd => ?_
    obtain ⟨u, hu, rfl⟩ := List.mem_map.mp hd
    exact (show_dv hr (h u hu).1 (h u hu).2.1 (h u hu).2.2).2
  · have := (canAll (us := us) fun u hu => shp_dv hr (h u hu).1).2
    simp only [PyData.depth]
    omega
section
variable {te : TE} {σ : L2.St} {B : Hp} {K : PySem.W.Frag} {d : PyData}
/-- repr of what is known -/
theorem ev_repr (h : EvP te σ B (IsD K d)) (hs : d.showable = true) (hp : d.depth ≤ 60) (hz : d.shown.length ≤ 1000000) : Ev (tCB (rRepr K) (tCons te tNil)) σ B (.str d.shown) := fun H1 a Q k =>
  h H1 a _ fun v B2 H2 g x => ⟨v, d, rfl, dp_m g.c x, hs, hp, hz, k H2 g.a⟩
end
end Gd
namespace Gd
set_option autoImplicit false
open PySem PySem.Spec PyProof.Rows L2 LamX My
section
variable {X : Cx} {k n : Nat} {f : Addr} {fd : FuncData} {ps ks : List Str} {sp : Sp} {E : XK} {x : Str} {p pos : Pos} {kws : List Keyword} {tk : TA} {g : List Value → List Value → List Value} {gV : List V → List V → List V}
/-- f(k = v, ..), keywords alone -/
theorem pe_callN0 (F : FnOk X.prog X.w X.K X.mg X.base CX0 k f fd ps sp) (hr : Room k X.A) (hg : Gl X x) (hm : X.mg x = some (.ref f)) (hk : PySem.W.keepIn X.K (.ref f) = true) (hb : KBn X.K fd ps 0 ks g gV) (hx : Passes CX0 X E) (hkw : PK X kws tk)
    (hall : (backToKw pos (keywordEach kws X.env)).all (·.1.isSome) = true := by rfl) (hks : (backToKw pos (keywordEach kws X.env)).filterMap (·.1) = ks := by rfl) (hdb : (x == ("__debug__" : Str)) = false := by decide)
    (hpl : ((backTo pos (starEach [] X.env)).any (·.1) || (backToKw pos (keywordEach kws X.env)).any (·.1.isNone)) = false := by rfl) : PE X (.Call (.Name x p) [] kws pos) (tCallN 0 ks.length sp gV E tNil tk) :=
  ⟨fun pins s σ H Q I h => wpAny_Call_Name_kw (ld_glob I hg hm (PySem.W.callWith_KW0 (h₀ := X.base) I.ok.mod.kin hk hall (thn (hkw.run pos pins s σ H _ I h) fun ws s2 ⟨zs, H2, I2, rz, l1, l2, q2⟩ => ⟨I2.kIn, by
    rw [hks]
    exact run_fnN (us := []) (vs := []) F hr hb hx I2 .nil rz rfl l2 q2⟩) hpl) hdb)⟩
end
section
variable {K : PySem.W.Frag} {x qual : Str} {st : Stmt} {f : Addr} {fd : FuncData} {ps ks : List Str} {n : Nat}
def gKs : List V → List V → List V := fun vs zs => vs ++ zs
def gKu : List Value → List Value → List Value := fun us ws => us ++ ws
def gRs : List V → List V → List V := fun vs zs => vs ++ zs.reverse
def gRu : List Value → List Value → List Value := fun us ws => us ++ ws.reverse
theorem kbn_of {g : List Value → List Value → List Value} {gV : List V → List V → List V} (F : Fun K x qual st f fd) (hr : ∀ {vs : List V} {us : List Value} {zs : List V} {ws : List Value}, Vals vs us → Vals zs ws → Vals (gV vs zs) (g us ws))
    (h : ∀ (kV doc pm : Value) (an : Option Addr) (cdv ct : Value) (us ws : List Value), us.length = n → ws.length = ks.length → bindArgs (PySem.W.fnOf x qual (defArgs st) (defBody st) (defScope st) .none kV doc pm an cdv ct) ⟨us, ks.zip ws⟩ = pure (ps.zip (g us ws))) : KBn K fd ps n ks g gV := by
  obtain ⟨_, _, kV, doc, pm, an, cdv, ct, _, rfl, _⟩ := F.ex
  exact ⟨fun s us ws _ l1 l2 => .of_eq (h kV doc pm an cdv ct us ws l1 l2), hr⟩
theorem revV : ∀ {vs : List V} {us : List Value}, Vals vs us → Vals vs.reverse us.reverse
  | [], [], .nil => .nil
  | _ :: _, _ :: _, .cons a b => by
    rw [List.reverse_cons, List.reverse_cons]
    exact (revV b).append (.cons a .nil)
theorem relK {vs : List V} {us : List Value} {zs : List V} {ws : List Value} (a : Vals vs us) (b : Vals zs ws) : Vals (gKs vs zs) (gKu us ws) := a.append b
theorem relR {vs : List V} {us : List Value} {zs : List V} {ws : List Value} (a : Vals vs us) (b : Vals zs ws) : Vals (gRs vs zs) (gRu us ws) := a.append (revV b)
end
end Gd
namespace Gd
set_option autoImplicit false
open PySem PySem.Spec PyProof.Rows L2 My HT
section
variable {prog : Program} {w : World} {A : Around} {E : Value → Shared → Prop} {s : Shared}
theorem rev_adjust (n : Nat) : Builtin.Slice.sliceAdjust none none (-1) (n : Int) = ((n : Int) - 1, -1) := by
  unfold Builtin.Slice.sliceAdjust
  rfl
theorem rev_places (n : Nat) : Builtin.Slice.slicePlaces ((n : Int) - 1) (-1) (-1) = n := by
  unfold Builtin.Slice.slicePlaces
  rw [if_neg (show ¬ ((-1 : Int) > 0) by decide)]
  have : (n : Int) - 1 - -1 - 1 = (n : Int) - 1 := by omega
  rw [this, show (- -1 : Int) = 1 by decide, Int.ediv_one]
  split <;> omega
theorem fm_congr {α β : Type} {f g : α → Option β} : ∀ {l : List α}, (∀ x ∈ l, f x = g x) → l.filterMap f = l.filterMap g
  | [], _ => rfl
  | x :: l, h => by
    rw [List.filterMap_cons, List.filterMap_cons, h x List.mem_cons_self, fm_congr (l := l) fun y hy => h y (List.mem_cons_of_mem _ hy)]
theorem rev_pick (xs : Array Value) : ((List.range xs.size).filterMap fun (k : Nat) => xs[((xs.size : Int) - 1 + (k : Int) * -1).toNat]?).toArray = xs.toList.reverse.toArray := by
  congr 1
  have e : (List.range xs.size).filterMap (fun (k : Nat) => xs[((xs.size : Int) - 1 + (k : Int) * -1).toNat]?) = ((List.range xs.size).map fun k => xs.size - 1 - k).filterMap (xs[·]?) := by
    rw [List.filterMap_map]
    refine fm_congr fun k hk => ?_
    have := List.mem_range.mp hk
    show xs[_]? = xs[xs.size - 1 - k]?
    congr 1
    omega
  rw [e, PySem.W.krv_range, List.filterMap_reverse, PySem.W.krv_all]
theorem rev_applied {sl : Addr} {vl vu vs : Value} {n : Nat} {Q : Int × Int × Nat → Shared → Prop} (hs : s.heap.IsSliceOf sl vl vu vs) (pl : IsPart vl none) (pu : IsPart vu none) (ps : IsPart vs (some (-1)))
    (h : Q ((n : Int) - 1, -1, n) s) : wpAny (model prog w) A (Builtin.Slice.sliceApplied (.ref sl) (pure (n : Int))) Q E s := by
  obtain ⟨os, hos, hcs, hds⟩ := id hs
  unfold Builtin.Slice.sliceApplied Builtin.Slice.sliceFields
  refine wpAny_bind (wpAny_bind (wpAny_field hos hds (x := vl) rfl (wpAny_bind (wpAny_field hos hds (x := vu) rfl (wpAny_bind (wpAny_field hos hds (x := vs) rfl (wpAny_pure (wpAny_bind (slicePart_ ps ?_)))))))))
  have n0 : ¬ (((some (-1 : Int)).getD 1 == 0) = true) := by decide
  refine PySem.W.KFB.if_not (by decide) ?_
  refine wpAny_bind (slicePart_ pl (wpAny_bind (slicePart_ pu (wpAny_bind (wpAny_pure ?_)))))
  have e : (Builtin.Slice.sliceAdjust none none ((some (-1 : Int)).getD 1) (n : Int)) = ((n : Int) - 1, -1) := rev_adjust n
  rw [e]
  have p : Builtin.Slice.slicePlaces ((n : Int) - 1) (-1) ((some (-1 : Int)).getD 1) = n := rev_places n
  dsimp only
  rw [p]
  exact wpAny_pure h
theorem getItem_rev {t sl : Addr} {items : Array Value} {vl vu vs : Value} {Q : Value → Shared → Prop} (ht : IsTup s.heap t items) (hs : s.heap.IsSliceOf sl vl vu vs) (pl : IsPart vl none) (pu : IsPart vu none) (ps : IsPart vs (some (-1)))
    (h : Q (.ref s.heap.objs.size) { s with heap := s.heap.push { cls := .type "tuple", data := .seq items.toList.reverse.toArray } }) (hz : items.size ≤ sizeLine) : wpAny (model prog w) A (getItem (.ref t) (.ref sl)) Q E s := by
  have hok : sizeOk (.seq items.toList.reverse.toArray) := by
    show items.toList.reverse.toArray.size ≤ sizeLine
    simpa using hz
  have hcl : s.TypeIs (.ref sl) "slice" := let ⟨os, a, b, _⟩ := hs; ⟨os, a, b⟩
  unfold getItem
  try with_reducible refine wpAny_holding ?_
  first | refine wpAny_bind (wpAny_pure ?_) | skip
  refine wpAny_bind (wpAny_sequenceKey ht.typeIs (by decide) (wpAny_bind (wpAny_callSpecial?_slot (name := Str.ofString "__getitem__") ht.typeIs PyProof.Rows.slot_tuple_getitem (wpAny_call_entry PyProof.Rows.slot_tuple_getitem ht.typeIs entry_tuple_getitem ?_ (args_tuple_getitem _ _)))))
  show wpAny _ _ (Builtin.Tuple.tupleItemsOf (.ref t) >>= _) _ _ s
  refine wpAny_bind (tupleItemsOf_ ht (wpAny_bind (wpAny_typeOf hcl ?_)))
  rw [if_pos (by decide)]
  refine wpAny_bind (rev_applied hs pl pu ps ?_)
  dsimp only
  refine PySem.W.KFB.if_not (by simp) ?_
  rw [rev_pick]
  first
    | exact wpAny_bind (m := Builtin.Tuple.tupleExact _) (wpAny_newObj_type (wpAny_pure ⟨_, rfl, wpAny_pure h⟩) hok)
    | exact wpAny_bind (wpAny_bind (m := Builtin.Tuple.tupleExact _) (wpAny_newObj_type (wpAny_pure (wpAny_pure ⟨_, rfl, wpAny_pure h⟩)) hok))
    | exact wpAny_bind (wpAny_bind (m := Builtin.Tuple.tupleExact _) (wpAny_newObj_type (wpAny_pure ⟨_, rfl, wpAny_pure h⟩) hok))
end
/-! ### t[::-1] of a tuple -/
def tRevT (K : PySem.W.Frag) (te : TE) : TE := fun σ H Q => te σ H fun x H1 => ∃ a xs, x = .ref a ∧ SqT K H1 a xs ∧ ∀ p, H1 p = none → Q (.ref p) (upd H1 p (.tup xs.reverse))
theorem pe_revT {X : Cx} {e : Expr} {te : TE} {k : Nat} {p1 p2 p3 pos : Pos} (he : PE X e te) : PE X (.Subscript e (.Slice none none (some (.UnaryOp .USub (.Constant (.int 1) k p1) p2)) p3) pos) (tRevT X.K te) := by
  refine ⟨fun pins s σ H Q I h => Subscript_ (thn (he.run pins s σ H _ I h) fun v s1 ⟨x, H1, I1, r1, a, xs, ex, hx, q⟩ => ?_)⟩
  subst ex
  cases r1
  have st : PO X (some (.UnaryOp .USub (.Constant (.int 1) k p1) p2)) (tPart (tUn (rU fun i => .int (-i)) (tC (.int 1)))) := po_some (pe_un un_neg pe_int)
  refine wpAny_Slice (thn (po_none.run pins s1 σ H1 (fun o H2 => o = none ∧ H2 = H1) I1 ⟨rfl, rfl⟩) fun vl s2 ⟨l, H2, I2, pl, el, e2⟩ => ?_)
  subst el e2
  refine thn (po_none.run pins s2 σ H2 (fun o H3 => o = none ∧ H3 = H2) I2 ⟨rfl, rfl⟩) fun vu s3 ⟨u, H3, I3, pu, eu, e3⟩ => thn (st.run pins s3 σ H3 (fun o H4 => o = some (-1) ∧ H4 = H3) I3 ⟨1, rfl, -1, rfl, rfl, rfl⟩) fun vs s4 ⟨o, H4, I4, ps, eo, e4⟩ => ?_
  subst eu e3 eo e4
  have I5 : Inv X pins σ H4 { s4 with heap := s4.heap.push { cls := .type "slice", data := .fields #[vl, vu, vs] } } := I4.kept (t' := s4.toks) fun b ob q => Heap.get?_push_of_some _ q
  obtain ⟨its, r, ht, hz⟩ := I5.tuple hx
  have hlen := r.length
  show wpAny (model X.prog X.w) X.A (subscriptTail e (.Slice none none (some (.UnaryOp .USub (.Constant (.int 1) k p1) p2)) p3) (.ref a) (.ref s4.heap.objs.size)) (EP X pins σ Q) X.xe { s4 with heap := s4.heap.push { cls := .type "slice", data := .fields #[vl, vu, vs] } }
  refine tail_any (ops := [.ref a, .ref s4.heap.objs.size]) ht.typeIs (PyProof.Rows.slot_tuple_getitem.lookup) ?_ (by with_unfolding_all rfl)
  refine getItem_rev ht (Heap.IsSliceOf.new _ vl vu vs) pl pu ps ⟨.ref _, _, I5.laid (t' := s4.toks) (o := .tup xs.reverse) (fun b ob q => Heap.get?_push_of_some _ q) (Nat.le_refl _) ?_, rfl, q _ (I5.hok.fresh (Nat.le_refl _))⟩ (by rw [List.size_toArray]; omega)
  exact ⟨by rw [List.length_reverse]; exact hz, _, r.reverse, IsTup.new _ _⟩
end Gd
namespace Nd
set_option autoImplicit false
open PySem PySem.Spec PyProof.Rows L2 My
/-! ### data as keys -/
mutual
def nk : PyData → NestedKey
  | .none => .none
  | .bool b => .num (if b = true then 1 else 0)
  | .int i => .num i
  | .str x => .text x
  | .tuple ds => .tup (nkAll ds)
  | .list _ => .none
  | .dict _ => .none
def nkAll : List PyData → List NestedKey
  | [] => []
  | d :: ds => nk d :: nkAll ds
end
mutual
def keyish : PyData → Bool
  | .none => true
  | .bool _ => true
  | .int _ => true
  | .str _ => true
  | .tuple ds => keyishAll ds
  | .list _ => false
  | .dict _ => false
def keyishAll : List PyData → Bool
  | [] => true
  | d :: ds => keyish d && keyishAll ds
end
section
variable {X : Cx} {pins : List (Addr × Obj)} {σ : L2.St} {H : Hp} {s : Shared}
mutual
theorem dp_nk (I : Inv X pins σ H s) : ∀ {d : PyData} {v : V} {u : Value}, Dp X.K H v d → keyish d = true → RelV v u → NestedIs s.heap (nk d) u
  | _, _, u, .non, _, r => by
    obtain rfl : u = Value.none := r
    simp only [nk]
    exact .none
  | _, _, u, .bl b, _, r => by
    obtain rfl : u = Value.bool b := r
    simp only [nk]
    exact .bool rfl
  | _, _, u, .int i, _, r => by
    obtain ⟨t, rfl⟩ := r
    simp only [nk]
    exact .int i t
  | _, _, u, .str x, _, r => by
    obtain ⟨t, rfl⟩ := r
    simp only [nk]
    exact .text x t
  | _, _, u, .lst _ _, h, _ => by simp [keyish] at h
  | _, _, u, .tup (a := a) x y, h, r => by
    obtain rfl : u = Value.ref a := r
    obtain ⟨its, rv, ⟨o, h1, h2, n, h3⟩, _⟩ := I.tuple x
    simp only [nk]
    simp only [keyish] at h
    exact .tup h1 h2 h3 (by simpa using dps_nk I y h rv)
theorem dps_nk (I : Inv X pins σ H s) : ∀ {ds : List PyData} {vs : List V} {us : List Value}, DpAll X.K H vs ds → keyishAll ds = true → Vals vs us → NestedAll s.heap (nkAll ds) us
  | _, _, [], .nil, _, .nil => by
    simp only [nkAll]
    exact .nil
  | _, _, _ :: _, .cons a b, h, .cons r1 r2 => by
    simp only [keyishAll, Bool.and_eq_true] at h
    simp only [nkAll]
    exact .cons (dp_nk I a h.1 r1) (dps_nk I b h.2 r2)
end
end
/-! ### a dict by such keys -/
abbrev NV := NestedKey × Addr × V
def lay : List NV → List Value → List (NestedKey × Addr × Value)
  | [], _ => []
  | _ :: _, [] => []
  | x :: xs, u :: us => (x.1, x.2.1, u) :: lay xs us
theorem lay_keys : ∀ {xs : List NV} {us : List Value}, xs.length = us.length → (lay xs us).map (·.1) = xs.map (·.1)
  | [], [], _ => rfl
  | _ :: _, _ :: _, h => congrArg (_ :: ·) (lay_keys (by simpa using h))
theorem lay_len : ∀ {xs : List NV} {us : List Value}, xs.length = us.length → (lay xs us).length = xs.length
  | [], [], _ => rfl
  | _ :: _, _ :: _, h => congrArg Nat.succ (lay_len (by simpa using h))
theorem lay_mem : ∀ {xs : List NV} {us : List Value} {y : NestedKey × Addr × Value}, y ∈ lay xs us → ∃ x ∈ xs, x.1 = y.1 ∧ x.2.1 = y.2.1
  | [], us, y, h => by simp [lay] at h
  | x :: xs, [], y, h => by simp [lay] at h
  | x :: xs, u :: us, y, h => by
    rcases List.mem_cons.mp h with rfl | h
    · exact ⟨x, List.mem_cons_self, rfl, rfl⟩
    · obtain ⟨z, hz, e⟩ := lay_mem h
      exact ⟨z, List.mem_cons_of_mem _ hz, e⟩
theorem vlen {xs : List NV} {us : List Value} (r : Vals (xs.map (·.2.2)) us) : xs.length = us.length := by
  have := r.length
  rw [List.length_map] at this
  exact this
/-- what stands at a key -/
def look (xs : List NV) (k : NestedKey) : Option V := (xs.find? fun x => decide (x.1 = k)).map (·.2.2)
def hasN (xs : List NV) (k : NestedKey) : Bool := xs.any fun x => decide (x.1 = k)
def putN (xs : List NV) (k : NestedKey) (a : Addr) (v : V) : List NV := if hasN xs k then xs.map fun x => if x.1 = k then (x.1, x.2.1, v) else x else xs ++ [(k, a, v)]
theorem at_lay {k : NestedKey} : ∀ {xs : List NV} {us : List Value}, Vals (xs.map (·.2.2)) us → (atKey (lay xs us) k).isSome = hasN xs k ∧ (∀ v, look xs k = some v → ∃ b u, atKey (lay xs us) k = some (b, u) ∧ RelV v u) ∧ (look xs k = none → atKey (lay xs us) k = none)
  | [], [], _ => ⟨rfl, fun v h => by simp [look] at h, fun _ => rfl⟩
  | x :: xs, u :: us, r => by
    cases r with
    | cons r1 r2 =>
      obtain ⟨h1, h2, h3⟩ := at_lay (k := k) (xs := xs) (us := us) r2
      unfold atKey hasN look at *
      simp only [lay, List.find?_cons, List.any_cons]
      by_cases e : x.1 = k
      · simp only [e, decide_true, Bool.true_or]
        refine ⟨rfl, fun v hv => ?_, fun h => by simp at h⟩
        simp only [Option.map_some, Option.some.injEq] at hv
        subst hv
        exact ⟨_, _, rfl, r1⟩
      · simp only [e, decide_false, Bool.false_or]
        exact ⟨h1, h2, h3⟩
theorem lay_app {xs ys : List NV} : ∀ {us ws : List Value}, xs.length = us.length → lay (xs ++ ys) (us ++ ws) = lay xs us ++ lay ys ws := by
  induction xs with
  | nil =>
    intro us ws h
    match us, h with
    | [], _ => rfl
  | cons x xs ih =>
    intro us ws h
    match us, h with
    | u :: us, h => exact congrArg (_ :: ·) (ih (by simpa using h))
theorem lay_put {k : NestedKey} {v : V} {u : Value} (rv : RelV v u) : ∀ {xs : List NV} {us : List Value}, Vals (xs.map (·.2.2)) us → ∃ ws, Vals ((xs.map fun x => if x.1 = k then (x.1, x.2.1, v) else x).map (·.2.2)) ws ∧ (lay xs us).map (putAt k u) = lay (xs.map fun x => if x.1 = k then (x.1, x.2.1, v) else x) ws
  | [], [], _ => ⟨[], .nil, rfl⟩
  | x :: xs, w :: us, r => by
    cases r with
    | cons r1 r2 =>
      obtain ⟨ws, h1, h2⟩ := lay_put (k := k) rv (xs := xs) (us := us) r2
      by_cases e : x.1 = k
      · refine ⟨u :: ws, ?_, ?_⟩
        · simp only [List.map_cons, if_pos e]
          exact .cons rv h1
        · simp only [lay, List.map_cons, if_pos e, putAt, h2]
      · refine ⟨w :: ws, ?_, ?_⟩
        · simp only [List.map_cons, if_neg e]
          exact .cons r1 h1
        · simp only [lay, List.map_cons, if_neg e, putAt, h2]
def DNf (P : Program) (w : World) (d : Addr) (xs : List NV) : Heap → Prop := fun h => (d == sysModules) = false ∧ xs.length ≤ sizeLine ∧ ∃ (us : List Value) (o : Obj) (es : Array DictEntry) (ep : Nat), Vals (xs.map (·.2.2)) us ∧ h.get? d = some o ∧ o.ExactDict ∧ o.data = .dict es ep ∧ es.toList = (lay xs us).map (entryOfKey (nestedKind P w)) ∧ (xs.map (·.1)).Nodup
/-- a dict by nested keys, in the order of insertion -/
def DN (P : Program) (w : World) (d : Addr) (xs : List NV) : HO := .ext (DNf P w d xs)
theorem dn_ok {P : Program} {w : World} {H : Hp} {h : Heap} {d : Addr} {xs : List NV} (R : DNf P w d xs h) : ObjOk P w H h d (DN P w d xs) :=
  ⟨R, (let ⟨_, _, _, o, _, _, _, e, _⟩ := R; ⟨o, e⟩), fun h1 h2 ⟨z1, z2, us, o, es, ep, a, b, c⟩ k => ⟨z1, z2, us, o, es, ep, a, k o b, c⟩⟩
/-- the object at a is such a key -/
def KeyAt (K : PySem.W.Frag) (H : Hp) (a : Addr) (k : NestedKey) : Prop := ∃ d, Dp K H (.ref a) d ∧ keyish d = true ∧ nk d = k ∧ k.depth ≤ 8
def KeysOk (K : PySem.W.Frag) (H : Hp) (xs : List NV) : Prop := ∀ x ∈ xs, KeyAt K H x.2.1 x.1
theorem KeyAt.ex {K : PySem.W.Frag} {H H' : Hp} {a : Addr} {k : NestedKey} (h : KeyAt K H a k) (e : Evl.Ex H H') : KeyAt K H' a k := let ⟨d, x, y⟩ := h; ⟨d, dp_m e x, y⟩
theorem KeysOk.ex {K : PySem.W.Frag} {H H' : Hp} {xs : List NV} (h : KeysOk K H xs) (e : Evl.Ex H H') : KeysOk K H' xs := fun x hx => (h x hx).ex e
section
variable {X : Cx} {pins : List (Addr × Obj)} {σ : L2.St} {H : Hp} {s : Shared} {d a : Addr} {xs : List NV} {k : NestedKey}
theorem key_is (I : Inv X pins σ H s) (h : KeyAt X.K H a k) : (nestedKind X.prog X.w).is s.heap k a := by
  obtain ⟨e, h1, h2, rfl, h4⟩ := h
  exact ⟨dp_nk I h1 h2 rfl, h4⟩
theorem dn_of (I : Inv X pins σ H s) (h : H d = some (DN X.prog X.w d xs)) (hk : KeysOk X.K H xs) : (d == sysModules) = false ∧ xs.length ≤ sizeLine ∧ ∃ us, Vals (xs.map (·.2.2)) us ∧ s.heap.DictOfH (nestedKind X.prog X.w) d (lay xs us) := by
  obtain ⟨z1, z2, us, o, es, ep, r, h1, h2, h3, h4, h5⟩ := (I.hok d _ h).1
  refine ⟨z1, z2, us, r, o, es, ep, h1, h2, h3, h4, fun y hy => ?_, by rw [lay_keys (vlen r)]; exact h5⟩
  obtain ⟨x, hx, e1, e2⟩ := lay_mem hy
  have := key_is I (hk x hx)
  rw [e1, e2] at this
  exact this
theorem dn_to {P : Program} {w : World} {h : Heap} {us : List Value} (z1 : (d == sysModules) = false) (z2 : xs.length ≤ sizeLine) (r : Vals (xs.map (·.2.2)) us) (m : h.DictOfH (nestedKind P w) d (lay xs us)) : DNf P w d xs h := by
  obtain ⟨o, es, ep, h1, h2, h3, h4, _, h5⟩ := m
  exact ⟨z1, z2, us, o, es, ep, r, h1, h2, h3, h4, by rw [← lay_keys (vlen r)]; exact h5⟩
/-- {} -/
def tDNewN (P : Program) (w : World) : TE := fun _ H Q => ∀ p, H p = none → Q (.ref p) (upd H p (DN P w p []))
theorem pe_dnewN {pos : Pos} : PE X (.Dict [] [] pos) (tDNewN X.prog X.w) := ⟨fun pins s σ H Q I h =>
  wpAny_Dict_empty ⟨.ref s.heap.objs.size, _, I.laid (a := s.heap.objs.size) (o := DN X.prog X.w s.heap.objs.size []) (t' := s.toks) (fun _ _ q => Heap.get?_push_of_some _ q) (Nat.le_refl _)
    (dn_ok (dn_to (us := []) (beq_eq_false_iff_ne.mpr (Nat.ne_of_gt I.big)) (by decide) .nil (Heap.DictOfH.new s.heap))), rfl, h _ (I.hok.fresh (Nat.le_refl _))⟩⟩
/-- k in d -/
def rInN (P : Program) (w : World) (K : PySem.W.Frag) : R2 := fun x y H Q => ∃ (a d : Addr) (xs : List NV) (k : NestedKey), x = .ref a ∧ y = .ref d ∧ H d = some (DN P w d xs) ∧ KeysOk K H xs ∧ KeyAt K H a k ∧ Q (.bl (hasN xs k)) H
theorem op_inN (hu : X.A.units + 9 < cLine) : OpR X (compareOp .In) (rInN X.prog X.w X.K) := by
  intro pins s σ H x y v u Q I rx ry ⟨a, d, xs, k, e1, e2, hd, hk, hkey, q⟩
  subst e1 e2
  cases rx
  cases ry
  obtain ⟨z1, z2, us, r, m⟩ := dn_of I hd hk
  have := (at_lay (k := k) r).1
  refine wpAny_in_heap (knd := nestedKind X.prog X.w) (by show X.A.units + 1 + 8 < cLine; omega) (key_is I hkey) z1 m ?_
  rw [this]
  exact ⟨.bl (hasN xs k), H, I.tok _, rfl, q⟩
end
end Nd
namespace Nd
set_option autoImplicit false
open PySem PySem.Spec PyProof.Rows L2 My Evl
section
variable {X : Cx}
/-- < and <= of data that are alike -/
def rLtD (K : PySem.W.Frag) : R2 := fun x y H Q => ∃ d e, Dp K H x d ∧ Dp K H y e ∧ PySem.W.alike d e = true ∧ d ≠ .none ∧ min d.depth e.depth ≤ 50 ∧ Q (.bl (PySem.W.dataLt d e)) H
def rLeD (K : PySem.W.Frag) : R2 := fun x y H Q => ∃ d e, Dp K H x d ∧ Dp K H y e ∧ PySem.W.alike d e = true ∧ d ≠ .none ∧ min d.depth e.depth ≤ 50 ∧ Q (.bl (!PySem.W.dataLt e d)) H
theorem op_ltD (hu : X.A.units + 65 < cLine) : OpR X (compareOp .Lt) (rLtD X.K) := by
  intro pins s σ H x y v u Q I rx ry ⟨d, e, hd, he, al, hn, hm, q⟩
  obtain ⟨as, r1⟩ := Dp.reads I d x v hd rx
  obtain ⟨bs, r2⟩ := Dp.reads I e y u he ry
  exact PySem.W.lt_data r1 r2 al hn (by omega) ⟨.bl _, H, I, rfl, q⟩
theorem op_leD (hu : X.A.units + 65 < cLine) : OpR X (compareOp .LtE) (rLeD X.K) := by
  intro pins s σ H x y v u Q I rx ry ⟨d, e, hd, he, al, hn, hm, q⟩
  obtain ⟨as, r1⟩ := Dp.reads I d x v hd rx
  obtain ⟨bs, r2⟩ := Dp.reads I e y u he ry
  exact PySem.W.le_data r1 r2 al hn (by omega) ⟨.bl _, H, I, rfl, q⟩
end
section
variable {te ta tb : TE} {σ : L2.St} {B : Hp} {K : PySem.W.Frag} {d e : PyData}
theorem ev_ltD (ha : EvP ta σ B (IsD K d)) (hb : EvP tb σ B (IsD K e)) (al : PySem.W.alike d e = true) (hn : d ≠ .none) (hm : min d.depth e.depth ≤ 50) : Ev (tOp (rLtD K) ta tb) σ B (.bl (PySem.W.dataLt d e)) := fun H1 a Q k =>
  ha H1 a _ fun v B2 H2 g b => hb H2 (g.b.trans g.c) _ fun w B3 H3 g3 b3 => ⟨d, e, dp_m (g.c.trans g3.a) b, dp_m g3.c b3, al, hn, hm, k H3 (g.a.trans g3.a)⟩
theorem ev_leD (ha : EvP ta σ B (IsD K d)) (hb : EvP tb σ B (IsD K e)) (al : PySem.W.alike d e = true) (hn : d ≠ .none) (hm : min d.depth e.depth ≤ 50) : Ev (tOp (rLeD K) ta tb) σ B (.bl (!PySem.W.dataLt e d)) := fun H1 a Q k =>
  ha H1 a _ fun v B2 H2 g b => hb H2 (g.b.trans g.c) _ fun w B3 H3 g3 b3 => ⟨d, e, dp_m (g.c.trans g3.a) b, dp_m g3.c b3, al, hn, hm, k H3 (g.a.trans g3.a)⟩
end
end Nd
namespace Nd
set_option autoImplicit false
open PySem PySem.Spec PyProof.Rows L2 My Evl
/-! ### enumerate of a tuple -/
/-- an enumerate object over the iterator n, nothing drawn yet -/
abbrev enO (n : Addr) : Obj := { cls := .type "enumerate", data := .fields #[.none, .bool false, .ref n, rawInt 0, .none, .none] }
set_option maxHeartbeats 1000000 in
theorem en_new {v : Value} {o : Obj} {G : Heap → Prop} (B : Begins v o G) :
    Meets (Builtin.«enumerate.__new__» ⟨[.type "enumerate", v], []⟩) (fun _ R s => G s.heap ∧ R (.ok (.ret (.ref (s.heap.push o).objs.size))) { s with heap := (s.heap.push o).push (enO s.heap.objs.size) }) := .of_wp fun prog w A R s h => by
  obtain ⟨hp, gg, dd, tt, oo⟩ := s
  obtain ⟨h1, h2⟩ := h
  have sb := sub_enumerate
  have q1 : ∀ {A' : Around} {E Q : Value → Shared → Prop}, Q (.ref hp.objs.size) ⟨hp.push o, gg, dd, tt, oo⟩ → wpAny (model prog w) A' (pyIter v) Q E ⟨hp, gg, dd, tt, oo⟩ := fun q => B.iter prog w _ _ ⟨hp, gg, dd, tt, oo⟩ _ h1 q
  wp_walk using q1
  refine wpAny_stack_any fun st => wpAny_pure ?_
  split
  · rename_i c _ _ _ _ _
    cases (c == Value.type "enumerate") <;> (wp_walk using q1; exact ⟨_, rfl, h2⟩)
  · wp_walk using q1
    exact ⟨_, rfl, h2⟩
theorem en_call {P : Program} {w : World} {A : Around} {E : Value → Shared → Prop} {s : Shared} {v : Value} {o : Obj} {G : Heap → Prop} {Q : Value → Shared → Prop} (B : Begins v o G) (h1 : G s.heap)
    (h : ∀ h', IsEnum h' (s.heap.objs.size + 1) s.heap.objs.size 0 .none → h'.get? s.heap.objs.size = some o → (∀ b o, s.heap.get? b = some o → h'.get? b = some o) → Q (.ref (s.heap.objs.size + 1)) { s with heap := h' }) :
    wpAny (model P w) A (call (.type "enumerate") [v]) Q E s := by
  refine callType_new F.called_enumerate (by decide) (F.typeCall_enumerate_1 _) (F.newCall_enumerate_1 _) (fun x => F.args_object_init_2 x _) F.entry_enumerate_new (en_new B) ⟨h1, ?_⟩
  have z : (s.heap.push o).objs.size = s.heap.objs.size + 1 := Heap.size_push ..
  show _ ∧ _
  rw [z]
  have e : IsEnum ((s.heap.push o).push (enO s.heap.objs.size)) (s.heap.objs.size + 1) s.heap.objs.size 0 .none := by
    have := Heap.get?_push_size (s.heap.push o) (o := enO s.heap.objs.size) rfl
    rw [z] at this
    exact this
  exact ⟨⟨_, e, rfl⟩, h _ e (Heap.get?_push_of_some _ (Heap.get?_push_size _ B.free)) fun b o x => Heap.get?_push_of_some _ (Heap.get?_push_of_some _ x)⟩
/-- the tuple at a, each item in a new pair -/
def IteT (K : PySem.W.Frag) (a : Addr) : It :=
  ⟨fun i H => ∃ (xs : List V) (x : V), SqT K H a xs ∧ xs[i]? = some x,
   fun i H v H' => ∃ T x, v = .ref T ∧ H T = none ∧ H' = upd H T (.tup [.int (i : Nat), x]) ∧ ∀ xs, SqT K H a xs → xs[i]? = some x,
   fun i H => ∃ xs : List V, SqT K H a xs ∧ xs.length = i⟩
theorem tup_ne_it {h : Heap} {a it : Addr} {its : Array Value} {i : Nat} (p : h.IsTuple a its) (k : h.IsTupleIter it a i) : a ≠ it := by
  rintro rfl
  obtain ⟨o, h1, h2, _⟩ := p
  obtain ⟨o', k1, k2, _⟩ := k
  rw [h1] at k1
  cases k1
  rw [h2] at k2
  exact absurd k2 (by decide)
theorem tup_ne_en {h : Heap} {a e it : Addr} {its : Array Value} {i : Int} {old : Value} (p : h.IsTuple a its) (k : IsEnum h e it i old) : e ≠ a := by
  rintro rfl
  obtain ⟨o, h1, h2, _⟩ := p
  have k : h.get? e = some _ := k
  rw [h1] at k
  cases k
  have h2 : Value.type "enumerate" = Value.type "tuple" := h2
  injection h2 with z
  exact absurd z (by decide)
theorem turn_enT {P : Program} {w : World} {K : PySem.W.Frag} {elts : List Expr} {kk : Nat} {tpos : Pos} (a e it : Addr) :
    Turn P w K (.Tuple elts kk tpos) (IteT K a) [e, it] e (fun i h => (∃ old, IsEnum h e it ((i : Nat) : Int) old) ∧ h.IsTupleIter it a i ∧ e ≠ it) where
  mem := by simp
  obj := fun i h st b hb => by
    obtain ⟨⟨old, he⟩, ⟨o, ho, hc, hd⟩, _⟩ := st
    rcases (by simpa using hb : b = e ∨ b = it) with rfl | rfl
    · exact ⟨_, he, fun v q => nomatch q⟩
    · exact ⟨o, ho, fun v q => by rw [hd] at q; cases q⟩
  keep := fun i h h' st k => by
    obtain ⟨⟨old, he⟩, hi, hne⟩ := st
    exact ⟨⟨old, k e (by simp) _ he⟩, hi.at fun o q => k it (by simp) o q, hne⟩
  item := by
    intro X hP hw hK hc i pins s σ H E I hf st hg
    subst hP hw hK
    obtain ⟨⟨old, he⟩, hit, hne⟩ := st
    obtain ⟨xs, x, hq, hx⟩ := hg
    obtain ⟨its, rv, p, hz⟩ := I.tuple hq
    obtain ⟨u, hu, ru⟩ := rv.get hx
    have hel : e < s.heap.objs.size := Heap.lt_size he
    have hil : it < s.heap.objs.size := by
      obtain ⟨_, q, _⟩ := hit
      exact Heap.lt_size q
    have hit0 := hit
    refine wpAny_pyNext_enum_itemD (Draws.tuple (by exact I.ok.hd hc) it a (tup_ne_it p hit) its.toArray) he ⟨hit, p⟩ (i := i) (by
      have := (List.getElem?_eq_some_iff.mp hu).1
      simpa using this) hne (by simp [hne, tup_ne_en p he]) fun y h' tk hy ho hst' hT hsz hk => ?_
    obtain rfl : u = y := by
      have hy : its.toArray[i]? = some y := hy
      rw [List.getElem?_toArray, hu] at hy
      exact Option.some.inj hy
    refine ⟨_, rfl, wpAny_letOwnedTupleGo_enum (s := { s with heap := h', toks := tk + 1 }) ho fun h'' he' sb => ?_⟩
    have hT2 : h''.get? s.heap.objs.size = some { cls := .type "tuple", data := .seq #[.int i tk, u] } := (sb.2 _ (Nat.ne_of_gt hel)).trans hT
    have new : ObjOk X.prog X.w (upd H s.heap.objs.size (.tup [.int (i : Nat), x])) h'' s.heap.objs.size (.tup [.int (i : Nat), x]) :=
      ⟨by show 2 ≤ sizeLine; decide, [.int i tk, u], .cons ⟨_, rfl⟩ (.cons ru .nil), ⟨_, hT2, rfl, _, rfl⟩⟩
    have I1 : Inv X pins σ (upd H s.heap.objs.size (.tup [.int (i : Nat), x])) { s with heap := h'', toks := tk + 1 } :=
      I.turnedNew (ch := [e, it]) (fun b ob hb q => by
        have b1 : b ≠ e := fun z => hb (by simp [z])
        have b2 : b ≠ it := fun z => hb (by simp [z])
        exact (sb.2 b b1).trans (hk b ob b1 b2 q)) hf (Nat.le_refl _) new
    refine ⟨.ref s.heap.objs.size, _, I1, rfl, ⟨_, x, rfl, I.hok.fresh (Nat.le_refl _), rfl, fun ys hy => by rw [I.tuple_inj hy hq]; exact hx⟩, ⟨⟨u, ?_⟩, hst'.1.at fun o q => (sb.2 it (Ne.symm hne)).trans q, hne⟩, fun b hb => ?_⟩
    · rw [show ((i + 1 : Nat) : Int) = (i : Int) + 1 by omega]
      exact he'
    · have hb' : b < s.heap.objs.size := by
        rcases (by simpa using hb : b = e ∨ b = it) with rfl | rfl
        · exact hel
        · exact hil
      rw [upd_ne (Nat.ne_of_lt hb')]
      exact (hf b hb).1
  done := by
    intro X hP hw hK hc i pins s σ H E I hf st hg
    subst hP hw hK
    obtain ⟨⟨old, he⟩, hit, hne⟩ := st
    obtain ⟨xs, hq, rfl⟩ := hg
    obtain ⟨its, rv, p, hz⟩ := I.tuple hq
    obtain ⟨f0, f1, f2, f3, f4, f5⟩ := hf it (by simp)
    have hl := rv.length
    refine wpAny_pyNext_enum_endD (Draws.tuple (by exact I.ok.hd hc) it a (tup_ne_it p hit) its.toArray) he ⟨by rw [show its.toArray.size = xs.length by simp [hl]]; exact hit, p⟩ fun h' eb => ⟨rfl, I.turned (t' := s.toks) (fun b o hb q => eb b o hb q) f0 f1 f3 f4 f5⟩
  self := fun A i s Q E st h => by
    obtain ⟨⟨_, he⟩, _⟩ := st
    exact wpAny_pyIter_enum he h
def iEnumT (K : PySem.W.Frag) (ta : TA) : TI := fun σ H R => ta σ H fun vs H1 => ∃ a xs, vs = [.ref a] ∧ SqT K H1 a xs ∧ R (IteT K a) H1
theorem pi_enumT {X : Cx} {e : Expr} {ta : TA} {p pos tpos : Pos} {elts : List Expr} {kk : Nat} (hg : Gl X "enumerate") (hm : X.mg "enumerate" = none) (ha : PA X [e] ta) (hs : starEach [e] X.env = [(false, eval e X.env)] := by rfl) :
    PI X (.Tuple elts kk tpos) (.Call (.Name "enumerate" p) [e] [] pos) (iEnumT X.K ta) := by
  refine ⟨fun pins s σ H R I h => ?_⟩
  refine Call_ (ld_blt I hg hm boot_enumerate (PyProof.Rows.callWith_type1 (thn (ha.run pos pins s σ H _ I h) fun us s1 ⟨vs, H1, I1, r1, q1⟩ => ?_) hs rfl))
  obtain ⟨a, xs, rfl, hq, q⟩ := q1
  cases r1 with
  | cons r rr =>
    cases rr
    cases r
    obtain ⟨its, rv, p', hz⟩ := I1.tuple hq
    refine en_call (begins_tuple a its.toArray) p' fun h' he ho hk => wpAny_pyIter_enum he ?_
    have I2 : Inv X pins σ H1 { s1 with heap := h' } := I1.kept (t' := s1.toks) hk
    refine ⟨s1.heap.objs.size + 1, [s1.heap.objs.size + 1, s1.heap.objs.size], _, _, H1, rfl, I2, turn_enT a (s1.heap.objs.size + 1) s1.heap.objs.size, ⟨⟨.none, he⟩, ⟨_, ho, rfl, rfl⟩, Nat.succ_ne_self _⟩, fun b hb => ?_, q⟩
    have hle : s1.heap.objs.size ≤ b := by
      rcases (by simpa using hb : b = s1.heap.objs.size + 1 ∨ b = s1.heap.objs.size) with z | z
      · rw [z]
        exact Nat.le_succ _
      · rw [z]
        exact Nat.le_refl _
    exact I1.fpOk hle (I1.hok.fresh hle)
theorem walk_enT {K : PySem.W.Frag} {a : Addr} {xs : List V} : Walk (IteT K a) xs.length (fun H => SqT K H a xs) (YPair (fun i => some (.int (i : Nat))) (fun i => xs[i]?)) := by
  refine ⟨fun i _ hi q => ⟨xs, xs[i], q, by simp [hi]⟩, fun _ q => ⟨xs, q, rfl⟩, fun i H v H' _ q y => ?_⟩
  obtain ⟨T, x, h1, h2, h3, h4⟩ := y
  exact ⟨T, .int (i : Nat), x, h1, h2, h3, rfl, h4 xs q⟩
/-- n pairs of a number and a thing of which P i is known -/
def SrcE (wi : TI) (σ : L2.St) (B : Hp) (n : Nat) (P : Nat → Pr) : Prop := ∀ H1, Ex B H1 → ∀ R : It → Hp → Prop, (∀ (J : It) (B' H2 : Hp) (G : Hp → Prop) (Y : Nat → Hp → V → Hp → Prop), Gr B H1 B' H2 → Walk J n G Y → (∀ H, Ex B' H → G H) →
  (∀ i H v H', i < n → Ex B' H → Y i H v H' → ∃ T x, v = .ref T ∧ H T = none ∧ H' = upd H T (.tup [.int (i : Nat), x]) ∧ (P i).P x B') → R J H2) → wi σ H1 R
section
variable {te : TE} {σ : L2.St} {B H : Hp} {ps : List Pr} {K : PySem.W.Frag} {D : Ends} {ta : TA}
theorem pair_of {xs : List V} {B' : Hp} (al : AllP ps xs B') {i : Nat} {H : Hp} {v : V} {H' : Hp} (y : YPair (fun i => some (.int (i : Nat))) (fun i => xs[i]?) i H v H') :
    ∃ T x, v = .ref T ∧ H T = none ∧ H' = upd H T (.tup [.int (i : Nat), x]) ∧ (ps.getD i (IsV .non)).P x B' := by
  obtain ⟨T, y1, x, h1, h2, h3, h4, h5⟩ := y
  obtain rfl : V.int (i : Nat) = y1 := Option.some.inj h4
  obtain ⟨p, hp, k2⟩ := al.get h5
  refine ⟨T, x, h1, h2, h3, ?_⟩
  rw [List.getD_eq_getElem?_getD, hp]
  exact k2
theorem one_of {p : Pr} {vs : List V} {B' : Hp} (h : AllP [p] vs B') : ∃ v, vs = [v] ∧ p.P v B' := by
  match vs, h with
  | [v], h => exact ⟨v, rfl, h.1⟩
theorem src_enT (h : EvPs ta σ B [TuP K ps]) : SrcE (iEnumT K ta) σ B ps.length (fun i => ps.getD i (IsV .non)) := fun H1 a R k => h H1 a _ fun vs B2 H2 g b => by
  obtain ⟨v, rfl, l, xs, rfl, hx, al⟩ := one_of b
  exact ⟨l, xs, rfl, ex_t g.c hx, k _ B2 H2 _ _ g (by rw [← al.len]; exact walk_enT) (fun H e => ex_t e hx) fun i H v H' _ e z => pair_of al z⟩
theorem src_enL (h : EvPs ta σ B [LqP K ps]) : SrcE (iEnum K ta) σ B ps.length (fun i => ps.getD i (IsV .non)) := fun H1 a R k => h H1 a _ fun vs B2 H2 g b => by
  obtain ⟨v, rfl, l, xs, rfl, hx, al⟩ := one_of b
  exact ⟨l, xs, rfl, ex_l g.c hx, k _ B2 H2 _ _ g (by rw [← al.len]; exact walk_enum) (fun H e => ex_l e hx) fun i H v H' _ e z => pair_of al z⟩
theorem ps_forE {wi : TI} {n : Nat} {P : Nat → Pr} {g : TG} {tbd : TS} (a : Ex B H) (h : SrcE wi σ B n P)
    (k : ∀ B1 H1, Gr B H B1 H1 → ∃ Pv : Nat → L2.St → Hp → Prop, Pv 0 σ H1 ∧ (∀ i σ' H', i ≤ n → Pv i σ' H' → Ex B1 H') ∧
      (∀ i v T σ' H', i < n → Pv i σ' H' → (P i).P v B1 → H' T = none → g (.ref T) σ' (upd H' T (.tup [.int (i : Nat), v])) fun σ2 H2 => tbd { D with nx := Pv (i + 1), ct := Pv (i + 1), bk := D.nx } σ2 H2) ∧ ∀ σ' H', Pv n σ' H' → D.nx σ' H') :
    tFor wi g tbd D σ H := h H a _ fun J B1 H1 G Y gr w hG hY => by
  obtain ⟨Pv, h0, hE, hs, hd⟩ := k B1 H1 gr
  refine for_it w Pv h0 (fun i σ' H' hi pv => hG H' (hE i σ' H' hi pv)) (fun i x σ' H' H2 hi pv y => ?_) hd
  obtain ⟨T, v, rfl, hT, rfl, px⟩ := hY i H' x H2 hi (hE i σ' H' (Nat.le_of_lt hi) pv) y
  exact hs i v T σ' H' hi pv px hT
end
end Nd
namespace Nd
set_option autoImplicit false
open PySem PySem.W L2 My Evl
/-! ### monomials, fractions, polynomials, chains -/
abbrev Mo := List (Dv × Int)
abbrev Fr := Int × Int
abbrev Po := List (Mo × Fr)
abbrev Ch := List (Dv × Po)
def pwD (x : Dv × Int) : PyData := .tuple [x.1.D, .int x.2]
def moD (m : Mo) : PyData := .tuple (m.map pwD)
def frD (f : Fr) : PyData := .tuple [.int f.1, .int f.2]
def tmD (t : Mo × Fr) : PyData := .tuple [moD t.1, frD t.2]
def poD (p : Po) : PyData := .tuple (p.map tmD)
def lkD (x : Dv × Po) : PyData := .tuple [x.1.D, poD x.2]
def chD (c : Ch) : PyData := .tuple (c.map lkD)
def pwP (K : PySem.W.Frag) (x : Dv × Int) : Pr := TuP K [DvP x.1, IsV (.int x.2)]
def moP (K : PySem.W.Frag) (m : Mo) : Pr := TuP K (m.map (pwP K))
def frP (K : PySem.W.Frag) (f : Fr) : Pr := TuP K [IsV (.int f.1), IsV (.int f.2)]
def tmP (K : PySem.W.Frag) (t : Mo × Fr) : Pr := TuP K [moP K t.1, frP K t.2]
def poP (K : PySem.W.Frag) (p : Po) : Pr := TuP K (p.map (tmP K))
def lkP (K : PySem.W.Frag) (x : Dv × Po) : Pr := TuP K [DvP x.1, poP K x.2]
def chP (K : PySem.W.Frag) (c : Ch) : Pr := TuP K (c.map (lkP K))
section
variable {K : PySem.W.Frag}
theorem to_dv (u : Dv) : To K (DvP u) u.D := fun _ _ h => dv_d h
theorem to_pw (x : Dv × Int) : To K (pwP K x) (pwD x) := to_tup (.cons (to_dv x.1) (.cons to_int .nil))
theorem to_mo (m : Mo) : To K (moP K m) (moD m) := to_tup (toAll_map m fun x => to_pw x)
theorem to_fr (f : Fr) : To K (frP K f) (frD f) := to_tup (.cons to_int (.cons to_int .nil))
theorem to_tm (t : Mo × Fr) : To K (tmP K t) (tmD t) := to_tup (.cons (to_mo t.1) (.cons (to_fr t.2) .nil))
theorem to_po (p : Po) : To K (poP K p) (poD p) := to_tup (toAll_map p fun x => to_tm x)
theorem to_lk (x : Dv × Po) : To K (lkP K x) (lkD x) := to_tup (.cons (to_dv x.1) (.cons (to_po x.2) .nil))
theorem to_ch (c : Ch) : To K (chP K c) (chD c) := to_tup (toAll_map c fun x => to_lk x)
end
/-! ### which are good -/
/-- each is less than what follows it, as Python compares -/
def Ups {α : Type} (f : α → PyData) (l : List α) : Prop := ∀ i (h : i + 1 < l.length), dataLt (f (l[i]'(Nat.lt_of_succ_lt h))) (f l[i + 1]) = true
structure MoOk (r : Rk) (m : Mo) : Prop where
  of : ∀ x ∈ m, x.1.Of r ∧ 0 < x.2
  up : Ups (fun x => x.1.D) m
structure FrOk (f : Fr) : Prop where
  bot : 0 < f.2
  low : Nat.gcd f.1.natAbs f.2.natAbs = 1
structure PoOk (r : Rk) (p : Po) : Prop where
  of : ∀ t ∈ p, MoOk r t.1 ∧ FrOk t.2 ∧ t.2.1 ≠ 0
  up : Ups (fun t => moD t.1) p
theorem alike_dv (u v : Dv) : alike u.D v.D = true := by simp [Dv.D, alike, alikeAll]
theorem alike_pw (x y : Dv × Int) : alike (pwD x) (pwD y) = true := by
  unfold pwD
  rw [alike, alikeAll, alikeAll, alikeAll, alike_dv]
  simp [alike]
theorem alike_map {α : Type} {f : α → PyData} (h : ∀ x y, alike (f x) (f y) = true) : ∀ l m : List α, alikeAll (l.map f) (m.map f) = true
  | [], _ => by rw [List.map_nil, alikeAll]
  | _ :: _, [] => by rw [List.map_nil, List.map_cons, alikeAll]
  | x :: l, y :: m => by rw [List.map_cons, List.map_cons, alikeAll, h x y, alike_map h l m, Bool.and_self]
theorem alike_mo (m n : Mo) : alike (moD m) (moD n) = true := by
  unfold moD
  rw [alike]
  exact alike_map alike_pw m n
theorem deep_dv (u : Dv) : u.D.depth = 1 := by simp [Dv.D, PyData.depth, PyData.depthAll]
theorem deep_pw (x : Dv × Int) : (pwD x).depth = 2 := by simp [pwD, PyData.depth, PyData.depthAll, deep_dv]
theorem deep_map {α : Type} {f : α → PyData} {n : Nat} (h : ∀ x, (f x).depth ≤ n) : ∀ l : List α, PyData.depthAll (l.map f) ≤ n
  | [] => by rw [List.map_nil, PyData.depthAll]; exact Nat.zero_le _
  | x :: l => by
    rw [List.map_cons, PyData.depthAll]
    exact Nat.max_le.mpr ⟨h x, deep_map h l⟩
theorem deep_mo (m : Mo) : (moD m).depth ≤ 3 := by
  unfold moD
  rw [PyData.depth]
  have := deep_map (f := pwD) (n := 2) (fun x => Nat.le_of_eq (deep_pw x)) m
  omega
section
variable {te ta tb : TE} {σ : L2.St} {B H : Hp} {ps : List Pr} {K : PySem.W.Frag}
theorem ev_gcd {i j : Int} (ha : Ev ta σ B (.int i)) (hb : Ev tb σ B (.int j)) : Ev (tCB rGcd (tCons ta (tCons tb tNil))) σ B (.int ((Nat.gcd i.natAbs j.natAbs : Nat) : Int)) := fun H1 e Q q =>
  ha H1 e _ fun H2 e2 => hb H2 (e.trans e2) _ fun H3 e3 => ⟨i, j, rfl, q H3 (e2.trans e3)⟩
theorem src_tu (h : EvP te σ B (TuP K ps)) : Src (iTup K te) σ B ps.length (fun i => ps.getD i (IsV .non)) := fun H1 a R k => h H1 a _ fun v B2 H2 g b => by
  obtain ⟨l, xs, rfl, hx, al⟩ := b
  refine ⟨l, rfl, ⟨xs, ex_t g.c hx⟩, k _ B2 H2 _ _ g (by rw [← al.len]; exact walk_tup) (fun H e => ex_t e hx) fun i H v H' _ e (z : H' = H ∧ _) => ⟨z.1, ?_⟩⟩
  have z2 : xs[i]? = some v := z.2
  obtain ⟨p, hp, k2⟩ := al.get z2
  show (ps.getD i (IsV .non)).P v B2
  rw [List.getD_eq_getElem?_getD, hp]
  exact k2
theorem getD_map {α : Type} {f : α → Pr} {l : List α} {i : Nat} (h : i < l.length) : (l.map f).getD i (IsV .non) = f l[i] := by
  rw [List.getD_eq_getElem?_getD, List.getElem?_map, List.getElem?_eq_getElem h]
  rfl
end
/-! ### promises of defs -/
def Rfr (K : PySem.W.Frag) : List Pr → Pr → Prop := fun ps p => ∃ f : Fr, FrOk f ∧ ps = [frP K f] ∧ p = IsV (.bl true)
def Rpw (K : PySem.W.Frag) : List Pr → Pr → Prop := fun ps p => ∃ (r : Rk) (x : Dv × Int), r.Ok ∧ x.1.Of r ∧ 0 < x.2 ∧ ps = [pwP K x] ∧ p = IsV (.bl true)
def Rmo (K : PySem.W.Frag) : List Pr → Pr → Prop := fun ps p => ∃ (r : Rk) (m : Mo), r.Ok ∧ MoOk r m ∧ ps = [moP K m] ∧ p = IsV (.bl true)
def Rtm (K : PySem.W.Frag) : List Pr → Pr → Prop := fun ps p => ∃ (r : Rk) (t : Mo × Fr), r.Ok ∧ MoOk r t.1 ∧ FrOk t.2 ∧ t.2.1 ≠ 0 ∧ ps = [tmP K t] ∧ p = IsV (.bl true)
def Rpo (K : PySem.W.Frag) (q : Pr) : List Pr → Pr → Prop := fun ps p => ∃ (r : Rk) (c : Po), r.Ok ∧ PoOk r c ∧ ps = [poP K c] ∧ p = q
end Nd
namespace Nd
set_option autoImplicit false
open PySem PySem.Spec PySem.W PySem.Calls PyProof.Rows L2 My Evl
theorem each_zip {R : Value → PyData → Prop} : ∀ {vs : List Value} {ks : List PyData} {xs : List V}, EachIs R vs ks → ks.length = xs.length → EachIs (fun v (p : V × PyData) => R v p.2) vs (xs.zip ks)
  | _, _, [], .nil, _ => .nil
  | _, _, [], .cons _ _, h => by simp at h
  | _, _, _ :: _, .nil, h => by simp at h
  | _, _, _ :: _, .cons a b, h => .cons a (each_zip b (by simpa using h))
section
variable {X : Cx} {pins : List (Addr × Obj)} {σ : L2.St} {H : Hp} {s : Shared} {A : Around} {E : Value → Shared → Prop}
/-- sorted(d) of a dict by tuples -/
theorem sorted_dict0 {d : Addr} {ks : List PyData} {as : List Addr} {Q : VK} (I : Inv X pins σ H s) (hh : A.in1.handled = none) {o : Obj} {es : Array DictEntry} {ep : Nat} (lo : (d == sysModules) = false)
    (ho : s.heap.get? d = some o) (ex : o.ExactDict) (hd : o.data = .dict es ep) (hes : es.toList.map (·.key) = as.map Value.ref) (hz : as.length ≤ sizeLine)
    (hl : ks.length = as.length) (hal : AllAlike ks) (hsk : Sortable ks) (hu : ∀ d, d ∈ ks → A.units + 2 + d.depth < cLine) (dp : DpAll X.K H (as.map V.ref) ks)
    (q : ∀ a, H a = none → Q (.ref a) (upd H a (.lst (byKey (as.map V.ref) ks)))) :
    wpAny (model X.prog X.w) A (call (.builtin "sorted") [.ref d]) (EP X pins σ Q) E s := by
  have hsz : es.size = as.length := by simpa using congrArg List.length hes
  refine call_function_entry_kw kind_sorted plain_sorted entry_sorted (args_sorted1 _) ?_
  unfold Builtin.«sorted»
  refine wpAny_bind (m := checkCount "sorted" 1 1 _) (wpAny_pure ?_)
  refine wpAny_bind (kdu_collect (A := A.in1) (KdlSrc.rawDict (es := es) (ep := ep) lo) hh ⟨o, ho, ex, hd⟩ (by omega) fun h1 tk acc hk hacc => ?_)
  have hA : acc.toList = as.map Value.ref := by
    apply List.ext_getElem?
    intro i
    by_cases hi : i < as.length
    · have hi2 : i < acc.size := by rw [hacc.1]; omega
      obtain ⟨hi3, e⟩ := hacc.2 i acc[i] (by rw [Array.getElem?_eq_getElem hi2])
      have e2 : (es.toList.map (·.key))[i]? = some es[i].key := by
        rw [List.getElem?_map, List.getElem?_eq_getElem (by simpa using hi3)]
        simp
      rw [← hes, e2, ← e]
      simp [hi2]
    · rw [List.getElem?_eq_none (by rw [Array.length_toList, hacc.1]; omega), List.getElem?_eq_none (by rw [List.length_map]; omega)]
  rw [hA]
  refine wpAny_bind (wpAny_newList ?_ (by rw [List.length_map]; exact hz))
  have I1 := I.kept (t' := tk) (h' := h1) hk
  have I2 := I1.kept (t' := tk) (h' := h1.push (seqObj "list" (as.map Value.ref).toArray 0)) (fun c o e => Heap.get?_push_of_some _ e)
  have at1 : (h1.push (seqObj "list" (as.map Value.ref).toArray 0)).get? h1.objs.size = some (seqObj "list" (as.map Value.ref).toArray 0) := Heap.get?_push_size _ rfl
  have hl' : ks.length = (as.map V.ref).length := by rw [List.length_map]; exact hl
  have vl : (byKey (as.map V.ref) ks).length ≤ sizeLine := by
    show (((as.map V.ref).zip ks).mergeSort (dataLe false (·.2)) |>.map (·.1)).length ≤ _
    rw [List.length_map, List.length_mergeSort, List.length_zip, List.length_map]
    omega
  have ev : EachIs (fun u d => ∃ bs, Reads (sortingHeap (h1.push (seqObj "list" (as.map Value.ref).toArray 0)) h1.objs.size (as.map Value.ref)) u d bs) (as.map Value.ref) ks :=
    (dps_each I1 (My.vals_refs as) dp).mono fun u d ⟨bs, r⟩ => ⟨bs, Reads.keeps (fun b o e => sortingHeap_old (Nat.ne_of_lt (Heap.lt_size e)) (Heap.get?_push_of_some _ e)) r⟩
  have ez := zip_snd hl'
  have er := each_zip ev hl'
  have out := sortVals_data (enc := fun p : V × PyData => p.2) false (vals_each (h := s.heap) (My.vals_refs as) hl') er (by rw [ez]; exact hal)
  obtain ⟨c, at3⟩ := sortedHeap_at (vs := as.map Value.ref) (out := (sortVals (dataKind (sortingHeap (h1.push (seqObj "list" (as.map Value.ref).toArray 0)) h1.objs.size (as.map Value.ref)) (((as.map V.ref).zip ks).map fun p => p.2)) false (as.map Value.ref) (as.map Value.ref)).toArray) at1
  refine wpAny_bind (wpAny_holding (wpAny_call_entry_kw slot_list_sort ⟨_, at1, rfl⟩ entry_list_sort ?_ (args_list_sort _)))
  refine list_sort_vals (s := { s with heap := h1.push (seqObj "list" (as.map Value.ref).toArray 0), toks := tk }) (κ := dataKind (sortingHeap (h1.push (seqObj "list" (as.map Value.ref).toArray 0)) h1.objs.size (as.map Value.ref)) (((as.map V.ref).zip ks).map fun p => p.2)) at1 ?_ (by rw [List.length_map]; exact hz) ?_
  · rw [ez]
    exact SortsAt.data (s := { s with heap := sortingHeap (h1.push (seqObj "list" (as.map Value.ref).toArray 0)) h1.objs.size (as.map Value.ref), toks := tk }) ev hal hsk hu
  · refine ⟨_, rfl, wpAny_pure ⟨_, rfl, .ref h1.objs.size, _, free2 (b := h1.objs.size + 1) (t' := tk) I2 (Fre.of I1 (Nat.le_refl _)) (Fre.of I1 (Nat.le_succ h1.objs.size)) (I1.hok.fresh (Nat.le_refl _)) (I1.hok.fresh (Nat.le_succ _)) (fun x o n1 n2 e => (sortedHeap_old n1 (Heap.lt_size e)).trans e) ⟨vl, _, c, each_vals out, at3⟩, rfl, q _ (I1.hok.fresh (Nat.le_refl _))⟩⟩
end
/-- sorted(e), e a dict by tuples -/
def tSortD (K : PySem.W.Frag) (te : TE) : TE := fun σ H Q => te σ H fun v H1 => ∃ d kvs, v = .ref d ∧ Rd H1 d (.dT kvs) ∧ ∀ as : List Addr, as.length = kvs.length → (∀ (i : Nat) (p : List Key × V), kvs[i]? = some p → ∃ a, as[i]? = some a ∧ H1 a = some (.tup (p.1.map kV))) →
  ∃ ks, ks.length = as.length ∧ AllAlike ks ∧ Sortable ks ∧ (∀ d, d ∈ ks → d.depth ≤ 50) ∧ DpAll K H1 (as.map V.ref) ks ∧ ∀ a, H1 a = none → Q (.ref a) (upd H1 a (.lst (byKey (as.map V.ref) ks)))
theorem pe_sortD {X : Cx} {te : TE} {e : Expr} {p pos : Pos} {k : Nat} (hr : Room k X.A) (hg : Gl X "sorted") (hm : X.mg "sorted" = none) (he : PE X e te)
    (na : starEach [e] X.env = (false, eval e X.env) :: starEach [] X.env := by rfl) : PE X (.Call (.Name "sorted" p) [e] [] pos) (tSortD X.K te) := by
  refine ⟨fun pins s σ H Q I h => ?_⟩
  refine PyProof.Rows.Call_ (ld_blt I hg hm (u := .builtin "sorted") (by decide +kernel) ?_)
  refine PyProof.Rows.callWith_builtin1 (PyProof.Rows.args_cons (thn (he.run pins s σ H _ I h) fun u s1 ⟨v, H1, I1, r1, q1⟩ => PyProof.Rows.args_nil ?_) na) na rfl
  obtain ⟨d, kvs, rfl, hd, hq⟩ := q1
  obtain rfl : u = Value.ref d := r1
  have un := hr.un
  have ok : ObjOk X.prog X.w H1 s1.heap d (.dT kvs) := by
    rcases hd with hd | ⟨o, hd⟩
    · exact I1.hok d _ hd
    · exact (I1.hok d _ hd).2
  obtain ⟨z, lo, xs, pr, o, es, ep, e1, e2, e3, e4, e5⟩ := ok
  have hlen := My.paired_len pr
  obtain ⟨ks, a1, a2, a3, a4, a5, a6⟩ := hq (xs.map (·.2.1)) (by rw [List.length_map]; exact hlen.symm) fun i p hp => by
    obtain ⟨y, hy, r⟩ := My.paired_get pr hp
    exact ⟨y.2.1, by rw [List.getElem?_map, hy]; rfl, by rw [← r.1] at *; exact r.2.1⟩
  exact sorted_dict0 (E := X.xe) I1 (show X.A.in1.handled = none from hr.hd) lo e1 e2 e3 (as := xs.map (·.2.1)) (by rw [e4, List.map_map, List.map_map]; rfl) (by rw [List.length_map]; omega) a1 a2 a3 (fun d hd => by
    have := a4 d hd
    omega) a5 a6
end Nd
namespace Nd
set_option autoImplicit false
open PySem PySem.W L2 My Evl
/-! ### derivatives in order, as Python compares -/
def leD (u v : Dv) : Bool := !dataLt v.D u.D
def srtD (us : List Dv) : List Dv := us.mergeSort leD
def dvs (p : Po) : List Dv := p.flatMap fun t => t.1.map (·.1)
def dvsIn (p : Po) : List Dv := srtD (dedD (dvs p))
theorem mem_in {p : Po} {u : Dv} : u ∈ dvsIn p ↔ u ∈ dvs p := by
  unfold dvsIn srtD
  rw [(List.mergeSort_perm _ _).mem_iff, ded_mem]
theorem byKey_dv {H : Hp} {xs : List V} {us : List Dv} (h : AllP (us.map DvP) xs H) : AllP ((srtD us).map DvP) (byKey xs (us.map Dv.D)) H := by
  have hl : xs.length = us.length := by
    have := h.len
    rw [List.length_map] at this
    exact this
  have e1 : xs.zip (us.map Dv.D) = (xs.zip us).map fun p => (p.1, p.2.D) := zip_pairs _ hl
  have e2 : ((xs.zip us).mergeSort fun p q => leD p.2 q.2).map (fun p => (p.1, p.2.D)) = (xs.zip (us.map Dv.D)).mergeSort (dataLe false (·.2)) := by
    rw [e1]
    refine List.map_mergeSort fun p _ q _ => ?_
    rw [dataLe_eq]
    rfl
  have e3 : ((xs.zip us).mergeSort fun p q => leD p.2 q.2).map (·.2) = srtD us := by
    have := List.map_mergeSort (r := fun p q : V × Dv => leD p.2 q.2) (s := leD) (f := fun p : V × Dv => p.2) (l := xs.zip us) (fun _ _ _ _ => rfl)
    rw [this, List.map_snd_zip (by omega)]
    rfl
  have e4 : byKey xs (us.map Dv.D) = ((xs.zip us).mergeSort fun p q => leD p.2 q.2).map (·.1) := by
    unfold byKey
    rw [← e2, List.map_map]
    rfl
  rw [e4, ← e3]
  exact AllP.of DvP fun p hp => AllP.zip DvP h p ((List.mergeSort_perm _ _).mem_iff.mp hp)
/-! ### derived of -/
def wayB (u v : Dv) : Bool := decide (u.n = v.n) && (decide (u.i ≤ v.i) && decide (u.j ≤ v.j))
def wayP (K : PySem.W.Frag) (u v : Dv) : Pr := if wayB u v = true then TuP K [IsV (.int (v.i - u.i)), IsV (.int (v.j - u.j))] else IsV .non
def fstI (c : Ch) (u : Dv) : Option Nat := c.findIdx? fun x => wayB x.1 u
def optV : Option Nat → V
  | none => .non
  | some k => .int (k : Nat)
def Rway (K : PySem.W.Frag) : List Pr → Pr → Prop := fun ps p => ∃ u v : Dv, ps = [DvP u, DvP v] ∧ p = wayP K u v
def Rfst (K : PySem.W.Frag) : List Pr → Pr → Prop := fun ps p => ∃ (c : Ch) (u : Dv), ps = [chP K c, DvP u] ∧ p = IsV (optV (fstI c u))
def Rref (K : PySem.W.Frag) : List Pr → Pr → Prop := fun ps p => ∃ (w : Str) (n : Nat), ps = [IsV (.str w), LqP K (List.replicate n (IsV (.bl true)))] ∧ p = IsV .non
def Rdin (K : PySem.W.Frag) : List Pr → Pr → Prop := fun ps p => ∃ c : Po, (dvs c).length ≤ 1000 ∧ ps = [poP K c] ∧ p = TuP K ((dvsIn c).map DvP)
section
variable {te ta tb : TE} {σ : L2.St} {B H : Hp} {ps : List Pr} {K : PySem.W.Frag} {t : TA}
theorem ev_notT (h : EvP ta σ B (TuP K ps)) : Ev (tOp (fun x y H Q => y = V.non ∧ Q (.bl (!decide (x = V.non))) H) ta (tC .non)) σ B (.bl true) := fun H1 a Q k =>
  h H1 a _ fun v B2 H2 g x => by
    obtain ⟨p, xs, rfl, _, _⟩ := x
    exact ⟨rfl, k H2 g.a⟩
theorem ev_notV0 {v : V} (h : Ev ta σ B v) : Ev (tOp (fun x y H Q => y = V.non ∧ Q (.bl (!decide (x = V.non))) H) ta (tC .non)) σ B (.bl (!decide (v = V.non))) := fun H1 a Q k =>
  h H1 a _ fun H2 e2 => ⟨rfl, k H2 e2⟩
theorem ev_way {u v : Dv} (h : EvP ta σ B (wayP K u v)) : Ev (tOp (fun x y H Q => y = V.non ∧ Q (.bl (!decide (x = V.non))) H) ta (tC .non)) σ B (.bl (wayB u v)) := by
  unfold wayP at h
  cases hw : wayB u v with
  | true =>
    rw [hw, if_pos rfl] at h
    exact ev_notT h
  | false =>
    rw [hw, if_neg Bool.false_ne_true] at h
    exact ev_notN h
end
end Nd
namespace Nd
set_option autoImplicit false
open PySem PySem.Spec PyProof.Rows L2 My Evl
theorem lay_store {xs : List NV} {us : List Value} {k : NestedKey} {a : Addr} {v : V} {u : Value} (r : Vals (xs.map (·.2.2)) us) (rv : RelV v u) :
    ∃ ws, Vals ((putN xs k a v).map (·.2.2)) ws ∧ storedH (lay xs us) k a u = lay (putN xs k a v) ws := by
  obtain ⟨h1, _, _⟩ := at_lay (k := k) r
  unfold storedH putN
  cases hh : hasN xs k with
  | true =>
    rw [hh] at h1
    obtain ⟨y, hy⟩ := Option.isSome_iff_exists.mp h1
    obtain ⟨ws, w1, w2⟩ := lay_put (k := k) rv r
    rw [if_pos rfl]
    exact ⟨ws, w1, by rw [← w2]; simp [hy]⟩
  | false =>
    rw [hh] at h1
    have hy : atKey (lay xs us) k = none := by simpa using h1
    rw [if_neg Bool.false_ne_true]
    refine ⟨us ++ [u], ?_, ?_⟩
    · rw [List.map_append]
      exact My.vals_app r (.cons rv .nil)
    · rw [lay_app (vlen r)]
      simp [hy, lay]
section
variable {X : Cx} {pins : List (Addr × Obj)} {σ : L2.St} {H : Hp} {s : Shared}
/-- d[y] = v, d a dict by nested keys -/
def sNPut (P : Program) (w : World) (K : PySem.W.Frag) (td ty tv : TE) : TS := fun D σ H => tv σ H fun v H1 => td σ H1 fun x H2 => ty σ H2 fun y H3 => ∃ (d a : Addr) (xs : List NV) (k : NestedKey), x = .ref d ∧ y = .ref a ∧ H3 d = some (DN P w d xs) ∧
  KeysOk K H3 xs ∧ KeyAt K H3 a k ∧ xs.length < 100000 ∧ D.nx σ (upd H3 d (DN P w d (putN xs k a v)))
theorem put_len {xs : List NV} {k : NestedKey} {a : Addr} {v : V} : (putN xs k a v).length ≤ xs.length + 1 := by
  unfold putN
  split
  · rw [List.length_map]
    exact Nat.le_succ _
  · rw [List.length_append]
    exact Nat.le_refl _
theorem ps_dputN {o i value : Expr} {td ty tv : TE} {pos pos' : Pos} (hu : X.A.units + 9 < cLine) (ho : PE X o td) (hi : PE X i ty) (hv : PE X value tv) (hs : swapsWith value (some (.Subscript o i pos')) pos.line X.env = pure false) :
    PS X (.Assign [.Subscript o i pos'] value pos) (sNPut X.prog X.w X.K td ty tv) := by
  refine ⟨fun pins s σ H D I h => ?_⟩
  refine wpAny_Assign_Subscript (thn (hv.run pins s σ H _ I h) fun r s1 ⟨v, H1, I1, rv, q1⟩ => thn (ho.run pins s1 σ H1 _ I1 q1) fun u s2 ⟨x, H2, I2, rx, q2⟩ => thn (hi.run pins s2 σ H2 _ I2 q2) fun iv s3 ⟨y, H3, I3, ry, d, a, xs, k, ex, ey, hd, hk, hkey, hz, q3⟩ => ?_) hs
  subst ex ey
  obtain rfl : u = Value.ref d := rx
  obtain rfl : iv = Value.ref a := ry
  obtain ⟨z1, z2, us, rr, m⟩ := dn_of I3 hd hk
  have big : (100000 : Nat) ≤ sizeLine := by decide
  refine wpAny_setItem_heap (knd := nestedKind X.prog X.w) (hsz := by rw [lay_len (vlen rr)]; omega) (by show X.A.units + 1 + 8 < cLine; omega) (key_is I3 hkey) m fun h' m' sb => ?_
  obtain ⟨ws, w1, w2⟩ := lay_store (k := k) (a := a) rr rv
  rw [w2] at m'
  have he : ∃ q, h'.get? d = some q := by
    obtain ⟨q, _, _, hq, _⟩ := m'
    exact ⟨q, hq⟩
  have := put_len (xs := xs) (k := k) (a := a) (v := v)
  exact ⟨σ, _, I3.write (e := d) (by rw [hd]; trivial) (.inl rfl) (fun b o hb e => (sb.2 b hb).trans e) he (dn_ok (dn_to z1 (by omega) w1 m')), q3⟩
/-- sorted(e), e a dict by nested keys -/
def tSortN (P : Program) (w : World) (K : PySem.W.Frag) (te : TE) : TE := fun σ H Q => te σ H fun v H1 => ∃ (d : Addr) (xs : List NV) (ks : List PyData), v = .ref d ∧ H1 d = some (DN P w d xs) ∧ ks.length = xs.length ∧ PySem.W.AllAlike ks ∧ PySem.W.Sortable ks ∧ (∀ e, e ∈ ks → e.depth ≤ 50) ∧
  DpAll K H1 (xs.map fun x => V.ref x.2.1) ks ∧ ∀ a, H1 a = none → Q (.ref a) (upd H1 a (.lst (byKey (xs.map fun x => V.ref x.2.1) ks)))
theorem lay_ref {P : Program} {w : World} : ∀ {xs : List NV} {us : List Value}, xs.length = us.length → ((lay xs us).map (entryOfKey (nestedKind P w))).map (·.key) = (xs.map (·.2.1)).map Value.ref
  | [], [], _ => rfl
  | _ :: _, _ :: _, h => congrArg (_ :: ·) (lay_ref (by simpa using h))
theorem pe_sortN {te : TE} {e : Expr} {p pos : Pos} {k : Nat} (hr : Room k X.A) (hg : Gl X "sorted") (hm : X.mg "sorted" = none) (he : PE X e te)
    (na : starEach [e] X.env = (false, eval e X.env) :: starEach [] X.env := by rfl) : PE X (.Call (.Name "sorted" p) [e] [] pos) (tSortN X.prog X.w X.K te) := by
  refine ⟨fun pins s σ H Q I h => ?_⟩
  refine PyProof.Rows.Call_ (ld_blt I hg hm (u := .builtin "sorted") (by decide +kernel) ?_)
  refine PyProof.Rows.callWith_builtin1 (PyProof.Rows.args_cons (thn (he.run pins s σ H _ I h) fun u s1 ⟨v, H1, I1, r1, q1⟩ => PyProof.Rows.args_nil ?_) na) na rfl
  obtain ⟨d, xs, ks, rfl, hd, a1, a2, a3, a4, a5, a6⟩ := q1
  obtain rfl : u = Value.ref d := r1
  have un := hr.un
  obtain ⟨z1, z2, us, o, es, ep, rr, e1, e2, e3, e4, e5⟩ := (I1.hok d _ hd).1
  have em : (xs.map fun x => V.ref x.2.1) = (xs.map (·.2.1)).map V.ref := by rw [List.map_map]; rfl
  rw [em] at a5
  simp only [em] at a6
  exact sorted_dict0 (E := X.xe) I1 (show X.A.in1.handled = none from hr.hd) z1 e1 e2 e3 (as := xs.map (·.2.1)) (by rw [e4, lay_ref (vlen rr)]) (by rw [List.length_map]; exact z2) (by rw [a1, List.length_map]) a2 a3 (fun d hd => by
    have := a4 d hd
    omega) a5 a6
end
/-! ### derivatives as keys -/
theorem nk_dv (u : Dv) : nk u.D = .tup [.text u.n, .num u.i, .num u.j] := by simp [Dv.D, nk, nkAll]
theorem nk_inj {u v : Dv} (h : nk u.D = nk v.D) : u = v := by
  rw [nk_dv, nk_dv] at h
  injection h with h
  injection h with h1 h
  injection h with h2 h
  injection h with h3 _
  injection h1 with h1
  injection h2 with h2
  injection h3 with h3
  cases u
  cases v
  simp_all
structure KeyL (us : List Dv) (xs : List NV) (B : Hp) : Prop where
  keys : xs.map (·.1) = us.map fun u => nk u.D
  refs : AllP (us.map DvP) (xs.map fun x => V.ref x.2.1) B
theorem KeyL.has {us : List Dv} {xs : List NV} {B : Hp} (h : KeyL us xs B) (u : Dv) : hasN xs (nk u.D) = decide (u ∈ us) := by
  have e : hasN xs (nk u.D) = (xs.map (·.1)).any fun k => decide (k = nk u.D) := by
    unfold hasN
    rw [List.any_map]
    rfl
  rw [e, h.keys, List.any_map]
  by_cases hm : u ∈ us
  · rw [decide_eq_true hm, List.any_eq_true]
    exact ⟨u, hm, by simp⟩
  · rw [decide_eq_false hm, List.any_eq_false]
    intro v hv
    simp only [Function.comp, decide_eq_true_eq]
    intro z
    exact hm (nk_inj z ▸ hv)
theorem KeyL.put {us : List Dv} {xs : List NV} {B : Hp} {u : Dv} {a : Addr} {v : V} (h : KeyL us xs B) (ha : (DvP u).P (.ref a) B) : KeyL (addD us u) (putN xs (nk u.D) a v) B := by
  unfold addD putN
  rw [h.has u]
  by_cases hm : u ∈ us
  · rw [if_pos hm, decide_eq_true hm, if_pos rfl]
    refine ⟨?_, ?_⟩
    · rw [← h.keys, List.map_map]
      refine List.map_congr_left fun x _ => ?_
      show (if x.1 = nk u.D then (x.1, x.2.1, v) else x).1 = x.1
      split <;> rfl
    · have : ((xs.map fun x => if x.1 = nk u.D then (x.1, x.2.1, v) else x).map fun x => V.ref x.2.1) = xs.map fun x => V.ref x.2.1 := by
        rw [List.map_map]
        refine List.map_congr_left fun x _ => ?_
        show V.ref (if x.1 = nk u.D then (x.1, x.2.1, v) else x).2.1 = V.ref x.2.1
        split <;> rfl
      rw [this]
      exact h.refs
  · rw [if_neg hm, decide_eq_false hm, if_neg Bool.false_ne_true]
    refine ⟨?_, ?_⟩
    · rw [List.map_append, List.map_append, h.keys]
      rfl
    · rw [List.map_append, List.map_append]
      exact h.refs.app ⟨ha, trivial⟩
theorem deep_nk (u : Dv) : (nk u.D).depth ≤ 8 := by
  rw [nk_dv]
  simp [NestedKey.depth, NestedKey.depthAll]
theorem key_dv {K : PySem.W.Frag} {H : Hp} {u : Dv} {a : Addr} (h : (DvP u).P (.ref a) H) : KeyAt K H a (nk u.D) := ⟨u.D, dv_d h, by simp [Dv.D, keyish, keyishAll], rfl, deep_nk u⟩
theorem KeyL.ok {K : PySem.W.Frag} {us : List Dv} {xs : List NV} {B H : Hp} (h : KeyL us xs B) (e : Evl.Ex B H) : KeysOk K H xs := fun x hx => by
  obtain ⟨i, hi, rfl⟩ := List.mem_iff_getElem.mp hx
  have hl : xs.length = us.length := by simpa using congrArg List.length h.keys
  have h1 := h.refs.m e
  obtain ⟨p, hp, k⟩ := h1.get (i := i) (v := V.ref xs[i].2.1) (by rw [List.getElem?_map, List.getElem?_eq_getElem hi]; rfl)
  rw [List.getElem?_map, List.getElem?_eq_getElem (by omega : i < us.length)] at hp
  obtain rfl : DvP us[i] = p := Option.some.inj hp
  have hk : xs[i].1 = nk us[i].D := by
    have := congrArg (fun l => l[i]?) h.keys
    simp only [List.getElem?_map, List.getElem?_eq_getElem hi, List.getElem?_eq_getElem (by omega : i < us.length)] at this
    exact Option.some.inj this
  rw [hk]
  exact key_dv k
/-- a for over a tuple in a slot: what is known stays as it is -/
theorem ps_forV {i : Nat} {v : V} {σ : L2.St} {B H : Hp} {ps : List Pr} {K : PySem.W.Frag} {D : Ends} {g : TG} {tbd : TS} (a : Evl.Ex B H) (hi : σ[i]? = some (some v)) (h : (TuP K ps).P v B)
    (k : ∃ Pv : Nat → L2.St → Hp → Prop, Pv 0 σ H ∧ (∀ j σ' H', j ≤ ps.length → Pv j σ' H' → Evl.Ex B H') ∧
      (∀ j v' σ' H', j < ps.length → Pv j σ' H' → (ps.getD j (IsV .non)).P v' B → g v' σ' H' fun σ2 H2 => tbd { D with nx := Pv (j + 1), ct := Pv (j + 1), bk := D.nx } σ2 H2) ∧ ∀ σ' H', Pv ps.length σ' H' → D.nx σ' H') :
    tFor (iTup K (tVar i)) g tbd D σ H := by
  obtain ⟨l, xs, rfl, hx, al⟩ := h
  obtain ⟨Pv, h0, hE, hs, hd⟩ := k
  refine ⟨_, hi, l, rfl, ⟨xs, ex_t a hx⟩, ?_⟩
  have w := walk_tup (K := K) (a := l) (xs := xs)
  rw [al.len] at w
  refine for_it w Pv h0 (fun j σ' H' hj pv => ex_t (hE j σ' H' hj pv) hx) (fun j x σ' H' H2 hj pv y => ?_) hd
  obtain ⟨rfl, y2⟩ := y
  obtain ⟨p, hp, k2⟩ := al.get y2
  refine hs j x σ' _ hj pv ?_
  rw [List.getD_eq_getElem?_getD, hp]
  exact k2
theorem dvs_take {c : Po} {i : Nat} (hi : i < c.length) : dvs (c.take (i + 1)) = dvs (c.take i) ++ c[i].1.map (·.1) := by
  unfold dvs
  rw [List.take_add_one, List.getElem?_eq_getElem hi, List.flatMap_append]
  simp
theorem dvs_le {c : Po} {i : Nat} (hi : i < c.length) (j : Nat) : (dvs (c.take i) ++ (c[i].1.take j).map (·.1)).length ≤ (dvs c).length := by
  have h1 : (dvs (c.take i) ++ (c[i].1.take j).map (·.1)).length ≤ (dvs (c.take (i + 1))).length := by
    rw [dvs_take hi, List.length_append, List.length_append, List.length_map, List.length_map, List.length_take]
    omega
  have h2 : (dvs (c.take (i + 1))).length ≤ (dvs c).length := by
    have : dvs c = dvs (c.take (i + 1)) ++ dvs (c.drop (i + 1)) := by
      unfold dvs
      rw [← List.flatMap_append, List.take_append_drop]
    rw [this, List.length_append]
    exact Nat.le_add_right _ _
  omega
theorem fold_len : ∀ (us ds : List Dv), (us.foldl addD ds).length ≤ ds.length + us.length
  | [], ds => Nat.le_refl _
  | u :: us, ds => by
    have h := fold_len us (addD ds u)
    have : (addD ds u).length ≤ ds.length + 1 := by
      unfold addD
      split
      · exact Nat.le_succ _
      · rw [List.length_append]
        exact Nat.le_refl _
    show (us.foldl addD (addD ds u)).length ≤ _
    rw [List.length_cons]
    omega
theorem KeyL.len {us : List Dv} {xs : List NV} {B : Hp} (h : KeyL us xs B) : xs.length = us.length := by simpa using congrArg List.length h.keys
theorem dps_dv {K : PySem.W.Frag} {H : Hp} : ∀ {us : List Dv} {vs : List V}, AllP (us.map DvP) vs H → DpAll K H vs (us.map Dv.D)
  | [], [], _ => .nil
  | _ :: _, _ :: _, h => .cons (dv_d h.1) (dps_dv h.2)
end Nd
namespace Nd
set_option autoImplicit false
open PySem PySem.W L2 My Evl
/-! ### a list under way: made at H0, filled by append and extend -/
structure AccAt (B H0 : Hp) (d : Addr) (ps : List Pr) (Bi H : Hp) : Prop where
  g : Gr B H0 Bi (wo d H)
  at_ : ∃ xs, H d = some (.lst xs) ∧ AllP ps xs Bi
section
variable {B H0 Bi B2 H H2 : Hp} {d : Addr} {ps qs : List Pr} {p : Pr} {K : PySem.W.Frag} {σ : L2.St} {D : Ends} {te : TE} {i : Nat}
theorem acc_new (e : Ex B H) (hd : H d = none) : AccAt B H d [] B (upd H d (.lst [])) := ⟨by rw [wo_new hd]; exact Gr.refl e, [], upd_same, trivial⟩
theorem AccAt.ex (A : AccAt B H0 d ps Bi H) : Ex Bi H := A.g.c.trans wo_ex
theorem AccAt.on (A : AccAt B H0 d ps Bi H) : H d ≠ none := by
  obtain ⟨xs, h, _⟩ := A.at_
  rw [h]
  exact fun z => nomatch z
theorem AccAt.step (A : AccAt B H0 d ps Bi H) (k : Gr Bi H B2 H2) : AccAt B H0 d ps B2 H2 := by
  obtain ⟨xs, h, al⟩ := A.at_
  exact ⟨A.g.side A.on k, xs, k.a _ _ h, al.m k.b⟩
theorem AccAt.fin (A : AccAt B H0 d ps Bi H) (h0 : H0 d = none) : ∃ B', Gr B H0 B' H ∧ (LsP ps).P (.ref d) B' := by
  obtain ⟨xs, hd, al⟩ := A.at_
  have hB : Bi d = none := wo_none A.g.c
  refine ⟨upd Bi d (.lst xs), ⟨A.g.a.trans wo_ex, A.g.b.trans (Ex.new hB), fun b o e => ?_, fun x hb hh => ?_, fun z b qs q => ?_⟩, d, xs, rfl, upd_same, al.m (Ex.new hB)⟩
  · by_cases n : b = d
    · subst n
      rw [upd_same] at e
      rw [hd]
      exact e
    · rw [upd_ne n] at e
      exact A.g.c.trans wo_ex _ _ e
  · have n : x ≠ d := fun z => hh (by rw [z]; exact h0)
    rw [upd_ne n]
    exact A.g.d x hb hh
  · by_cases n : b = d
    · subst n
      rw [upd_same] at q
      cases q
    · rw [upd_ne n] at q
      exact A.g.e z b qs q
/-- told.append(e) -/
theorem ps_app (hs : σ[i]? = some (some (.ref d))) (A : AccAt B H0 d ps Bi H) (he : EvP te σ Bi p) (hl : ps.length < 100000) (k : ∀ B2 H2, Ex Bi B2 → AccAt B H0 d (ps ++ [p]) B2 H2 → D.nx σ H2) :
    tDrop (tBM K "list" rAppend (tVar i) (tCons te tNil)) D σ H := by
  obtain ⟨xs, hd, al⟩ := A.at_
  refine ⟨.ref d, hs, ?_, ?_⟩
  · exact .inl ⟨rfl, xs, sq_of hd⟩
  refine he H A.ex _ fun v B2 H2 g pv => ?_
  have hd2 := g.a _ _ hd
  have := al.len
  refine ⟨d, xs, v, rfl, rfl, hd2, sz_lt (by omega), k B2 _ g.b ⟨?_, xs ++ [v], upd_same, (al.m g.b).app ⟨pv, trivial⟩⟩⟩
  rw [wo_upd]
  exact A.g.side A.on g
end
section
variable {B H0 Bi H : Hp} {d : Addr} {ps qs : List Pr} {K : PySem.W.Frag} {σ : L2.St} {D : Ends} {te : TE} {i : Nat}
/-- told.extend(e) -/
theorem ps_ext (hs : σ[i]? = some (some (.ref d))) (A : AccAt B H0 d ps Bi H) (he : EvP te σ Bi (LsP qs)) (hl : ps.length + qs.length ≤ 100000) (k : ∀ B2 H2, Ex Bi B2 → AccAt B H0 d (ps ++ qs) B2 H2 → D.nx σ H2) :
    tDrop (tBM K "list" rExtend (tVar i) (tCons te tNil)) D σ H := by
  obtain ⟨xs, hd, al⟩ := A.at_
  refine ⟨.ref d, hs, .inl ⟨rfl, xs, sq_of hd⟩, ?_⟩
  refine he H A.ex _ fun v B2 H2 g pv => ?_
  obtain ⟨b, zs, rfl, hb, az⟩ := pv
  have hd2 := g.a _ _ hd
  have l1 := al.len
  have l2 := az.len
  have big : (100000 : Nat) ≤ sizeLine := by decide
  refine ⟨d, b, xs, zs, rfl, rfl, hd2, g.c _ _ hb, by omega, k B2 _ g.b ⟨?_, xs ++ zs, upd_same, (al.m g.b).app az⟩⟩
  rw [wo_upd]
  exact A.g.side A.on g
end
/-- tuple(list) -/
theorem p_tupOf {te : TE} {σ : L2.St} {B : Hp} {ps : List Pr} {K : PySem.W.Frag} (h : EvP te σ B (LqP K ps)) :
    EvP (tCB (fun xs H Q => ∃ p ys, xs = [.ref p] ∧ ((SqL K H p ys ∧ ∀ l, H l = none → Q (.ref l) (upd H l (.tup ys))) ∨ (SqT K H p ys ∧ Q (.ref p) H))) (tCons te tNil)) σ B (TuP K ps) := fun H1 a Q k => h H1 a _ fun v B2 H2 g x => by
  obtain ⟨l, xs, rfl, hl, al⟩ := x
  exact ⟨l, xs, rfl, .inl ⟨ex_l g.c hl, fun m hm => k _ _ _ (g.trans (Gr.new (.tup xs) g.c hm)) ⟨m, xs, rfl, st_of upd_same, al.m (Ex.new (fresh_back g.c hm))⟩⟩⟩
/-- max and min of a list of numbers -/
def maxI : Int → List Int → Int
  | m, [] => m
  | m, x :: xs => maxI (if m ≤ x then x else m) xs
def minI : Int → List Int → Int
  | m, [] => m
  | m, x :: xs => minI (if x ≤ m then x else m) xs
theorem maxI_ge : ∀ (xs : List Int) (m : Int), m ≤ maxI m xs ∧ ∀ x ∈ xs, x ≤ maxI m xs
  | [], m => ⟨Int.le_refl _, fun x h => by simp at h⟩
  | y :: xs, m => by
    obtain ⟨h1, h2⟩ := maxI_ge xs (if m ≤ y then y else m)
    show m ≤ maxI (if m ≤ y then y else m) xs ∧ ∀ x ∈ y :: xs, x ≤ maxI (if m ≤ y then y else m) xs
    refine ⟨by split at h1 <;> (rename_i c; first | omega | (rw [if_pos c] at *; omega) | (rw [if_neg c] at *; omega)), fun x hx => ?_⟩
    rcases List.mem_cons.mp hx with rfl | hx
    · by_cases c : m ≤ x
      · rw [if_pos c] at h1 ⊢
        exact h1
      · rw [if_neg c] at h1 ⊢
        omega
    · exact h2 x hx
theorem maxI_mem : ∀ (xs : List Int) (m : Int), maxI m xs ∈ m :: xs
  | [], m => List.mem_cons_self
  | y :: xs, m => by
    have h := maxI_mem xs (if m ≤ y then y else m)
    show maxI (if m ≤ y then y else m) xs ∈ m :: y :: xs
    rcases List.mem_cons.mp h with h | h
    · rw [h]
      split
      · exact List.mem_cons_of_mem _ List.mem_cons_self
      · exact List.mem_cons_self
    · exact List.mem_cons_of_mem _ (List.mem_cons_of_mem _ h)
theorem minI_le : ∀ (xs : List Int) (m : Int), minI m xs ≤ m ∧ ∀ x ∈ xs, minI m xs ≤ x
  | [], m => ⟨Int.le_refl _, fun x h => by simp at h⟩
  | y :: xs, m => by
    obtain ⟨h1, h2⟩ := minI_le xs (if y ≤ m then y else m)
    show minI (if y ≤ m then y else m) xs ≤ m ∧ ∀ x ∈ y :: xs, minI (if y ≤ m then y else m) xs ≤ x
    by_cases c : y ≤ m
    · rw [if_pos c] at h1 h2 ⊢
      refine ⟨by omega, fun x hx => ?_⟩
      rcases List.mem_cons.mp hx with rfl | hx
      · exact h1
      · exact h2 x hx
    · rw [if_neg c] at h1 h2 ⊢
      refine ⟨by omega, fun x hx => ?_⟩
      rcases List.mem_cons.mp hx with rfl | hx
      · omega
      · exact h2 x hx
theorem minI_mem : ∀ (xs : List Int) (m : Int), minI m xs ∈ m :: xs
  | [], m => List.mem_cons_self
  | y :: xs, m => by
    have h := minI_mem xs (if y ≤ m then y else m)
    show minI (if y ≤ m then y else m) xs ∈ m :: y :: xs
    rcases List.mem_cons.mp h with h | h
    · rw [h]
      split
      · exact List.mem_cons_of_mem _ List.mem_cons_self
      · exact List.mem_cons_self
    · exact List.mem_cons_of_mem _ (List.mem_cons_of_mem _ h)
section
variable {te : TE} {σ : L2.St} {B : Hp} {K : PySem.W.Frag} {x : Int} {xs : List Int}
theorem ev_max (h : EvP te σ B (IsD K (.list ((x :: xs).map .int)))) : Ev (tCB (rMax K) (tCons te tNil)) σ B (.int (maxI x xs)) := fun H1 a Q k => h H1 a _ fun v B2 H2 g y => by
  cases y with
  | lst y z =>
    have := dps_ints z
    subst this
    refine ⟨_, x :: xs, rfl, ex_l g.c y, by simp, fun m hm hall => ?_⟩
    have h1 := hall _ (maxI_mem xs x)
    obtain ⟨g1, g2⟩ := maxI_ge xs x
    have h2 : m ≤ maxI x xs := by
      rcases List.mem_cons.mp hm with rfl | hm
      · exact g1
      · exact g2 m hm
    obtain rfl : m = maxI x xs := by omega
    exact k H2 g.a
theorem ev_min (h : EvP te σ B (IsD K (.list ((x :: xs).map .int)))) : Ev (tCB (rMin K) (tCons te tNil)) σ B (.int (minI x xs)) := fun H1 a Q k => h H1 a _ fun v B2 H2 g y => by
  cases y with
  | lst y z =>
    have := dps_ints z
    subst this
    refine ⟨_, x :: xs, rfl, ex_l g.c y, by simp, fun m hm hall => ?_⟩
    have h1 := hall _ (minI_mem xs x)
    obtain ⟨g1, g2⟩ := minI_le xs x
    have h2 : minI x xs ≤ m := by
      rcases List.mem_cons.mp hm with rfl | hm
      · exact g1
      · exact g2 m hm
    obtain rfl : m = minI x xs := by omega
    exact k H2 g.a
end
end Nd
namespace Nd
set_option autoImplicit false
open PySem PySem.W L2 My Evl
/-! ### comprehensions of two fors -/
theorem it_gen {J : It} {n : Nat} {G : Hp → Prop} {Y : Nat → Hp → V → Hp → Prop} (w : Walk J n G Y) {F : V → Hp → (Hp → Prop) → Prop} {H0 : Hp} {Qd : Hp → Prop} (Pv : Nat → Hp → Prop) (h0 : Pv 0 H0) (hG : ∀ i H, i ≤ n → Pv i H → G H)
    (hs : ∀ i x H H', i < n → Pv i H → Y i H x H' → F x H' (Pv (i + 1))) (hd : ∀ H, Pv n H → Qd H) :
    ∃ W : Nat → Nat → Hp → Prop, (∃ m, W 0 m H0) ∧ ∀ i m H, W i m H →
      (J.stop i H ∧ Qd H) ∨ (J.go i H ∧ ∃ Nx : Hp → Prop, (∀ H', Nx H' → ∃ m', m' < m ∧ W (i + 1) m' H') ∧ ∀ x H', J.yld i H x H' → F x H' Nx) := by
  refine ⟨fun i m H => m = n - i ∧ i ≤ n ∧ Pv i H, ⟨n, by simp, Nat.zero_le _, h0⟩, ?_⟩
  rintro i m H ⟨rfl, hi, p⟩
  have q := hG i H hi p
  by_cases hlt : i < n
  · refine .inr ⟨w.goes i H hlt q, Pv (i + 1), fun H' p' => ⟨n - (i + 1), by omega, rfl, hlt, p'⟩, fun x H' y => hs i x H H' hlt p (w.yields i H x H' hlt q y)⟩
  · have e : i = n := by omega
    subst e
    exact .inl ⟨w.stops H q, hd H p⟩
theorem flat_range {α : Type} (f : Nat → List α) (i : Nat) : (List.range (i + 1)).flatMap f = (List.range i).flatMap f ++ f i := by
  rw [List.range_succ, List.flatMap_append, List.flatMap_cons, List.flatMap_nil, List.append_nil]
theorem flat_le {α : Type} (f : Nat → List α) {i n : Nat} (h : i ≤ n) : ((List.range i).flatMap f).length ≤ ((List.range n).flatMap f).length := by
  obtain ⟨k, rfl⟩ := Nat.exists_eq_add_of_le h
  induction k with
  | zero => exact Nat.le_refl _
  | succ k ih =>
    rw [← Nat.add_assoc, flat_range, List.length_append]
    have := ih (by omega)
    omega
theorem p_lc2 {wi wi1 : TI} {n : Nat} {P : Nat → Pr} {g g1 : TG} {tt tt1 : TT} {te : TE} {vs vs1 : List Nat} {σ : L2.St} {B : Hp} (h : Src wi σ B n P) (outs : Nat → List Pr) (hl : ((List.range n).flatMap outs).length ≤ 100000)
    (step : ∀ i v B1, i < n → Ex B B1 → (P i).P v B1 → ∃ σ2, wipe σ2 vs = wipe σ vs ∧ (∀ H2 Q, Ex B1 H2 → Q σ2 H2 → g v (wipe σ vs) H2 Q) ∧ ((EvT tt σ2 B1 false ∧ outs i = []) ∨ (EvT tt σ2 B1 true ∧ ∃ (m : Nat) (P1 : Nat → Pr) (keep : Nat → Bool) (res : Nat → Pr), Src wi1 σ2 B1 m P1 ∧ outs i = ((List.range m).filter keep).map res ∧
      ∀ j v1 B2, j < m → Ex B1 B2 → (P1 j).P v1 B2 → ∃ σ3, wipe σ3 vs1 = wipe σ2 vs1 ∧ (∀ H3 Q, Ex B2 H3 → Q σ3 H3 → g1 v1 (wipe σ2 vs1) H3 Q) ∧ EvT tt1 σ3 B2 (keep j) ∧ (keep j = true → EvP te σ3 B2 (res j))))) :
    EvP (tLc2 wi g tt wi1 g1 tt1 te vs vs1) σ B (LsP ((List.range n).flatMap outs)) := fun H1 a Q k =>
  h H1 a _ fun J B2 H2 G Y gr w hG hY Dd hD => by
    refine it_gen w (fun i H3 => ∃ B3, AccAt B2 H2 Dd ((List.range i).flatMap outs) B3 H3) ⟨B2, acc_new gr.c hD⟩ ?_ ?_ ?_
    · rintro i H3 _ ⟨B3, A3⟩
      exact hG H3 (A3.g.b.trans A3.ex)
    · rintro i v H3 H3' hi ⟨B3, A3⟩ hy
      obtain ⟨rfl, pv⟩ := hY i H3 v H3' hi (A3.g.b.trans A3.ex) hy
      obtain ⟨σ2, hw, hg, ht⟩ := step i v B3 hi (gr.b.trans A3.g.b) ((P i).m A3.g.b pv)
      refine hg H3' _ A3.ex ⟨hw, ?_⟩
      rcases ht with ⟨ht, e0⟩ | ⟨ht, m, P1, keep, res, src1, e1, step1⟩
      · refine ht H3' A3.ex _ fun H4 e4 => ?_
        rw [if_neg Bool.false_ne_true]
        refine ⟨B3, ?_⟩
        rw [flat_range, e0, List.append_nil]
        exact A3.step (Gr.wide A3.ex e4)
      · refine ht H3' A3.ex _ fun H4 e4 => ?_
        rw [if_pos rfl]
        have A4 := A3.step (Gr.wide A3.ex e4)
        refine src1 H4 A4.ex _ fun J1 B5 H5 G1 Y1 gr1 w1 hG1 hY1 => ?_
        have A5 := A4.step gr1
        refine it_gen w1 (fun j H6 => ∃ B6, AccAt B2 H2 Dd ((List.range i).flatMap outs ++ ((List.range j).filter keep).map res) B6 H6 ∧ Ex B5 B6) ⟨B5, by rw [List.range_zero, List.filter_nil, List.map_nil, List.append_nil]; exact A5, Ex.refl _⟩ ?_ ?_ ?_
        · rintro j H6 _ ⟨B6, A6, e6⟩
          exact hG1 H6 (e6.trans A6.ex)
        · rintro j v1 H6 H6' hj ⟨B6, A6, e6⟩ hy1
          obtain ⟨rfl, pv1⟩ := hY1 j H6 v1 H6' hj (e6.trans A6.ex) hy1
          obtain ⟨σ3, hw1, hg1, ht1, he1⟩ := step1 j v1 B6 hj (gr1.b.trans e6) ((P1 j).m e6 pv1)
          refine hg1 H6' _ A6.ex ⟨hw1, ht1 H6' A6.ex _ fun H7 e7 => ?_⟩
          have A7 := A6.step (Gr.wide A6.ex e7)
          cases hk : keep j with
          | false =>
            rw [if_neg Bool.false_ne_true]
            refine ⟨B6, ?_, e6⟩
            rw [List.range_succ, List.filter_append]
            have : List.filter keep [j] = [] := by simp [hk]
            rw [this, List.append_nil]
            exact A7
          | true =>
            rw [if_pos rfl]
            refine he1 hk H7 A7.ex _ fun y B8 H8 g8 hy8 => ?_
            have A8 := A7.step g8
            obtain ⟨xs, hd8, al⟩ := A8.at_
            have ln := al.len
            have r1 : List.filter keep (List.range (j + 1)) = List.filter keep (List.range j) ++ [j] := by
              rw [List.range_succ, List.filter_append]
              have : List.filter keep [j] = [j] := by simp [hk]
              rw [this]
            have big := flat_le outs (i := i + 1) hi
            rw [flat_range, List.length_append, e1, List.length_map] at big
            have part : (List.filter keep (List.range (j + 1))).length ≤ (List.filter keep (List.range m)).length := by
              obtain ⟨q, rfl⟩ := Nat.exists_eq_add_of_le (show j + 1 ≤ m from hj)
              rw [show List.range (j + 1 + q) = List.range (j + 1) ++ (List.range q).map (fun x => j + 1 + x) from List.range_add .., List.filter_append, List.length_append]
              exact Nat.le_add_right _ _
            rw [r1, List.length_append] at part
            rw [List.length_append, List.length_map] at ln
            have part : (List.filter keep (List.range j)).length + 1 ≤ (List.filter keep (List.range m)).length := part
            refine ⟨xs, hd8, sz_lt (by omega), B8, ⟨?_, xs ++ [y], upd_same, ?_⟩, e6.trans g8.b⟩
            · rw [wo_upd]
              exact A8.g
            · rw [r1, List.map_append, ← List.append_assoc]
              exact al.app ⟨hy8, trivial⟩
        · rintro H6 ⟨B6, A6, e6⟩
          refine ⟨B6, ?_⟩
          rw [flat_range, e1]
          exact A6
    · rintro H3 ⟨B3, A3⟩
      obtain ⟨B4, g4, hP⟩ := A3.fin hD
      exact k (.ref Dd) B4 H3 (gr.trans g4) hP
end Nd
namespace Nd
set_option autoImplicit false
open PySem PySem.W L2 My Evl LamX NdefX
/-- a def that makes a lambda: its code object is known -/
structure FunC (K : PySem.W.Frag) (x qual : Str) (st : Stmt) (c f : Addr) (fd : FuncData) : Prop where
  ex : ∃ (oc : Value) (od : Option Addr) (kV doc pm : Value) (an : Option Addr) (ct : Value) (osl : Array (Option Value)),
    fd = PySem.W.fnOf x qual (defArgs st) (defBody st) (defScope st) .none kV doc pm an (.ref c) ct ∧ K.lookup f = some ⟨oc, od, .func fd, osl⟩ ∧ PySem.W.codeIn K (.ref c) qual = true
theorem FunC.ok {P : Program} {w : World} {K : PySem.W.Frag} {mg : Str → Option Value} {base : Heap} {x qual : Str} {st : Stmt} {c f : Addr} {fd : FuncData} {N ps : List Str} {k : Nat} {sp : Sp} (F : FunC K x qual st c f fd) (S : FnScope N ps (defScope st)) (len : ∀ vs H Q E, sp vs H Q E → vs.length = ps.length)
    (hbody : ∀ (A : Around) (outer : List Env) (s : Shared) (H : Hp) (vs : List V) (Q : VK) (E : XK), Room k (A.deeper (PyProof.Rows.envOfC qual (defScope st) s.heap.objs.size f (.ref c))) → sp vs H Q E →
      ∃ t, PSs (cxOf CX0 P w K mg base N qual (defScope st) f (.ref c) A outer s H E).nox (defBody st) t ∧ t { nx := fun _ H' => Q .non H', rt := Q } (L2.start N vs) H) : FnOk P w K mg base CX0 (k + 1) f fd ps sp := by
  obtain ⟨oc, od, kV, doc, pm, an, ct, osl, e, lk, hcd⟩ := F.ex
  subst e
  exact fn_of lk hcd S len fun A outer s H vs Q E hr hsp => by
    obtain ⟨t, h1, h2⟩ := hbody A outer s H vs Q E hr hsp
    exact ⟨t, h1.nox, h2⟩
/-- the table at tb is for lambdas of this name -/
def TO (T : List (Addr × Str)) (tb : Addr) (q : Str) : Prop := (tb, q) ∈ T ∧ ∀ p ∈ T, p.1 = tb → p.2 = q
/-- what is known in B of a heap H with tables T -/
structure Kn (T : List (Addr × Str)) (B H : Hp) : Prop where
  e : Ex B H
  n : NoTab B
  t : Tabs T H
theorem Kn.next {T : List (Addr × Str)} {B H H2 : Hp} (k : Kn T B H) (e : ExtN H H2) (t : Tabs T H2) : Kn T B H2 := ⟨exN_ex k.e k.n e, k.n, t⟩
theorem Kn.gr {T : List (Addr × Str)} {B H B2 H2 : Hp} (k : Kn T B H) (g : Gr B H B2 H2) : Kn T B2 H2 := ⟨g.c, g.e k.n, k.t.ext g.a⟩
theorem Kn.ex {T : List (Addr × Str)} {B H H2 : Hp} (k : Kn T B H) (e : Ex H H2) : Kn T B H2 := ⟨k.e.trans e, k.n, k.t.ext e⟩
/-- all stays but the tables; what is known of B' leans on nothing else that stood in H -/
structure GT (T : List (Addr × Str)) (B H B' H' : Hp) : Prop where
  a : ExtN H H'
  b : Ex B B'
  c : Ex B' H'
  f : ∀ x o, B x = none → H x = some o → (∀ ps, o ≠ .tbl ps) → B' x = none
  e : NoTab B → NoTab B'
  t : Tabs T H → Tabs T H'
section
variable {T : List (Addr × Str)} {B H B1 H1 B2 H2 : Hp}
theorem GT.trans (g : GT T B H B1 H1) (k : GT T B1 H1 B2 H2) : GT T B H B2 H2 :=
  ⟨g.a.trans k.a, g.b.trans k.b, k.c, fun x o hb hh n => k.f x o (g.f x o hb hh n) (g.a x o hh n) n, fun z => k.e (g.e z), fun z => k.t (g.t z)⟩
theorem GT.gr (g : Gr B H B1 H1) : GT T B H B1 H1 := ⟨exN_of g.a, g.b, g.c, fun x o hb hh _ => g.d x hb (by rw [hh]; exact fun z => nomatch z), g.e, fun z => z.ext g.a⟩
theorem GT.xn (k : Kn T B H) (e : ExtN H H1) (t : Tabs T H1) : GT T B H B H1 := ⟨e, Ex.refl B, exN_ex k.e k.n e, fun _ _ h _ _ => h, id, fun _ => t⟩
theorem Kn.gt (k : Kn T B H) (g : GT T B H B1 H1) : Kn T B1 H1 := ⟨g.c, g.e k.n, g.t k.t⟩
end
/-- what a def promises that may fill tables -/
def spT (T : List (Addr × Str)) (R : List Pr → Pr → Prop) : Sp := fun vs H Q _ => ∃ B ps p, Kn T B H ∧ AllP ps vs B ∧ R ps p ∧ ∀ v B' H', GT T B H B' H' → p.P v B' → Q v H'
theorem spT_len {T : List (Addr × Str)} {R : List Pr → Pr → Prop} {n : Nat} (h : ∀ ps p, R ps p → ps.length = n) : ∀ vs H Q E, spT T R vs H Q E → vs.length = n := fun vs H Q E ⟨B, ps, p, _, a, b, _⟩ => by rw [a.len]; exact h _ _ b
/-- such a call -/
theorem t_call {T : List (Addr × Str)} {R : List Pr → Pr → Prop} {t : TA} {σ : L2.St} {B H : Hp} {ps : List Pr} {p : Pr} {Q : VK} (k : Kn T B H) (h : EvPs t σ B ps) (hr : R ps p) (q : ∀ v B' H', GT T B H B' H' → p.P v B' → Q v H') : tCall (spT T R) [] E0 t σ H Q :=
  h H k.e _ fun vs B2 H2 g b => by
    rw [List.append_nil]
    exact ⟨B2, ps, p, k.gr g, b, hr, fun v B3 H3 g3 hp => q v B3 H3 ((GT.gr g).trans g3) hp⟩
/-- a display of a tuple, its object known as it stands -/
def tTupF (t : TA) : TE := fun σ H Q => t σ H fun xs H1 => xs.length ≤ sizeLine ∧ ∀ p o, H1 p = none → o.dict = none → Q (.ref p) (upd H1 p (.frz o (.tup xs)))
theorem pe_tupF {X : Cx} {es : List Expr} {t : TA} {pos : Pos} {kk : Nat} (h : PA X es t) : PE X (.Tuple es kk pos) (tTupF t) := by
  refine ⟨fun pins s σ H Q I hq => ?_⟩
  refine PySem.wpAny_Tuple_spliced (thn (h.run pos pins s σ H _ I hq) fun us s1 ⟨xs, H1, I1, r, z, q⟩ => ⟨by rw [← r.length]; exact z, ?_⟩)
  have hf : H1 s1.heap.objs.size = none := I1.hok.fresh (Nat.le_refl _)
  refine ⟨.ref s1.heap.objs.size, upd H1 s1.heap.objs.size (.frz { cls := .type "tuple", data := .seq us.toArray } (.tup xs)), I1.laid (t' := s1.toks) (fun b u e => Heap.get?_push_of_some _ e) (Nat.le_refl _) ?_, rfl, q _ _ hf rfl⟩
  exact ⟨Heap.get?_push_size _ rfl, z, us, r, PyProof.Rows.IsTup.new _ _⟩
theorem p_tupF {t : TA} {σ : L2.St} {B : Hp} {ns : List Str} (h : EvPs t σ B (ns.map fun n => IsV (.str n))) (hl : ns.length ≤ 100000) : EvP (tTupF t) σ B (NmP ns) := fun H1 a Q k =>
  h H1 a _ fun vs B2 H2 g b => by
    have hv : vs = ns.map V.str := by
      clear h k hl g
      induction ns generalizing vs with
      | nil =>
        match vs, b with
        | [], _ => rfl
      | cons n ns ih =>
        match vs, b with
        | v :: vs, b =>
          obtain rfl : v = .str n := b.1
          rw [ih vs b.2]
          rfl
    subst hv
    refine ⟨sz_of (by rw [List.length_map]; exact hl), fun r o hr ho => k _ _ _ (g.trans (Gr.new _ g.c hr)) ⟨r, o, rfl, upd_same, ho⟩⟩
end Nd
namespace Nd
set_option autoImplicit false
open PySem PySem.Spec PySem.W PySem.Calls PyProof.Rows L2 My Evl
section
variable {X : Cx}
/-- d.items(), d a dict by nested keys -/
def rItemsN (P : Program) (w : World) : V → List V → Hp → VK → Prop := fun x xs H Q => ∃ (a : Addr) (ys : List NV), x = .ref a ∧ xs = [] ∧ H a = some (DN P w a ys) ∧ ∀ p, H p = none → Q (.ref p) (upd H p (DX.itemsO p a))
theorem mt_itemsN : MtR X "dict.items" (rItemsN X.prog X.w) := by
  intro pins s σ H x xs v us Q I rx rxs h
  obtain ⟨a, ys, rfl, rfl, ha, q⟩ := h
  cases rx
  cases rxs
  obtain ⟨lo, _, us, o, es, ep, _, e1, e2, e3, _⟩ := (I.hok a _ ha).1
  refine DT.callItems (es := es) (ep := ep) lo ⟨o, e1, e2, e3⟩ ?_
  have hf : H s.heap.objs.size = none := I.hok.fresh (Nat.le_refl _)
  exact ⟨.ref s.heap.objs.size, upd H s.heap.objs.size (DX.itemsO s.heap.objs.size a), I.laid (t' := s.toks) (fun b u e => Heap.get?_push_of_some _ e) (Nat.le_refl _) (DX.itemsO_ok (Heap.get?_push_size _ rfl)), rfl, q _ hf⟩
theorem pe_itemsN {o : Expr} {to : TE} {apos cpos : Pos} (ho : PE X o to) (hbase : attributeBase o "items" X.env (eval o X.env) = eval o X.env := by rfl) (hline : (apos.endLine == cpos.line) = true := by rfl) :
    PE X (.Call (.Attribute o "items" apos) [] [] cpos) (fun σ H Q => to σ H fun x H1 => rItemsN X.prog X.w x [] H1 Q) := by
  refine ⟨fun pins s σ H Q I h => ?_⟩
  refine wpAny_Call_method0_late hbase hline (thn (ho.run pins s σ H _ I h) fun v s1 ⟨x, H1, I1, r1, q1⟩ => ?_)
  obtain ⟨a, ys, rfl, z, ha, q⟩ := q1
  obtain rfl : v = Value.ref a := r1
  obtain ⟨lo, _, us, o', es, ep, _, e1, e2, e3, _⟩ := (I1.hok a _ ha).1
  exact ⟨"dict", "dict.items", PySem.F.plainAttrs_dict, PySem.F.slot_dict_items, PySem.F.type_dict_items, ⟨o', e1, e2.1⟩, fun b e => by cases e; exact ⟨o', e1, e2.2.1⟩, Calls.callWith_builtin rfl (PySem.evalArgs_none (mt_itemsN pins s1 σ H1 (.ref a) [] _ [] Q I1 rfl .nil ⟨a, ys, rfl, rfl, ha, q⟩))⟩
/-- sorted(d.items()): the pairs, made anew, in order -/
def rSortItN (P : Program) (w : World) (K : PySem.W.Frag) : List V → Hp → VK → Prop := fun vs H Q => ∃ (p d : Addr) (xs : List NV) (ks : List PyData), vs = [.ref p] ∧ H p = some (DX.itemsO p d) ∧ H d = some (DN P w d xs) ∧ ks.length = xs.length ∧ AllAlike ks ∧ Sortable ks ∧ (∀ e, e ∈ ks → e.depth ≤ 50) ∧
  (∀ (i : Nat) (x : NV), xs[i]? = some x → ∃ kd vd, ks[i]? = some (.tuple [kd, vd]) ∧ Dp K H (.ref x.2.1) kd ∧ Dp K H x.2.2 vd) ∧
  ∀ (H2 : Hp) (as : List Addr) (a : Addr), (∀ b o, H b = some o → H2 b = some o) → as.length = xs.length → (∀ (i : Nat) (b : Addr) (x : NV), as[i]? = some b → xs[i]? = some x → H b = none ∧ H2 b = some (.tup [.ref x.2.1, x.2.2])) → H2 a = none → H a = none → Q (.ref a) (upd H2 a (.lst (byKey (as.map V.ref) ks)))
theorem lay_at : ∀ {xs : List NV} {us : List Value} {i : Nat} {y : NestedKey × Addr × Value}, (lay xs us)[i]? = some y → ∃ x u, xs[i]? = some x ∧ us[i]? = some u ∧ y = (x.1, x.2.1, u)
  | [], us, i, y, h => by simp [lay] at h
  | x :: xs, [], i, y, h => by simp [lay] at h
  | x :: xs, u :: us, 0, y, h => ⟨x, u, rfl, rfl, (Option.some.inj h).symm⟩
  | x :: xs, u :: us, i + 1, y, h => by
    obtain ⟨a, b, c, d, e⟩ := lay_at (xs := xs) (us := us) (i := i) (y := y) h
    exact ⟨a, b, c, d, e⟩
theorem cr_sortItN {k : Nat} (hr : Room k X.A) : CallR X (.builtin "sorted") (rSortItN X.prog X.w X.K) := by
  intro pins s σ H vs us0 Q I r h
  obtain ⟨p, d, xs, ks, rfl, hp, hd, hl, hal, hsk, hdep, hval, q⟩ := h
  obtain ⟨u0, rfl, r0⟩ := L2.vals1 r
  obtain rfl : u0 = Value.ref p := r0
  have view : s.heap.IsItemsView p d := (show ObjOk X.prog X.w H s.heap p (DX.itemsO p d) from I.hok p _ hp).1
  obtain ⟨z1, z2, us, o, es, ep, rr, e1, e2, e3, e4, e5⟩ := (I.hok d _ hd).1
  have un := hr.un
  have hh : X.A.handled = none := hr.hd
  have lz : es.size = xs.length := by
    have := congrArg List.length e4
    rw [List.length_map, lay_len (vlen rr)] at this
    simpa using this
  refine DT.sortedI (es := es) (ep := ep) hh view ⟨o, e1, e2, e3⟩ (by omega) fun h' tk as hk hlt hl2 hG => ?_
  have lak : as.length = xs.length := by omega
  have nd : as.Nodup := List.Pairwise.imp (fun h => Nat.ne_of_lt h) hG.rise
  have pr : ∀ (j : Nat) (b : Addr), as[j]? = some b → ∃ (x : NV) (u : Value), xs[j]? = some x ∧ RelV x.2.2 u ∧ h'.get? b = some { cls := .type "tuple", data := .seq #[Value.ref x.2.1, u] } := by
    intro j b hj
    obtain ⟨en, he, hg⟩ := hG.pairs j b hj
    have he2 : es.toList[j]? = some en := by simpa using he
    rw [e4, List.getElem?_map] at he2
    cases hy : (lay xs us)[j]? with
    | none =>
      rw [hy] at he2
      cases he2
    | some y =>
      rw [hy] at he2
      obtain ⟨x, u, hx, hu, rfl⟩ := lay_at hy
      obtain rfl : entryOfKey (nestedKind X.prog X.w) (x.1, x.2.1, u) = en := Option.some.inj he2
      obtain ⟨u2, hu2, ru⟩ := rr.get (i := j) (x := x.2.2) (by rw [List.getElem?_map, hx]; rfl)
      rw [hu] at hu2
      obtain rfl := Option.some.inj hu2
      exact ⟨x, u, hx, ru, hg⟩
  -- the pairs are tracked ahead of the sort
  have I0 : Inv X pins σ H { s with heap := h', toks := tk } := I.kept (t' := tk) hk
  obtain ⟨H2, I1, g, qt⟩ := DX.takeT (P := fun b vs => ∃ (j : Nat) (x : NV), as[j]? = some b ∧ xs[j]? = some x ∧ vs = [.ref x.2.1, x.2.2]) I as H I0 nd fun b hb => by
    obtain ⟨j, hj⟩ := List.mem_iff_getElem?.mp hb
    obtain ⟨x, u, hx, ru, hg⟩ := pr j b hj
    have hbl : s.heap.objs.size ≤ b := Nat.le_of_lt (hG.above b hb)
    exact ⟨hbl, I.hok.fresh hbl, [.ref x.2.1, x.2.2], ⟨j, x, hj, hx, rfl⟩, fun H3 => ⟨(show 2 ≤ sizeLine by decide), [Value.ref x.2.1, u], .cons rfl (.cons ru .nil), ⟨_, hg, rfl, 0, rfl⟩⟩⟩
  have pt : ∀ (i : Nat) (b : Addr) (x : NV), as[i]? = some b → xs[i]? = some x → H b = none ∧ H2 b = some (.tup [.ref x.2.1, x.2.2]) := fun i b x hi hx => by
    obtain ⟨vs, ⟨j, y, j1, j2, ev⟩, hH⟩ := qt b (List.mem_of_getElem? hi)
    have eij : i = j := (List.getElem?_inj (List.getElem?_eq_some_iff.mp hi).1 nd).mp (hi.trans j1.symm)
    subst eij
    rw [hx] at j2
    obtain rfl := Option.some.inj j2
    exact ⟨I.hok.fresh (Nat.le_of_lt (hG.above b (List.mem_of_getElem? hi))), by rw [hH, ev]⟩
  have dp : DpAll X.K H2 (as.map V.ref) ks := by
    have : ∀ (as : List Addr) (xs : List NV) (ks : List PyData), as.length = xs.length → ks.length = xs.length → (∀ (i : Nat) (b : Addr) (x : NV), as[i]? = some b → xs[i]? = some x → H2 b = some (.tup [.ref x.2.1, x.2.2])) → (∀ (i : Nat) (x : NV), xs[i]? = some x → ∃ kd vd, ks[i]? = some (.tuple [kd, vd]) ∧ Dp X.K H (.ref x.2.1) kd ∧ Dp X.K H x.2.2 vd) → DpAll X.K H2 (as.map V.ref) ks := by
      intro as
      induction as with
      | nil =>
        intro xs ks h1 h2 _ _
        match xs, ks, h1, h2 with
        | [], [], _, _ => exact .nil
      | cons a as ih =>
        intro xs ks h1 h2 h3 h4
        match xs, ks, h1, h2 with
        | x :: xs, k :: ks, h1, h2 =>
          obtain ⟨kd, vd, e, a1, a2⟩ := h4 0 x rfl
          obtain rfl : k = .tuple [kd, vd] := Option.some.inj e
          exact .cons (.tup (st_of (h3 0 a x rfl rfl)) (.cons (dp_m g a1) (.cons (dp_m g a2) .nil))) (ih xs ks (by simpa using h1) (by simpa using h2) (fun i b x e1 e2 => h3 (i + 1) b x e1 e2) fun i x e1 => h4 (i + 1) x e1)
    exact this as xs ks lak hl (fun i b x h1 h2 => (pt i b x h1 h2).2) hval
  have hlk : ks.length = as.length := by omega
  have I2 := I1.kept (t' := tk) (h' := h'.push (seqObj "list" (as.map Value.ref).toArray 0)) (fun c o e => Heap.get?_push_of_some _ e)
  have at1 : (h'.push (seqObj "list" (as.map Value.ref).toArray 0)).get? h'.objs.size = some (seqObj "list" (as.map Value.ref).toArray 0) := Heap.get?_push_size _ rfl
  have hl' : ks.length = (as.map V.ref).length := by rw [List.length_map]; exact hlk
  have vl : (byKey (as.map V.ref) ks).length ≤ sizeLine := by
    show (((as.map V.ref).zip ks).mergeSort (dataLe false (·.2)) |>.map (·.1)).length ≤ _
    rw [List.length_map, List.length_mergeSort, List.length_zip, List.length_map]
    omega
  have ev : EachIs (fun u d => ∃ bs, Reads (sortingHeap (h'.push (seqObj "list" (as.map Value.ref).toArray 0)) h'.objs.size (as.map Value.ref)) u d bs) (as.map Value.ref) ks :=
    (dps_each I1 (My.vals_refs as) dp).mono fun u d ⟨bs, r⟩ => ⟨bs, Reads.keeps (fun b o e => sortingHeap_old (Nat.ne_of_lt (Heap.lt_size e)) (Heap.get?_push_of_some _ e)) r⟩
  have ez := zip_snd hl'
  have er := each_zip ev hl'
  have out := sortVals_data (enc := fun p : V × PyData => p.2) false (vals_each (h := s.heap) (My.vals_refs as) hl') er (by rw [ez]; exact hal)
  obtain ⟨c, at3⟩ := sortedHeap_at (vs := as.map Value.ref) (out := (sortVals (dataKind (sortingHeap (h'.push (seqObj "list" (as.map Value.ref).toArray 0)) h'.objs.size (as.map Value.ref)) (((as.map V.ref).zip ks).map fun p => p.2)) false (as.map Value.ref) (as.map Value.ref)).toArray) at1
  have hf1 : H h'.objs.size = none := I.hok.fresh (Nat.le_of_lt hlt)
  refine wpAny_call_entry_kw slot_list_sort ⟨_, at1, rfl⟩ entry_list_sort ?_ (args_list_sort _)
  refine list_sort_vals (s := { s with heap := h'.push (seqObj "list" (as.map Value.ref).toArray 0), toks := tk }) (κ := dataKind (sortingHeap (h'.push (seqObj "list" (as.map Value.ref).toArray 0)) h'.objs.size (as.map Value.ref)) (((as.map V.ref).zip ks).map fun p => p.2)) at1 ?_ (by rw [List.length_map]; omega) ?_
  · rw [ez]
    exact SortsAt.data (s := { s with heap := sortingHeap (h'.push (seqObj "list" (as.map Value.ref).toArray 0)) h'.objs.size (as.map Value.ref), toks := tk }) ev hal hsk (fun d hd => by
      have := hdep d hd
      have e : X.A.in1.in1.units = X.A.units + 1 + 1 := rfl
      omega)
  · exact ⟨_, rfl, .ref h'.objs.size, _, free2 (b := h'.objs.size + 1) (t' := tk) I2 (Fre.of I1 (Nat.le_refl _)) (Fre.of I1 (Nat.le_succ h'.objs.size)) (I1.hok.fresh (Nat.le_refl _)) (I1.hok.fresh (Nat.le_succ _)) (fun x o n1 n2 e => (sortedHeap_old n1 (Heap.lt_size e)).trans e) ⟨vl, _, c, each_vals out, at3⟩, rfl, q H2 as _ g lak pt (I1.hok.fresh (Nat.le_refl _)) hf1⟩
end
end Nd
namespace Nd
set_option autoImplicit false
open PySem PySem.W L2 My Evl PyProof.Rows
/-! ### sorting by data -/
theorem AllP.zipG {α : Type} {H : Hp} (f : α → Pr) : ∀ {xs : List V} {us : List α}, AllP (us.map f) xs H → ∀ p ∈ xs.zip us, (f p.2).P p.1 H
  | [], [], _, p, hp => by simp at hp
  | x :: xs, u :: us, h, p, hp => by
    rw [List.zip_cons_cons] at hp
    rcases List.mem_cons.mp hp with rfl | hp
    · exact h.1
    · exact AllP.zipG f h.2 p hp
theorem AllP.ofG {α : Type} {H : Hp} (f : α → Pr) : ∀ {ps : List (V × α)}, (∀ p ∈ ps, (f p.2).P p.1 H) → AllP ((ps.map (·.2)).map f) (ps.map (·.1)) H
  | [], _ => trivial
  | p :: ps, h => ⟨h p List.mem_cons_self, AllP.ofG f fun q hq => h q (List.mem_cons_of_mem _ hq)⟩
def leT (s t : Mo × Fr) : Bool := !dataLt (tmD t) (tmD s)
def srtT (zs : Po) : Po := zs.mergeSort leT
theorem byKey_tm {K : PySem.W.Frag} {H : Hp} {xs : List V} {us : Po} (h : AllP (us.map (tmP K)) xs H) : AllP ((srtT us).map (tmP K)) (byKey xs (us.map tmD)) H := by
  have hl : xs.length = us.length := by
    have := h.len
    rw [List.length_map] at this
    exact this
  have e1 : xs.zip (us.map tmD) = (xs.zip us).map fun p => (p.1, tmD p.2) := zip_pairs _ hl
  have e2 : ((xs.zip us).mergeSort fun p q => leT p.2 q.2).map (fun p => (p.1, tmD p.2)) = (xs.zip (us.map tmD)).mergeSort (dataLe false (·.2)) := by
    rw [e1]
    refine List.map_mergeSort fun p _ q _ => ?_
    rw [dataLe_eq]
    rfl
  have e3 : ((xs.zip us).mergeSort fun p q => leT p.2 q.2).map (·.2) = srtT us := by
    have := List.map_mergeSort (r := fun p q : V × (Mo × Fr) => leT p.2 q.2) (s := leT) (f := fun p : V × (Mo × Fr) => p.2) (l := xs.zip us) (fun _ _ _ _ => rfl)
    rw [this, List.map_snd_zip (by omega)]
    rfl
  have e4 : byKey xs (us.map tmD) = ((xs.zip us).mergeSort fun p q => leT p.2 q.2).map (·.1) := by
    unfold byKey
    rw [← e2, List.map_map]
    rfl
  rw [e4, ← e3]
  exact AllP.ofG (tmP K) fun p hp => AllP.zipG (tmP K) h p ((List.mergeSort_perm _ _).mem_iff.mp hp)
theorem dlt_tr {x y z : PyData} (h : dataLt x z = true) : dataLt x y = true ∨ dataLt y z = true := lex_negTrans _ _ _ h
theorem dlt_as {x y : PyData} (h : dataLt x y = true) : dataLt y x = false := by
  cases e : dataLt y x with
  | false => rfl
  | true =>
    have := lex_trans _ _ _ h e
    rw [lex_irrefl] at this
    cases this
theorem leT_tot (s t : Mo × Fr) : (leT s t || leT t s) = true := by
  unfold leT
  cases h : dataLt (tmD t) (tmD s) with
  | false => rfl
  | true =>
    rw [dlt_as h]
    rfl
theorem leT_tr (s t u : Mo × Fr) (h : leT s t = true) (k : leT t u = true) : leT s u = true := by
  unfold leT at *
  cases e : dataLt (tmD u) (tmD s) with
  | false => rfl
  | true =>
    rcases dlt_tr (y := tmD t) e with a | a
    · rw [a] at k; cases k
    · rw [a] at h; cases h
theorem srtT_mem {zs : Po} {z : Mo × Fr} : z ∈ srtT zs ↔ z ∈ zs := (List.mergeSort_perm zs leT).mem_iff
/-! ### monomials as data -/
theorem eqv_dv0 (u v : Dv) : PyData.eqv u.D v.D = decide (u = v) := by
  obtain ⟨n, i, j⟩ := u
  obtain ⟨n', i', j'⟩ := v
  unfold Dv.D
  rw [PyData.eqv, Bool.eq_iff_iff]
  simp [PyData.eqvAll, PyData.eqv]
theorem eqv_pw (x y : Dv × Int) : PyData.eqv (pwD x) (pwD y) = decide (x = y) := by
  obtain ⟨u, i⟩ := x
  obtain ⟨v, j⟩ := y
  unfold pwD
  rw [PyData.eqv, PyData.eqvAll, PyData.eqvAll, PyData.eqvAll, eqv_dv0, PyData.eqv, Bool.eq_iff_iff]
  simp
theorem eqv_pws : ∀ m n : Mo, PyData.eqvAll (m.map pwD) (n.map pwD) = decide (m = n)
  | [], [] => by simp [PyData.eqvAll]
  | [], y :: n => by simp [PyData.eqvAll]
  | x :: m, [] => by simp [PyData.eqvAll]
  | x :: m, y :: n => by
    rw [List.map_cons, List.map_cons, PyData.eqvAll, eqv_pw, eqv_pws m n, Bool.eq_iff_iff]
    simp
theorem eqv_mo (m n : Mo) : PyData.eqv (moD m) (moD n) = decide (m = n) := by
  unfold moD
  rw [PyData.eqv]
  exact eqv_pws m n
theorem dlt_ne {x y : PyData} (h : alike x y = true) (e : PyData.eqv x y = false) : dataLt x y = true ∨ dataLt y x = true := by
  cases a : dataLt x y with
  | true => exact .inl rfl
  | false =>
    cases b : dataLt y x with
    | true => exact .inr rfl
    | false =>
      exfalso
      have t : keyToks x = keyToks y := lex_total _ _ a b
      have := (toks_eqv x y h).2 e [.inl 0] [.inl 1]
      rw [t, lex_pre, lex_irrefl] at this
      revert this
      decide
theorem dlt_tm {s t : Mo × Fr} (h : s.1 ≠ t.1) : dataLt (tmD s) (tmD t) = dataLt (moD s.1) (moD t.1) := by
  unfold tmD
  rw [dataLt_tuple]
  exact dataLt_all_no (alike_mo _ _) (by rw [eqv_mo, decide_eq_false h])
theorem srtT_ups {zs : Po} (nd : (zs.map (·.1)).Nodup) : Ups (fun t : Mo × Fr => moD t.1) (srtT zs) := by
  intro i h
  have pw := List.pairwise_mergeSort leT_tr leT_tot zs
  have nd2 : ((srtT zs).map (·.1)).Nodup := ((List.mergeSort_perm zs leT).map (·.1)).nodup_iff.mpr nd
  have hle : leT (srtT zs)[i] (srtT zs)[i + 1] = true := List.pairwise_iff_getElem.mp pw i (i + 1) (Nat.lt_of_succ_lt h) h (Nat.lt_succ_self i)
  have hne : (srtT zs)[i].1 ≠ (srtT zs)[i + 1].1 := by
    have := List.pairwise_iff_getElem.mp nd2 i (i + 1) (by rw [List.length_map]; exact Nat.lt_of_succ_lt h) (by rw [List.length_map]; exact h) (Nat.lt_succ_self i)
    simpa using this
  unfold leT at hle
  rw [dlt_tm hne.symm] at hle
  rcases dlt_ne (alike_mo (srtT zs)[i].1 (srtT zs)[i + 1].1) (by rw [eqv_mo, decide_eq_false hne]) with a | a
  · exact a
  · rw [a] at hle
    cases hle
theorem alike_fr (f g : Fr) : alike (frD f) (frD g) = true := by simp [frD, alike, alikeAll]
theorem alike_tm (s t : Mo × Fr) : alike (tmD s) (tmD t) = true := by
  unfold tmD
  rw [alike, alikeAll, alikeAll, alikeAll, alike_mo, alike_fr]
  rfl
theorem deep_tm (t : Mo × Fr) : (tmD t).depth ≤ 5 := by
  have := deep_mo t.1
  simp [tmD, frD, PyData.depth, PyData.depthAll]
  omega
theorem tm_alike (zs : Po) : AllAlike (zs.map tmD) := AllAlike.of fun s t => alike_tm s t
theorem tm_sortable (zs : Po) : Sortable (zs.map tmD) := Sortable.tuples fun t => ⟨_, _, rfl⟩
theorem tm_depth (zs : Po) : ∀ d, d ∈ zs.map tmD → d.depth ≤ 50 := fun d hd => by
  obtain ⟨t, _, rfl⟩ := List.mem_map.mp hd
  have := deep_tm t
  omega
/-! ### monomials as keys -/
theorem nk_pw (x : Dv × Int) : nk (pwD x) = .tup [nk x.1.D, .num x.2] := by simp [pwD, nk, nkAll]
theorem nkAll_inj : ∀ {m n : Mo}, nkAll (m.map pwD) = nkAll (n.map pwD) → m = n
  | [], [], _ => rfl
  | [], _ :: _, h => by simp [nkAll] at h
  | _ :: _, [], h => by simp [nkAll] at h
  | x :: m, y :: n, h => by
    rw [List.map_cons, List.map_cons, nkAll, nkAll] at h
    injection h with h1 h2
    rw [nk_pw, nk_pw] at h1
    injection h1 with h1
    injection h1 with h3 h4
    injection h4 with h4 _
    injection h4 with h4
    obtain ⟨u, i⟩ := x
    obtain ⟨v, j⟩ := y
    have := nk_inj h3
    simp_all
    exact nkAll_inj h2
theorem nkm_inj {m n : Mo} (h : nk (moD m) = nk (moD n)) : m = n := by
  unfold moD at h
  rw [nk, nk] at h
  injection h with h
  exact nkAll_inj h
theorem keyish_mo (m : Mo) : keyish (moD m) = true := by
  unfold moD
  rw [keyish]
  induction m with
  | nil => rfl
  | cons x m ih =>
    rw [List.map_cons, keyishAll, ih]
    simp [pwD, keyish, keyishAll, Dv.D]
theorem deep_nkm (m : Mo) : (nk (moD m)).depth ≤ 8 := by
  have : ∀ m : Mo, NestedKey.depthAll (nkAll (m.map pwD)) ≤ 5 := by
    intro m
    induction m with
    | nil => simp [nkAll, NestedKey.depthAll]
    | cons x m ih =>
      rw [List.map_cons, nkAll, NestedKey.depthAll, nk_pw, nk_dv]
      simp [NestedKey.depth, NestedKey.depthAll]
      omega
  unfold moD
  rw [nk, NestedKey.depth]
  have := this m
  omega
/-- what a dict from monomials to fractions holds, as the dict has it -/
def KM (K : PySem.W.Frag) : Po → List NV → Hp → Prop
  | [], [], _ => True
  | z :: zs, x :: xs, B => (x.1 = nk (moD z.1) ∧ (moP K z.1).P (.ref x.2.1) B ∧ (frP K z.2).P x.2.2 B) ∧ KM K zs xs B
  | [], _ :: _, _ => False
  | _ :: _, [], _ => False
def putZ (zs : Po) (m : Mo) (f : Fr) : Po := if m ∈ zs.map (·.1) then zs.map fun z => if z.1 = m then (z.1, f) else z else zs ++ [(m, f)]
section
variable {K : PySem.W.Frag} {B B' H : Hp}
theorem KM.m (e : Ex B B') : ∀ {zs : Po} {xs : List NV}, KM K zs xs B → KM K zs xs B'
  | [], [], _ => trivial
  | _ :: _, _ :: _, h => ⟨⟨h.1.1, (moP K _).m e h.1.2.1, (frP K _).m e h.1.2.2⟩, KM.m e h.2⟩
theorem KM.len : ∀ {zs : Po} {xs : List NV}, KM K zs xs B → xs.length = zs.length
  | [], [], _ => rfl
  | _ :: _, _ :: _, h => congrArg Nat.succ (KM.len h.2)
theorem KM.at : ∀ {zs : Po} {xs : List NV} {i : Nat} {x : NV}, KM K zs xs B → xs[i]? = some x → ∃ z, zs[i]? = some z ∧ x.1 = nk (moD z.1) ∧ (moP K z.1).P (.ref x.2.1) B ∧ (frP K z.2).P x.2.2 B
  | [], [], i, x, _, h => by simp at h
  | z :: _, y :: _, 0, x, h, e => by
    obtain rfl := Option.some.inj e
    exact ⟨z, rfl, h.1⟩
  | _ :: _, _ :: _, i + 1, x, h, e => KM.at (i := i) h.2 e
theorem KM.has (m : Mo) : ∀ {zs : Po} {xs : List NV}, KM K zs xs B → hasN xs (nk (moD m)) = decide (m ∈ zs.map (·.1))
  | [], [], _ => by simp [hasN]
  | z :: zs, x :: xs, h => by
    have ih := KM.has m h.2
    unfold hasN at *
    rw [List.any_cons, ih, h.1.1, List.map_cons, Bool.eq_iff_iff]
    simp only [Bool.or_eq_true, decide_eq_true_eq, List.mem_cons]
    constructor
    · rintro (a | a)
      · exact .inl (nkm_inj a).symm
      · exact .inr a
    · rintro (a | a)
      · exact .inl (by rw [a])
      · exact .inr a
theorem KM.app : ∀ {zs ys : Po} {xs us : List NV}, KM K zs xs B → KM K ys us B → KM K (zs ++ ys) (xs ++ us) B
  | [], _, [], _, _, h => h
  | _ :: _, _, _ :: _, _, a, h => ⟨a.1, KM.app a.2 h⟩
theorem KM.set {m : Mo} {f : Fr} {v : V} (hf : (frP K f).P v B) : ∀ {zs : Po} {xs : List NV}, KM K zs xs B → KM K (zs.map fun z => if z.1 = m then (z.1, f) else z) (xs.map fun x => if x.1 = nk (moD m) then (x.1, x.2.1, v) else x) B
  | [], [], _ => trivial
  | z :: zs, x :: xs, h => by
    refine ⟨?_, KM.set hf h.2⟩
    dsimp only
    by_cases e : z.1 = m
    · rw [if_pos e, if_pos (by rw [h.1.1, e])]
      exact ⟨h.1.1, h.1.2.1, hf⟩
    · rw [if_neg e, if_neg (fun k => e (nkm_inj (h.1.1.symm.trans k)))]
      exact h.1
theorem KM.put {m : Mo} {f : Fr} {a : Addr} {v : V} {zs : Po} {xs : List NV} (h : KM K zs xs B) (ha : (moP K m).P (.ref a) B) (hf : (frP K f).P v B) : KM K (putZ zs m f) (putN xs (nk (moD m)) a v) B := by
  unfold putZ putN
  rw [h.has m]
  by_cases e : m ∈ zs.map (·.1)
  · rw [if_pos e, decide_eq_true e, if_pos rfl]
    exact h.set hf
  · rw [if_neg e, decide_eq_false e, if_neg Bool.false_ne_true]
    exact h.app ⟨⟨rfl, ha, hf⟩, trivial⟩
theorem key_mo {m : Mo} {a : Addr} (h : (moP K m).P (.ref a) H) : KeyAt K H a (nk (moD m)) := ⟨moD m, to_mo m _ _ h, keyish_mo m, rfl, deep_nkm m⟩
theorem KM.ok {zs : Po} {xs : List NV} (h : KM K zs xs B) (e : Ex B H) : KeysOk K H xs := fun x hx => by
  obtain ⟨i, hi⟩ := List.mem_iff_getElem?.mp hx
  obtain ⟨z, _, h1, h2, _⟩ := (h.m e).at hi
  rw [h1]
  exact key_mo h2
theorem putZ_mem {zs : Po} {m : Mo} {f : Fr} {z : Mo × Fr} (h : z ∈ putZ zs m f) : z ∈ zs ∨ (z = (m, f)) := by
  unfold putZ at h
  split at h
  · obtain ⟨y, hy, e⟩ := List.mem_map.mp h
    split at e
    · rename_i k
      rw [k] at e
      exact .inr e.symm
    · exact .inl (e ▸ hy)
  · rcases List.mem_append.mp h with h | h
    · exact .inl h
    · exact .inr (List.mem_singleton.mp h)
theorem putZ_nd {zs : Po} {m : Mo} {f : Fr} (h : (zs.map (·.1)).Nodup) : ((putZ zs m f).map (·.1)).Nodup := by
  unfold putZ
  split
  · have : (zs.map fun z => if z.1 = m then (z.1, f) else z).map (·.1) = zs.map (·.1) := by
      rw [List.map_map]
      refine List.map_congr_left fun z _ => ?_
      show (if z.1 = m then (z.1, f) else z).1 = z.1
      split <;> rfl
    rw [this]
    exact h
  · rename_i e
    rw [List.map_append, List.nodup_append]
    exact ⟨h, by simp, fun a ha b hb => by
      rw [List.mem_singleton.mp hb]
      rintro rfl
      exact e ha⟩
theorem putZ_len {zs : Po} {m : Mo} {f : Fr} : (putZ zs m f).length ≤ zs.length + 1 := by
  unfold putZ
  split
  · rw [List.length_map]
    omega
  · rw [List.length_append]
    exact Nat.le_refl _
end
end Nd
namespace Nd
set_option autoImplicit false
open PySem PySem.W L2 My Evl
/-! ### two lists under way -/
theorem wo_upd_ne {a b : Addr} {H : Hp} {o : HO} (n : a ≠ b) : wo b (upd H a o) = upd (wo b H) a o := funext fun x => by
  by_cases e : x = b
  · subst e
    rw [wo_same, upd_ne n.symm, wo_same]
  · rw [wo_ne e]
    by_cases k : x = a
    · subst k
      rw [upd_same, upd_same]
    · rw [upd_ne k, upd_ne k, wo_ne e]
structure A2 (B H0 : Hp) (a b : Addr) (ps qs : List Pr) (C H : Hp) : Prop where
  g : Gr B H0 C (wo a (wo b H))
  fa : ∃ xs, H a = some (.lst xs) ∧ AllP ps xs C
  fb : ∃ ys, H b = some (.lst ys) ∧ AllP qs ys C
  ne : a ≠ b
section
variable {B H0 C H C2 H2 : Hp} {a b r : Addr} {ps qs ps' qs' : List Pr} {p : Pr} {xs ys zs : List V} {y : V}
theorem A2.ex (A : A2 B H0 a b ps qs C H) : Ex C H := (A.g.c.trans wo_ex).trans wo_ex
theorem A2.new (e : Ex B H) (ha : H a = none) (hb : upd H a (.lst []) b = none) : A2 B H a b [] [] B (upd (upd H a (.lst [])) b (.lst [])) := by
  have ne : a ≠ b := ne_of_none upd_same hb
  refine ⟨?_, ⟨[], by rw [upd_ne ne]; exact upd_same, trivial⟩, ⟨[], upd_same, trivial⟩, ne⟩
  rw [wo_new hb, wo_new ha]
  exact Gr.refl e
theorem A2.na (A : A2 B H0 a b ps qs C H) : C a = none ∧ C b = none := ⟨wo_none A.g.c, wo_none (A.g.c.trans wo_ex)⟩
theorem A2.step (A : A2 B H0 a b ps qs C H) (k : Gr C H C2 H2) : A2 B H0 a b ps qs C2 H2 := by
  obtain ⟨xs, hx, ax⟩ := A.fa
  obtain ⟨ys, hy, ay⟩ := A.fb
  have k1 : Gr C (wo b H) C2 (wo b H2) := (Gr.refl (A.g.c.trans wo_ex)).side (by rw [hy]; exact fun z => nomatch z) k
  have k2 : Gr B H0 C2 (wo a (wo b H2)) := A.g.side (by rw [wo_ne A.ne, hx]; exact fun z => nomatch z) k1
  exact ⟨k2, ⟨xs, k.a _ _ hx, ax.m k.b⟩, ⟨ys, k.a _ _ hy, ay.m k.b⟩, A.ne⟩
theorem A2.wide (A : A2 B H0 a b ps qs C H) (e : Ex H H2) : A2 B H0 a b ps qs C H2 := A.step (Gr.wide A.ex e)
theorem A2.app1 (A : A2 B H0 a b ps qs C H) (h : H a = some (.lst xs)) (hp : p.P y C) : A2 B H0 a b (ps ++ [p]) qs C (upd H a (.lst (xs ++ [y]))) := by
  obtain ⟨xs', hx, ax⟩ := A.fa
  obtain ⟨ys, hy, ay⟩ := A.fb
  rw [h] at hx
  obtain rfl : xs = xs' := by injection hx with hx; injection hx
  exact ⟨by rw [wo_upd_ne A.ne, wo_upd]; exact A.g, ⟨_, upd_same, ax.app ⟨hp, trivial⟩⟩, ⟨ys, by rw [upd_ne A.ne.symm]; exact hy, ay⟩, A.ne⟩
theorem A2.app2 (A : A2 B H0 a b ps qs C H) (h : H b = some (.lst ys)) (hp : p.P y C) : A2 B H0 a b ps (qs ++ [p]) C (upd H b (.lst (ys ++ [y]))) := by
  obtain ⟨xs, hx, ax⟩ := A.fa
  obtain ⟨ys', hy, ay⟩ := A.fb
  rw [h] at hy
  obtain rfl : ys = ys' := by injection hy with hy; injection hy
  exact ⟨by rw [wo_upd]; exact A.g, ⟨xs, by rw [upd_ne A.ne]; exact hx, ax⟩, ⟨_, upd_same, ay.app ⟨hp, trivial⟩⟩, A.ne⟩
theorem A2.set1 (A : A2 B H0 a b ps qs C H) (hr : H r = none) (al : AllP ps' zs C) : A2 B H0 r b ps' qs C (upd H r (.lst zs)) := by
  obtain ⟨ys, hy, ay⟩ := A.fb
  have ne : r ≠ b := fun z => by
    rw [z, hy] at hr
    cases hr
  have hr2 : (wo b H) r = none := by rw [wo_ne ne]; exact hr
  refine ⟨?_, ⟨zs, upd_same, al⟩, ⟨ys, by rw [upd_ne ne.symm]; exact hy, ay⟩, ne⟩
  rw [wo_upd_ne ne, wo_new hr2]
  exact A.g.trans (Gr.wide A.g.c wo_ex)
theorem A2.set2 (A : A2 B H0 a b ps qs C H) (hr : H r = none) (al : AllP qs' zs C) : A2 B H0 a r ps qs' C (upd H r (.lst zs)) := by
  obtain ⟨xs, hx, ax⟩ := A.fa
  have ne : a ≠ r := fun z => by
    rw [← z, hx] at hr
    cases hr
  refine ⟨?_, ⟨xs, by rw [upd_ne ne]; exact hx, ax⟩, ⟨zs, upd_same, al⟩, ne⟩
  rw [wo_new hr]
  exact A.g.trans (Gr.wide A.g.c (wo_mono wo_ex))
theorem A2.fin (A : A2 B H0 a b ps qs C H) (ha : H0 a = none) (hb : H0 b = none) : ∃ C', Gr B H0 C' H ∧ (LsP ps).P (.ref a) C' ∧ (LsP qs).P (.ref b) C' := by
  obtain ⟨xs, hx, ax⟩ := A.fa
  obtain ⟨ys, hy, ay⟩ := A.fb
  obtain ⟨na, nb⟩ := A.na
  have e1 : Ex C (upd C a (.lst xs)) := Ex.new na
  have nb2 : (upd C a (.lst xs)) b = none := by rw [upd_ne A.ne.symm]; exact nb
  have e2 : Ex (upd C a (.lst xs)) (upd (upd C a (.lst xs)) b (.lst ys)) := Ex.new nb2
  refine ⟨upd (upd C a (.lst xs)) b (.lst ys), ⟨(A.g.a.trans wo_ex).trans wo_ex, A.g.b.trans (e1.trans e2), fun x o e => ?_, fun x h1 h2 => ?_, fun z x qs' q => ?_⟩, ⟨a, xs, rfl, e2 _ _ upd_same, ax.m (e1.trans e2)⟩, ⟨b, ys, rfl, upd_same, ay.m (e1.trans e2)⟩⟩
  · by_cases n : x = b
    · subst n
      rw [upd_same] at e
      rw [hy]
      exact e
    · rw [upd_ne n] at e
      by_cases m : x = a
      · subst m
        rw [upd_same] at e
        rw [hx]
        exact e
      · rw [upd_ne m] at e
        exact A.ex x o e
  · rw [upd_ne (fun z => h2 (by rw [z]; exact hb)), upd_ne (fun z => h2 (by rw [z]; exact ha))]
    exact A.g.d x h1 h2
  · by_cases n : x = b
    · subst n
      rw [upd_same] at q
      cases q
    · rw [upd_ne n] at q
      by_cases m : x = a
      · subst m
        rw [upd_same] at q
        cases q
      · rw [upd_ne m] at q
        exact A.g.e z x qs' q
end
/-! ### x is True -/
section
variable {X : Cx}
theorem bl_beq (a b : Bool) : (Value.bool a == Value.bool b) = decide (a = b) := by
  cases a <;> cases b <;> rfl
def rIsT : R2 := fun x y H Q => ∃ a b, x = V.bl a ∧ y = V.bl b ∧ Q (.bl (decide (a = b))) H
def rNotT : R2 := fun x y H Q => ∃ a b, x = V.bl a ∧ y = V.bl b ∧ Q (.bl (!decide (a = b))) H
theorem op_isT : OpR X (compareOp .Is) rIsT := by
  intro pins s σ H x y v u Q I rx ry h
  obtain ⟨a, b, rfl, rfl, q⟩ := h
  cases (show v = Value.bool a from rx)
  cases (show u = Value.bool b from ry)
  exact wpAny_is_plain rfl (fin_bl I q (bl_beq a b).symm)
theorem op_notT : OpR X (compareOp .IsNot) rNotT := by
  intro pins s σ H x y v u Q I rx ry h
  obtain ⟨a, b, rfl, rfl, q⟩ := h
  cases (show v = Value.bool a from rx)
  cases (show u = Value.bool b from ry)
  exact wpAny_isNot_plain rfl (fin_bl I q (congrArg not (bl_beq a b).symm))
theorem ev_isT {te tb : TE} {σ : L2.St} {B : Hp} {a b : Bool} (h : Ev te σ B (.bl a)) (k : Ev tb σ B (.bl b)) : Ev (tOp rIsT te tb) σ B (.bl (decide (a = b))) := fun H1 e Q q => h H1 e _ fun H2 e2 => k H2 (e.trans e2) _ fun H3 e3 => ⟨a, b, rfl, rfl, q H3 (e2.trans e3)⟩
theorem ev_notTr {te tb : TE} {σ : L2.St} {B : Hp} {a b : Bool} (h : Ev te σ B (.bl a)) (k : Ev tb σ B (.bl b)) : Ev (tOp rNotT te tb) σ B (.bl (!decide (a = b))) := fun H1 e Q q => h H1 e _ fun H2 e2 => k H2 (e.trans e2) _ fun H3 e3 => ⟨a, b, rfl, rfl, q H3 (e2.trans e3)⟩
end
theorem sh_ints (l : List Int) : SeqAt.shaped (.list (l.map .int)) = true := by
  have : ∀ l : List Int, PyData.canLayAll0 (l.map .int) = true ∧ PyData.depthAll (l.map .int) = 0 := by
    intro l
    induction l with
    | nil => exact ⟨rfl, rfl⟩
    | cons x l ih =>
      refine ⟨?_, ?_⟩
      · simp only [List.map_cons, PyData.canLayAll0, PyData.canLay0, Bool.true_and]
        exact ih.1
      · simp only [List.map_cons, PyData.depthAll, PyData.depth]
        rw [ih.2]
        rfl
  have := this l
  simp [SeqAt.shaped, PyData.canLay0, PyData.depth, this.1, this.2]
end Nd
local macro_rules | `(tactic| walk_at "cond") => `(tactic| (refine My.isP ?_; first
  | decide
  | omega
  | (dsimp only; first | omega | decide)
  | exact ⟨by decide, by decide, by decide⟩
  | exact ⟨by decide, by decide⟩
  | exact ⟨by omega, by omega⟩
  | exact Or.inl ⟨by omega, by omega⟩
  | exact Or.inr ⟨by omega, by omega⟩))
local macro_rules | `(tactic| walk_at "go") => `(tactic| repeat (first
  | refine ⟨_, _, rfl, rfl, (by (walk_at "cond"); done), ?_⟩
  | refine ⟨_, _, rfl, rfl, ?_⟩
  | refine ⟨_, rfl, ?_⟩
  | refine ⟨rfl, ?_⟩
  | refine ⟨⟨_, rfl⟩, ?_⟩))
namespace K12
set_option autoImplicit false
open PySem L2 Evl My
def topS (i : Nat) : Stmt := PySem.Challenge.pw_rankedchains_k40_cones_by_columns.main.body.getD i (.Pass ⟨0, 0, 0, 0⟩)
def Rwhole : List Pr → Pr → Prop := fun ps p => ∃ i : Int, ps = [IsV (.int i)] ∧ p = IsV (.bl true)
def Ramong : List Pr → Pr → Prop := fun ps p => ∃ t l m : Int, ps = [IsV (.int t), IsV (.int l), IsV (.int m)] ∧ p = IsV (.bl (decide (l ≤ t) && decide (t ≤ m)))
def Rname : List Pr → Pr → Prop := fun ps p => ∃ x : Str, ps = [IsV (.str x)] ∧ IsNm x ∧ p = IsV (.bl true)
def Raxis : List Pr → Pr → Prop := fun ps p => ∃ x : Str, ps = [IsV (.str x)] ∧ x ∈ [("x" : Str), "y"] ∧ p = IsV (.bl true)
def RnamesA (K : PySem.W.Frag) : List Pr → Pr → Prop := fun ps p => ∃ r : Rk, r.Ok ∧ ps = [NmP r.ns] ∧ p = IsV (.bl true)
def RaxesA (K : PySem.W.Frag) : List Pr → Pr → Prop := fun ps p => ∃ r : Rk, ps = [IsD K (.tuple (r.axs.map .str))] ∧ p = IsV (.bl true)
def Rrk (K : PySem.W.Frag) (q : Pr) : List Pr → Pr → Prop := fun ps p => ∃ r : Rk, r.Ok ∧ ps = [RkP K r] ∧ p = q
def Rdv (q : Pr) : List Pr → Pr → Prop := fun ps p => ∃ (r : Rk) (u : Dv), r.Ok ∧ u.Of r ∧ ps = [DvP u] ∧ p = q
def Rrd (K : PySem.W.Frag) (q : Rk → Dv → Pr) : List Pr → Pr → Prop := fun ps p => ∃ (r : Rk) (u : Dv), r.Ok ∧ u.Of r ∧ ps = [RkP K r, DvP u] ∧ p = q r u
def Rcmp (K : PySem.W.Frag) : List Pr → Pr → Prop := fun ps p => ∃ a b : List Int, a.length = 3 ∧ b.length = 3 ∧ ps = [IsD K (.tuple (a.map .int)), IsD K (.tuple (b.map .int))] ∧ p = IsV (.int (cmpL a b))
def Rrc (K : PySem.W.Frag) : List Pr → Pr → Prop := fun ps p => ∃ (r : Rk) (u v : Dv), r.Ok ∧ u.Of r ∧ v.Of r ∧ ps = [RkP K r, DvP u, DvP v] ∧ p = IsV (.int (r.cmp u v))
theorem all1 {p : Pr} {vs : List V} {H : Hp} (h : AllP [p] vs H) : ∃ v, vs = [v] ∧ p.P v H := by
  match vs, h with
  | [v], h => exact ⟨v, rfl, h.1⟩
theorem all2 {p q : Pr} {vs : List V} {H : Hp} (h : AllP [p, q] vs H) : ∃ v u, vs = [v, u] ∧ p.P v H ∧ q.P u H := by
  match vs, h with
  | [v, u], h => exact ⟨v, u, rfl, h.1, h.2.1⟩
theorem all3 {p q r : Pr} {vs : List V} {H : Hp} (h : AllP [p, q, r] vs H) : ∃ v u t, vs = [v, u, t] ∧ p.P v H ∧ q.P u H ∧ r.P t H := by
  match vs, h with
  | [v, u, t], h => exact ⟨v, u, t, rfl, h.1, h.2.1, h.2.2.1⟩
theorem iv_in {te : TE} {σ : L2.St} {B : Hp} {v : V} (h : EvP te σ B (IsV v)) : Ev te σ B v := ev_p h
theorem dec_axes (r : Rk) : ([PyData.tuple [.str "x"], .tuple [.str "x", .str "y"], .tuple [.str "y", .str "x"]].any fun z => PyData.eqv z (.tuple (r.axs.map .str))) = true := by
  have : ∀ a : Fin 3, ([PyData.tuple [.str "x"], .tuple [.str "x", .str "y"], .tuple [.str "y", .str "x"]].any fun z => PyData.eqv z (.tuple ((axsOf a).map .str))) = true := by decide +kernel
  exact this r.ax
section
variable {P : Program} {w : World} {K : PySem.W.Frag} {mg : Str → Option Value} {base : Heap}

/-- is_whole -/
abbrev s_is_whole : Stmt := topS 11
abbrev N_is_whole : List Str := ["thing"]
theorem sc_is_whole : FnScope N_is_whole ["thing"] (defScope s_is_whole) := ⟨rfl, rfl, rfl, by decide +kernel, rfl, by decide +kernel, by decide +kernel⟩
theorem ok_is_whole {f : Addr} {fd : FuncData} (F : Fun K "is_whole" "is_whole" s_is_whole f fd)  (n_isinstance : mg "isinstance" = none) (n_int : mg "int" = none) (n_bool : mg "bool" = none)  :
    FnOk P w K mg base CX0 2 f fd ["thing"] (spP Rwhole) := by
  refine F.ok sc_is_whole (spP_len (by rintro _ _ ⟨i, rfl, rfl⟩; rfl)) (fun cdv A outer s H vs Q E hr h => ?_)
  obtain ⟨B, ps, p, eB, hv, ⟨i, rfl, rfl⟩, q⟩ := h
  obtain ⟨v, rfl, h1⟩ := all1 hv
  obtain rfl : v = .int i := h1
  have hu := hu_of hr
  refine ⟨_, (pss_one (ps_ret (pe_and (pe_callB call_isi (by rfl) n_isinstance (by decide +kernel) (pa_cons (pv 0) (pa_cons (pe_bltn (v := .ty "int") (u := .type "int") (by rfl) n_int (by decide +kernel) rfl) pa_nil))) (pe_one (pe_not (pe_callB call_isi (by rfl) n_isinstance (by decide +kernel) (pa_cons (pv 0) (pa_cons (pe_bltn (v := .ty "bool") (u := .type "bool") (by rfl) n_bool (by decide +kernel) rfl) pa_nil)))))))), ?_⟩
  refine ps_ret eB (p_ev (v := .bl true) (ev_andV (a := true) (b := true) (ev_isi (K := K) (d := .int i) (ed_in (ev_var rfl)) k_ii) fun _ => ev_is (ev_notV (ev_isi (K := K) (d := .int i) (ed_in (ev_var rfl)) k_ib)) rfl)) fun v B1 H1 g hp => q v B1 H1 g hp

/-- is_among -/
abbrev s_is_among : Stmt := topS 12
abbrev N_is_among : List Str := ["thing", "least", "most"]
theorem sc_is_among : FnScope N_is_among ["thing", "least", "most"] (defScope s_is_among) := ⟨rfl, rfl, rfl, by decide +kernel, rfl, by decide +kernel, by decide +kernel⟩
theorem ok_is_among {f : Addr} {fd : FuncData} (F : Fun K "is_among" "is_among" s_is_among f fd) {f_is_whole : Addr} {d_is_whole : FuncData} (c_is_whole : Cal P w K mg base "is_whole" 2 ["thing"] (spP Rwhole) f_is_whole d_is_whole)   :
    FnOk P w K mg base CX0 3 f fd ["thing", "least", "most"] (spP Ramong) := by
  refine F.ok sc_is_among (spP_len (by rintro _ _ ⟨t, l, m, rfl, rfl⟩; rfl)) (fun cdv A outer s H vs Q E hr h => ?_)
  obtain ⟨B, ps, p, eB, hv, ⟨t, l, m, rfl, rfl⟩, q⟩ := h
  obtain ⟨v1, v2, v3, rfl, h1, h2, h3⟩ := all3 hv
  obtain rfl : v1 = .int t := h1
  obtain rfl : v2 = .int l := h2
  obtain rfl : v3 = .int m := h3
  have hu := hu_of hr
  refine ⟨_, (pss_one (ps_ret (pe_and (pe_call c_is_whole.G (hr.mono (by decide)) (by rfl) c_is_whole.m c_is_whole.k c_is_whole.b .nil pass0 (pa_cons (pv 0) pa_nil)) (pe_and (pe_call c_is_whole.G (hr.mono (by decide)) (by rfl) c_is_whole.m c_is_whole.k c_is_whole.b .nil pass0 (pa_cons (pv 1) pa_nil)) (pe_and (pe_call c_is_whole.G (hr.mono (by decide)) (by rfl) c_is_whole.m c_is_whole.k c_is_whole.b .nil pass0 (pa_cons (pv 2) pa_nil)) (pe_one (pe_chain op_le op_le (pv 1) (pv 0) (pv 2)))))))), ?_⟩
  have wh : ∀ (i : Nat) (j : Int), ([some (.int t), some (.int l), some (.int m)] : L2.St)[i]? = some (some (.int j)) → Ev (tCall (spP Rwhole) [] E0 (tCons (tVar i) tNil)) [some (.int t), some (.int l), some (.int m)] B (.bl true) :=
    fun i j hi => ev_p (p_callP (ps := [IsV (.int j)]) (q_cons (p_varV hi) q_nil) ⟨j, rfl, rfl⟩)
  refine ps_ret eB (p_ev (v := .bl (decide (l ≤ t) && decide (t ≤ m))) (ev_is (ev_andV (a := true) (b := true && (true && (decide (l ≤ t) && decide (t ≤ m)))) (wh 0 t rfl) fun _ => ev_andV (wh 1 l rfl) fun _ => ev_andV (wh 2 m rfl) fun _ => ?_) (by simp))) fun v B1 H1 g hp => q v B1 H1 g hp
  exact ev_chain (r1 := fun i j => decide (i ≤ j)) (r2 := fun i j => decide (i ≤ j)) (ev_var rfl) (ev_var rfl) (ev_var rfl)

/-- is_name -/
abbrev s_is_name : Stmt := topS 13
abbrev N_is_name : List Str := ["thing", "sign"]
theorem sc_is_name : FnScope N_is_name ["thing"] (defScope s_is_name) := ⟨rfl, rfl, rfl, by decide +kernel, rfl, by decide +kernel, by decide +kernel⟩
theorem ok_is_name {f : Addr} {fd : FuncData} (F : Fun K "is_name" "is_name" s_is_name f fd)  (n_isinstance : mg "isinstance" = none) (n_str : mg "str" = none) (n_len : mg "len" = none) (n_all : mg "all" = none) {tk1 tk2 : Nat} (g_MOST_LETTERS : mg "MOST_LETTERS" = some (.int 8 tk1)) (g_LETTERS : mg "LETTERS" = some (.str "abcdefghijklmnopqrstuvwxyz" tk2)) :
    FnOk P w K mg base CX0 2 f fd ["thing"] (spP Rname) := by
  refine F.ok sc_is_name (spP_len (by rintro _ _ ⟨x, rfl, _, rfl⟩; rfl)) (fun cdv A outer s H vs Q E hr h => ?_)
  obtain ⟨B, ps, p, eB, hv, ⟨x, rfl, hx, rfl⟩, q⟩ := h
  obtain ⟨v, rfl, h1⟩ := all1 hv
  obtain rfl : v = .str x := h1
  have hu := hu_of hr
  refine ⟨_, (pss_cons (ps_if (PW.pt (pw_or (pt_not (pt_val (pe_callB call_isi (by rfl) n_isinstance (by decide +kernel) (pa_cons (pv 0) (pa_cons (pe_bltn (v := .ty "str") (u := .type "str") (by rfl) n_str (by decide +kernel) rfl) pa_nil))))) (pw_or1 (pt_not (pt_chain op_le op_le pe_int (pe_callB call_len_str (by rfl) n_len (by decide +kernel) (pa_cons (pv 0) pa_nil)) (pe_glob (by rfl) (v := .int 8) g_MOST_LETTERS ⟨_, rfl⟩)))))) (pss_one (ps_ret pe_bl)) pss_nil)
    (pss_one (ps_ret (pe_callB (cr_all rfl) (by rfl) n_all (by decide +kernel) (pa_cons (pe_lc (own := [("sign", 1)]) rfl sc_is_name.nd (pi_str (pv 0)) (blkOk_by (N := N_is_name) (sc := defScope s_is_name) (by decide +kernel)) (fun _ _ _ _ _ => (pg_name (i := 1) sc_is_name.nd rfl (Or.inl rfl))) (fun _ _ _ _ _ => pts_nil) (fun _ _ _ _ _ => (pe_cmpR op_in_sign (pv 1) (pe_glob (by rfl) (v := .str "abcdefghijklmnopqrstuvwxyz") g_LETTERS ⟨_, rfl⟩) (by rfl)))) pa_nil))))), ?_⟩
  have hx2 := nm_facts hx
  refine ps_ifN eB (et_is (et_or (a := false) (b := false) (et_is (et_not (et_test (ev_isi (K := K) (d := .str x) (ed_st (ev_var rfl)) k_ss))) rfl) fun _ => et_is (et_not (et_test (ev_chain (r1 := fun i j => decide (i ≤ j)) (r2 := fun i j => decide (i ≤ j)) ev_c (ev_lenS (x := x) (ev_var rfl) (by omega)) ev_c))) (by simp; omega)) rfl) fun H1 e1 => ?_
  dsimp only
  refine My.ps_ret (eB.trans e1) (p_ev (v := .bl true) (ev_is (ev_allL (K := K) (bs := (List.range x.cps.size).map fun _ => true) ?_) ?_)) fun v B1 H2 g hp => q v B1 H2 ((Gr.wide eB e1).trans g) hp
  rotate_left
  · simp
  rw [List.map_map]
  refine p_lcA (K := K) (src_str (x := x) (ev_var rfl)) (by show x.length ≤ _; omega) (fun _ => .bool true) fun i v B1 hi e pv => ?_
  obtain rfl : v = .str (oneS x i) := pv
  refine ⟨[some (.str x), some (.str (oneS x i))], rfl, fun H2 Q e q => q, ed_bl (ev_is (ev_sign (c := x.cps.getD i 0) (z := "abcdefghijklmnopqrstuvwxyz") (ev_var rfl) ev_c) ?_)⟩
  have := hx2.2.2 (x.cps.getD i 0) (by rw [Array.getD_eq_getD_getElem?, Array.getElem?_eq_getElem hi]; simp)
  exact congrArg V.bl (decide_eq_true (let_low this.1 this.2))

/-- is_axis -/
abbrev s_is_axis : Stmt := topS 14
abbrev N_is_axis : List Str := ["thing"]
theorem sc_is_axis : FnScope N_is_axis ["thing"] (defScope s_is_axis) := ⟨rfl, rfl, rfl, by decide +kernel, rfl, by decide +kernel, by decide +kernel⟩
theorem ok_is_axis {f : Addr} {fd : FuncData} (F : Fun K "is_axis" "is_axis" s_is_axis f fd)  (n_isinstance : mg "isinstance" = none) (n_str : mg "str" = none) {aA : Addr} (g_AXES : mg "AXES" = some (.ref aA)) (v_AXES : ∀ H, Dp K H (.ref aA) (.tuple ([("x" : Str), "y"].map .str))) :
    FnOk P w K mg base CX0 1 f fd ["thing"] (spP Raxis) := by
  refine F.ok sc_is_axis (spP_len (by rintro _ _ ⟨x, rfl, _, rfl⟩; rfl)) (fun cdv A outer s H vs Q E hr h => ?_)
  obtain ⟨B, ps, p, eB, hv, ⟨x, rfl, hx, rfl⟩, q⟩ := h
  obtain ⟨v, rfl, h1⟩ := all1 hv
  obtain rfl : v = .str x := h1
  have hu := hu_of hr
  refine ⟨_, (pss_one (ps_ret (pe_and (pe_callB call_isi (by rfl) n_isinstance (by decide +kernel) (pa_cons (pv 0) (pa_cons (pe_bltn (v := .ty "str") (u := .type "str") (by rfl) n_str (by decide +kernel) rfl) pa_nil))) (pe_one (pe_cmpR op_in_seq (pv 0) (pe_glob (by rfl) (v := .ref aA) g_AXES rfl) (by rfl)))))), ?_⟩
  refine ps_ret eB (p_ev (v := .bl true) (ev_andV (a := true) (b := true) (ev_isi (K := K) (d := .str x) (ed_st (ev_var rfl)) k_ss) fun _ => ev_is (ev_inT (neg := false) (ys := ["x", "y"]) (ev_var rfl) (ed_ref (v_AXES B))) ?_)) fun v B1 H1 g hp => q v B1 H1 g hp
  simp only [Bool.false_eq_true, if_false]
  rw [decide_eq_true hx]

end
end K12
namespace K12
set_option autoImplicit false
open PySem L2 Evl My
section
variable {P : Program} {w : World} {K : PySem.W.Frag} {mg : Str → Option Value} {base : Heap}
theorem of_nm {r : Rk} {u : Dv} (h : r.Ok) (k : u.Of r) : IsNm u.n := h.nm _ k.n

/-- is_derivative -/
abbrev s_is_derivative : Stmt := topS 18
abbrev N_is_derivative : List Str := ["thing", "name", "by_x", "by_y"]
theorem sc_is_derivative : FnScope N_is_derivative ["thing"] (defScope s_is_derivative) := ⟨rfl, rfl, rfl, by decide +kernel, rfl, by decide +kernel, by decide +kernel⟩
theorem ok_is_derivative {f : Addr} {fd : FuncData} (F : Fun K "is_derivative" "is_derivative" s_is_derivative f fd) {f_is_name : Addr} {d_is_name : FuncData} (c_is_name : Cal P w K mg base "is_name" 2 ["thing"] (spP Rname) f_is_name d_is_name) {f_is_whole : Addr} {d_is_whole : FuncData} (c_is_whole : Cal P w K mg base "is_whole" 2 ["thing"] (spP Rwhole) f_is_whole d_is_whole) (n_isinstance : mg "isinstance" = none) (n_tuple : mg "tuple" = none) (n_len : mg "len" = none)  :
    FnOk P w K mg base CX0 3 f fd ["thing"] (spP (Rdv (IsV (.bl true)))) := by
  refine F.ok sc_is_derivative (spP_len (by rintro _ _ ⟨r, u, _, _, rfl, rfl⟩; rfl)) (fun cdv A outer s H vs Q E hr h => ?_)
  obtain ⟨B, ps, p, eB, hv, ⟨r, u, hr0, hu0, rfl, rfl⟩, q⟩ := h
  obtain ⟨v, rfl, h1⟩ := all1 hv
  have hu := hu_of hr
  refine ⟨_, (pss_cons (ps_if (PW.pt (pw_or (pt_not (pt_val (pe_callB call_isi (by rfl) n_isinstance (by decide +kernel) (pa_cons (pv 0) (pa_cons (pe_bltn (v := .ty "tuple") (u := .type "tuple") (by rfl) n_tuple (by decide +kernel) rfl) pa_nil))))) (pw_or1 (pt_cmpR op_ne (pe_callB call_len_seq (by rfl) n_len (by decide +kernel) (pa_cons (pv 0) pa_nil)) pe_int (nomark _))))) (pss_one (ps_ret pe_bl)) pss_nil)
    (pss_cons (ps_asg (pv 0) (pg_tup (by rfl) (pgs_cons (pg_name (i := 1) sc_is_derivative.nd rfl (by first | exact .inl rfl | exact .inr rfl)) (pgs_cons (pg_name (i := 2) sc_is_derivative.nd rfl (by first | exact .inl rfl | exact .inr rfl)) (pgs_cons (pg_name (i := 3) sc_is_derivative.nd rfl (by first | exact .inl rfl | exact .inr rfl)) pgs_nil)))))
    (pss_one (ps_ret (pe_and (pe_call c_is_name.G (hr.mono (by decide)) (by rfl) c_is_name.m c_is_name.k c_is_name.b .nil pass0 (pa_cons (pv 1) pa_nil)) (pe_and (pe_call c_is_whole.G (hr.mono (by decide)) (by rfl) c_is_whole.m c_is_whole.k c_is_whole.b .nil pass0 (pa_cons (pv 2) pa_nil)) (pe_and (pe_call c_is_whole.G (hr.mono (by decide)) (by rfl) c_is_whole.m c_is_whole.k c_is_whole.b .nil pass0 (pa_cons (pv 3) pa_nil)) (pe_and (pe_cmpR op_ge (pv 2) pe_int (nomark _)) (pe_one (pe_cmpR op_ge (pv 3) pe_int (nomark _))))))))))), ?_⟩
  refine ps_ifN eB (et_is (et_or (a := false) (b := false) (et_is (et_not (et_test (ev_isi (K := K) (d := u.D) (ed_dv (p_var rfl h1)) k_tt))) rfl) fun _ => et_is (et_test (ev_op (ev_lenD (K := K) (ed_dv (p_var rfl h1)) (.inl rfl)) ev_c (rv_ne rfl))) rfl) rfl) fun H1 e1 => ?_
  dsimp only
  refine ps_unD (K := K) (eB.trans e1) (p_var rfl h1) fun B2 H2 g2 => ?_
  have i1 := of_nm hr0 hu0
  have i2 := hu0.i
  have i3 := hu0.j
  dsimp only
  refine My.ps_ret g2.c (p_ev (v := .bl true) (ev_is (ev_andV (a := true) (b := true && (true && (decide (0 ≤ u.i) && decide (0 ≤ u.j)))) (ev_p (p_callP (ps := [IsV (.str u.n)]) (q_cons (p_varV rfl) q_nil) ⟨u.n, rfl, i1, rfl⟩)) fun _ =>
    ev_andV (ev_p (p_callP (ps := [IsV (.int u.i)]) (q_cons (p_varV rfl) q_nil) ⟨u.i, rfl, rfl⟩)) fun _ => ev_andV (ev_p (p_callP (ps := [IsV (.int u.j)]) (q_cons (p_varV rfl) q_nil) ⟨u.j, rfl, rfl⟩)) fun _ =>
    ev_andV (ev_op (ev_var rfl) ev_c rv_I0) fun _ => ev_op (ev_var rfl) ev_c rv_I0) (by simp [i2, i3]))) fun v B3 H3 g hp => q v B3 H3 (((Gr.wide eB e1).trans g2).trans g) hp

/-- _are_names -/
abbrev s__are_names : Stmt := topS 31
abbrev N__are_names : List Str := ["thing", "name"]
theorem sc__are_names : FnScope N__are_names ["thing"] (defScope s__are_names) := ⟨rfl, rfl, rfl, by decide +kernel, rfl, by decide +kernel, by decide +kernel⟩
theorem ok__are_names {f : Addr} {fd : FuncData} (F : Fun K "_are_names" "_are_names" s__are_names f fd) {f_is_name : Addr} {d_is_name : FuncData} (c_is_name : Cal P w K mg base "is_name" 2 ["thing"] (spP Rname) f_is_name d_is_name) (n_isinstance : mg "isinstance" = none) (n_tuple : mg "tuple" = none) (n_len : mg "len" = none) (n_all : mg "all" = none) (n_set : mg "set" = none) {tk1 : Nat} (g_MOST_NAMES : mg "MOST_NAMES" = some (.int 3 tk1)) :
    FnOk P w K mg base CX0 3 f fd ["thing"] (spP (RnamesA K)) := by
  refine F.ok sc__are_names (spP_len (by rintro _ _ ⟨r, _, rfl, rfl⟩; rfl)) (fun cdv A outer s H vs Q E hr h => ?_)
  obtain ⟨B, ps, p, eB, hv, ⟨r, hr0, rfl, rfl⟩, q⟩ := h
  obtain ⟨v, rfl, h1⟩ := all1 hv
  have hu := hu_of hr
  refine ⟨_, (pss_cons (ps_if (PW.pt (pw_or (pt_not (pt_val (pe_callB call_isi (by rfl) n_isinstance (by decide +kernel) (pa_cons (pv 0) (pa_cons (pe_bltn (v := .ty "tuple") (u := .type "tuple") (by rfl) n_tuple (by decide +kernel) rfl) pa_nil))))) (pw_or1 (pt_not (pt_chain op_le op_le pe_int (pe_callB call_len_seq (by rfl) n_len (by decide +kernel) (pa_cons (pv 0) pa_nil)) (pe_glob (by rfl) (v := .int 3) g_MOST_NAMES ⟨_, rfl⟩)))))) (pss_one (ps_ret pe_bl)) pss_nil)
    (pss_one (ps_ret (pe_and (pe_callB (cr_all rfl) (by rfl) n_all (by decide +kernel) (pa_cons (pe_lc (own := [("name", 1)]) rfl sc__are_names.nd (pi_tup (pv 0)) (blkOk_by (N := N__are_names) (sc := defScope s__are_names) (by decide +kernel)) (fun _ _ _ _ _ => (pg_name (i := 1) sc__are_names.nd rfl (Or.inl rfl))) (fun _ _ _ _ _ => pts_nil) (fun _ _ _ _ _ => (pe_call c_is_name.G (hr.mono (by decide)) (by rfl) c_is_name.m c_is_name.k c_is_name.b .nil pass0 (pa_cons (pv 1) pa_nil)))) pa_nil)) (pe_one (pe_cmpR op_eq (pe_lenSetT rfl (by rfl) n_len (by rfl) n_set (pv 0)) (pe_callB call_len_seq (by rfl) n_len (by decide +kernel) (pa_cons (pv 0) pa_nil)) (nomark _))))))), ?_⟩
  have hne := hr0.ne
  have hle := hr0.le
  refine ps_ifN eB (et_is (et_or (a := false) (b := false) (et_is (et_not (et_test (ev_isi (K := K) (d := .tuple (r.ns.map .str)) (ed_nm (p_var rfl h1)) k_tt))) rfl) fun _ => et_is (et_not (et_test (ev_chain (r1 := fun i j => decide (i ≤ j)) (r2 := fun i j => decide (i ≤ j)) ev_c (ev_lenD (K := K) (ed_nm (p_var rfl h1)) (.inl rfl)) ev_c))) (by simp; omega)) rfl) fun H1 e1 => ?_
  dsimp only
  refine My.ps_ret (eB.trans e1) (p_ev (v := .bl true) (ev_is (ev_andV (a := true) (b := true) (ev_is (ev_allL (K := K) (bs := (List.range (r.ns.map PyData.str).length).map fun _ => true) ?_) ?_) fun _ => ev_is (ev_op (ev_lenSet (xs := r.ns) (p_var rfl h1) hr0.nd (by omega)) (ev_lenD (K := K) (ed_nm (p_var rfl h1)) (.inl rfl)) (rv_eq rfl)) (by simp)) rfl)) fun v B1 H2 g hp => q v B1 H2 ((Gr.wide eB e1).trans g) hp
  rotate_left
  · simp
  rw [List.map_map]
  refine p_lcA (K := K) (src_tup (ed_nm (p_var rfl h1))) (by rw [List.length_map]; omega) (fun _ => .bool true) fun i v1 B1 hi e pv => ?_
  rw [List.length_map] at hi
  have ed : (r.ns.map PyData.str).getD i .none = .str r.ns[i] := by
    rw [List.getD_eq_getElem?_getD, List.getElem?_map, List.getElem?_eq_getElem hi]
    rfl
  obtain rfl : v1 = .str r.ns[i] := by
    have pv : Dp K B1 v1 ((r.ns.map PyData.str).getD i .none) := pv
    rw [ed] at pv
    cases pv
    rfl
  refine ⟨[some v, some (.str r.ns[i])], rfl, fun H2 Q e q => q, ed_bl (ev_p (p_callP (ps := [IsV (.str r.ns[i])]) (q_cons (p_varV rfl) q_nil) ⟨r.ns[i], rfl, hr0.nm _ (List.getElem_mem hi), rfl⟩))⟩

/-- _are_axes -/
abbrev s__are_axes : Stmt := topS 32
abbrev N__are_axes : List Str := ["thing", "axis"]
theorem sc__are_axes : FnScope N__are_axes ["thing"] (defScope s__are_axes) := ⟨rfl, rfl, rfl, by decide +kernel, rfl, by decide +kernel, by decide +kernel⟩
theorem ax_len (r : Rk) : r.axs.length ≤ 2 := by
  have : ∀ a : Fin 3, (axsOf a).length ≤ 2 := by decide +kernel
  exact this r.ax
theorem ax_mem (r : Rk) : ∀ x ∈ r.axs, x ∈ [("x" : Str), "y"] := by
  have : ∀ a : Fin 3, ∀ x ∈ axsOf a, x ∈ [("x" : Str), "y"] := by decide +kernel
  exact this r.ax
theorem ax_shaped (r : Rk) : SeqAt.shaped (.tuple (r.axs.map .str)) = true := by
  have : ∀ a : Fin 3, SeqAt.shaped (.tuple ((axsOf a).map .str)) = true := by decide +kernel
  exact this r.ax
theorem ok__are_axes {f : Addr} {fd : FuncData} (F : Fun K "_are_axes" "_are_axes" s__are_axes f fd) {f_is_axis : Addr} {d_is_axis : FuncData} (c_is_axis : Cal P w K mg base "is_axis" 1 ["thing"] (spP Raxis) f_is_axis d_is_axis) (n_isinstance : mg "isinstance" = none) (n_tuple : mg "tuple" = none) (n_all : mg "all" = none) {aL : Addr} (g_ALL : mg "AXES_ALL" = some (.ref aL)) (v_ALL : ∀ H, Dp K H (.ref aL) (.tuple [PyData.tuple [.str "x"], .tuple [.str "x", .str "y"], .tuple [.str "y", .str "x"]])) :
    FnOk P w K mg base CX0 2 f fd ["thing"] (spP (RaxesA K)) := by
  refine F.ok sc__are_axes (spP_len (by rintro _ _ ⟨r, rfl, rfl⟩; rfl)) (fun cdv A outer s H vs Q E hr h => ?_)
  obtain ⟨B, ps, p, eB, hv, ⟨r, rfl, rfl⟩, q⟩ := h
  obtain ⟨v, rfl, h1⟩ := all1 hv
  have hu := hu_of hr
  refine ⟨_, (pss_one (ps_ret (pe_and (pe_callB call_isi (by rfl) n_isinstance (by decide +kernel) (pa_cons (pv 0) (pa_cons (pe_bltn (v := .ty "tuple") (u := .type "tuple") (by rfl) n_tuple (by decide +kernel) rfl) pa_nil))) (pe_and (pe_callB (cr_all rfl) (by rfl) n_all (by decide +kernel) (pa_cons (pe_lc (own := [("axis", 1)]) rfl sc__are_axes.nd (pi_tup (pv 0)) (blkOk_by (N := N__are_axes) (sc := defScope s__are_axes) (by decide +kernel)) (fun _ _ _ _ _ => (pg_name (i := 1) sc__are_axes.nd rfl (Or.inl rfl))) (fun _ _ _ _ _ => pts_nil) (fun _ _ _ _ _ => (pe_call c_is_axis.G (hr.mono (by decide)) (by rfl) c_is_axis.m c_is_axis.k c_is_axis.b .nil pass0 (pa_cons (pv 1) pa_nil)))) pa_nil)) (pe_one (pe_cmpR (op_inT (by have h := hr.un; show (A.deeper _).units + 65 < cLine; omega)) (pv 0) (pe_glob (by rfl) (v := .ref aL) g_ALL rfl) (by rfl))))))), ?_⟩
  refine My.ps_ret eB (p_ev (v := .bl true) (ev_is (ev_andV (a := true) (b := true && true) (ev_isi (K := K) (d := .tuple (r.axs.map .str)) (ed_var rfl h1) k_tt) fun _ => ev_andV (ev_is (ev_allL (K := K) (bs := (List.range (r.axs.map PyData.str).length).map fun _ => true) ?_) ?_) fun _ => ev_is (ev_inDT (ed_var rfl h1) (ed_ref (v_ALL B)) (ax_shaped r) (by decide +kernel)) ?_) rfl)) fun v B1 H2 g hp => q v B1 H2 g hp
  · rw [List.map_map]
    have hl := ax_len r
    refine p_lcA (K := K) (src_tup (ed_var rfl h1)) (by rw [List.length_map]; omega) (fun _ => .bool true) fun i v1 B1 hi e pv => ?_
    rw [List.length_map] at hi
    have ed : (r.axs.map PyData.str).getD i .none = .str r.axs[i] := by
      rw [List.getD_eq_getElem?_getD, List.getElem?_map, List.getElem?_eq_getElem hi]
      rfl
    obtain rfl : v1 = .str r.axs[i] := by
      have pv : Dp K B1 v1 ((r.axs.map PyData.str).getD i .none) := pv
      rw [ed] at pv
      cases pv
      rfl
    refine ⟨[some v, some (.str r.axs[i])], rfl, fun H2 Q e q => q, ed_bl (ev_p (p_callP (ps := [IsV (.str r.axs[i])]) (q_cons (p_varV rfl) q_nil) ⟨r.axs[i], rfl, ax_mem r _ (List.getElem_mem hi), rfl⟩))⟩
  · simp
  · rw [dec_axes]

/-- need_ranking -/
abbrev s_need_ranking : Stmt := topS 30
abbrev N_need_ranking : List Str := ["ranking", "sort", "names", "axes"]
theorem sc_need_ranking : FnScope N_need_ranking ["ranking"] (defScope s_need_ranking) := ⟨rfl, rfl, rfl, by decide +kernel, rfl, by decide +kernel, by decide +kernel⟩
theorem srt_mem (r : Rk) : r.srt ∈ [("total" : Str), "names"] := by
  unfold Rk.srt
  cases r.tot <;> simp
theorem ok_need_ranking {f : Addr} {fd : FuncData} (F : Fun K "need_ranking" "need_ranking" s_need_ranking f fd) {f__are_names : Addr} {d__are_names : FuncData} (c__are_names : Cal P w K mg base "_are_names" 3 ["thing"] (spP (RnamesA K)) f__are_names d__are_names) {f__are_axes : Addr} {d__are_axes : FuncData} (c__are_axes : Cal P w K mg base "_are_axes" 2 ["thing"] (spP (RaxesA K)) f__are_axes d__are_axes) (n_isinstance : mg "isinstance" = none) (n_tuple : mg "tuple" = none) (n_len : mg "len" = none) (n_str : mg "str" = none) {aS : Addr} (g_SORTS : mg "SORTS" = some (.ref aS)) (v_SORTS : ∀ H, Dp K H (.ref aS) (.tuple ([("total" : Str), "names"].map .str))) :
    FnOk P w K mg base CX0 4 f fd ["ranking"] (spP (Rrk K (IsV .non))) := by
  refine F.ok sc_need_ranking (spP_len (by rintro _ _ ⟨r, _, rfl, rfl⟩; rfl)) (fun cdv A outer s H vs Q E hr h => ?_)
  obtain ⟨B, ps, p, eB, hv, ⟨r, hr0, rfl, rfl⟩, q⟩ := h
  obtain ⟨v, rfl, h1⟩ := all1 hv
  have hu := hu_of hr
  refine ⟨_, (pss_cons (ps_if (PW.pt (pw_or (pt_not (pt_val (pe_callB call_isi (by rfl) n_isinstance (by decide +kernel) (pa_cons (pv 0) (pa_cons (pe_bltn (v := .ty "tuple") (u := .type "tuple") (by rfl) n_tuple (by decide +kernel) rfl) pa_nil))))) (pw_or1 (pt_cmpR op_ne (pe_callB call_len_seq (by rfl) n_len (by decide +kernel) (pa_cons (pv 0) pa_nil)) pe_int (nomark _))))) (pss_one ps_never) pss_nil)
    (pss_cons (ps_asg (pv 0) (pg_tup (by rfl) (pgs_cons (pg_name (i := 1) sc_need_ranking.nd rfl (by first | exact .inl rfl | exact .inr rfl)) (pgs_cons (pg_name (i := 2) sc_need_ranking.nd rfl (by first | exact .inl rfl | exact .inr rfl)) (pgs_cons (pg_name (i := 3) sc_need_ranking.nd rfl (by first | exact .inl rfl | exact .inr rfl)) pgs_nil)))))
    (pss_cons (ps_if (PW.pt (pw_or (pt_not (pt_val (pe_callB call_isi (by rfl) n_isinstance (by decide +kernel) (pa_cons (pv 1) (pa_cons (pe_bltn (v := .ty "str") (u := .type "str") (by rfl) n_str (by decide +kernel) rfl) pa_nil))))) (pw_or1 (pt_cmpR op_notIn_seq (pv 1) (pe_glob (by rfl) (v := .ref aS) g_SORTS rfl) (by rfl))))) (pss_one ps_never) pss_nil)
    (pss_cons (ps_if (pt_not (pt_val (pe_call c__are_names.G (hr.mono (by decide)) (by rfl) c__are_names.m c__are_names.k c__are_names.b .nil pass0 (pa_cons (pv 2) pa_nil)))) (pss_one ps_never) pss_nil)
    (pss_one (ps_if (pt_not (pt_val (pe_call c__are_axes.G (hr.mono (by decide)) (by rfl) c__are_axes.m c__are_axes.k c__are_axes.b .nil pass0 (pa_cons (pv 3) pa_nil)))) (pss_one ps_never) pss_nil)))))), ?_⟩
  refine ps_ifN eB (et_is (et_or (a := false) (b := false) (et_is (et_not (et_test (ev_isi (K := K) (d := r.D) (ed_rk (p_var rfl h1)) k_tt))) rfl) fun _ => et_is (et_test (ev_op (ev_lenD (K := K) (ed_rk (p_var rfl h1)) (.inl rfl)) ev_c (rv_ne rfl))) rfl) rfl) fun H1 e1 => ?_
  dsimp only
  refine ps_unR (K := K) (eB.trans e1) (p_var rfl h1) fun v2 v3 B2 H2 g2 n2 n3 => ?_
  dsimp only
  refine ps_ifN g2.c (et_is (et_or (a := false) (b := false) (et_is (et_not (et_test (ev_isi (K := K) (d := .str r.srt) (ed_st (ev_var rfl)) k_ss))) rfl) fun _ => et_is (et_test (ev_inT (neg := true) (ys := ["total", "names"]) (ev_var rfl) (ed_ref (v_SORTS B2)))) ?_) rfl) fun H3 e3 => ?_
  · rw [if_pos rfl, decide_eq_true (srt_mem r)]
    rfl
  dsimp only
  refine ps_ifN (g2.c.trans e3) (et_is (et_not (et_test (ev_p (p_callP (ps := [NmP r.ns]) (q_cons (p_var rfl n2) q_nil) ⟨r, hr0, rfl, rfl⟩)))) rfl) fun H4 e4 => ?_
  dsimp only
  refine ps_ifN ((g2.c.trans e3).trans e4) (et_is (et_not (et_test (ev_p (p_callP (ps := [IsD K (.tuple (r.axs.map .str))]) (q_cons (p_var rfl n3) q_nil) ⟨r, rfl, rfl⟩)))) rfl) fun H5 e5 => ?_
  exact q .non B2 H5 ((Gr.wide eB e1).trans (g2.trans (Gr.wide g2.c ((e3.trans e4).trans e5)))) rfl

/-- _stands_there -/
abbrev s__stands_there : Stmt := topS 35
abbrev N__stands_there : List Str := ["ranking", "derivative", "_", "names", "axes", "name", "by_y"]
theorem sc__stands_there : FnScope N__stands_there ["ranking", "derivative"] (defScope s__stands_there) := ⟨rfl, rfl, rfl, by decide +kernel, rfl, by decide +kernel, by decide +kernel⟩
theorem ok__stands_there {f : Addr} {fd : FuncData} (F : Fun K "_stands_there" "_stands_there" s__stands_there f fd)    :
    FnOk P w K mg base CX0 1 f fd ["ranking", "derivative"] (spP (Rrd K fun _ _ => IsV (.bl true))) := by
  refine F.ok sc__stands_there (spP_len (by rintro _ _ ⟨r, u, _, _, rfl, rfl⟩; rfl)) (fun cdv A outer s H vs Q E hr h => ?_)
  obtain ⟨B, ps, p, eB, hv, ⟨r, u, hr0, hu0, rfl, rfl⟩, q⟩ := h
  obtain ⟨v1, v2, rfl, h1, h2⟩ := all2 hv
  have hu := hu_of hr
  refine ⟨_, (pss_cons (ps_asg (pv 0) (pg_tup (by rfl) (pgs_cons (pg_name (i := 2) sc__stands_there.nd rfl (by first | exact .inl rfl | exact .inr rfl)) (pgs_cons (pg_name (i := 3) sc__stands_there.nd rfl (by first | exact .inl rfl | exact .inr rfl)) (pgs_cons (pg_name (i := 4) sc__stands_there.nd rfl (by first | exact .inl rfl | exact .inr rfl)) pgs_nil)))))
    (pss_cons (ps_asg (pv 1) (pg_tup (by rfl) (pgs_cons (pg_name (i := 5) sc__stands_there.nd rfl (by first | exact .inl rfl | exact .inr rfl)) (pgs_cons (pg_name (i := 2) sc__stands_there.nd rfl (by first | exact .inl rfl | exact .inr rfl)) (pgs_cons (pg_name (i := 6) sc__stands_there.nd rfl (by first | exact .inl rfl | exact .inr rfl)) pgs_nil)))))
    (pss_one (ps_ret (pe_and (pe_cmpR op_in_seq (pv 5) (pv 3) (by rfl)) (pe_one (pe_or (pe_cmpR op_eq (pv 6) pe_int (nomark _)) (pe_one (pe_cmpR op_in_seq pe_str (pv 4) (by rfl)))))))))), ?_⟩
  refine ps_unR (K := K) eB (p_var rfl h1) fun w2 w3 B2 H2 g2 n2 n3 => ?_
  dsimp only
  refine ps_unD (K := K) g2.c (p_var rfl ((DvP u).m g2.b h2)) fun B3 H3 g3 => ?_
  dsimp only
  have m2 := nm_d (K := K) ((NmP r.ns).m g3.b n2)
  have m3 := dp_m g3.b n3
  refine My.ps_ret g3.c (p_ev (v := .bl true) (ev_is (ev_andV (a := true) (b := decide (u.j = 0) || decide ((Str.ofString "y") ∈ r.axs)) (ev_is (ev_inT (neg := false) (ys := r.ns) (ev_var rfl) (ed_var rfl m2)) ?_) fun _ => ev_orV (ev_is (ev_op (ev_var rfl) ev_c (rv_eq rfl)) ?_) fun _ => ev_is (ev_inT (neg := false) (ys := r.axs) ev_c (ed_var rfl m3)) ?_) ?_)) fun v B4 H4 g hp => q v B4 H4 ((g2.trans g3).trans g) hp
  · rw [if_neg Bool.false_ne_true, decide_eq_true hu0.n]
  · by_cases e : u.j = 0 <;> simp [e]
  · rw [if_neg Bool.false_ne_true]
  · rcases hu0.y with e | e
    · simp [e]
    · simp [e]

/-- derivative_fits -/
abbrev s_derivative_fits : Stmt := topS 33
abbrev N_derivative_fits : List Str := ["ranking", "thing"]
theorem sc_derivative_fits : FnScope N_derivative_fits ["ranking", "thing"] (defScope s_derivative_fits) := ⟨rfl, rfl, rfl, by decide +kernel, rfl, by decide +kernel, by decide +kernel⟩
theorem ok_derivative_fits {f : Addr} {fd : FuncData} (F : Fun K "derivative_fits" "derivative_fits" s_derivative_fits f fd) {f_is_derivative : Addr} {d_is_derivative : FuncData} (c_is_derivative : Cal P w K mg base "is_derivative" 3 ["thing"] (spP (Rdv (IsV (.bl true)))) f_is_derivative d_is_derivative) {f__stands_there : Addr} {d__stands_there : FuncData} (c__stands_there : Cal P w K mg base "_stands_there" 1 ["ranking", "derivative"] (spP (Rrd K fun _ _ => IsV (.bl true))) f__stands_there d__stands_there)   :
    FnOk P w K mg base CX0 4 f fd ["ranking", "thing"] (spP (Rrd K fun _ _ => IsV (.bl true))) := by
  refine F.ok sc_derivative_fits (spP_len (by rintro _ _ ⟨r, u, _, _, rfl, rfl⟩; rfl)) (fun cdv A outer s H vs Q E hr h => ?_)
  obtain ⟨B, ps, p, eB, hv, ⟨r, u, hr0, hu0, rfl, rfl⟩, q⟩ := h
  obtain ⟨v1, v2, rfl, h1, h2⟩ := all2 hv
  have hu := hu_of hr
  refine ⟨_, (pss_one (ps_ret (pe_and (pe_call c_is_derivative.G (hr.mono (by decide)) (by rfl) c_is_derivative.m c_is_derivative.k c_is_derivative.b .nil pass0 (pa_cons (pv 1) pa_nil)) (pe_one (pe_call c__stands_there.G (hr.mono (by decide)) (by rfl) c__stands_there.m c__stands_there.k c__stands_there.b .nil pass0 (pa_cons (pv 0) (pa_cons (pv 1) pa_nil))))))), ?_⟩
  refine My.ps_ret eB (p_ev (v := .bl true) (ev_andV (a := true) (b := true) (ev_p (p_callP (ps := [DvP u]) (q_cons (p_var rfl h2) q_nil) ⟨r, u, hr0, hu0, rfl, rfl⟩)) fun _ => ev_p (p_callP (ps := [RkP K r, DvP u]) (q_cons (p_var rfl h1) (q_cons (p_var rfl h2) q_nil)) ⟨r, u, hr0, hu0, rfl, rfl⟩))) fun v B4 H4 g hp => q v B4 H4 g hp

/-- need_derivative -/
abbrev s_need_derivative : Stmt := topS 36
abbrev N_need_derivative : List Str := ["ranking", "thing"]
theorem sc_need_derivative : FnScope N_need_derivative ["ranking", "thing"] (defScope s_need_derivative) := ⟨rfl, rfl, rfl, by decide +kernel, rfl, by decide +kernel, by decide +kernel⟩
theorem ok_need_derivative {f : Addr} {fd : FuncData} (F : Fun K "need_derivative" "need_derivative" s_need_derivative f fd) {f_derivative_fits : Addr} {d_derivative_fits : FuncData} (c_derivative_fits : Cal P w K mg base "derivative_fits" 4 ["ranking", "thing"] (spP (Rrd K fun _ _ => IsV (.bl true))) f_derivative_fits d_derivative_fits)   :
    FnOk P w K mg base CX0 5 f fd ["ranking", "thing"] (spP (Rrd K fun _ _ => IsV .non)) := by
  refine F.ok sc_need_derivative (spP_len (by rintro _ _ ⟨r, u, _, _, rfl, rfl⟩; rfl)) (fun cdv A outer s H vs Q E hr h => ?_)
  obtain ⟨B, ps, p, eB, hv, ⟨r, u, hr0, hu0, rfl, rfl⟩, q⟩ := h
  obtain ⟨v1, v2, rfl, h1, h2⟩ := all2 hv
  have hu := hu_of hr
  refine ⟨_, (pss_one (ps_if (pt_not (pt_val (pe_call c_derivative_fits.G (hr.mono (by decide)) (by rfl) c_derivative_fits.m c_derivative_fits.k c_derivative_fits.b .nil pass0 (pa_cons (pv 0) (pa_cons (pv 1) pa_nil))))) (pss_one ps_never) pss_nil)), ?_⟩
  refine ps_ifN eB (et_is (et_not (et_test (ev_p (p_callP (ps := [RkP K r, DvP u]) (q_cons (p_var rfl h1) (q_cons (p_var rfl h2) q_nil)) ⟨r, u, hr0, hu0, rfl, rfl⟩)))) rfl) fun H1 e1 => ?_
  exact q .non B H1 (Gr.wide eB e1) rfl

/-- rank_key -/
abbrev s_rank_key : Stmt := topS 37
abbrev N_rank_key : List Str := ["ranking", "derivative", "sort", "names", "axes", "name", "by_x", "by_y", "ahead", "first"]
theorem sc_rank_key : FnScope N_rank_key ["ranking", "derivative"] (defScope s_rank_key) := ⟨rfl, rfl, rfl, by decide +kernel, rfl, by decide +kernel, by decide +kernel⟩
theorem key_len (r : Rk) (u : Dv) : (r.key u).length = 3 := by
  unfold Rk.key
  cases r.tot <;> rfl
theorem ax_first (r : Rk) : atI (r.axs.map PyData.str) 0 = some (.str (r.axs.getD 0 "")) := by
  have : ∀ a : Fin 3, atI ((axsOf a).map PyData.str) 0 = some (.str ((axsOf a).getD 0 "")) := by
    intro a
    match a with
    | 0 => rfl
    | 1 => rfl
    | 2 => rfl
  exact this r.ax
theorem ax_dec (r : Rk) : decide (V.str (r.axs.getD 0 "") = V.str "x") = decide (r.ax ≠ 2) := by
  have : ∀ a : Fin 3, decide (V.str ((axsOf a).getD 0 "") = V.str "x") = decide (a ≠ 2) := by
    intro a
    match a with
    | 0 => simp [axsOf]
    | 1 => simp [axsOf]
    | 2 => simp [axsOf]; decide +kernel
  exact this r.ax
theorem ok_rank_key {f : Addr} {fd : FuncData} (F : Fun K "rank_key" "rank_key" s_rank_key f fd)    :
    FnOk P w K mg base CX0 1 f fd ["ranking", "derivative"] (spP (Rrd K fun r u => IsD K (.tuple ((r.key u).map .int)))) := by
  refine F.ok sc_rank_key (spP_len (by rintro _ _ ⟨r, u, _, _, rfl, rfl⟩; rfl)) (fun cdv A outer s H vs Q E hr h => ?_)
  obtain ⟨B, ps, p, eB, hv, ⟨r, u, hr0, hu0, rfl, rfl⟩, q⟩ := h
  obtain ⟨v1, v2, rfl, h1, h2⟩ := all2 hv
  have hu := hu_of hr
  refine ⟨_, (pss_cons (ps_asg (pv 0) (pg_tup (by rfl) (pgs_cons (pg_name (i := 2) sc_rank_key.nd rfl (by first | exact .inl rfl | exact .inr rfl)) (pgs_cons (pg_name (i := 3) sc_rank_key.nd rfl (by first | exact .inl rfl | exact .inr rfl)) (pgs_cons (pg_name (i := 4) sc_rank_key.nd rfl (by first | exact .inl rfl | exact .inr rfl)) pgs_nil)))))
    (pss_cons (ps_asg (pv 1) (pg_tup (by rfl) (pgs_cons (pg_name (i := 5) sc_rank_key.nd rfl (by first | exact .inl rfl | exact .inr rfl)) (pgs_cons (pg_name (i := 6) sc_rank_key.nd rfl (by first | exact .inl rfl | exact .inr rfl)) (pgs_cons (pg_name (i := 7) sc_rank_key.nd rfl (by first | exact .inl rfl | exact .inr rfl)) pgs_nil)))))
    (pss_cons (ps_set (i := 8) sc_rank_key.nd rfl (by first | exact .inl rfl | exact .inr rfl) (pe_un un_neg (pe_tupIndex (pv 3) (pv 5))))
    (pss_cons (ps_set (i := 9) sc_rank_key.nd rfl (by first | exact .inl rfl | exact .inr rfl) (pe_ifExp (pt_cmpR op_eq (pe_ix ix_tup (pv 4) pe_int (fun _ _ => rfl)) pe_str (nomark _)) (pv 6) (pv 7)))
    (pss_cons (ps_if (pt_cmpR op_eq (pv 2) pe_str (nomark _)) (pss_one (ps_ret (pe_tup (pa_cons (pe_op op_add (pv 6) (pv 7)) (pa_cons (pv 9) (pa_cons (pv 8) pa_nil)))))) pss_nil)
    (pss_one (ps_ret (pe_tup (pa_cons (pv 8) (pa_cons (pe_op op_add (pv 6) (pv 7)) (pa_cons (pv 9) pa_nil))))))))))), ?_⟩
  refine ps_unR (K := K) eB (p_var rfl h1) fun w2 w3 B2 H2 g2 n2 n3 => ?_
  dsimp only
  refine ps_unD (K := K) g2.c (p_var rfl ((DvP u).m g2.b h2)) fun B3 H3 g3 => ?_
  dsimp only
  have m2 := (NmP r.ns).m g3.b n2
  have m3 := dp_m g3.b n3
  refine ps_asgN (fun x => [some v1, some v2, some (.str r.srt), some w2, some w3, some (.str u.n), some (.int u.i), some (.int u.j), some x, none]) g3.c (p_ev (v := .int (r.ahead u)) (ev_un (ev_tupIx (p_var rfl m2) (ev_var rfl) hu0.n) ru_neg)) (fun x B4 H4 g4 hx => ?_) (fun _ => rfl)
  obtain rfl : x = .int (r.ahead u) := hx
  dsimp only
  refine ps_asgN (fun x => [some v1, some v2, some (.str r.srt), some w2, some w3, some (.str u.n), some (.int u.i), some (.int u.j), some (.int (r.ahead u)), some x]) g4.c (p_ev (v := .int (r.first u)) (ev_if (b := decide (r.ax ≠ 2)) (et_is (et_test (ev_op (ev_st (ed_ixT (ed_var rfl (dp_m g4.b m3)) ev_c (ax_first r))) ev_c (rv_eq rfl))) (ax_dec r)) (fun hb => ev_is (ev_var rfl) (by unfold Rk.first; rw [if_neg (of_decide_eq_true hb)])) fun hb => ev_is (ev_var rfl) (by unfold Rk.first; rw [if_pos (Decidable.not_not.mp (of_decide_eq_false hb))]))) (fun x B5 H5 g5 hx => ?_) (fun _ => rfl)
  obtain rfl : x = .int (r.first u) := hx
  dsimp only
  have gg := (g2.trans g3).trans (g4.trans g5)
  have srt : EvT (tTest (tOp rEq (tVar 2) (tC (.str "total")))) [some v1, some v2, some (.str r.srt), some w2, some w3, some (.str u.n), some (.int u.i), some (.int u.j), some (.int (r.ahead u)), some (.int (r.first u))] B5 r.tot :=
    et_is (et_test (ev_op (ev_var rfl) ev_c (rv_eq rfl))) (by unfold Rk.srt; cases r.tot <;> decide +kernel)
  cases ht : r.tot with
  | true =>
    rw [ht] at srt
    refine My.ps_ifT g5.c srt fun H6 e6 => ?_
    refine My.ps_ret (g5.c.trans e6) (ed_tup (ds := (r.key u).map .int) ?_ (by rw [List.length_map, key_len]; decide)) fun v B7 H7 g7 hp => q v B7 H7 ((gg.trans (Gr.wide g5.c e6)).trans g7) hp
    have : r.key u = [u.i + u.j, r.first u, r.ahead u] := by unfold Rk.key; rw [ht, if_pos rfl]
    rw [this]
    exact q_cons (ed_in (ev_op (ev_var rfl) (ev_var rfl) rv_I0)) (q_cons (ed_in (ev_var rfl)) (q_cons (ed_in (ev_var rfl)) q_nil))
  | false =>
    rw [ht] at srt
    refine ps_ifN g5.c srt fun H6 e6 => ?_
    dsimp only
    refine My.ps_ret (g5.c.trans e6) (ed_tup (ds := (r.key u).map .int) ?_ (by rw [List.length_map, key_len]; decide)) fun v B7 H7 g7 hp => q v B7 H7 ((gg.trans (Gr.wide g5.c e6)).trans g7) hp
    have : r.key u = [r.ahead u, u.i + u.j, r.first u] := by unfold Rk.key; rw [ht, if_neg Bool.false_ne_true]
    rw [this]
    exact q_cons (ed_in (ev_var rfl)) (q_cons (ed_in (ev_op (ev_var rfl) (ev_var rfl) rv_I0)) (q_cons (ed_in (ev_var rfl)) q_nil))

end
end K12
namespace K12
set_option autoImplicit false
open PySem PySem.W L2 Evl My Nd
section
variable {P : Program} {w : World} {K : PySem.W.Frag} {mg : Str → Option Value} {base : Heap}

/-- is_fraction -/
abbrev s_is_fraction : Stmt := topS 16
abbrev N_is_fraction : List Str := ["thing", "top", "bottom"]
theorem sc_is_fraction : FnScope N_is_fraction ["thing"] (defScope s_is_fraction) := ⟨rfl, rfl, rfl, by decide +kernel, rfl, by decide +kernel, by decide +kernel⟩
theorem ok_is_fraction {f : Addr} {fd : FuncData} (F : Fun K "is_fraction" "is_fraction" s_is_fraction f fd) {f_is_whole : Addr} {d_is_whole : FuncData} (c_is_whole : Cal P w K mg base "is_whole" 2 ["thing"] (spP Rwhole) f_is_whole d_is_whole) (n_isinstance : mg "isinstance" = none) (n_tuple : mg "tuple" = none) (n_len : mg "len" = none) (g_gcd : mg "gcd" = some (.builtin "math.gcd")) :
    FnOk P w K mg base CX0 3 f fd ["thing"] (spP (Rfr K)) := by
  refine F.ok sc_is_fraction (spP_len (by rintro _ _ ⟨f, _, rfl, rfl⟩; rfl)) (fun cdv A outer s H vs Q E hr h => ?_)
  obtain ⟨B, ps, p, eB, hv, ⟨f, hf, rfl, rfl⟩, q⟩ := h
  obtain ⟨v, rfl, h1⟩ := all1 hv
  have hu := hu_of hr
  refine ⟨_, (pss_cons (ps_if (PW.pt (pw_or (pt_not (pt_val (pe_callB call_isi (by rfl) n_isinstance (by decide +kernel) (pa_cons (pv 0) (pa_cons (pe_bltn (v := .ty "tuple") (u := .type "tuple") (by rfl) n_tuple (by decide +kernel) rfl) pa_nil))))) (pw_or1 (pt_cmpR op_ne (pe_callB call_len_seq (by rfl) n_len (by decide +kernel) (pa_cons (pv 0) pa_nil)) pe_int (nomark _))))) (pss_one (ps_ret pe_bl)) pss_nil)
    (pss_cons (ps_asg (pv 0) (pg_tup (by rfl) (pgs_cons (pg_name (i := 1) sc_is_fraction.nd rfl (by first | exact .inl rfl | exact .inr rfl)) (pgs_cons (pg_name (i := 2) sc_is_fraction.nd rfl (by first | exact .inl rfl | exact .inr rfl)) pgs_nil))))
    (pss_one (ps_ret (pe_and (pe_call c_is_whole.G (hr.mono (by decide)) (by rfl) c_is_whole.m c_is_whole.k c_is_whole.b .nil pass0 (pa_cons (pv 1) pa_nil)) (pe_and (pe_call c_is_whole.G (hr.mono (by decide)) (by rfl) c_is_whole.m c_is_whole.k c_is_whole.b .nil pass0 (pa_cons (pv 2) pa_nil)) (pe_and (pe_cmpR op_gt (pv 2) pe_int (nomark _)) (pe_one (pe_cmpR op_eq (pe_callBfun cr_gcd (by rfl) g_gcd (pa_cons (pv 1) (pa_cons (pv 2) pa_nil))) pe_int (nomark _)))))))))), ?_⟩
  refine ps_ifN eB (et_is (et_or (a := false) (b := false) (et_is (et_not (et_test (ev_isi (K := K) (d := frD f) (p_to (p_var rfl h1) (to_fr f)) k_tt))) rfl) fun _ => et_is (et_test (ev_op (ev_lenD (K := K) (p_to (p_var rfl h1) (to_fr f)) (.inl rfl)) ev_c (rv_ne rfl))) rfl) rfl) fun H1 e1 => ?_
  dsimp only
  refine ps_un2 (K := K) (eB.trans e1) (p_var rfl h1) fun x y B2 H2 g2 n2 n3 => ?_
  obtain rfl : x = .int f.1 := n2
  obtain rfl : y = .int f.2 := n3
  dsimp only
  refine My.ps_ret g2.c (p_ev (v := .bl true) (ev_is (ev_andV (a := true) (b := true && (decide (0 < f.2) && decide (V.int ((Nat.gcd f.1.natAbs f.2.natAbs : Nat) : Int) = V.int 1))) (ev_p (p_callP (ps := [IsV (.int f.1)]) (q_cons (p_varV rfl) q_nil) ⟨f.1, rfl, rfl⟩)) fun _ =>
    ev_andV (ev_p (p_callP (ps := [IsV (.int f.2)]) (q_cons (p_varV rfl) q_nil) ⟨f.2, rfl, rfl⟩)) fun _ => ev_andV (ev_op (ev_var rfl) ev_c rv_I0) fun _ => ev_op (ev_gcd (ev_var rfl) (ev_var rfl)) ev_c (rv_eq rfl)) (by simp [hf.bot, hf.low]))) fun v B3 H3 g hp => q v B3 H3 (((Gr.wide eB e1).trans g2).trans g) hp

/-- _is_powered -/
abbrev s__is_powered : Stmt := topS 20
abbrev N__is_powered : List Str := ["thing", "derivative", "power"]
theorem sc__is_powered : FnScope N__is_powered ["thing"] (defScope s__is_powered) := ⟨rfl, rfl, rfl, by decide +kernel, rfl, by decide +kernel, by decide +kernel⟩
theorem ok__is_powered {f : Addr} {fd : FuncData} (F : Fun K "_is_powered" "_is_powered" s__is_powered f fd) {f_is_derivative : Addr} {d_is_derivative : FuncData} (c_is_derivative : Cal P w K mg base "is_derivative" 3 ["thing"] (spP (Rdv (IsV (.bl true)))) f_is_derivative d_is_derivative) {f_is_whole : Addr} {d_is_whole : FuncData} (c_is_whole : Cal P w K mg base "is_whole" 2 ["thing"] (spP Rwhole) f_is_whole d_is_whole) (n_isinstance : mg "isinstance" = none) (n_tuple : mg "tuple" = none) (n_len : mg "len" = none)  :
    FnOk P w K mg base CX0 4 f fd ["thing"] (spP (Rpw K)) := by
  refine F.ok sc__is_powered (spP_len (by rintro _ _ ⟨r, x, _, _, _, rfl, rfl⟩; rfl)) (fun cdv A outer s H vs Q E hr h => ?_)
  obtain ⟨B, ps, p, eB, hv, ⟨r, x, hr0, hu0, hx0, rfl, rfl⟩, q⟩ := h
  obtain ⟨v, rfl, h1⟩ := all1 hv
  have hu := hu_of hr
  refine ⟨_, (pss_cons (ps_if (PW.pt (pw_or (pt_not (pt_val (pe_callB call_isi (by rfl) n_isinstance (by decide +kernel) (pa_cons (pv 0) (pa_cons (pe_bltn (v := .ty "tuple") (u := .type "tuple") (by rfl) n_tuple (by decide +kernel) rfl) pa_nil))))) (pw_or1 (pt_cmpR op_ne (pe_callB call_len_seq (by rfl) n_len (by decide +kernel) (pa_cons (pv 0) pa_nil)) pe_int (nomark _))))) (pss_one (ps_ret pe_bl)) pss_nil)
    (pss_cons (ps_asg (pv 0) (pg_tup (by rfl) (pgs_cons (pg_name (i := 1) sc__is_powered.nd rfl (by first | exact .inl rfl | exact .inr rfl)) (pgs_cons (pg_name (i := 2) sc__is_powered.nd rfl (by first | exact .inl rfl | exact .inr rfl)) pgs_nil))))
    (pss_one (ps_ret (pe_and (pe_call c_is_derivative.G (hr.mono (by decide)) (by rfl) c_is_derivative.m c_is_derivative.k c_is_derivative.b .nil pass0 (pa_cons (pv 1) pa_nil)) (pe_and (pe_call c_is_whole.G (hr.mono (by decide)) (by rfl) c_is_whole.m c_is_whole.k c_is_whole.b .nil pass0 (pa_cons (pv 2) pa_nil)) (pe_one (pe_cmpR op_gt (pv 2) pe_int (nomark _))))))))), ?_⟩
  refine ps_ifN eB (et_is (et_or (a := false) (b := false) (et_is (et_not (et_test (ev_isi (K := K) (d := pwD x) (p_to (p_var rfl h1) (to_pw x)) k_tt))) rfl) fun _ => et_is (et_test (ev_op (ev_lenD (K := K) (p_to (p_var rfl h1) (to_pw x)) (.inl rfl)) ev_c (rv_ne rfl))) rfl) rfl) fun H1 e1 => ?_
  dsimp only
  refine ps_un2 (K := K) (eB.trans e1) (p_var rfl h1) fun y z B2 H2 g2 n2 n3 => ?_
  obtain rfl : z = .int x.2 := n3
  dsimp only
  refine My.ps_ret g2.c (p_ev (v := .bl true) (ev_is (ev_andV (a := true) (b := true && decide (0 < x.2)) (ev_p (p_callP (ps := [DvP x.1]) (q_cons (p_var rfl n2) q_nil) ⟨r, x.1, hr0, hu0, rfl, rfl⟩)) fun _ =>
    ev_andV (ev_p (p_callP (ps := [IsV (.int x.2)]) (q_cons (p_varV rfl) q_nil) ⟨x.2, rfl, rfl⟩)) fun _ => ev_op (ev_var rfl) ev_c rv_I0) (by simp [hx0]))) fun v B3 H3 g hp => q v B3 H3 (((Gr.wide eB e1).trans g2).trans g) hp

/-- is_monomial -/
abbrev s_is_monomial : Stmt := topS 19
abbrev N_is_monomial : List Str := ["thing", "ahead", "pair"]
theorem sc_is_monomial : FnScope N_is_monomial ["thing"] (defScope s_is_monomial) := ⟨rfl, rfl, rfl, by decide +kernel, rfl, by decide +kernel, by decide +kernel⟩
theorem ok_is_monomial {f : Addr} {fd : FuncData} (F : Fun K "is_monomial" "is_monomial" s_is_monomial f fd) {f__is_powered : Addr} {d__is_powered : FuncData} (c__is_powered : Cal P w K mg base "_is_powered" 4 ["thing"] (spP (Rpw K)) f__is_powered d__is_powered) (n_isinstance : mg "isinstance" = none) (n_tuple : mg "tuple" = none)  :
    FnOk P w K mg base CX0 5 f fd ["thing"] (spP (Rmo K)) := by
  refine F.ok sc_is_monomial (spP_len (by rintro _ _ ⟨r, m, _, _, rfl, rfl⟩; rfl)) (fun cdv A outer s H vs Q E hr h => ?_)
  obtain ⟨B, ps, p, eB, hv, ⟨r, m, hr0, hm, rfl, rfl⟩, q⟩ := h
  obtain ⟨v, rfl, h1⟩ := all1 hv
  have hu := hu_of hr
  refine ⟨_, (pss_cons (ps_if (pt_not (pt_val (pe_callB call_isi (by rfl) n_isinstance (by decide +kernel) (pa_cons (pv 0) (pa_cons (pe_bltn (v := .ty "tuple") (u := .type "tuple") (by rfl) n_tuple (by decide +kernel) rfl) pa_nil))))) (pss_one (ps_ret pe_bl)) pss_nil)
    (pss_cons (ps_set (i := 1) sc_is_monomial.nd rfl (by first | exact .inl rfl | exact .inr rfl) pe_non)
    (pss_cons (ps_for PassesOwn.never rfl (pi_tup (pv 0)) (pg_name (i := 2) sc_is_monomial.nd rfl (by first | exact .inl rfl | exact .inr rfl))
      (pss_cons (ps_if (PW.pt (pw_or (pt_not (pt_val (pe_call c__is_powered.G (hr.mono (by decide)) (by rfl) c__is_powered.m c__is_powered.k c__is_powered.b .nil pass0 (pa_cons (pv 2) pa_nil)))) (pw_or1 (PW.pt (pw_and (pt_cmpR op_notN (pv 1) pe_non (nomark _)) (pw_and1 (pt_cmpR (op_leD (by have h := hr.un; show (A.deeper _).units + 65 < cLine; omega)) (pe_ix ix_tup (pv 2) pe_int (fun _ _ => rfl)) (pv 1) (nomark _)))))))) (pss_one (ps_ret pe_bl)) pss_nil)
    (pss_one (ps_set (i := 1) sc_is_monomial.nd rfl (by first | exact .inl rfl | exact .inr rfl) (pe_ix ix_tup (pv 2) pe_int (fun _ _ => rfl))))))
    (pss_one (ps_ret pe_bl))))), ?_⟩
  refine ps_ifN eB (et_is (et_not (et_test (ev_isi (K := K) (d := moD m) (p_to (p_var rfl h1) (to_mo m)) k_tt))) rfl) fun H1 e1 => ?_
  dsimp only
  refine ps_asgN (fun x => [some v, some x, none]) (eB.trans e1) (p_c (v := .non)) (fun x B2 H2 g2 hx => ?_) (fun _ => rfl)
  obtain rfl : x = .non := hx
  dsimp only
  refine ps_forS g2.c (src_tu (p_var rfl ((moP K m).m g2.b h1))) fun B3 H3 g3 => ?_
  refine ⟨fun i σ H4 => ∃ B4, Gr B3 H3 B4 H4 ∧ ∃ x y, σ = [some v, some y, x] ∧ ((i = 0 ∧ y = .non) ∨ ∃ k, ∃ hk : k < m.length, i = k + 1 ∧ (DvP (m[k]'hk).1).P y B4), ⟨B3, Gr.refl g3.c, none, .non, rfl, .inl ⟨rfl, rfl⟩⟩, fun i σ H4 _ h => ?_, fun i v2 σ H4 hi pv px => ?_, fun σ H4 pv => ?_⟩
  · obtain ⟨B4, g4, _⟩ := h
    exact g4.b.trans g4.c
  · obtain ⟨B4, g4, x, y, rfl, ha⟩ := pv
    rw [List.length_map] at hi
    rw [getD_map hi] at px
    have px4 := (pwP K m[i]).m g4.b px
    obtain ⟨hof, hpos⟩ := hm.of m[i] (List.getElem_mem hi)
    refine ps_ifN g4.c (et_is (et_or (a := false) (b := false) (et_is (et_not (et_test (ev_p (p_callP (ps := [pwP K m[i]]) (q_cons (p_var rfl px4) q_nil) ⟨r, m[i], hr0, hof, hpos, rfl, rfl⟩)))) rfl) fun _ => ?_) rfl) fun H5 e5 => ?_
    · rcases ha with ⟨_, rfl⟩ | ⟨k, hk, rfl, hy⟩
      · exact et_is (et_and (a := false) (b := false) (et_test (ev_notN (p_varV rfl))) (fun z => nomatch z)) rfl
      · have hlt := hm.up k hi
        obtain ⟨a, rfl, hya⟩ := hy
        refine et_is (et_and (a := true) (b := false) (et_test (ev_notR rfl)) fun _ => et_is (et_test (ev_leD (K := K) (d := m[k+1].1.D) (e := (m[k]'hk).1.D) (p_to (p_ixT (p_var rfl px4) p_c rfl) (to_dv _)) (p_to (p := DvP (m[k]'hk).1) (p_var rfl ⟨a, rfl, hya⟩) (to_dv _)) (alike_dv _ _) (fun z => nomatch z) (by rw [deep_dv]; omega))) ?_) rfl
        rw [hlt]
        rfl
    · dsimp only
      refine ps_asgN (fun x => [some v, some x, some v2]) (g4.c.trans e5) (p_ixT (K := K) (p := DvP m[i].1) (p_var rfl px4) p_c rfl) (fun x6 B6 H6 g6 hx6 => ?_) (fun _ => rfl)
      exact ⟨B6, (g4.trans (Gr.wide g4.c e5)).trans g6, some v2, x6, rfl, .inr ⟨i, hi, rfl, hx6⟩⟩
  · obtain ⟨B4, g4, x, y, rfl, _⟩ := pv
    dsimp only
    refine My.ps_ret g4.c (p_c (v := .bl true)) fun v5 B5 H5 g5 hp => ?_
    exact q v5 B5 H5 ((((Gr.wide eB e1).trans g2).trans (g3.trans g4)).trans g5) hp

/-- _is_term -/
abbrev s__is_term : Stmt := topS 21
abbrev N__is_term : List Str := ["thing", "monomial", "number"]
theorem sc__is_term : FnScope N__is_term ["thing"] (defScope s__is_term) := ⟨rfl, rfl, rfl, by decide +kernel, rfl, by decide +kernel, by decide +kernel⟩
theorem ok__is_term {f : Addr} {fd : FuncData} (F : Fun K "_is_term" "_is_term" s__is_term f fd) {f_is_monomial : Addr} {d_is_monomial : FuncData} (c_is_monomial : Cal P w K mg base "is_monomial" 5 ["thing"] (spP (Rmo K)) f_is_monomial d_is_monomial) {f_is_fraction : Addr} {d_is_fraction : FuncData} (c_is_fraction : Cal P w K mg base "is_fraction" 3 ["thing"] (spP (Rfr K)) f_is_fraction d_is_fraction) (n_isinstance : mg "isinstance" = none) (n_tuple : mg "tuple" = none) (n_len : mg "len" = none)  :
    FnOk P w K mg base CX0 6 f fd ["thing"] (spP (Rtm K)) := by
  refine F.ok sc__is_term (spP_len (by rintro _ _ ⟨r, t, _, _, _, _, rfl, rfl⟩; rfl)) (fun cdv A outer s H vs Q E hr h => ?_)
  obtain ⟨B, ps, p, eB, hv, ⟨r, t, hr0, ht1, ht2, ht3, rfl, rfl⟩, q⟩ := h
  obtain ⟨v, rfl, h1⟩ := all1 hv
  have hu := hu_of hr
  refine ⟨_, (pss_cons (ps_if (PW.pt (pw_or (pt_not (pt_val (pe_callB call_isi (by rfl) n_isinstance (by decide +kernel) (pa_cons (pv 0) (pa_cons (pe_bltn (v := .ty "tuple") (u := .type "tuple") (by rfl) n_tuple (by decide +kernel) rfl) pa_nil))))) (pw_or1 (pt_cmpR op_ne (pe_callB call_len_seq (by rfl) n_len (by decide +kernel) (pa_cons (pv 0) pa_nil)) pe_int (nomark _))))) (pss_one (ps_ret pe_bl)) pss_nil)
    (pss_cons (ps_asg (pv 0) (pg_tup (by rfl) (pgs_cons (pg_name (i := 1) sc__is_term.nd rfl (by first | exact .inl rfl | exact .inr rfl)) (pgs_cons (pg_name (i := 2) sc__is_term.nd rfl (by first | exact .inl rfl | exact .inr rfl)) pgs_nil))))
    (pss_one (ps_ret (pe_and (pe_call c_is_monomial.G (hr.mono (by decide)) (by rfl) c_is_monomial.m c_is_monomial.k c_is_monomial.b .nil pass0 (pa_cons (pv 1) pa_nil)) (pe_and (pe_call c_is_fraction.G (hr.mono (by decide)) (by rfl) c_is_fraction.m c_is_fraction.k c_is_fraction.b .nil pass0 (pa_cons (pv 2) pa_nil)) (pe_one (pe_cmpR op_ne (pe_ix ix_tup (pv 2) pe_int (fun _ _ => rfl)) pe_int (nomark _))))))))), ?_⟩
  refine ps_ifN eB (et_is (et_or (a := false) (b := false) (et_is (et_not (et_test (ev_isi (K := K) (d := tmD t) (p_to (p_var rfl h1) (to_tm t)) k_tt))) rfl) fun _ => et_is (et_test (ev_op (ev_lenD (K := K) (p_to (p_var rfl h1) (to_tm t)) (.inl rfl)) ev_c (rv_ne rfl))) rfl) rfl) fun H1 e1 => ?_
  dsimp only
  refine ps_un2 (K := K) (eB.trans e1) (p_var rfl h1) fun y z B2 H2 g2 n2 n3 => ?_
  dsimp only
  refine My.ps_ret g2.c (p_ev (v := .bl true) (ev_is (ev_andV (a := true) (b := true && !decide (V.int t.2.1 = V.int 0)) (ev_p (p_callP (ps := [moP K t.1]) (q_cons (p_var rfl n2) q_nil) ⟨r, t.1, hr0, ht1, rfl, rfl⟩)) fun _ =>
    ev_andV (ev_p (p_callP (ps := [frP K t.2]) (q_cons (p_var rfl n3) q_nil) ⟨t.2, ht2, rfl, rfl⟩)) fun _ => ev_op (ev_p (p_ixT (K := K) (p := IsV (.int t.2.1)) (p_var rfl n3) p_c rfl)) ev_c (rv_ne rfl)) (by simp [ht3]))) fun v B3 H3 g hp => q v B3 H3 (((Gr.wide eB e1).trans g2).trans g) hp

/-- need_polynomial -/
abbrev s_need_polynomial : Stmt := topS 22
abbrev N_need_polynomial : List Str := ["thing", "ahead", "number", "pair"]
theorem sc_need_polynomial : FnScope N_need_polynomial ["thing"] (defScope s_need_polynomial) := ⟨rfl, rfl, rfl, by decide +kernel, rfl, by decide +kernel, by decide +kernel⟩
theorem ok_need_polynomial {f : Addr} {fd : FuncData} (F : Fun K "need_polynomial" "need_polynomial" s_need_polynomial f fd) {f__is_term : Addr} {d__is_term : FuncData} (c__is_term : Cal P w K mg base "_is_term" 6 ["thing"] (spP (Rtm K)) f__is_term d__is_term) (n_isinstance : mg "isinstance" = none) (n_tuple : mg "tuple" = none) (n_enumerate : mg "enumerate" = none)  :
    FnOk P w K mg base CX0 7 f fd ["thing"] (spP (Rpo K (IsV .non))) := by
  refine F.ok sc_need_polynomial (spP_len (by rintro _ _ ⟨r, m, _, _, rfl, rfl⟩; rfl)) (fun cdv A outer s H vs Q E hr h => ?_)
  obtain ⟨B, ps, p, eB, hv, ⟨r, m, hr0, hm, rfl, rfl⟩, q⟩ := h
  obtain ⟨v, rfl, h1⟩ := all1 hv
  have hu := hu_of hr
  refine ⟨_, (pss_cons (ps_if (pt_not (pt_val (pe_callB call_isi (by rfl) n_isinstance (by decide +kernel) (pa_cons (pv 0) (pa_cons (pe_bltn (v := .ty "tuple") (u := .type "tuple") (by rfl) n_tuple (by decide +kernel) rfl) pa_nil))))) (pss_one ps_never) pss_nil)
    (pss_cons (ps_set (i := 1) sc_need_polynomial.nd rfl (by first | exact .inl rfl | exact .inr rfl) pe_non)
    (pss_one (ps_for PassesOwn.never rfl (pi_enumT (by rfl) n_enumerate (pa_cons (pv 0) pa_nil)) (pg_tup (by rfl) (pgs_cons (pg_name (i := 2) sc_need_polynomial.nd rfl (by first | exact .inl rfl | exact .inr rfl)) (pgs_cons (pg_name (i := 3) sc_need_polynomial.nd rfl (by first | exact .inl rfl | exact .inr rfl)) pgs_nil)))
      (pss_cons (ps_if (PW.pt (pw_or (pt_not (pt_val (pe_call c__is_term.G (hr.mono (by decide)) (by rfl) c__is_term.m c__is_term.k c__is_term.b .nil pass0 (pa_cons (pv 3) pa_nil)))) (pw_or1 (PW.pt (pw_and (pt_cmpR op_notN (pv 1) pe_non (nomark _)) (pw_and1 (pt_cmpR (op_leD (by have h := hr.un; show (A.deeper _).units + 65 < cLine; omega)) (pe_ix ix_tup (pv 3) pe_int (fun _ _ => rfl)) (pv 1) (nomark _)))))))) (pss_one ps_never) pss_nil)
    (pss_one (ps_set (i := 1) sc_need_polynomial.nd rfl (by first | exact .inl rfl | exact .inr rfl) (pe_ix ix_tup (pv 3) pe_int (fun _ _ => rfl))))))))), ?_⟩
  refine ps_ifN eB (et_is (et_not (et_test (ev_isi (K := K) (d := poD m) (p_to (p_var rfl h1) (to_po m)) k_tt))) rfl) fun H1 e1 => ?_
  dsimp only
  refine ps_asgN (fun x => [some v, some x, none, none]) (eB.trans e1) (p_c (v := .non)) (fun x B2 H2 g2 hx => ?_) (fun _ => rfl)
  obtain rfl : x = .non := hx
  dsimp only
  refine ps_forE g2.c (src_enT (K := K) (ps := m.map (tmP K)) (q_cons (p_var rfl ((poP K m).m g2.b h1)) q_nil)) fun B3 H3 g3 => ?_
  refine ⟨fun i σ H4 => ∃ B4, Gr B3 H3 B4 H4 ∧ ∃ n x y, σ = [some v, some y, n, x] ∧ ((i = 0 ∧ y = .non) ∨ ∃ k, ∃ hk : k < m.length, i = k + 1 ∧ (moP K (m[k]'hk).1).P y B4), ⟨B3, Gr.refl g3.c, none, none, .non, rfl, .inl ⟨rfl, rfl⟩⟩, fun i σ H4 _ h => ?_, fun i v2 T σ H4 hi pv px hT => ?_, fun σ H4 pv => ?_⟩
  · obtain ⟨B4, g4, _⟩ := h
    exact g4.b.trans g4.c
  · obtain ⟨B4, g4, n, x, y, rfl, ha⟩ := pv
    rw [List.length_map] at hi
    rw [getD_map hi] at px
    have px4 := (tmP K m[i]).m g4.b px
    obtain ⟨ho1, ho2, ho3⟩ := hm.of m[i] (List.getElem_mem hi)
    refine ⟨T, _, rfl, st_of upd_same, rfl, _, _, rfl, _, _, rfl, rfl, ?_⟩
    have g5 := g4.trans (Gr.wide g4.c (Ex.new (o := .tup [.int (i : Nat), v2]) hT))
    dsimp only
    refine ps_ifN g5.c (et_is (et_or (a := false) (b := false) (et_is (et_not (et_test (ev_p (p_callP (ps := [tmP K m[i]]) (q_cons (p_var rfl px4) q_nil) ⟨r, m[i], hr0, ho1, ho2, ho3, rfl, rfl⟩)))) rfl) fun _ => ?_) rfl) fun H5 e5 => ?_
    · rcases ha with ⟨_, rfl⟩ | ⟨k, hk, rfl, hy⟩
      · exact et_is (et_and (a := false) (b := false) (et_test (ev_notN (p_varV rfl))) (fun z => nomatch z)) rfl
      · have hlt := hm.up k hi
        obtain ⟨a, xs, rfl, hya⟩ := hy
        refine et_is (et_and (a := true) (b := false) (et_test (ev_notR rfl)) fun _ => et_is (et_test (ev_leD (K := K) (d := moD m[k+1].1) (e := moD (m[k]'hk).1) (p_to (p_ixT (p_var rfl px4) p_c rfl) (to_mo _)) (p_to (p := moP K (m[k]'hk).1) (p_var rfl ⟨a, xs, rfl, hya⟩) (to_mo _)) (alike_mo _ _) (fun z => nomatch z) (by have := deep_mo m[k+1].1; omega))) ?_) rfl
        rw [hlt]
        rfl
    · dsimp only
      refine ps_asgN (fun x => [some v, some x, some (.int (i : Nat)), some v2]) (g5.c.trans e5) (p_ixT (K := K) (p := moP K m[i].1) (p_var rfl px4) p_c rfl) (fun x6 B6 H6 g6 hx6 => ?_) (fun _ => rfl)
      exact ⟨B6, (g5.trans (Gr.wide g5.c e5)).trans g6, some (.int (i : Nat)), some v2, x6, rfl, .inr ⟨i, hi, rfl, hx6⟩⟩
  · obtain ⟨B4, g4, n, x, y, rfl, _⟩ := pv
    exact q .non B4 H4 (((Gr.wide eB e1).trans g2).trans (g3.trans g4)) rfl

/-- is_polynomial -/
abbrev s_is_polynomial : Stmt := topS 23
abbrev N_is_polynomial : List Str := ["thing"]
theorem sc_is_polynomial : FnScope N_is_polynomial ["thing"] (defScope s_is_polynomial) := ⟨rfl, rfl, rfl, by decide +kernel, rfl, by decide +kernel, by decide +kernel⟩
theorem ok_is_polynomial {f : Addr} {fd : FuncData} (F : Fun K "is_polynomial" "is_polynomial" s_is_polynomial f fd) {f_need_polynomial : Addr} {d_need_polynomial : FuncData} (c_need_polynomial : Cal P w K mg base "need_polynomial" 7 ["thing"] (spP (Rpo K (IsV .non))) f_need_polynomial d_need_polynomial)  {aBP : Addr} (g_BadPolynomial : mg "BadPolynomial" = some (.ref aBP)) :
    FnOk P w K mg base CX0 8 f fd ["thing"] (spP (Rpo K (IsV (.bl true)))) := by
  refine F.ok sc_is_polynomial (spP_len (by rintro _ _ ⟨r, m, _, _, rfl, rfl⟩; rfl)) (fun cdv A outer s H vs Q E hr h => ?_)
  obtain ⟨B, ps, p, eB, hv, ⟨r, m, hr0, hm, rfl, rfl⟩, q⟩ := h
  obtain ⟨v, rfl, h1⟩ := all1 hv
  have hu := hu_of hr
  refine ⟨_, (pss_cons (ps_try_only (tb := fun _ => tDrop (tCall (spP (Rpo K (IsV .non))) [] E0 (tCons (tVar 0) tNil))) (ts := fun _ _ _ => tRet (tC (.bl false))) (Wout := fun _ _ _ _ => False) rfl rfl ⟨rfl, by decide, Or.inl g_BadPolynomial⟩ takes0 (fun W pn xe tk _ => pss_one (ps_expr (pe_call c_need_polynomial.G (hr.mono (by decide)) (by rfl) c_need_polynomial.m c_need_polynomial.k c_need_polynomial.b .nil pass0 (pa_cons (pv 0) pa_nil)))) (fun _ _ _ _ _ _ _ => pss_one (ps_ret pe_bl)))
    (pss_one (ps_ret pe_bl))), ?_⟩
  refine ps_exE eB (p_callP (ps := [poP K m]) (q_cons (p_var rfl h1) q_nil) ⟨r, m, hr0, hm, rfl, rfl⟩) fun H1 e1 => ?_
  dsimp only
  exact My.ps_ret (eB.trans e1) (p_c (v := .bl true)) fun v5 B5 H5 g5 hp => q v5 B5 H5 ((Gr.wide eB e1).trans g5) hp

end
end K12
namespace K12
set_option autoImplicit false
open PySem PySem.W L2 Evl My Nd
section
variable {P : Program} {w : World} {K : PySem.W.Frag} {mg : Str → Option Value} {base : Heap}

/-- way_to -/
abbrev s_way_to : Stmt := topS 41
abbrev N_way_to : List Str := ["one", "other"]
theorem sc_way_to : FnScope N_way_to ["one", "other"] (defScope s_way_to) := ⟨rfl, rfl, rfl, by decide +kernel, rfl, by decide +kernel, by decide +kernel⟩
theorem ok_way_to {f : Addr} {fd : FuncData} (F : Fun K "way_to" "way_to" s_way_to f fd)    :
    FnOk P w K mg base CX0 1 f fd ["one", "other"] (spP (Rway K)) := by
  refine F.ok sc_way_to (spP_len (by rintro _ _ ⟨a, b, rfl, rfl⟩; rfl)) (fun cdv A outer s H vs Q E hr h => ?_)
  obtain ⟨B, ps, p, eB, hv, ⟨a, b, rfl, rfl⟩, q⟩ := h
  obtain ⟨v1, v2, rfl, h1, h2⟩ := all2 hv
  have hu := hu_of hr
  refine ⟨_, (pss_cons (ps_if (PW.pt (pw_or (pt_cmpR op_ne (pe_ix ix_tup (pv 0) pe_int (fun _ _ => rfl)) (pe_ix ix_tup (pv 1) pe_int (fun _ _ => rfl)) (nomark _)) (pw_or (pt_cmpR op_lt (pe_ix ix_tup (pv 1) pe_int (fun _ _ => rfl)) (pe_ix ix_tup (pv 0) pe_int (fun _ _ => rfl)) (nomark _)) (pw_or1 (pt_cmpR op_lt (pe_ix ix_tup (pv 1) pe_int (fun _ _ => rfl)) (pe_ix ix_tup (pv 0) pe_int (fun _ _ => rfl)) (nomark _)))))) (pss_one (ps_ret pe_non)) pss_nil)
    (pss_one (ps_ret (pe_tup (pa_cons (pe_op op_sub (pe_ix ix_tup (pv 1) pe_int (fun _ _ => rfl)) (pe_ix ix_tup (pv 0) pe_int (fun _ _ => rfl))) (pa_cons (pe_op op_sub (pe_ix ix_tup (pv 1) pe_int (fun _ _ => rfl)) (pe_ix ix_tup (pv 0) pe_int (fun _ _ => rfl))) pa_nil)))))), ?_⟩
  have ix : ∀ (B' : Hp), Ex B B' → ∀ (d : Dv) (i : Nat) (v : V), (DvP d).P v B → ([some v1, some v2] : L2.St)[i]? = some (some v) → Ev (tOp (rIxT K) (tVar i) (tC (.int 0))) [some v1, some v2] B' (.str d.n) ∧ Ev (tOp (rIxT K) (tVar i) (tC (.int 1))) [some v1, some v2] B' (.int d.i) ∧ Ev (tOp (rIxT K) (tVar i) (tC (.int 2))) [some v1, some v2] B' (.int d.j) := fun B' e d i v pd hi =>
    ⟨ev_st (K := K) (ed_ixT (ed_dv (p_var hi ((DvP d).m e pd))) ev_c rfl), ev_in (K := K) (ed_ixT (ed_dv (p_var hi ((DvP d).m e pd))) ev_c rfl), ev_in (K := K) (ed_ixT (ed_dv (p_var hi ((DvP d).m e pd))) ev_c rfl)⟩
  obtain ⟨a0, a1, a2⟩ := ix B (Ex.refl B) a 0 v1 h1 rfl
  obtain ⟨b0, b1, b2⟩ := ix B (Ex.refl B) b 1 v2 h2 rfl
  have tst := et_or (et_test (ev_op a0 b0 (rv_ne rfl))) fun _ => et_or (et_test (ev_op (r := rI0 fun i j => .bl (decide (i < j))) b1 a1 rv_I0)) fun _ => et_test (ev_op (r := rI0 fun i j => .bl (decide (i < j))) b2 a2 rv_I0)
  cases hw : wayB a b with
  | false =>
    refine My.ps_ifT eB (et_is tst ?_) fun H1 e1 => ?_
    · unfold wayB at hw
      by_cases c1 : a.n = b.n
      · by_cases c2 : a.i ≤ b.i
        · by_cases c3 : a.j ≤ b.j
          · simp [c1, c2, c3] at hw
          · simp [c1, show b.j < a.j by omega]
        · simp [c1, show b.i < a.i by omega]
      · simp [c1]
    · refine My.ps_ret (eB.trans e1) (p_c (v := .non)) fun v B3 H3 g hp => q v B3 H3 ((Gr.wide eB e1).trans g) ?_
      unfold wayP
      rw [hw, if_neg Bool.false_ne_true]
      exact hp
  | true =>
    have hw2 := hw
    unfold wayB at hw2
    simp only [Bool.and_eq_true, decide_eq_true_eq] at hw2
    refine ps_ifN eB (et_is tst ?_) fun H1 e1 => ?_
    · simp [hw2.1, show ¬ b.i < a.i by omega, show ¬ b.j < a.j by omega]
    · dsimp only
      refine My.ps_ret (eB.trans e1) (p_tup (K := K) (ps := [IsV (.int (b.i - a.i)), IsV (.int (b.j - a.j))]) (q_cons (p_ev (ev_op b1 a1 rv_I0)) (q_cons (p_ev (ev_op b2 a2 rv_I0)) q_nil)) (by show 2 ≤ 100000; decide)) fun v B3 H3 g hp => q v B3 H3 ((Gr.wide eB e1).trans g) ?_
      unfold wayP
      rw [hw, if_pos rfl]
      exact hp

/-- first_by -/
abbrev s_first_by : Stmt := topS 48
abbrev N_first_by : List Str := ["chain", "derivative", "number", "leader", "_"]
theorem sc_first_by : FnScope N_first_by ["chain", "derivative"] (defScope s_first_by) := ⟨rfl, rfl, rfl, by decide +kernel, rfl, by decide +kernel, by decide +kernel⟩
theorem ok_first_by {f : Addr} {fd : FuncData} (F : Fun K "first_by" "first_by" s_first_by f fd) {f_way_to : Addr} {d_way_to : FuncData} (c_way_to : Cal P w K mg base "way_to" 1 ["one", "other"] (spP (Rway K)) f_way_to d_way_to) (n_enumerate : mg "enumerate" = none)  :
    FnOk P w K mg base CX0 2 f fd ["chain", "derivative"] (spP (Rfst K)) := by
  refine F.ok sc_first_by (spP_len (by rintro _ _ ⟨c, u, rfl, rfl⟩; rfl)) (fun cdv A outer s H vs Q E hr h => ?_)
  obtain ⟨B, ps, p, eB, hv, ⟨c, u, rfl, rfl⟩, q⟩ := h
  obtain ⟨v1, v2, rfl, h1, h2⟩ := all2 hv
  have hu := hu_of hr
  refine ⟨_, (pss_cons (ps_for PassesOwn.never rfl (pi_enumT (by rfl) n_enumerate (pa_cons (pv 0) pa_nil)) (pg_tup (by rfl) (pgs_cons (pg_name (i := 2) sc_first_by.nd rfl (by first | exact .inl rfl | exact .inr rfl)) (pgs_cons (pg_tup (by rfl) (pgs_cons (pg_name (i := 3) sc_first_by.nd rfl (by first | exact .inl rfl | exact .inr rfl)) (pgs_cons (pg_name (i := 4) sc_first_by.nd rfl (by first | exact .inl rfl | exact .inr rfl)) pgs_nil))) pgs_nil)))
      (pss_one (ps_if (pt_cmpR op_notN (pe_call c_way_to.G (hr.mono (by decide)) (by rfl) c_way_to.m c_way_to.k c_way_to.b .nil pass0 (pa_cons (pv 3) (pa_cons (pv 1) pa_nil))) pe_non (nomark _)) (pss_one (ps_ret (pv 2))) pss_nil)))
    (pss_one (ps_ret pe_non))), ?_⟩
  refine ps_forE eB (src_enT (K := K) (ps := c.map (lkP K)) (q_cons (p_var rfl h1) q_nil)) fun B3 H3 g3 => ?_
  refine ⟨fun i σ H4 => ∃ B4, Gr B3 H3 B4 H4 ∧ ∃ n l x, σ = [some v1, some v2, n, l, x] ∧ ∀ k (_ : k < i) (hk : k < c.length), wayB (c[k]'hk).1 u = false, ⟨B3, Gr.refl g3.c, none, none, none, rfl, fun k hk => absurd hk (Nat.not_lt_zero k)⟩, fun i σ H4 _ h => ?_, fun i v3 T σ H4 hi pv px hT => ?_, fun σ H4 pv => ?_⟩
  · obtain ⟨B4, g4, _⟩ := h
    exact g4.b.trans g4.c
  · obtain ⟨B4, g4, n, l, x, rfl, ha⟩ := pv
    rw [List.length_map] at hi
    rw [getD_map hi] at px
    obtain ⟨p3, xs, rfl, hp3, al⟩ := (lkP K c[i]).m g4.b px
    obtain ⟨y1, y2, rfl, m1, m2⟩ := all2 al
    have g5 := g4.trans (Gr.wide g4.c (Ex.new (o := .tup [.int (i : Nat), .ref p3]) hT))
    refine ⟨T, _, rfl, st_of upd_same, rfl, _, _, rfl, _, _, rfl, p3, _, rfl, ex_t g5.c hp3, rfl, _, _, rfl, _, _, rfl, rfl, rfl, ?_⟩
    have g5 := g4.trans (Gr.wide g4.c (Ex.new (o := .tup [.int (i : Nat), .ref p3]) hT))
    have tst : EvT (tTest (tOp (fun x y H Q => y = V.non ∧ Q (.bl (!decide (x = V.non))) H) (tCall (spP (Rway K)) [] E0 (tCons (tVar 3) (tCons (tVar 1) tNil))) (tC .non))) [some v1, some v2, some (.int (i : Nat)), some y1, some y2] B4 (wayB c[i].1 u) :=
      et_test (ev_way (K := K) (p_callP (ps := [DvP c[i].1, DvP u]) (q_cons (p_var rfl m1) (q_cons (p_var rfl ((DvP u).m (g3.b.trans g4.b) h2)) q_nil)) ⟨_, _, rfl, rfl⟩))
    cases hw : wayB c[i].1 u with
    | true =>
      rw [hw] at tst
      refine My.ps_ifT g5.c tst fun H5 e5 => ?_
      refine My.ps_ret (g5.c.trans e5) (p_varV rfl) fun v B6 H6 g6 hp => ?_
      refine q v B6 H6 ((g3.trans (g5.trans (Gr.wide g5.c e5))).trans g6) ?_
      have : fstI c u = some i := by
        unfold fstI
        rw [List.findIdx?_eq_some_iff_getElem]
        exact ⟨hi, hw, fun j hj => by rw [ha j hj (Nat.lt_trans hj hi)]; exact Bool.false_ne_true⟩
      rw [this]
      exact hp
    | false =>
      rw [hw] at tst
      refine ps_ifN g5.c tst fun H5 e5 => ?_
      refine ⟨B4, g5.trans (Gr.wide g5.c e5), _, _, _, rfl, fun k hk hkc => ?_⟩
      rcases Nat.lt_succ_iff_lt_or_eq.mp hk with h | rfl
      · exact ha k h hkc
      · exact hw
  · obtain ⟨B4, g4, n, l, x, rfl, ha⟩ := pv
    dsimp only
    refine My.ps_ret g4.c (p_c (v := .non)) fun v B6 H6 g6 hp => ?_
    refine q v B6 H6 ((g3.trans g4).trans g6) ?_
    have : fstI c u = none := by
      unfold fstI
      rw [List.findIdx?_eq_none_iff]
      intro y hy
      obtain ⟨k, hk, rfl⟩ := List.mem_iff_getElem.mp hy
      exact ha k (by rw [List.length_map]; exact hk) hk
    rw [this]
    exact hp

/-- _refuse_first -/
abbrev s__refuse_first : Stmt := topS 43
abbrev N__refuse_first : List Str := ["word", "fits", "number", "fit"]
theorem sc__refuse_first : FnScope N__refuse_first ["word", "fits"] (defScope s__refuse_first) := ⟨rfl, rfl, rfl, by decide +kernel, rfl, by decide +kernel, by decide +kernel⟩
theorem ok__refuse_first {f : Addr} {fd : FuncData} (F : Fun K "_refuse_first" "_refuse_first" s__refuse_first f fd)  (n_enumerate : mg "enumerate" = none)  :
    FnOk P w K mg base CX0 1 f fd ["word", "fits"] (spP (Rref K)) := by
  refine F.ok sc__refuse_first (spP_len (by rintro _ _ ⟨x, n, rfl, rfl⟩; rfl)) (fun cdv A outer s H vs Q E hr h => ?_)
  obtain ⟨B, ps, p, eB, hv, ⟨x, n, rfl, rfl⟩, q⟩ := h
  obtain ⟨v1, v2, rfl, h1, h2⟩ := all2 hv
  have hu := hu_of hr
  refine ⟨_, (pss_one (ps_for PassesOwn.never rfl (pi_enum (by rfl) n_enumerate (pa_cons (pv 1) pa_nil)) (pg_tup (by rfl) (pgs_cons (pg_name (i := 2) sc__refuse_first.nd rfl (by first | exact .inl rfl | exact .inr rfl)) (pgs_cons (pg_name (i := 3) sc__refuse_first.nd rfl (by first | exact .inl rfl | exact .inr rfl)) pgs_nil)))
      (pss_one (ps_if (pt_not (pt_val (pv 3))) (pss_one ps_never) pss_nil)))), ?_⟩
  refine ps_forE eB (src_enL (K := K) (ps := List.replicate n (IsV (.bl true))) (q_cons (p_var rfl h2) q_nil)) fun B3 H3 g3 => ?_
  refine ⟨fun i σ H4 => ∃ B4, Gr B3 H3 B4 H4 ∧ ∃ y z, σ = [some v1, some v2, y, z], ⟨B3, Gr.refl g3.c, none, none, rfl⟩, fun i σ H4 _ h => ?_, fun i v3 T σ H4 hi pv px hT => ?_, fun σ H4 pv => ?_⟩
  · obtain ⟨B4, g4, _⟩ := h
    exact g4.b.trans g4.c
  · obtain ⟨B4, g4, y, z, rfl⟩ := pv
    rw [List.length_replicate] at hi
    have : (List.replicate n (IsV (.bl true))).getD i (IsV .non) = IsV (.bl true) := by
      rw [List.getD_eq_getElem?_getD, List.getElem?_replicate, if_pos hi]
      rfl
    rw [this] at px
    obtain rfl : v3 = .bl true := px
    have g5 := g4.trans (Gr.wide g4.c (Ex.new (o := .tup [.int (i : Nat), .bl true]) hT))
    refine ⟨T, _, rfl, st_of upd_same, rfl, _, _, rfl, _, _, rfl, rfl, ?_⟩
    refine ps_ifN g5.c (et_is (et_not (et_test (ev_var (v := .bl true) rfl))) rfl) fun H5 e5 => ?_
    exact ⟨B4, g5.trans (Gr.wide g5.c e5), _, _, rfl⟩
  · obtain ⟨B4, g4, y, z, rfl⟩ := pv
    exact q .non B4 H4 (g3.trans g4) rfl

/-- derivatives_in -/
abbrev s_derivatives_in : Stmt := topS 24
abbrev N_derivatives_in : List Str := ["one", "found", "monomial", "_", "derivative"]
theorem sc_derivatives_in : FnScope N_derivatives_in ["one"] (defScope s_derivatives_in) := ⟨rfl, rfl, rfl, by decide +kernel, rfl, by decide +kernel, by decide +kernel⟩
theorem ok_derivatives_in {f : Addr} {fd : FuncData} (F : Fun K "derivatives_in" "derivatives_in" s_derivatives_in f fd)  (n_tuple : mg "tuple" = none) (n_sorted : mg "sorted" = none)  :
    FnOk P w K mg base CX0 1 f fd ["one"] (spP (Rdin K)) := by
  refine F.ok sc_derivatives_in (spP_len (by rintro _ _ ⟨c, _, rfl, rfl⟩; rfl)) (fun cdv A outer s H vs Q E hr h => ?_)
  obtain ⟨B, ps, p, eB, hv, ⟨c, hc, rfl, rfl⟩, q⟩ := h
  obtain ⟨v, rfl, h1⟩ := all1 hv
  have hu := hu_of hr
  refine ⟨_, (pss_cons (ps_set (i := 1) sc_derivatives_in.nd rfl (by first | exact .inl rfl | exact .inr rfl) pe_dnewN)
    (pss_cons (ps_for PassesOwn.never rfl (pi_tup (pv 0)) (pg_tup (by rfl) (pgs_cons (pg_name (i := 2) sc_derivatives_in.nd rfl (by first | exact .inl rfl | exact .inr rfl)) (pgs_cons (pg_name (i := 3) sc_derivatives_in.nd rfl (by first | exact .inl rfl | exact .inr rfl)) pgs_nil)))
      (pss_one (ps_for PassesOwn.never rfl (pi_tup (pv 2)) (pg_tup (by rfl) (pgs_cons (pg_name (i := 4) sc_derivatives_in.nd rfl (by first | exact .inl rfl | exact .inr rfl)) (pgs_cons (pg_name (i := 3) sc_derivatives_in.nd rfl (by first | exact .inl rfl | exact .inr rfl)) pgs_nil)))
      (pss_one (ps_dputN (by have h := hr.un; show (A.deeper _).units + 9 < cLine; omega) (pv 1) (pv 4) pe_bl rfl)))))
    (pss_one (ps_ret (pe_callTy call_tuple_of (by rfl) n_tuple (by decide +kernel) (pa_cons (pe_sortN hr (by rfl) n_sorted (pv 1)) pa_nil)))))), ?_⟩
  intro d hd
  have hBd : B d = none := fresh_back eB hd
  dsimp only
  refine ps_forV (Ex.mut eB hBd) rfl h1 ?_
  refine ⟨fun i σ H4 => Ex H H4 ∧ Ex B H4 ∧ ∃ xs, H4 d = some (DN P w d xs) ∧ KeyL ((dvs (c.take i)).foldl addD []) xs B ∧ ∃ x y z, σ = [some v, some (.ref d), x, y, z], ⟨Ex.new hd, Ex.mut eB hBd, [], upd_same, ⟨rfl, trivial⟩, none, none, none, rfl⟩, fun i σ H4 _ h => h.2.1, fun i v2 σ H4 hi pv px => ?_, fun σ H4 pv => ?_⟩
  · obtain ⟨x2, x1, xs, h4, kl, x, y, z, rfl⟩ := pv
    rw [List.length_map] at hi
    rw [getD_map hi] at px
    obtain ⟨p3, ys, rfl, hp3, al⟩ := px
    obtain ⟨y1, y2, rfl, m1, m2⟩ := all2 al
    refine ⟨p3, _, rfl, ex_t x1 hp3, rfl, _, _, rfl, _, _, rfl, rfl, ?_⟩
    refine ps_forV x1 rfl m1 ?_
    refine ⟨fun j σ H5 => Ex H H5 ∧ Ex B H5 ∧ ∃ xs, H5 d = some (DN P w d xs) ∧ KeyL ((dvs (c.take i) ++ (c[i].1.take j).map (·.1)).foldl addD []) xs B ∧ ∃ x y z, σ = [some v, some (.ref d), x, y, z], ⟨x2, x1, xs, h4, by simpa using kl, _, _, _, rfl⟩, fun j σ H5 _ h => h.2.1, fun j v3 σ H5 hj pv px => ?_, fun σ H5 pv => ?_⟩
    · obtain ⟨w2, w1, xs, h5, kl, x, y, z, rfl⟩ := pv
      rw [List.length_map] at hj
      rw [getD_map hj] at px
      obtain ⟨p4, zs, rfl, hp4, al4⟩ := px
      obtain ⟨z1, z2, rfl, n1, n2⟩ := all2 al4
      obtain ⟨a, rfl, ha⟩ := n1
      have n1 : (DvP (c[i].1[j]).1).P (.ref a) B := ⟨a, rfl, ha⟩
      refine ⟨p4, _, rfl, ex_t w1 hp4, rfl, _, _, rfl, _, _, rfl, rfl, ?_⟩
      have hb := fold_len (dvs (c.take i) ++ (c[i].1.take j).map (·.1)) []
      have hb2 := dvs_le hi j
      have hb3 := kl.len
      rw [List.length_nil, Nat.zero_add] at hb
      refine ⟨_, rfl, _, rfl, d, a, xs, nk (c[i].1[j]).1.D, rfl, rfl, h5, kl.ok w1, (key_dv n1).ex w1, by omega, ?_⟩
      refine ⟨Ex.mut w2 hd, Ex.mut w1 hBd, _, upd_same, ?_, _, _, _, rfl⟩
      have e : c[i].1.take (j + 1) = c[i].1.take j ++ [c[i].1[j]] := by
        rw [List.take_add_one, List.getElem?_eq_getElem hj]
        rfl
      rw [e, List.map_append, ← List.append_assoc, List.foldl_append]
      exact kl.put n1
    · obtain ⟨w2, w1, xs, h5, kl, x, y, z, rfl⟩ := pv
      rw [List.length_map, List.take_length] at kl
      refine ⟨w2, w1, xs, h5, ?_, _, _, _, rfl⟩
      rw [dvs_take hi]
      exact kl
  · obtain ⟨x2, x1, xs, h4, kl, x, y, z, rfl⟩ := pv
    rw [List.length_map, List.take_length] at kl
    have hn := kl.len
    have ka := kl.refs.m x1
    refine ⟨.ref d, rfl, d, xs, (dedD (dvs c)).map Dv.D, rfl, h4, by rw [List.length_map]; exact hn.symm, AllAlike.of fun u v => alike_dv u v, Sortable.tuples fun u => ⟨_, _, rfl⟩, fun e he => ?_, dps_dv ka, fun a ha => ⟨a, _, rfl, .inl ⟨sq_of upd_same, fun l hl => ?_⟩⟩⟩
    · obtain ⟨u, _, rfl⟩ := List.mem_map.mp he
      rw [deep_dv]
      decide
    · have e5 : Ex H (upd H4 a (.lst (byKey (xs.map fun x => V.ref x.2.1) ((dedD (dvs c)).map Dv.D)))) := x2.trans (Ex.new ha)
      exact q (.ref l) _ _ ((Gr.wide eB e5).trans (Gr.new (.tup (byKey (xs.map fun x => V.ref x.2.1) ((dedD (dvs c)).map Dv.D))) (eB.trans e5) hl)) ⟨l, _, rfl, st_of upd_same, (byKey_dv kl.refs).m (Ex.new (fresh_back (eB.trans e5) hl))⟩

end
end K12
namespace K12
set_option autoImplicit false
open PySem PySem.W L2 Evl My Nd
theorem in_len {c : Po} (h : (dvs c).length ≤ 1000) : (dvsIn c).length ≤ 1000 := by
  have := fold_len (dvs c) []
  unfold dvsIn srtD
  rw [List.length_mergeSort]
  unfold dedD
  rw [List.length_nil] at this
  omega
theorem po_dv {r : Rk} {c : Po} (h : PoOk r c) : ∀ u ∈ dvs c, u.Of r := fun u hu => by
  obtain ⟨t, ht, hm⟩ := List.mem_flatMap.mp hu
  obtain ⟨x, hx, rfl⟩ := List.mem_map.mp hm
  exact ((h.of t ht).1.of x hx).1
def Rpf (K : PySem.W.Frag) : List Pr → Pr → Prop := fun ps p => ∃ (r : Rk) (c : Po), r.Ok ∧ PoOk r c ∧ (dvs c).length ≤ 1000 ∧ ps = [RkP K r, poP K c] ∧ p = IsV (.bl true)
def Rpr (K : PySem.W.Frag) : List Pr → Pr → Prop := fun ps p => ∃ (r : Rk) (x : Dv × Po), r.Ok ∧ x.1.Of r ∧ PoOk r x.2 ∧ (dvs x.2).length ≤ 1000 ∧ ps = [RkP K r, lkP K x] ∧ p = IsV (.bl true)
def Rdo (K : PySem.W.Frag) : List Pr → Pr → Prop := fun ps p => ∃ (u : Dv) (us : List Dv), us.length ≤ 1000 ∧ ps = [DvP u, LqP K (us.map DvP)] ∧ p = IsV (.bl (us.any fun v => wayB v u))
def Rbl (K : PySem.W.Frag) : List Pr → Pr → Prop := fun ps p => ∃ (r : Rk) (c : Po) (u : Dv), r.Ok ∧ PoOk r c ∧ (dvs c).length ≤ 1000 ∧ (∀ d ∈ dvs c, r.lt d u) ∧ ps = [RkP K r, poP K c, IsD K (r.keyD u)] ∧ p = IsV (.bl true)
def Rfo (K : PySem.W.Frag) : List Pr → Pr → Prop := fun ps p => ∃ (l : Ch) (c : Po), (dvs c).length ≤ 1000 ∧ (∀ d ∈ dvs c, fstI l d = none) ∧ ps = [chP K l, poP K c] ∧ p = IsV (.bl true)
section
variable {te ta tb : TE} {σ : L2.St} {B H : Hp} {ps : List Pr} {K : PySem.W.Frag} {t : TA}
theorem ev_isN0 {v : V} (h : Ev ta σ B v) : Ev (tOp (fun x y H Q => y = V.non ∧ Q (.bl (decide (x = V.non))) H) ta (tC .non)) σ B (.bl (decide (v = V.non))) := fun H1 a Q k =>
  h H1 a _ fun H2 e2 => ⟨rfl, k H2 e2⟩
theorem all_true (n : Nat) : ((List.range n).map fun _ => true).all id = true := by
  rw [List.all_map, List.all_eq_true]
  intro _ _
  rfl
theorem ev_allT {n : Nat} (h : EvP te σ B (IsD K (.list ((List.range n).map fun _ => .bool true)))) : Ev (tCB (rAll K) (tCons te tNil)) σ B (.bl true) :=
  ev_is (ev_allL (K := K) (bs := (List.range n).map fun _ => true) (by rw [List.map_map]; exact h)) (by rw [all_true])
theorem ev_anyL {bs : List Bool} (h : EvP te σ B (IsD K (.list (bs.map .bool)))) : Ev (tCB (rAny K) (tCons te tNil)) σ B (.bl (bs.any id)) := fun H1 a Q k =>
  h H1 a _ fun v B2 H2 g x => by
    cases x with
    | lst y z =>
      have := dps_bls z
      subst this
      exact ⟨_, bs, rfl, ex_l g.c y, k H2 g.a⟩
end
section
variable {P : Program} {w : World} {K : PySem.W.Frag} {mg : Str → Option Value} {base : Heap}

/-- polynomial_fits -/
abbrev s_polynomial_fits : Stmt := topS 34
abbrev N_polynomial_fits : List Str := ["ranking", "thing", "derivative"]
theorem sc_polynomial_fits : FnScope N_polynomial_fits ["ranking", "thing"] (defScope s_polynomial_fits) := ⟨rfl, rfl, rfl, by decide +kernel, rfl, by decide +kernel, by decide +kernel⟩
theorem ok_polynomial_fits {f : Addr} {fd : FuncData} (F : Fun K "polynomial_fits" "polynomial_fits" s_polynomial_fits f fd) {f_is_polynomial : Addr} {d_is_polynomial : FuncData} (c_is_polynomial : Cal P w K mg base "is_polynomial" 8 ["thing"] (spP (Rpo K (IsV (.bl true)))) f_is_polynomial d_is_polynomial) {f_derivatives_in : Addr} {d_derivatives_in : FuncData} (c_derivatives_in : Cal P w K mg base "derivatives_in" 1 ["one"] (spP (Rdin K)) f_derivatives_in d_derivatives_in) {f__stands_there : Addr} {d__stands_there : FuncData} (c__stands_there : Cal P w K mg base "_stands_there" 1 ["ranking", "derivative"] (spP (Rrd K fun _ _ => IsV (.bl true))) f__stands_there d__stands_there) (n_all : mg "all" = none)  :
    FnOk P w K mg base CX0 9 f fd ["ranking", "thing"] (spP (Rpf K)) := by
  refine F.ok sc_polynomial_fits (spP_len (by rintro _ _ ⟨r, c, _, _, _, rfl, rfl⟩; rfl)) (fun cdv A outer s H vs Q E hr h => ?_)
  obtain ⟨B, ps, p, eB, hv, ⟨r, c, hr0, hc, hl, rfl, rfl⟩, q⟩ := h
  obtain ⟨v1, v2, rfl, h1, h2⟩ := all2 hv
  have hu := hu_of hr
  refine ⟨_, (pss_cons (ps_if (pt_not (pt_val (pe_call c_is_polynomial.G (hr.mono (by decide)) (by rfl) c_is_polynomial.m c_is_polynomial.k c_is_polynomial.b .nil pass0 (pa_cons (pv 1) pa_nil)))) (pss_one (ps_ret pe_bl)) pss_nil)
    (pss_one (ps_ret (pe_callB (cr_all rfl) (by rfl) n_all (by decide +kernel) (pa_cons (pe_lc (own := [("derivative", 2)]) rfl sc_polynomial_fits.nd (pi_tup (pe_call c_derivatives_in.G (hr.mono (by decide)) (by rfl) c_derivatives_in.m c_derivatives_in.k c_derivatives_in.b .nil pass0 (pa_cons (pv 1) pa_nil))) (blkOk_by (N := N_polynomial_fits) (sc := defScope s_polynomial_fits) (by decide +kernel)) (fun _ _ _ _ _ => (pg_name (i := 2) sc_polynomial_fits.nd rfl (Or.inl rfl))) (fun _ _ _ _ _ => pts_nil) (fun _ _ _ _ _ => (pe_call c__stands_there.G (hr.mono (by decide)) (by rfl) c__stands_there.m c__stands_there.k c__stands_there.b .nil pass0 (pa_cons (pv 0) (pa_cons (pv 2) pa_nil))))) pa_nil))))), ?_⟩
  refine ps_ifN eB (et_is (et_not (et_test (ev_p (p_callP (ps := [poP K c]) (q_cons (p_var rfl h2) q_nil) ⟨r, c, hr0, hc, rfl, rfl⟩)))) rfl) fun H1 e1 => ?_
  dsimp only
  refine My.ps_ret (eB.trans e1) (p_ev (v := .bl true) (ev_allT (K := K) (n := ((dvsIn c).map DvP).length) ?_)) fun v B3 H3 g hp => q v B3 H3 ((Gr.wide eB e1).trans g) hp
  refine p_lcA (K := K) (src_tu (p_callP (ps := [poP K c]) (q_cons (p_var rfl h2) q_nil) ⟨c, hl, rfl, rfl⟩)) (by have := in_len hl; rw [List.length_map]; omega) (fun _ => .bool true) fun i v4 B1 hi e pv => ?_
  rw [List.length_map] at hi
  rw [getD_map hi] at pv
  have hm := mem_in.mp (List.getElem_mem hi)
  refine ⟨[some v1, some v2, some v4], rfl, fun H2 Q e q => q, ed_bl (ev_p (p_callP (ps := [RkP K r, DvP (dvsIn c)[i]]) (q_cons (p_var rfl ((RkP K r).m e h1)) (q_cons (p_var rfl pv) q_nil)) ⟨r, _, hr0, po_dv hc _ hm, rfl, rfl⟩))⟩

/-- is_pair -/
abbrev s_is_pair : Stmt := topS 44
abbrev N_is_pair : List Str := ["ranking", "thing"]
theorem sc_is_pair : FnScope N_is_pair ["ranking", "thing"] (defScope s_is_pair) := ⟨rfl, rfl, rfl, by decide +kernel, rfl, by decide +kernel, by decide +kernel⟩
theorem ok_is_pair {f : Addr} {fd : FuncData} (F : Fun K "is_pair" "is_pair" s_is_pair f fd) {f_derivative_fits : Addr} {d_derivative_fits : FuncData} (c_derivative_fits : Cal P w K mg base "derivative_fits" 4 ["ranking", "thing"] (spP (Rrd K fun _ _ => IsV (.bl true))) f_derivative_fits d_derivative_fits) {f_polynomial_fits : Addr} {d_polynomial_fits : FuncData} (c_polynomial_fits : Cal P w K mg base "polynomial_fits" 9 ["ranking", "thing"] (spP (Rpf K)) f_polynomial_fits d_polynomial_fits) (n_isinstance : mg "isinstance" = none) (n_tuple : mg "tuple" = none) (n_len : mg "len" = none)  :
    FnOk P w K mg base CX0 10 f fd ["ranking", "thing"] (spP (Rpr K)) := by
  refine F.ok sc_is_pair (spP_len (by rintro _ _ ⟨r, x, _, _, _, _, rfl, rfl⟩; rfl)) (fun cdv A outer s H vs Q E hr h => ?_)
  obtain ⟨B, ps, p, eB, hv, ⟨r, x, hr0, hx, hc, hl, rfl, rfl⟩, q⟩ := h
  obtain ⟨v1, v2, rfl, h0, h1⟩ := all2 hv
  have hu := hu_of hr
  refine ⟨_, (pss_cons (ps_if (PW.pt (pw_or (pt_not (pt_val (pe_callB call_isi (by rfl) n_isinstance (by decide +kernel) (pa_cons (pv 1) (pa_cons (pe_bltn (v := .ty "tuple") (u := .type "tuple") (by rfl) n_tuple (by decide +kernel) rfl) pa_nil))))) (pw_or1 (pt_cmpR op_ne (pe_callB call_len_seq (by rfl) n_len (by decide +kernel) (pa_cons (pv 1) pa_nil)) pe_int (nomark _))))) (pss_one (ps_ret pe_bl)) pss_nil)
    (pss_one (ps_ret (pe_and (pe_call c_derivative_fits.G (hr.mono (by decide)) (by rfl) c_derivative_fits.m c_derivative_fits.k c_derivative_fits.b .nil pass0 (pa_cons (pv 0) (pa_cons (pe_ix ix_tup (pv 1) pe_int (fun _ _ => rfl)) pa_nil))) (pe_one (pe_call c_polynomial_fits.G (hr.mono (by decide)) (by rfl) c_polynomial_fits.m c_polynomial_fits.k c_polynomial_fits.b .nil pass0 (pa_cons (pv 0) (pa_cons (pe_ix ix_tup (pv 1) pe_int (fun _ _ => rfl)) pa_nil)))))))), ?_⟩
  refine ps_ifN eB (et_is (et_or (a := false) (b := false) (et_is (et_not (et_test (ev_isi (K := K) (d := lkD x) (p_to (p_var rfl h1) (to_lk x)) k_tt))) rfl) fun _ => et_is (et_test (ev_op (ev_lenD (K := K) (p_to (p_var rfl h1) (to_lk x)) (.inl rfl)) ev_c (rv_ne rfl))) rfl) rfl) fun H1 e1 => ?_
  dsimp only
  refine My.ps_ret (eB.trans e1) (p_ev (v := .bl true) (ev_andV (a := true) (b := true) (ev_p (p_callP (ps := [RkP K r, DvP x.1]) (q_cons (p_var rfl h0) (q_cons (p_ixT (K := K) (p_var rfl h1) p_c rfl) q_nil)) ⟨r, x.1, hr0, hx, rfl, rfl⟩)) fun _ =>
    ev_p (p_callP (ps := [RkP K r, poP K x.2]) (q_cons (p_var rfl h0) (q_cons (p_ixT (K := K) (p_var rfl h1) p_c rfl) q_nil)) ⟨r, x.2, hr0, hc, hl, rfl, rfl⟩))) fun v B3 H3 g hp => q v B3 H3 ((Gr.wide eB e1).trans g) hp

/-- _is_below -/
abbrev s__is_below : Stmt := topS 46
abbrev N__is_below : List Str := ["ranking", "polynomial", "key", "derivative"]
theorem sc__is_below : FnScope N__is_below ["ranking", "polynomial", "key"] (defScope s__is_below) := ⟨rfl, rfl, rfl, by decide +kernel, rfl, by decide +kernel, by decide +kernel⟩
theorem lt_lex {r : Rk} {u v : Dv} (h : r.lt u v) : HT.lexLt (r.key u) (r.key v) = true := by
  obtain ⟨a, b, c, e1⟩ := r.key3 u
  obtain ⟨x, y, z, e2⟩ := r.key3 v
  unfold Rk.lt at h
  rw [e1, e2] at h ⊢
  rw [lex3]
  exact decide_eq_true h
theorem ok__is_below {f : Addr} {fd : FuncData} (F : Fun K "_is_below" "_is_below" s__is_below f fd) {f_derivatives_in : Addr} {d_derivatives_in : FuncData} (c_derivatives_in : Cal P w K mg base "derivatives_in" 1 ["one"] (spP (Rdin K)) f_derivatives_in d_derivatives_in) {f_rank_key : Addr} {d_rank_key : FuncData} (c_rank_key : Cal P w K mg base "rank_key" 1 ["ranking", "derivative"] (spP (Rrd K fun r u => IsD K (.tuple ((r.key u).map .int)))) f_rank_key d_rank_key) (n_all : mg "all" = none)  :
    FnOk P w K mg base CX0 2 f fd ["ranking", "polynomial", "key"] (spP (Rbl K)) := by
  refine F.ok sc__is_below (spP_len (by rintro _ _ ⟨r, c, u, _, _, _, _, rfl, rfl⟩; rfl)) (fun cdv A outer s H vs Q E hr h => ?_)
  obtain ⟨B, ps, p, eB, hv, ⟨r, c, u, hr0, hc, hl, hlt, rfl, rfl⟩, q⟩ := h
  obtain ⟨v1, v2, v3, rfl, h1, h2, h3⟩ := all3 hv
  have hu := hu_of hr
  refine ⟨_, (pss_one (ps_ret (pe_callB (cr_all rfl) (by rfl) n_all (by decide +kernel) (pa_cons (pe_lc (own := [("derivative", 3)]) rfl sc__is_below.nd (pi_tup (pe_call c_derivatives_in.G (hr.mono (by decide)) (by rfl) c_derivatives_in.m c_derivatives_in.k c_derivatives_in.b .nil pass0 (pa_cons (pv 1) pa_nil))) (blkOk_by (N := N__is_below) (sc := defScope s__is_below) (by decide +kernel)) (fun _ _ _ _ _ => (pg_name (i := 3) sc__is_below.nd rfl (Or.inl rfl))) (fun _ _ _ _ _ => pts_nil) (fun _ _ _ _ _ => (pe_cmpR (show OpR _ (compareOp .Lt) (rLtT K) from op_ltT (by have h := hr.un; show (A.deeper _).units < cLine; omega)) (pe_call c_rank_key.G (hr.mono (by decide)) (by rfl) c_rank_key.m c_rank_key.k c_rank_key.b .nil pass0 (pa_cons (pv 0) (pa_cons (pv 3) pa_nil))) (pv 2) (nomark _)))) pa_nil)))), ?_⟩
  refine My.ps_ret eB (p_ev (v := .bl true) (ev_allT (K := K) (n := ((dvsIn c).map DvP).length) ?_)) fun v B3 H3 g hp => q v B3 H3 g hp
  refine p_lcA (K := K) (src_tu (p_callP (ps := [poP K c]) (q_cons (p_var rfl h2) q_nil) ⟨c, hl, rfl, rfl⟩)) (by have := in_len hl; rw [List.length_map]; omega) (fun _ => .bool true) fun i v4 B1 hi e pv => ?_
  rw [List.length_map] at hi
  rw [getD_map hi] at pv
  have hm := mem_in.mp (List.getElem_mem hi)
  refine ⟨[some v1, some v2, some v3, some v4], rfl, fun H2 Q e q => q, ed_bl (ev_is (ev_ltT (K := K) (ns := r.key (dvsIn c)[i]) (ms := r.key u) (p_callP (ps := [RkP K r, DvP (dvsIn c)[i]]) (q_cons (p_var rfl ((RkP K r).m e h1)) (q_cons (p_var rfl pv) q_nil)) ⟨r, _, hr0, po_dv hc _ hm, rfl, rfl⟩) (p_var rfl (dp_m e h3))) (by rw [lt_lex (hlt _ hm)]))⟩

/-- _is_free_of -/
abbrev s__is_free_of : Stmt := topS 47
abbrev N__is_free_of : List Str := ["chain", "polynomial", "derivative"]
theorem sc__is_free_of : FnScope N__is_free_of ["chain", "polynomial"] (defScope s__is_free_of) := ⟨rfl, rfl, rfl, by decide +kernel, rfl, by decide +kernel, by decide +kernel⟩
theorem ok__is_free_of {f : Addr} {fd : FuncData} (F : Fun K "_is_free_of" "_is_free_of" s__is_free_of f fd) {f_derivatives_in : Addr} {d_derivatives_in : FuncData} (c_derivatives_in : Cal P w K mg base "derivatives_in" 1 ["one"] (spP (Rdin K)) f_derivatives_in d_derivatives_in) {f_first_by : Addr} {d_first_by : FuncData} (c_first_by : Cal P w K mg base "first_by" 2 ["chain", "derivative"] (spP (Rfst K)) f_first_by d_first_by) (n_all : mg "all" = none)  :
    FnOk P w K mg base CX0 3 f fd ["chain", "polynomial"] (spP (Rfo K)) := by
  refine F.ok sc__is_free_of (spP_len (by rintro _ _ ⟨l, c, _, _, rfl, rfl⟩; rfl)) (fun cdv A outer s H vs Q E hr h => ?_)
  obtain ⟨B, ps, p, eB, hv, ⟨l, c, hl, hn, rfl, rfl⟩, q⟩ := h
  obtain ⟨v1, v2, rfl, h1, h2⟩ := all2 hv
  have hu := hu_of hr
  refine ⟨_, (pss_one (ps_ret (pe_callB (cr_all rfl) (by rfl) n_all (by decide +kernel) (pa_cons (pe_lc (own := [("derivative", 2)]) rfl sc__is_free_of.nd (pi_tup (pe_call c_derivatives_in.G (hr.mono (by decide)) (by rfl) c_derivatives_in.m c_derivatives_in.k c_derivatives_in.b .nil pass0 (pa_cons (pv 1) pa_nil))) (blkOk_by (N := N__is_free_of) (sc := defScope s__is_free_of) (by decide +kernel)) (fun _ _ _ _ _ => (pg_name (i := 2) sc__is_free_of.nd rfl (Or.inl rfl))) (fun _ _ _ _ _ => pts_nil) (fun _ _ _ _ _ => (pe_cmpR op_isN (pe_call c_first_by.G (hr.mono (by decide)) (by rfl) c_first_by.m c_first_by.k c_first_by.b .nil pass0 (pa_cons (pv 0) (pa_cons (pv 2) pa_nil))) pe_non (nomark _)))) pa_nil)))), ?_⟩
  refine My.ps_ret eB (p_ev (v := .bl true) (ev_allT (K := K) (n := ((dvsIn c).map DvP).length) ?_)) fun v B3 H3 g hp => q v B3 H3 g hp
  refine p_lcA (K := K) (src_tu (p_callP (ps := [poP K c]) (q_cons (p_var rfl h2) q_nil) ⟨c, hl, rfl, rfl⟩)) (by have := in_len hl; rw [List.length_map]; omega) (fun _ => .bool true) fun i v4 B1 hi e pv => ?_
  rw [List.length_map] at hi
  rw [getD_map hi] at pv
  have hm := mem_in.mp (List.getElem_mem hi)
  refine ⟨[some v1, some v2, some v4], rfl, fun H2 Q e q => q, ed_bl (ev_is (ev_isN0 (ev_p (p_callP (ps := [chP K l, DvP (dvsIn c)[i]]) (q_cons (p_var rfl ((chP K l).m e h1)) (q_cons (p_var rfl pv) q_nil)) ⟨l, _, rfl, rfl⟩))) (by rw [hn _ hm]; rfl))⟩

/-- _is_derived_of -/
abbrev s__is_derived_of : Stmt := topS 45
abbrev N__is_derived_of : List Str := ["leader", "others", "other"]
theorem sc__is_derived_of : FnScope N__is_derived_of ["leader", "others"] (defScope s__is_derived_of) := ⟨rfl, rfl, rfl, by decide +kernel, rfl, by decide +kernel, by decide +kernel⟩
theorem ok__is_derived_of {f : Addr} {fd : FuncData} (F : Fun K "_is_derived_of" "_is_derived_of" s__is_derived_of f fd) {f_way_to : Addr} {d_way_to : FuncData} (c_way_to : Cal P w K mg base "way_to" 1 ["one", "other"] (spP (Rway K)) f_way_to d_way_to) (n_any : mg "any" = none)  :
    FnOk P w K mg base CX0 2 f fd ["leader", "others"] (spP (Rdo K)) := by
  refine F.ok sc__is_derived_of (spP_len (by rintro _ _ ⟨u, us, _, rfl, rfl⟩; rfl)) (fun cdv A outer s H vs Q E hr h => ?_)
  obtain ⟨B, ps, p, eB, hv, ⟨u, us, hl, rfl, rfl⟩, q⟩ := h
  obtain ⟨v1, v2, rfl, h1, h2⟩ := all2 hv
  have hu := hu_of hr
  refine ⟨_, (pss_one (ps_ret (pe_callB (cr_any rfl) (by rfl) n_any (by decide +kernel) (pa_cons (pe_lc (own := [("other", 2)]) rfl sc__is_derived_of.nd (pi_list (pv 1)) (blkOk_by (N := N__is_derived_of) (sc := defScope s__is_derived_of) (by decide +kernel)) (fun _ _ _ _ _ => (pg_name (i := 2) sc__is_derived_of.nd rfl (Or.inl rfl))) (fun _ _ _ _ _ => pts_nil) (fun _ _ _ _ _ => (pe_cmpR op_notN (pe_call c_way_to.G (hr.mono (by decide)) (by rfl) c_way_to.m c_way_to.k c_way_to.b .nil pass0 (pa_cons (pv 2) (pa_cons (pv 0) pa_nil))) pe_non (nomark _)))) pa_nil)))), ?_⟩
  refine My.ps_ret eB (p_ev (v := .bl (us.any fun v => wayB v u)) (ev_is (ev_anyL (K := K) (bs := (List.range (us.map DvP).length).map fun i => wayB (us.getD i u) u) ?_) ?_)) fun v B3 H3 g hp => q v B3 H3 g hp
  · rw [List.map_map]
    refine p_lcA (K := K) (src_lq (p_var rfl h2)) (by rw [List.length_map]; omega) (fun i => .bool (wayB (us.getD i u) u)) fun i v4 B1 hi e pv => ?_
    rw [List.length_map] at hi
    rw [getD_map hi] at pv
    have hg : us.getD i u = us[i] := by rw [List.getD_eq_getElem?_getD, List.getElem?_eq_getElem hi]; rfl
    rw [hg]
    exact ⟨[some v1, some v2, some v4], rfl, fun H2 Q e q => q, ed_bl (ev_way (K := K) (p_callP (ps := [DvP us[i], DvP u]) (q_cons (p_var rfl pv) (q_cons (p_var rfl ((DvP u).m e h1)) q_nil)) ⟨_, _, rfl, rfl⟩))⟩
  · rw [List.length_map, List.any_map]
    congr 1
    rw [Bool.eq_iff_iff, List.any_eq_true, List.any_eq_true]
    constructor
    · rintro ⟨i, hi, h⟩
      rw [List.mem_range] at hi
      refine ⟨us[i], List.getElem_mem hi, ?_⟩
      simpa [List.getD_eq_getElem?_getD, List.getElem?_eq_getElem hi] using h
    · rintro ⟨y, hy, h⟩
      obtain ⟨i, hi, rfl⟩ := List.mem_iff_getElem.mp hy
      exact ⟨i, List.mem_range.mpr hi, by simpa [List.getD_eq_getElem?_getD, List.getElem?_eq_getElem hi] using h⟩

end
end K12
namespace K12
set_option autoImplicit false
open PySem PySem.W L2 Evl My Nd
structure ChOk (r : Rk) (c : Ch) : Prop where
  of : ∀ x ∈ c, x.1.Of r ∧ PoOk r x.2 ∧ (dvs x.2).length ≤ 1000
  up : ∀ i (h : i + 1 < c.length), r.lt (c[i]'(Nat.lt_of_succ_lt h)).1 c[i + 1].1
  ap : ∀ i (h : i < c.length), ((c.map (·.1)).take i).any (fun v => wayB v c[i].1) = false
  bel : ∀ x ∈ c, ∀ d ∈ dvs x.2, r.lt d x.1
  fre : ∀ x ∈ c, ∀ d ∈ dvs x.2, fstI c d = none
  len : c.length ≤ 1000
def Rch (K : PySem.W.Frag) : List Pr → Pr → Prop := fun ps p => ∃ (r : Rk) (c : Ch), r.Ok ∧ ChOk r c ∧ ps = [RkP K r, chP K c] ∧ p = IsV .non
theorem range_map {α β : Type} (f : α → β) (d : α) (l : List α) : ((List.range l.length).map fun i => f (l.getD i d)) = l.map f := by
  apply List.ext_getElem?
  intro i
  rw [List.getElem?_map, List.getElem?_map]
  by_cases h : i < l.length
  · rw [List.getElem?_range h, List.getElem?_eq_getElem h]
    simp [List.getD_eq_getElem?_getD, List.getElem?_eq_getElem h]
  · rw [List.getElem?_eq_none (by rw [List.length_range]; omega), List.getElem?_eq_none (by omega)]
    rfl
theorem range_const {β : Type} (b : β) : ∀ n : Nat, ((List.range n).map fun _ => b) = List.replicate n b := fun n => by
  apply List.ext_getElem?
  intro i
  rw [List.getElem?_map, List.getElem?_replicate]
  by_cases h : i < n
  · rw [List.getElem?_range h, if_pos h]
    rfl
  · rw [List.getElem?_eq_none (by rw [List.length_range]; omega), if_neg h]
    rfl
section
variable {te ta tb : TE} {σ : L2.St} {B H : Hp} {ps : List Pr} {K : PySem.W.Frag} {t : TA}
/-- a comprehension that keeps all: what is known of each -/
theorem p_lcU {wi : TI} {n : Nat} {P : Nat → Pr} {g : TG} {vs : List Nat} (h : Src wi σ B n P) (hl : n ≤ 100000) (res : Nat → Pr)
    (step : ∀ i v B1, i < n → Ex B B1 → (P i).P v B1 → ∃ σ2, wipe σ2 vs = wipe σ vs ∧ (∀ H2 Q, Ex B1 H2 → Q σ2 H2 → g v (wipe σ vs) H2 Q) ∧ EvP te σ2 B1 (res i)) : EvP (tLc wi g tYes te vs) σ B (LqP K ((List.range n).map res)) := by
  have := p_lcS (tt := tYes) (te := te) h hl (fun _ => true) res fun i v B1 hi e pv => by
    obtain ⟨σ2, a, b, c⟩ := step i v B1 hi e pv
    exact ⟨σ2, a, b, et_yes, fun _ => c⟩
  rw [List.filter_eq_self.mpr (fun _ _ => rfl)] at this
  exact p_lq this
theorem p_lcT {wi : TI} {n : Nat} {P : Nat → Pr} {g : TG} {vs : List Nat} (h : Src wi σ B n P) (hl : n ≤ 100000)
    (step : ∀ i v B1, i < n → Ex B B1 → (P i).P v B1 → ∃ σ2, wipe σ2 vs = wipe σ vs ∧ (∀ H2 Q, Ex B1 H2 → Q σ2 H2 → g v (wipe σ vs) H2 Q) ∧ Ev te σ2 B1 (.bl true)) : EvP (tLc wi g tYes te vs) σ B (LqP K (List.replicate n (IsV (.bl true)))) := by
  have := p_lcU (K := K) (te := te) h hl (fun _ => IsV (.bl true)) fun i v B1 hi e pv => by
    obtain ⟨σ2, a, b, c⟩ := step i v B1 hi e pv
    exact ⟨σ2, a, b, p_ev c⟩
  rw [range_const] at this
  exact this
theorem p_listRg {n : Nat} (h : Ev te σ B (.int (n : Int))) (hn : n ≤ 100000) : EvP (tLstRg (tRg1 te)) σ B (LqP K ((List.range n).map fun i => IsV (.int (i : Nat)))) := fun H1 a Q k => h H1 a _ fun H2 e2 => ⟨n, rfl, RgOk.of_le (by omega) (by omega) (by omega) (by omega), fun q hq => by
  refine k _ _ _ ((Gr.wide a e2).trans (Gr.new (.lst (rgV 0 n)) (a.trans e2) hq)) ⟨q, _, rfl, sq_of upd_same, ?_⟩
  unfold rgV
  have e : (((n : Nat) : Int) - 0).toNat = n := by omega
  rw [e]
  have : ∀ (l : List Nat) (H : Hp), AllP (l.map fun i => IsV (.int (i : Nat))) (l.map fun i => V.int (0 + (i : Nat))) H := by
    intro l H
    induction l with
    | nil => trivial
    | cons x l ih => exact ⟨by show V.int _ = V.int _; rw [Int.zero_add], ih⟩
  exact this _ _⟩
end
section
variable {P : Program} {w : World} {K : PySem.W.Frag} {mg : Str → Option Value} {base : Heap}

/-- need_chain -/
abbrev s_need_chain : Stmt := topS 42
abbrev N_need_chain : List Str := ["ranking", "chain", "pair", "leaders", "leader", "_", "keys", "places", "at", "right"]
theorem sc_need_chain : FnScope N_need_chain ["ranking", "chain"] (defScope s_need_chain) := ⟨rfl, rfl, rfl, by decide +kernel, rfl, by decide +kernel, by decide +kernel⟩
theorem ok_need_chain {f : Addr} {fd : FuncData} (F : Fun K "need_chain" "need_chain" s_need_chain f fd) {f_need_ranking : Addr} {d_need_ranking : FuncData} (c_need_ranking : Cal P w K mg base "need_ranking" 4 ["ranking"] (spP (Rrk K (IsV .non))) f_need_ranking d_need_ranking) {f_is_pair : Addr} {d_is_pair : FuncData} (c_is_pair : Cal P w K mg base "is_pair" 10 ["ranking", "thing"] (spP (Rpr K)) f_is_pair d_is_pair) {f__refuse_first : Addr} {d__refuse_first : FuncData} (c__refuse_first : Cal P w K mg base "_refuse_first" 1 ["word", "fits"] (spP (Rref K)) f__refuse_first d__refuse_first) {f_rank_key : Addr} {d_rank_key : FuncData} (c_rank_key : Cal P w K mg base "rank_key" 1 ["ranking", "derivative"] (spP (Rrd K fun r u => IsD K (.tuple ((r.key u).map .int)))) f_rank_key d_rank_key) {f__is_derived_of : Addr} {d__is_derived_of : FuncData} (c__is_derived_of : Cal P w K mg base "_is_derived_of" 2 ["leader", "others"] (spP (Rdo K)) f__is_derived_of d__is_derived_of) {f__is_below : Addr} {d__is_below : FuncData} (c__is_below : Cal P w K mg base "_is_below" 2 ["ranking", "polynomial", "key"] (spP (Rbl K)) f__is_below d__is_below) {f__is_free_of : Addr} {d__is_free_of : FuncData} (c__is_free_of : Cal P w K mg base "_is_free_of" 3 ["chain", "polynomial"] (spP (Rfo K)) f__is_free_of d__is_free_of) (n_isinstance : mg "isinstance" = none) (n_tuple : mg "tuple" = none) (n_list : mg "list" = none) (n_range : mg "range" = none) (n_len : mg "len" = none)  :
    FnOk P w K mg base CX0 11 f fd ["ranking", "chain"] (spP (Rch K)) := by
  refine F.ok sc_need_chain (spP_len (by rintro _ _ ⟨r, c, _, _, rfl, rfl⟩; rfl)) (fun cdv A outer s H vs Q E hr h => ?_)
  obtain ⟨B, ps, p, eB, hv, ⟨r, c, hr0, hc, rfl, rfl⟩, q⟩ := h
  obtain ⟨v1, v2, rfl, h1, h2⟩ := all2 hv
  have hu := hu_of hr
  refine ⟨_, (pss_cons (ps_expr (pe_call c_need_ranking.G (hr.mono (by decide)) (by rfl) c_need_ranking.m c_need_ranking.k c_need_ranking.b .nil pass0 (pa_cons (pv 0) pa_nil)))
    (pss_cons (ps_if (pt_not (pt_val (pe_callB call_isi (by rfl) n_isinstance (by decide +kernel) (pa_cons (pv 1) (pa_cons (pe_bltn (v := .ty "tuple") (u := .type "tuple") (by rfl) n_tuple (by decide +kernel) rfl) pa_nil))))) (pss_one ps_never) pss_nil)
    (pss_cons (ps_expr (pe_call c__refuse_first.G (hr.mono (by decide)) (by rfl) c__refuse_first.m c__refuse_first.k c__refuse_first.b .nil pass0 (pa_cons pe_str (pa_cons (pe_lc (own := [("pair", 2)]) rfl sc_need_chain.nd (pi_tup (pv 1)) (blkOk_by (N := N_need_chain) (sc := defScope s_need_chain) (by decide +kernel)) (fun _ _ _ _ _ => (pg_name (i := 2) sc_need_chain.nd rfl (Or.inl rfl))) (fun _ _ _ _ _ => pts_nil) (fun _ _ _ _ _ => (pe_call c_is_pair.G (hr.mono (by decide)) (by rfl) c_is_pair.m c_is_pair.k c_is_pair.b .nil pass0 (pa_cons (pv 0) (pa_cons (pv 2) pa_nil))))) pa_nil))))
    (pss_cons (ps_set (i := 3) sc_need_chain.nd rfl (by first | exact .inl rfl | exact .inr rfl) (pe_lc (own := [("leader", 4), ("_", 5)]) (g := (gTup K 2 (gCons (gName 4) (gCons (gName 5) gNil)))) rfl sc_need_chain.nd (pi_tup (pv 1)) (blkOk_by (N := N_need_chain) (sc := defScope s_need_chain) (by decide +kernel)) (fun _ _ _ _ _ => (pg_tup (by rfl) (pgs_cons (pg_name (i := 4) sc_need_chain.nd rfl (Or.inl rfl)) (pgs_cons (pg_name (i := 5) sc_need_chain.nd rfl (Or.inl rfl)) pgs_nil)))) (fun _ _ _ _ _ => pts_nil) (fun _ _ _ _ _ => (pv 4))))
    (pss_cons (ps_set (i := 6) sc_need_chain.nd rfl (by first | exact .inl rfl | exact .inr rfl) (pe_lc (own := [("leader", 4)]) rfl sc_need_chain.nd (pi_list (pv 3)) (blkOk_by (N := N_need_chain) (sc := defScope s_need_chain) (by decide +kernel)) (fun _ _ _ _ _ => (pg_name (i := 4) sc_need_chain.nd rfl (Or.inl rfl))) (fun _ _ _ _ _ => pts_nil) (fun _ _ _ _ _ => (pe_call c_rank_key.G (hr.mono (by decide)) (by rfl) c_rank_key.m c_rank_key.k c_rank_key.b .nil pass0 (pa_cons (pv 0) (pa_cons (pv 4) pa_nil))))))
    (pss_cons (ps_set (i := 7) sc_need_chain.nd rfl (by first | exact .inl rfl | exact .inr rfl) (pe_listRg rfl (by rfl) n_list (prg_1 (by rfl) n_range (pe_callB call_len_seq (by rfl) n_len (by decide +kernel) (pa_cons (pv 1) pa_nil)))))
    (pss_cons (ps_expr (pe_call c__refuse_first.G (hr.mono (by decide)) (by rfl) c__refuse_first.m c__refuse_first.k c__refuse_first.b .nil pass0 (pa_cons pe_str (pa_cons (pe_lc (te := tOrV (tOp rEq (tVar 8) (tC (.int 0))) (tOp (rLtT K) (tOp (rIxL K) (tVar 6) (tOp (rI0 fun i j => .int (i - j)) (tVar 8) (tC (.int 1)))) (tOp (rIxL K) (tVar 6) (tVar 8)))) (own := [("at", 8)]) rfl sc_need_chain.nd (pi_list (pv 7)) (blkOk_by (N := N_need_chain) (sc := defScope s_need_chain) (by decide +kernel)) (fun _ _ _ _ _ => (pg_name (i := 8) sc_need_chain.nd rfl (Or.inl rfl))) (fun _ _ _ _ _ => pts_nil) (fun _ _ _ _ _ => (pe_or (pe_cmpR op_eq (pv 8) pe_int (nomark _)) (pe_one (pe_cmpR (show OpR _ (compareOp .Lt) (rLtT K) from op_ltT (by have h := hr.un; show (A.deeper _).units < cLine; omega)) (pe_ix ix_list (pv 6) (pe_op op_sub (pv 8) pe_int) (fun _ _ => rfl)) (pe_ix ix_list (pv 6) (pv 8) (fun _ _ => rfl)) (nomark _)))))) pa_nil))))
    (pss_cons (ps_expr (pe_call c__refuse_first.G (hr.mono (by decide)) (by rfl) c__refuse_first.m c__refuse_first.k c__refuse_first.b .nil pass0 (pa_cons pe_str (pa_cons (pe_lc (te := tNotV (tCall (spP (Rdo K)) [] E0 (tCons (tOp (rIxL K) (tVar 3) (tVar 8)) (tCons (tSl (rSlL K) (tVar 3) tNoPart (tPart (tVar 8))) tNil)))) (own := [("at", 8)]) rfl sc_need_chain.nd (pi_list (pv 7)) (blkOk_by (N := N_need_chain) (sc := defScope s_need_chain) (by decide +kernel)) (fun _ _ _ _ _ => (pg_name (i := 8) sc_need_chain.nd rfl (Or.inl rfl))) (fun _ _ _ _ _ => pts_nil) (fun _ _ _ _ _ => (pe_not (pe_call c__is_derived_of.G (hr.mono (by decide)) (by rfl) c__is_derived_of.m c__is_derived_of.k c__is_derived_of.b .nil pass0 (pa_cons (pe_ix ix_list (pv 3) (pv 8) (fun _ _ => rfl)) (pa_cons (pe_slice sl_list (pv 3) po_none (po_some (pv 8))) pa_nil)))))) pa_nil))))
    (pss_cons (ps_expr (pe_call c__refuse_first.G (hr.mono (by decide)) (by rfl) c__refuse_first.m c__refuse_first.k c__refuse_first.b .nil pass0 (pa_cons pe_str (pa_cons (pe_lc (te := tCall (spP (Rbl K)) [] E0 (tCons (tVar 0) (tCons (tOp (rIxT K) (tOp (rIxT K) (tVar 1) (tVar 8)) (tC (.int 1))) (tCons (tOp (rIxL K) (tVar 6) (tVar 8)) tNil)))) (own := [("at", 8)]) rfl sc_need_chain.nd (pi_list (pv 7)) (blkOk_by (N := N_need_chain) (sc := defScope s_need_chain) (by decide +kernel)) (fun _ _ _ _ _ => (pg_name (i := 8) sc_need_chain.nd rfl (Or.inl rfl))) (fun _ _ _ _ _ => pts_nil) (fun _ _ _ _ _ => (pe_call c__is_below.G (hr.mono (by decide)) (by rfl) c__is_below.m c__is_below.k c__is_below.b .nil pass0 (pa_cons (pv 0) (pa_cons (pe_ix ix_tup (pe_ix ix_tup (pv 1) (pv 8) (fun _ _ => rfl)) pe_int (fun _ _ => rfl)) (pa_cons (pe_ix ix_list (pv 6) (pv 8) (fun _ _ => rfl)) pa_nil)))))) pa_nil))))
    (pss_one (ps_expr (pe_call c__refuse_first.G (hr.mono (by decide)) (by rfl) c__refuse_first.m c__refuse_first.k c__refuse_first.b .nil pass0 (pa_cons pe_str (pa_cons (pe_lc (own := [("_", 5), ("right", 9)]) (g := (gTup K 2 (gCons (gName 5) (gCons (gName 9) gNil)))) rfl sc_need_chain.nd (pi_tup (pv 1)) (blkOk_by (N := N_need_chain) (sc := defScope s_need_chain) (by decide +kernel)) (fun _ _ _ _ _ => (pg_tup (by rfl) (pgs_cons (pg_name (i := 5) sc_need_chain.nd rfl (Or.inl rfl)) (pgs_cons (pg_name (i := 9) sc_need_chain.nd rfl (Or.inl rfl)) pgs_nil)))) (fun _ _ _ _ _ => pts_nil) (fun _ _ _ _ _ => (pe_call c__is_free_of.G (hr.mono (by decide)) (by rfl) c__is_free_of.m c__is_free_of.k c__is_free_of.b .nil pass0 (pa_cons (pv 1) (pa_cons (pv 9) pa_nil))))) pa_nil)))))))))))))), ?_⟩
  have hlen := hc.len
  refine ps_exE eB (p_callP (ps := [RkP K r]) (q_cons (p_var rfl h1) q_nil) ⟨r, hr0, rfl, rfl⟩) fun H1 e1 => ?_
  dsimp only
  have eB1 := eB.trans e1
  refine ps_ifN eB1 (et_is (et_not (et_test (ev_isi (K := K) (d := chD c) (p_to (p_var rfl h2) (to_ch c)) k_tt))) rfl) fun H2 e2 => ?_
  dsimp only
  have eB2 := eB1.trans e2
  refine ps_exE eB2 (p_callP (ps := [IsV (.str "form"), LqP K (List.replicate (c.map (lkP K)).length (IsV (.bl true)))]) (q_cons p_c (q_cons (p_lcT (K := K) (src_tu (p_var rfl h2)) (by rw [List.length_map]; omega) fun i v3 B3 hi e pv => ?_) q_nil)) ⟨_, _, rfl, rfl⟩) fun H3 e3 => ?_
  · rw [List.length_map] at hi
    rw [getD_map hi] at pv
    obtain ⟨o1, o2, o3⟩ := hc.of c[i] (List.getElem_mem hi)
    exact ⟨[some v1, some v2, some v3, none, none, none, none, none, none, none], rfl, fun H2 Q e q => q, ev_p (p_callP (ps := [RkP K r, lkP K c[i]]) (q_cons (p_var rfl ((RkP K r).m e h1)) (q_cons (p_var rfl pv) q_nil)) ⟨r, c[i], hr0, o1, o2, o3, rfl, rfl⟩)⟩
  dsimp only
  have eB3 := eB2.trans e3
  have u0 : ∀ (i : Nat) (hi : i < c.length), (c.map (·.1)).getD i ⟨"", 0, 0⟩ = c[i].1 := fun i hi => by
    rw [List.getD_eq_getElem?_getD, List.getElem?_map, List.getElem?_eq_getElem hi]
    rfl
  refine ps_asgN (fun x => [some v1, some v2, none, some x, none, none, none, none, none, none]) eB3 (p_lcU (K := K) (src_tu (p_var rfl h2)) (by rw [List.length_map]; omega) (fun i => DvP ((c.map (·.1)).getD i ⟨"", 0, 0⟩)) fun i v3 B3 hi e pv => ?_) (fun v4 B4 H4 g4 hx4 => ?_) (fun _ => rfl)
  · rw [List.length_map] at hi
    rw [getD_map hi] at pv
    rw [u0 i hi]
    obtain ⟨p3, ys, rfl, hp3, al⟩ := pv
    obtain ⟨y1, y2, rfl, m1, m2⟩ := all2 al
    exact ⟨[some v1, some v2, none, none, some y1, some y2, none, none, none, none], rfl, fun H2 Q e q => ⟨p3, _, rfl, ex_t e hp3, rfl, _, _, rfl, _, _, rfl, rfl, q⟩, p_var rfl m1⟩
  have hx4 : (LqP K ((c.map (·.1)).map DvP)).P v4 B4 := by
    rw [List.length_map] at hx4
    have := range_map DvP ⟨"", 0, 0⟩ (c.map (·.1))
    rw [List.length_map] at this
    rw [this] at hx4
    exact hx4
  dsimp only
  refine ps_asgN (fun x => [some v1, some v2, none, some v4, none, none, some x, none, none, none]) g4.c (p_lcU (K := K) (src_lq (p_var rfl hx4)) (by rw [List.length_map, List.length_map]; omega) (fun i => IsD K (r.keyD ((c.map (·.1)).getD i ⟨"", 0, 0⟩))) fun i v3 B3 hi e pv => ?_) (fun v5 B5 H5 g5 hx5 => ?_) (fun _ => rfl)
  · rw [List.length_map, List.length_map] at hi
    have pv : (((c.map (·.1)).map DvP).getD i (IsV .non)).P v3 B3 := pv
    rw [getD_map (by rw [List.length_map]; exact hi), List.getElem_map] at pv
    rw [u0 i hi]
    obtain ⟨o1, o2, o3⟩ := hc.of c[i] (List.getElem_mem hi)
    exact ⟨[some v1, some v2, none, some v4, some v3, none, none, none, none, none], rfl, fun H2 Q e q => q, p_callP (ps := [RkP K r, DvP c[i].1]) (q_cons (p_var rfl ((RkP K r).m (g4.b.trans e) h1)) (q_cons (p_var rfl pv) q_nil)) ⟨r, c[i].1, hr0, o1, rfl, rfl⟩⟩
  have hx5 : (LqP K ((c.map (·.1)).map fun u => IsD K (r.keyD u))).P v5 B5 := by
    rw [List.length_map, List.length_map] at hx5
    have := range_map (fun u => IsD K (r.keyD u)) ⟨"", 0, 0⟩ (c.map (·.1))
    rw [List.length_map] at this
    rw [this] at hx5
    exact hx5
  dsimp only
  have h2' := (chP K c).m (g4.b.trans g5.b) h2
  refine ps_asgN (fun x => [some v1, some v2, none, some v4, none, none, some v5, some x, none, none]) g5.c (p_listRg (K := K) (n := c.length) (ev_is (ev_lenD (K := K) (es := c.map lkD) (p_to (p_var rfl h2') (to_ch c)) (.inl rfl)) (by rw [List.length_map])) (by omega)) (fun v6 B6 H6 g6 hx6 => ?_) (fun _ => rfl)
  dsimp only
  have k1 := (RkP K r).m (g4.b.trans (g5.b.trans g6.b)) h1
  have k2 := (chP K c).m g6.b h2'
  have k4 := (LqP K ((c.map (·.1)).map DvP)).m (g5.b.trans g6.b) hx4
  have k5 := (LqP K ((c.map (·.1)).map fun u => IsD K (r.keyD u))).m g6.b hx5
  have kat : ∀ (i : Nat) (hi : i < c.length) (B7 : Hp), Ex B6 B7 → ∀ (σ : L2.St) (tj : TE) (j : Int), σ[6]? = some (some v5) → Ev tj σ B7 (.int j) → j = i → EvP (tOp (rIxL K) (tVar 6) tj) σ B7 (IsD K (.tuple ((r.key c[i].1).map .int))) := fun i hi B7 e σ tj j hs ht hj => by
    subst hj
    refine p_ix (K := K) (ps := (c.map (·.1)).map fun u => IsD K (r.keyD u)) (p_var hs ((LqP K _).m e k5)) (p_ev ht) ?_
    refine atI_nat ?_
    rw [List.getElem?_map, List.getElem?_map, List.getElem?_eq_getElem hi]
    rfl
  have inr : ∀ {i : Nat} {v7 : V} {B7 : Hp}, i < ((List.range c.length).map fun i => IsV (.int (i : Nat))).length → (((List.range c.length).map fun i => IsV (.int (i : Nat))).getD i (IsV .non)).P v7 B7 → i < c.length ∧ v7 = .int (i : Nat) := fun {i v7 B7} hi pv => by
    rw [List.length_map, List.length_range] at hi
    rw [getD_map (by rw [List.length_range]; exact hi), List.getElem_range] at pv
    exact ⟨hi, pv⟩
  have eB6 := g6.c
  refine ps_exE eB6 (p_callP (ps := [IsV (.str "rising"), LqP K (List.replicate ((List.range c.length).map fun i => IsV (.int (i : Nat))).length (IsV (.bl true)))]) (q_cons p_c (q_cons (p_lcT (K := K) (src_lq (p_var rfl hx6)) (by rw [List.length_map, List.length_range]; omega) fun i v7 B7 hi e pv => ?_) q_nil)) ⟨_, _, rfl, rfl⟩) fun H7 e7 => ?_
  · obtain ⟨hi, rfl⟩ := inr hi pv
    refine ⟨[some v1, some v2, none, some v4, none, none, some v5, some v6, some (.int (i : Nat)), none], rfl, fun H2 Q e q => q, ?_⟩
    cases i with
    | zero => exact ev_is (ev_orV (a := true) (b := true) (ev_is (ev_op (ev_var rfl) ev_c (rv_eq rfl)) rfl) (fun z => nomatch z)) rfl
    | succ k =>
      refine ev_is (ev_orV (a := false) (b := true) (ev_is (ev_op (ev_var rfl) ev_c (rv_eq rfl)) ?_) fun _ => ev_is (ev_ltT (K := K) (ns := r.key (c[k]'(Nat.lt_of_succ_lt hi)).1) (ms := r.key c[k + 1].1) (kat k (Nat.lt_of_succ_lt hi) B7 e _ _ (((k + 1 : Nat) : Int) - 1) rfl (ev_op (ev_var rfl) ev_c rv_I0) (by omega)) (kat (k + 1) hi B7 e _ _ _ rfl (ev_var rfl) rfl)) ?_) rfl
      · have : ¬ ((k + 1 : Nat) : Int) = 0 := by omega
        simp [this]
        omega
      · rw [lt_lex (hc.up k hi)]
  dsimp only
  have eB7 := eB6.trans e7
  refine ps_exE eB7 (p_callP (ps := [IsV (.str "derived"), LqP K (List.replicate ((List.range c.length).map fun i => IsV (.int (i : Nat))).length (IsV (.bl true)))]) (q_cons p_c (q_cons (p_lcT (K := K) (src_lq (p_var rfl hx6)) (by rw [List.length_map, List.length_range]; omega) fun i v7 B7 hi e pv => ?_) q_nil)) ⟨_, _, rfl, rfl⟩) fun H8 e8 => ?_
  · obtain ⟨hi, rfl⟩ := inr hi pv
    refine ⟨[some v1, some v2, none, some v4, none, none, some v5, some v6, some (.int (i : Nat)), none], rfl, fun H2 Q e q => q, ?_⟩
    have sl : EvP (tSl (rSlL K) (tVar 3) tNoPart (tPart (tVar 8))) [some v1, some v2, none, some v4, none, none, some v5, some v6, some (.int (i : Nat)), none] B7 (LqP K (((c.map (·.1)).take i).map DvP)) := by
      rw [List.map_take (f := DvP)]
      exact p_lq (p_sl (K := K) (k := i) (p_var rfl ((LqP K _).m e k4)) (ev_var rfl))
    refine ev_is (ev_notV (ev_p (p_callP (ps := [DvP c[i].1, LqP K (((c.map (·.1)).take i).map DvP)]) (q_cons (p_ix (K := K) (ps := (c.map (·.1)).map DvP) (p_var rfl ((LqP K _).m e k4)) (p_varV rfl) ?_) (q_cons sl q_nil)) ⟨_, _, ?_, rfl, rfl⟩))) ?_
    · refine atI_nat ?_
      rw [List.getElem?_map, List.getElem?_map, List.getElem?_eq_getElem hi]
      rfl
    · rw [List.length_take, List.length_map]
      omega
    · rw [hc.ap i hi]
      rfl
  dsimp only
  have eB8 := eB7.trans e8
  refine ps_exE eB8 (p_callP (ps := [IsV (.str "above"), LqP K (List.replicate ((List.range c.length).map fun i => IsV (.int (i : Nat))).length (IsV (.bl true)))]) (q_cons p_c (q_cons (p_lcT (K := K) (src_lq (p_var rfl hx6)) (by rw [List.length_map, List.length_range]; omega) fun i v7 B7 hi e pv => ?_) q_nil)) ⟨_, _, rfl, rfl⟩) fun H9 e9 => ?_
  · obtain ⟨hi, rfl⟩ := inr hi pv
    obtain ⟨o1, o2, o3⟩ := hc.of c[i] (List.getElem_mem hi)
    refine ⟨[some v1, some v2, none, some v4, none, none, some v5, some v6, some (.int (i : Nat)), none], rfl, fun H2 Q e q => q, ?_⟩
    refine ev_p (p_callP (ps := [RkP K r, poP K c[i].2, IsD K (r.keyD c[i].1)]) (q_cons (p_var rfl ((RkP K r).m e k1)) (q_cons (p_ixT (K := K) (ps := [DvP c[i].1, poP K c[i].2]) (p_ixT (K := K) (ps := c.map (lkP K)) (p := lkP K c[i]) (p_var rfl ((chP K c).m e k2)) (p_varV rfl) ?_) p_c rfl) (q_cons (kat i hi B7 e _ _ _ rfl (ev_var rfl) rfl) q_nil))) ⟨r, c[i].2, c[i].1, hr0, o2, o3, hc.bel c[i] (List.getElem_mem hi), rfl, rfl⟩)
    refine atI_nat ?_
    rw [List.getElem?_map, List.getElem?_eq_getElem hi]
    rfl
  dsimp only
  have eB9 := eB8.trans e9
  refine ps_exE eB9 (p_callP (ps := [IsV (.str "principal"), LqP K (List.replicate (c.map (lkP K)).length (IsV (.bl true)))]) (q_cons p_c (q_cons (p_lcT (K := K) (src_tu (p_var rfl k2)) (by rw [List.length_map]; omega) fun i v3 B3 hi e pv => ?_) q_nil)) ⟨_, _, rfl, rfl⟩) fun H10 e10 => ?_
  · rw [List.length_map] at hi
    rw [getD_map hi] at pv
    obtain ⟨o1, o2, o3⟩ := hc.of c[i] (List.getElem_mem hi)
    have fr := hc.fre c[i] (List.getElem_mem hi)
    obtain ⟨p3, ys, rfl, hp3, al⟩ := pv
    obtain ⟨y1, y2, rfl, m1, m2⟩ := all2 al
    exact ⟨[some v1, some v2, none, some v4, none, some y1, some v5, some v6, none, some y2], rfl, fun H2 Q e q => ⟨p3, _, rfl, ex_t e hp3, rfl, _, _, rfl, _, _, rfl, rfl, q⟩, ev_p (p_callP (ps := [chP K c, poP K c[i].2]) (q_cons (p_var rfl ((chP K c).m e k2)) (q_cons (p_var rfl m2) q_nil)) ⟨c, c[i].2, o3, fr, rfl, rfl⟩)⟩
  exact q .non B6 H10 ((Gr.wide eB ((e1.trans e2).trans e3)).trans ((g4.trans (g5.trans g6)).trans (Gr.wide eB6 (((e7.trans e8).trans e9).trans e10)))) rfl

end
end K12
namespace K12
set_option autoImplicit false
open PySem PySem.W L2 Evl My Nd
abbrev Cn := Dv × List Str
def cnD (c : Cn) : PyData := .tuple [c.1.D, .tuple (c.2.map .str)]
def cnP (K : PySem.W.Frag) (c : Cn) : Pr := TuP K [DvP c.1, IsD K (.tuple (c.2.map .str))]
theorem to_cn {K : PySem.W.Frag} (c : Cn) : To K (cnP K c) (cnD c) := to_tup (.cons (to_dv c.1) (.cons to_d .nil))
def meetB (a b : Cn) (lo hi : Int) (x : Str) : Bool := if hi < lo then decide (x ∈ b.2) else (decide (lo = hi) || decide (x ∈ a.2))
def shareB (a b : Cn) : Bool := decide (a.1.n = b.1.n) && (meetB a b a.1.i b.1.i "x" && meetB a b a.1.j b.1.j "y")
def hasB (c : Cn) (u : Dv) : Bool := shareB c (u, [])
def Rmeet (K : PySem.W.Frag) : List Pr → Pr → Prop := fun ps p => ∃ (a b : Cn) (pl lo hi : Int) (x : Str), (pl = 1 ∧ lo = a.1.i ∧ hi = b.1.i ∨ pl = 2 ∧ lo = a.1.j ∧ hi = b.1.j) ∧ ps = [cnP K a, cnP K b, IsV (.int pl), IsV (.str x)] ∧ p = IsV (.bl (meetB a b lo hi x))
def Rshare (K : PySem.W.Frag) : List Pr → Pr → Prop := fun ps p => ∃ a b : Cn, ps = [cnP K a, cnP K b] ∧ p = IsV (.bl (shareB a b))
def Rholds (K : PySem.W.Frag) : List Pr → Pr → Prop := fun ps p => ∃ (c : Cn) (u : Dv), ps = [cnP K c, DvP u] ∧ p = IsV (.bl (hasB c u))
theorem all4 {p q r t : Pr} {vs : List V} {H : Hp} (h : AllP [p, q, r, t] vs H) : ∃ v u w x, vs = [v, u, w, x] ∧ p.P v H ∧ q.P u H ∧ r.P w H ∧ t.P x H := by
  match vs, h with
  | [v, u, w, x], h => exact ⟨v, u, w, x, rfl, h.1, h.2.1, h.2.2.1, h.2.2.2.1⟩
theorem ps_parN {i j : Nat} {t : TA} {σ : L2.St} {B H : Hp} {p q : Pr} {D : Ends} (a : Ex B H) (h : EvPs t σ B [p, q]) (n : ∀ v w B1 H1, Gr B H B1 H1 → p.P v B1 → q.P w B1 → D.nx ((σ.set i (some v)).set j (some w)) H1) : tPar i j t D σ H := h H a _ fun vs B1 H1 g x => by
  obtain ⟨v, w, rfl, h1, h2⟩ := all2 x
  exact ⟨v, w, rfl, n v w B1 H1 g h1 h2⟩
section
variable {P : Program} {w : World} {K : PySem.W.Frag} {mg : Str → Option Value} {base : Heap}

/-- _meet -/
abbrev s__meet : Stmt := topS 61
abbrev N__meet : List Str := ["one", "other", "place", "axis", "low", "high"]
theorem sc__meet : FnScope N__meet ["one", "other", "place", "axis"] (defScope s__meet) := ⟨rfl, rfl, rfl, by decide +kernel, rfl, by decide +kernel, by decide +kernel⟩
theorem ok__meet {f : Addr} {fd : FuncData} (F : Fun K "_meet" "_meet" s__meet f fd)    :
    FnOk P w K mg base CX0 1 f fd ["one", "other", "place", "axis"] (spP (Rmeet K)) := by
  refine F.ok sc__meet (spP_len (by rintro _ _ ⟨a, b, pl, lo, hi, x, _, rfl, rfl⟩; rfl)) (fun cdv A outer s H vs Q E hr h => ?_)
  obtain ⟨B, ps, p, eB, hv, ⟨a, b, pl, lo, hi, x, hpl, rfl, rfl⟩, q⟩ := h
  obtain ⟨v1, v2, v3, v4, rfl, h1, h2, h3, h4⟩ := all4 hv
  obtain rfl : v3 = .int pl := h3
  obtain rfl : v4 = .str x := h4
  have hu := hu_of hr
  refine ⟨_, (pss_cons (ps_par (i := 4) (j := 5) rfl sc__meet.nd rfl rfl (by decide) rfl rfl (pa_cons (pe_ix ix_tup (pe_ix ix_tup (pv 0) pe_int (fun _ _ => rfl)) (pv 2) (fun _ _ => rfl)) (pa_cons (pe_ix ix_tup (pe_ix ix_tup (pv 1) pe_int (fun _ _ => rfl)) (pv 2) (fun _ _ => rfl)) pa_nil)) (by rfl))
    (pss_cons (ps_if (pt_cmpR op_gt (pv 4) (pv 5) (nomark _)) (pss_one (ps_ret (pe_cmpR op_in_seq (pv 3) (pe_ix ix_tup (pv 1) pe_int (fun _ _ => rfl)) (by rfl)))) pss_nil)
    (pss_one (ps_ret (pe_or (pe_cmpR op_eq (pv 4) (pv 5) (nomark _)) (pe_one (pe_cmpR op_in_seq (pv 3) (pe_ix ix_tup (pv 0) pe_int (fun _ _ => rfl)) (by rfl)))))))), ?_⟩
  have ax : ∀ (d : Cn) (i : Nat) (v : V) (z : Int), (cnP K d).P v B → ([some v1, some v2, some (.int pl), some (.str x), none, none] : L2.St)[i]? = some (some v) → atI [PyData.str d.1.n, .int d.1.i, .int d.1.j] pl = some (.int z) → Ev (tOp (rIxT K) (tOp (rIxT K) (tVar i) (tC (.int 0))) (tVar 2)) [some v1, some v2, some (.int pl), some (.str x), none, none] B (.int z) := fun d i v z pd hi e =>
    ev_in (K := K) (ed_ixT (ds := [.str d.1.n, .int d.1.i, .int d.1.j]) (ed_dv (p_ixT (K := K) (ps := [DvP d.1, IsD K (.tuple (d.2.map .str))]) (p := DvP d.1) (p_var hi pd) p_c rfl)) (ev_var rfl) e)
  have el : atI [PyData.str a.1.n, .int a.1.i, .int a.1.j] pl = some (.int lo) ∧ atI [PyData.str b.1.n, .int b.1.i, .int b.1.j] pl = some (.int hi) := by
    rcases hpl with ⟨rfl, rfl, rfl⟩ | ⟨rfl, rfl, rfl⟩ <;> exact ⟨rfl, rfl⟩
  refine ps_parN eB (q_cons (p_ev (ax a 0 v1 lo h1 rfl el.1)) (q_cons (p_ev (ax b 1 v2 hi h2 rfl el.2)) q_nil)) fun y z B2 H2 g2 hy hz => ?_
  obtain rfl : y = .int lo := hy
  obtain rfl : z = .int hi := hz
  dsimp only
  have wy : ∀ (d : Cn) (i : Nat) (v : V), (cnP K d).P v B → ([some v1, some v2, some (.int pl), some (.str x), some (.int lo), some (.int hi)] : L2.St)[i]? = some (some v) → Ev (tOp (rIn K false) (tVar 3) (tOp (rIxT K) (tVar i) (tC (.int 1)))) [some v1, some v2, some (.int pl), some (.str x), some (.int lo), some (.int hi)] B2 (.bl (decide (x ∈ d.2))) := fun d i v pd hi =>
    ev_inT (K := K) (neg := false) (ys := d.2) (ev_var rfl) (p_ixT (K := K) (ps := [DvP d.1, IsD K (.tuple (d.2.map .str))]) (p_var hi ((cnP K d).m g2.b pd)) p_c rfl)
  by_cases hlt : hi < lo
  · refine My.ps_ifT g2.c (et_is (et_test (ev_op (ev_var rfl) (ev_var rfl) rv_I0)) (decide_eq_true hlt)) fun H3 e3 => ?_
    refine My.ps_ret (g2.c.trans e3) (p_ev (wy b 1 v2 h2 rfl)) fun v B3 H4 g hp => q v B3 H4 ((g2.trans (Gr.wide g2.c e3)).trans g) ?_
    unfold meetB
    rw [if_pos hlt]
    exact hp
  · refine ps_ifN g2.c (et_is (et_test (ev_op (ev_var rfl) (ev_var rfl) rv_I0)) (decide_eq_false hlt)) fun H3 e3 => ?_
    dsimp only
    refine My.ps_ret (g2.c.trans e3) (p_ev (ev_orV (a := decide (V.int lo = V.int hi)) (b := decide (x ∈ a.2)) (ev_op (ev_var rfl) (ev_var rfl) (rv_eq rfl)) fun _ => wy a 0 v1 h1 rfl)) fun v B3 H4 g hp => q v B3 H4 ((g2.trans (Gr.wide g2.c e3)).trans g) ?_
    unfold meetB
    rw [if_neg hlt]
    have : decide (V.int lo = V.int hi) = decide (lo = hi) := by simp
    rw [← this]
    exact hp

/-- _share_one -/
abbrev s__share_one : Stmt := topS 60
abbrev N__share_one : List Str := ["one", "other"]
theorem sc__share_one : FnScope N__share_one ["one", "other"] (defScope s__share_one) := ⟨rfl, rfl, rfl, by decide +kernel, rfl, by decide +kernel, by decide +kernel⟩
theorem ok__share_one {f : Addr} {fd : FuncData} (F : Fun K "_share_one" "_share_one" s__share_one f fd) {f__meet : Addr} {d__meet : FuncData} (c__meet : Cal P w K mg base "_meet" 1 ["one", "other", "place", "axis"] (spP (Rmeet K)) f__meet d__meet)   :
    FnOk P w K mg base CX0 2 f fd ["one", "other"] (spP (Rshare K)) := by
  refine F.ok sc__share_one (spP_len (by rintro _ _ ⟨a, b, rfl, rfl⟩; rfl)) (fun cdv A outer s H vs Q E hr h => ?_)
  obtain ⟨B, ps, p, eB, hv, ⟨a, b, rfl, rfl⟩, q⟩ := h
  obtain ⟨v1, v2, rfl, h1, h2⟩ := all2 hv
  have hu := hu_of hr
  refine ⟨_, (pss_cons (ps_if (pt_cmpR op_ne (pe_ix ix_tup (pe_ix ix_tup (pv 0) pe_int (fun _ _ => rfl)) pe_int (fun _ _ => rfl)) (pe_ix ix_tup (pe_ix ix_tup (pv 1) pe_int (fun _ _ => rfl)) pe_int (fun _ _ => rfl)) (nomark _)) (pss_one (ps_ret pe_bl)) pss_nil)
    (pss_one (ps_ret (pe_and (pe_call c__meet.G (hr.mono (by decide)) (by rfl) c__meet.m c__meet.k c__meet.b .nil pass0 (pa_cons (pv 0) (pa_cons (pv 1) (pa_cons pe_int (pa_cons pe_str pa_nil))))) (pe_one (pe_call c__meet.G (hr.mono (by decide)) (by rfl) c__meet.m c__meet.k c__meet.b .nil pass0 (pa_cons (pv 0) (pa_cons (pv 1) (pa_cons pe_int (pa_cons pe_str pa_nil)))))))))), ?_⟩
  have nm : ∀ (d : Cn) (i : Nat) (v : V), (cnP K d).P v B → ([some v1, some v2] : L2.St)[i]? = some (some v) → Ev (tOp (rIxT K) (tOp (rIxT K) (tVar i) (tC (.int 0))) (tC (.int 0))) [some v1, some v2] B (.str d.1.n) := fun d i v pd hi =>
    ev_st (K := K) (ed_ixT (ds := [.str d.1.n, .int d.1.i, .int d.1.j]) (ed_dv (p_ixT (K := K) (ps := [DvP d.1, IsD K (.tuple (d.2.map .str))]) (p := DvP d.1) (p_var hi pd) p_c rfl)) ev_c rfl)
  by_cases hn : a.1.n = b.1.n
  · refine ps_ifN eB (et_is (et_test (ev_op (nm a 0 v1 h1 rfl) (nm b 1 v2 h2 rfl) (rv_ne rfl))) (by simp [hn])) fun H1 e1 => ?_
    dsimp only
    refine My.ps_ret (eB.trans e1) (p_ev (ev_andV (a := meetB a b a.1.i b.1.i "x") (b := meetB a b a.1.j b.1.j "y") (ev_p (p_callP (ps := [cnP K a, cnP K b, IsV (.int 1), IsV (.str "x")]) (q_cons (p_var rfl h1) (q_cons (p_var rfl h2) (q_cons p_c (q_cons p_c q_nil)))) ⟨a, b, 1, _, _, "x", .inl ⟨rfl, rfl, rfl⟩, rfl, rfl⟩)) fun _ =>
      ev_p (p_callP (ps := [cnP K a, cnP K b, IsV (.int 2), IsV (.str "y")]) (q_cons (p_var rfl h1) (q_cons (p_var rfl h2) (q_cons p_c (q_cons p_c q_nil)))) ⟨a, b, 2, _, _, "y", .inr ⟨rfl, rfl, rfl⟩, rfl, rfl⟩))) fun v B3 H4 g hp => q v B3 H4 ((Gr.wide eB e1).trans g) ?_
    unfold shareB
    rw [decide_eq_true hn, Bool.true_and]
    exact hp
  · refine My.ps_ifT eB (et_is (et_test (ev_op (nm a 0 v1 h1 rfl) (nm b 1 v2 h2 rfl) (rv_ne rfl))) (by simp [hn])) fun H1 e1 => ?_
    refine My.ps_ret (eB.trans e1) (p_c (v := .bl false)) fun v B3 H4 g hp => q v B3 H4 ((Gr.wide eB e1).trans g) ?_
    unfold shareB
    rw [decide_eq_false hn, Bool.false_and]
    exact hp

/-- holds -/
abbrev s_holds : Stmt := topS 59
abbrev N_holds : List Str := ["cone", "derivative"]
theorem sc_holds : FnScope N_holds ["cone", "derivative"] (defScope s_holds) := ⟨rfl, rfl, rfl, by decide +kernel, rfl, by decide +kernel, by decide +kernel⟩
theorem ok_holds {f : Addr} {fd : FuncData} (F : Fun K "holds" "holds" s_holds f fd) {f__share_one : Addr} {d__share_one : FuncData} (c__share_one : Cal P w K mg base "_share_one" 2 ["one", "other"] (spP (Rshare K)) f__share_one d__share_one)   :
    FnOk P w K mg base CX0 3 f fd ["cone", "derivative"] (spP (Rholds K)) := by
  refine F.ok sc_holds (spP_len (by rintro _ _ ⟨c, u, rfl, rfl⟩; rfl)) (fun cdv A outer s H vs Q E hr h => ?_)
  obtain ⟨B, ps, p, eB, hv, ⟨c, u, rfl, rfl⟩, q⟩ := h
  obtain ⟨v1, v2, rfl, h1, h2⟩ := all2 hv
  have hu := hu_of hr
  refine ⟨_, (pss_one (ps_ret (pe_call c__share_one.G (hr.mono (by decide)) (by rfl) c__share_one.m c__share_one.k c__share_one.b .nil pass0 (pa_cons (pv 0) (pa_cons (pe_tup (pa_cons (pv 1) (pa_cons (pe_tup pa_nil) pa_nil))) pa_nil))))), ?_⟩
  refine My.ps_ret eB (p_callP (ps := [cnP K c, cnP K (u, [])]) (q_cons (p_var rfl h1) (q_cons (p_tup (K := K) (ps := [DvP u, IsD K (.tuple [])]) (q_cons (p_var rfl h2) (q_cons (ed_tup (K := K) (ds := []) q_nil (by show 0 ≤ 100000; decide)) q_nil)) (by show 2 ≤ 100000; decide)) q_nil)) ⟨c, (u, []), rfl, rfl⟩) fun v B3 H4 g hp => q v B3 H4 g hp

/-- is_free -/
abbrev s_is_free : Stmt := topS 63
abbrev N_is_free : List Str := ["ranking", "chain", "derivative"]
theorem sc_is_free : FnScope N_is_free ["ranking", "chain", "derivative"] (defScope s_is_free) := ⟨rfl, rfl, rfl, by decide +kernel, rfl, by decide +kernel, by decide +kernel⟩
def Rif (K : PySem.W.Frag) : List Pr → Pr → Prop := fun ps p => ∃ (r : Rk) (c : Ch) (u : Dv), r.Ok ∧ ChOk r c ∧ u.Of r ∧ ps = [RkP K r, chP K c, DvP u] ∧ p = IsV (.bl (decide (fstI c u = none)))
theorem ok_is_free {f : Addr} {fd : FuncData} (F : Fun K "is_free" "is_free" s_is_free f fd) {f_need_chain : Addr} {d_need_chain : FuncData} (c_need_chain : Cal P w K mg base "need_chain" 11 ["ranking", "chain"] (spP (Rch K)) f_need_chain d_need_chain) {f_need_derivative : Addr} {d_need_derivative : FuncData} (c_need_derivative : Cal P w K mg base "need_derivative" 5 ["ranking", "thing"] (spP (Rrd K fun _ _ => IsV .non)) f_need_derivative d_need_derivative) {f_first_by : Addr} {d_first_by : FuncData} (c_first_by : Cal P w K mg base "first_by" 2 ["chain", "derivative"] (spP (Rfst K)) f_first_by d_first_by)   :
    FnOk P w K mg base CX0 12 f fd ["ranking", "chain", "derivative"] (spP (Rif K)) := by
  refine F.ok sc_is_free (spP_len (by rintro _ _ ⟨r, c, u, _, _, _, rfl, rfl⟩; rfl)) (fun cdv A outer s H vs Q E hr h => ?_)
  obtain ⟨B, ps, p, eB, hv, ⟨r, c, u, hr0, hc, hu0, rfl, rfl⟩, q⟩ := h
  obtain ⟨v1, v2, v3, rfl, h1, h2, h3⟩ := all3 hv
  have hu := hu_of hr
  refine ⟨_, (pss_cons (ps_expr (pe_call c_need_chain.G (hr.mono (by decide)) (by rfl) c_need_chain.m c_need_chain.k c_need_chain.b .nil pass0 (pa_cons (pv 0) (pa_cons (pv 1) pa_nil))))
    (pss_cons (ps_expr (pe_call c_need_derivative.G (hr.mono (by decide)) (by rfl) c_need_derivative.m c_need_derivative.k c_need_derivative.b .nil pass0 (pa_cons (pv 0) (pa_cons (pv 2) pa_nil))))
    (pss_one (ps_ret (pe_cmpR op_isN (pe_call c_first_by.G (hr.mono (by decide)) (by rfl) c_first_by.m c_first_by.k c_first_by.b .nil pass0 (pa_cons (pv 1) (pa_cons (pv 2) pa_nil))) pe_non (nomark _)))))), ?_⟩
  refine ps_exE eB (p_callP (ps := [RkP K r, chP K c]) (q_cons (p_var rfl h1) (q_cons (p_var rfl h2) q_nil)) ⟨r, c, hr0, hc, rfl, rfl⟩) fun H1 e1 => ?_
  dsimp only
  refine ps_exE (eB.trans e1) (p_callP (ps := [RkP K r, DvP u]) (q_cons (p_var rfl h1) (q_cons (p_var rfl h3) q_nil)) ⟨r, u, hr0, hu0, rfl, rfl⟩) fun H2 e2 => ?_
  dsimp only
  refine My.ps_ret ((eB.trans e1).trans e2) (p_ev (ev_isN0 (ev_p (p_callP (ps := [chP K c, DvP u]) (q_cons (p_var rfl h2) (q_cons (p_var rfl h3) q_nil)) ⟨c, u, rfl, rfl⟩)))) fun v B3 H4 g hp => q v B3 H4 ((Gr.wide eB (e1.trans e2)).trans g) ?_
  have : decide (optV (fstI c u) = V.non) = decide (fstI c u = none) := by
    cases fstI c u <;> simp [optV]
  rw [← this]
  exact hp

end
end K12
namespace K12
set_option autoImplicit false
open PySem PySem.W L2 Evl My Nd
def waysAll : List (List Str) := [[], ["x"], ["y"], ["x", "y"]]
def waysD : List PyData := waysAll.map fun l => .tuple (l.map .str)
structure CnOk (r : Rk) (c : Cn) : Prop where
  of : c.1.Of r
  ways : c.2 ∈ waysAll
  axs : ∀ x ∈ c.2, x ∈ r.axs
def Rcf (K : PySem.W.Frag) : List Pr → Pr → Prop := fun ps p => ∃ (r : Rk) (c : Cn), r.Ok ∧ CnOk r c ∧ ps = [RkP K r, cnP K c] ∧ p = IsV (.bl true)
def Rchas (K : PySem.W.Frag) : List Pr → Pr → Prop := fun ps p => ∃ (r : Rk) (c : Cn) (u : Dv), r.Ok ∧ CnOk r c ∧ u.Of r ∧ ps = [RkP K r, cnP K c, DvP u] ∧ p = IsV (.bl (hasB c u))
theorem ways_in : ∀ l ∈ waysAll, (waysD.any fun z => PyData.eqv z (.tuple (l.map .str))) = true := by decide +kernel
theorem ways_shaped : ∀ l ∈ waysAll, SeqAt.shaped (.tuple (l.map .str)) = true := by decide +kernel
theorem ways_len : ∀ l ∈ waysAll, l.length ≤ 2 := by decide +kernel
theorem axs_xy (r : Rk) : ∀ x ∈ r.axs, x ∈ [("x" : Str), "y"] := ax_mem r
section
variable {P : Program} {w : World} {K : PySem.W.Frag} {mg : Str → Option Value} {base : Heap}

/-- cone_fits -/
abbrev s_cone_fits : Stmt := topS 57
abbrev N_cone_fits : List Str := ["ranking", "thing", "derivative", "ways", "axis"]
theorem sc_cone_fits : FnScope N_cone_fits ["ranking", "thing"] (defScope s_cone_fits) := ⟨rfl, rfl, rfl, by decide +kernel, rfl, by decide +kernel, by decide +kernel⟩
theorem ok_cone_fits {f : Addr} {fd : FuncData} (F : Fun K "cone_fits" "cone_fits" s_cone_fits f fd) {f_derivative_fits : Addr} {d_derivative_fits : FuncData} (c_derivative_fits : Cal P w K mg base "derivative_fits" 4 ["ranking", "thing"] (spP (Rrd K fun _ _ => IsV (.bl true))) f_derivative_fits d_derivative_fits) {f_is_axis : Addr} {d_is_axis : FuncData} (c_is_axis : Cal P w K mg base "is_axis" 1 ["thing"] (spP Raxis) f_is_axis d_is_axis) (n_isinstance : mg "isinstance" = none) (n_tuple : mg "tuple" = none) (n_len : mg "len" = none) (n_all : mg "all" = none) {aW : Addr} (g_WAYS : mg "WAYS_ALL" = some (.ref aW)) (v_WAYS : ∀ H, Dp K H (.ref aW) (.tuple waysD)) :
    FnOk P w K mg base CX0 5 f fd ["ranking", "thing"] (spP (Rcf K)) := by
  refine F.ok sc_cone_fits (spP_len (by rintro _ _ ⟨r, c, _, _, rfl, rfl⟩; rfl)) (fun cdv A outer s H vs Q E hr h => ?_)
  obtain ⟨B, ps, p, eB, hv, ⟨r, c, hr0, hc, rfl, rfl⟩, q⟩ := h
  obtain ⟨v1, v2, rfl, h0, h1⟩ := all2 hv
  have hu := hu_of hr
  refine ⟨_, (pss_cons (ps_if (PW.pt (pw_or (pt_not (pt_val (pe_callB call_isi (by rfl) n_isinstance (by decide +kernel) (pa_cons (pv 1) (pa_cons (pe_bltn (v := .ty "tuple") (u := .type "tuple") (by rfl) n_tuple (by decide +kernel) rfl) pa_nil))))) (pw_or1 (pt_cmpR op_ne (pe_callB call_len_seq (by rfl) n_len (by decide +kernel) (pa_cons (pv 1) pa_nil)) pe_int (nomark _))))) (pss_one (ps_ret pe_bl)) pss_nil)
    (pss_cons (ps_asg (pv 1) (pg_tup (by rfl) (pgs_cons (pg_name (i := 2) sc_cone_fits.nd rfl (by first | exact .inl rfl | exact .inr rfl)) (pgs_cons (pg_name (i := 3) sc_cone_fits.nd rfl (by first | exact .inl rfl | exact .inr rfl)) pgs_nil))))
    (pss_cons (ps_if (PW.pt (pw_or (pt_not (pt_val (pe_call c_derivative_fits.G (hr.mono (by decide)) (by rfl) c_derivative_fits.m c_derivative_fits.k c_derivative_fits.b .nil pass0 (pa_cons (pv 0) (pa_cons (pv 2) pa_nil))))) (pw_or1 (pt_not (pt_val (pe_callB call_isi (by rfl) n_isinstance (by decide +kernel) (pa_cons (pv 3) (pa_cons (pe_bltn (v := .ty "tuple") (u := .type "tuple") (by rfl) n_tuple (by decide +kernel) rfl) pa_nil)))))))) (pss_one (ps_ret pe_bl)) pss_nil)
    (pss_one (ps_ret (pe_and (pe_callB (cr_all rfl) (by rfl) n_all (by decide +kernel) (pa_cons (pe_lc (te := tAndV (tCall (spP Raxis) [] E0 (tCons (tVar 4) tNil)) (tOp (rIn K false) (tVar 4) (tOp (rIxT K) (tVar 0) (tC (.int 2))))) (own := [("axis", 4)]) rfl sc_cone_fits.nd (pi_tup (pv 3)) (blkOk_by (N := N_cone_fits) (sc := defScope s_cone_fits) (by decide +kernel)) (fun _ _ _ _ _ => (pg_name (i := 4) sc_cone_fits.nd rfl (Or.inl rfl))) (fun _ _ _ _ _ => pts_nil) (fun _ _ _ _ _ => (pe_and (pe_call c_is_axis.G (hr.mono (by decide)) (by rfl) c_is_axis.m c_is_axis.k c_is_axis.b .nil pass0 (pa_cons (pv 4) pa_nil)) (pe_one (pe_cmpR op_in_seq (pv 4) (pe_ix ix_tup (pv 0) pe_int (fun _ _ => rfl)) (by rfl)))))) pa_nil)) (pe_one (pe_cmpR (op_inT (by have h := hr.un; show (A.deeper _).units + 65 < cLine; omega)) (pv 3) (pe_glob (by rfl) (v := .ref aW) g_WAYS rfl) (by rfl))))))))), ?_⟩
  have hw := hc.ways
  have hwl := ways_len c.2 hw
  refine ps_ifN eB (et_is (et_or (a := false) (b := false) (et_is (et_not (et_test (ev_isi (K := K) (d := cnD c) (p_to (p_var rfl h1) (to_cn c)) k_tt))) rfl) fun _ => et_is (et_test (ev_op (ev_lenD (K := K) (p_to (p_var rfl h1) (to_cn c)) (.inl rfl)) ev_c (rv_ne rfl))) rfl) rfl) fun H1 e1 => ?_
  dsimp only
  refine ps_un2 (K := K) (eB.trans e1) (p_var rfl h1) fun y z B2 H2 g2 n2 n3 => ?_
  dsimp only
  have h0' := (RkP K r).m g2.b h0
  refine ps_ifN g2.c (et_is (et_or (a := false) (b := false) (et_is (et_not (et_test (ev_p (p_callP (ps := [RkP K r, DvP c.1]) (q_cons (p_var rfl h0') (q_cons (p_var rfl n2) q_nil)) ⟨r, c.1, hr0, hc.of, rfl, rfl⟩)))) rfl) fun _ => et_is (et_not (et_test (ev_isi (K := K) (d := .tuple (c.2.map .str)) (ed_var rfl n3) k_tt))) rfl) rfl) fun H3 e3 => ?_
  dsimp only
  refine My.ps_ret (g2.c.trans e3) (p_ev (v := .bl true) (ev_is (ev_andV (a := true) (b := true) (ev_allT (K := K) (n := (c.2.map PyData.str).length) ?_) fun _ => ev_is (ev_inDT (ed_var rfl n3) (ed_ref (v_WAYS B2)) (ways_shaped c.2 hw) (by decide +kernel)) (by rw [ways_in c.2 hw])) rfl)) fun v B3 H4 g hp => q v B3 H4 (((Gr.wide eB e1).trans (g2.trans (Gr.wide g2.c e3))).trans g) hp
  refine p_lcA (K := K) (src_tup (ed_var rfl n3)) (by rw [List.length_map]; omega) (fun _ => .bool true) fun i v4 B1 hi e pv => ?_
  rw [List.length_map] at hi
  have pv : Dp K B1 v4 ((c.2.map PyData.str).getD i .none) := pv
  have ed : (c.2.map PyData.str).getD i .none = .str c.2[i] := by
    rw [List.getD_eq_getElem?_getD, List.getElem?_map, List.getElem?_eq_getElem hi]
    rfl
  rw [ed] at pv
  obtain rfl : v4 = .str c.2[i] := by
    cases pv
    rfl
  have hx := hc.axs _ (List.getElem_mem hi)
  refine ⟨[some v1, some v2, some y, some z, some (.str c.2[i])], rfl, fun H2 Q e q => q, ed_bl (ev_is (ev_andV (a := true) (b := true) (ev_p (p_callP (ps := [IsV (.str c.2[i])]) (q_cons (p_varV rfl) q_nil) ⟨c.2[i], rfl, ax_mem r _ hx, rfl⟩)) fun _ => ev_is (ev_inT (K := K) (neg := false) (ys := r.axs) (ev_var rfl) (ed_ixT (ed_rk (p_var rfl ((RkP K r).m e h0'))) ev_c rfl)) (by rw [if_neg Bool.false_ne_true, decide_eq_true hx])) rfl)⟩

/-- is_cone -/
abbrev s_is_cone : Stmt := topS 56
abbrev N_is_cone : List Str := ["ranking", "thing"]
theorem sc_is_cone : FnScope N_is_cone ["ranking", "thing"] (defScope s_is_cone) := ⟨rfl, rfl, rfl, by decide +kernel, rfl, by decide +kernel, by decide +kernel⟩
theorem ok_is_cone {f : Addr} {fd : FuncData} (F : Fun K "is_cone" "is_cone" s_is_cone f fd) {f_need_ranking : Addr} {d_need_ranking : FuncData} (c_need_ranking : Cal P w K mg base "need_ranking" 4 ["ranking"] (spP (Rrk K (IsV .non))) f_need_ranking d_need_ranking) {f_cone_fits : Addr} {d_cone_fits : FuncData} (c_cone_fits : Cal P w K mg base "cone_fits" 5 ["ranking", "thing"] (spP (Rcf K)) f_cone_fits d_cone_fits)   :
    FnOk P w K mg base CX0 6 f fd ["ranking", "thing"] (spP (Rcf K)) := by
  refine F.ok sc_is_cone (spP_len (by rintro _ _ ⟨r, c, _, _, rfl, rfl⟩; rfl)) (fun cdv A outer s H vs Q E hr h => ?_)
  obtain ⟨B, ps, p, eB, hv, ⟨r, c, hr0, hc, rfl, rfl⟩, q⟩ := h
  obtain ⟨v1, v2, rfl, h1, h2⟩ := all2 hv
  have hu := hu_of hr
  refine ⟨_, (pss_cons (ps_expr (pe_call c_need_ranking.G (hr.mono (by decide)) (by rfl) c_need_ranking.m c_need_ranking.k c_need_ranking.b .nil pass0 (pa_cons (pv 0) pa_nil)))
    (pss_one (ps_ret (pe_call c_cone_fits.G (hr.mono (by decide)) (by rfl) c_cone_fits.m c_cone_fits.k c_cone_fits.b .nil pass0 (pa_cons (pv 0) (pa_cons (pv 1) pa_nil)))))), ?_⟩
  refine ps_exE eB (p_callP (ps := [RkP K r]) (q_cons (p_var rfl h1) q_nil) ⟨r, hr0, rfl, rfl⟩) fun H1 e1 => ?_
  dsimp only
  refine My.ps_ret (eB.trans e1) (p_callP (ps := [RkP K r, cnP K c]) (q_cons (p_var rfl h1) (q_cons (p_var rfl h2) q_nil)) ⟨r, c, hr0, hc, rfl, rfl⟩) fun v B3 H4 g hp => q v B3 H4 ((Gr.wide eB e1).trans g) hp

/-- cone_has -/
abbrev s_cone_has : Stmt := topS 58
abbrev N_cone_has : List Str := ["ranking", "cone", "derivative"]
theorem sc_cone_has : FnScope N_cone_has ["ranking", "cone", "derivative"] (defScope s_cone_has) := ⟨rfl, rfl, rfl, by decide +kernel, rfl, by decide +kernel, by decide +kernel⟩
theorem ok_cone_has {f : Addr} {fd : FuncData} (F : Fun K "cone_has" "cone_has" s_cone_has f fd) {f_need_ranking : Addr} {d_need_ranking : FuncData} (c_need_ranking : Cal P w K mg base "need_ranking" 4 ["ranking"] (spP (Rrk K (IsV .non))) f_need_ranking d_need_ranking) {f_cone_fits : Addr} {d_cone_fits : FuncData} (c_cone_fits : Cal P w K mg base "cone_fits" 5 ["ranking", "thing"] (spP (Rcf K)) f_cone_fits d_cone_fits) {f_need_derivative : Addr} {d_need_derivative : FuncData} (c_need_derivative : Cal P w K mg base "need_derivative" 5 ["ranking", "thing"] (spP (Rrd K fun _ _ => IsV .non)) f_need_derivative d_need_derivative) {f_holds : Addr} {d_holds : FuncData} (c_holds : Cal P w K mg base "holds" 3 ["cone", "derivative"] (spP (Rholds K)) f_holds d_holds)   :
    FnOk P w K mg base CX0 6 f fd ["ranking", "cone", "derivative"] (spP (Rchas K)) := by
  refine F.ok sc_cone_has (spP_len (by rintro _ _ ⟨r, c, u, _, _, _, rfl, rfl⟩; rfl)) (fun cdv A outer s H vs Q E hr h => ?_)
  obtain ⟨B, ps, p, eB, hv, ⟨r, c, u, hr0, hc, hu0, rfl, rfl⟩, q⟩ := h
  obtain ⟨v1, v2, v3, rfl, h1, h2, h3⟩ := all3 hv
  have hu := hu_of hr
  refine ⟨_, (pss_cons (ps_expr (pe_call c_need_ranking.G (hr.mono (by decide)) (by rfl) c_need_ranking.m c_need_ranking.k c_need_ranking.b .nil pass0 (pa_cons (pv 0) pa_nil)))
    (pss_cons (ps_if (pt_not (pt_val (pe_call c_cone_fits.G (hr.mono (by decide)) (by rfl) c_cone_fits.m c_cone_fits.k c_cone_fits.b .nil pass0 (pa_cons (pv 0) (pa_cons (pv 1) pa_nil))))) (pss_one ps_never) pss_nil)
    (pss_cons (ps_expr (pe_call c_need_derivative.G (hr.mono (by decide)) (by rfl) c_need_derivative.m c_need_derivative.k c_need_derivative.b .nil pass0 (pa_cons (pv 0) (pa_cons (pv 2) pa_nil))))
    (pss_one (ps_ret (pe_call c_holds.G (hr.mono (by decide)) (by rfl) c_holds.m c_holds.k c_holds.b .nil pass0 (pa_cons (pv 1) (pa_cons (pv 2) pa_nil)))))))), ?_⟩
  refine ps_exE eB (p_callP (ps := [RkP K r]) (q_cons (p_var rfl h1) q_nil) ⟨r, hr0, rfl, rfl⟩) fun H1 e0 => ?_
  dsimp only
  have e1 := eB.trans e0
  refine ps_ifN e1 (et_is (et_not (et_test (ev_p (p_callP (ps := [RkP K r, cnP K c]) (q_cons (p_var rfl h1) (q_cons (p_var rfl h2) q_nil)) ⟨r, c, hr0, hc, rfl, rfl⟩)))) rfl) fun H2 e2 => ?_
  dsimp only
  refine ps_exE (e1.trans e2) (p_callP (ps := [RkP K r, DvP u]) (q_cons (p_var rfl h1) (q_cons (p_var rfl h3) q_nil)) ⟨r, u, hr0, hu0, rfl, rfl⟩) fun H3 e3 => ?_
  dsimp only
  refine My.ps_ret ((e1.trans e2).trans e3) (p_callP (ps := [cnP K c, DvP u]) (q_cons (p_var rfl h2) (q_cons (p_var rfl h3) q_nil)) ⟨c, u, rfl, rfl⟩) fun v B3 H4 g hp => q v B3 H4 ?_ hp
  exact (Gr.wide eB ((e0.trans e2).trans e3)).trans g

end
end K12
namespace K12
set_option autoImplicit false
open PySem PySem.W L2 Evl My Nd
abbrev Pl := List (Int × Int)
def fwD (last : Int) (k : Nat) : List Str := if (k : Int) = last then ["x"] else []
def pwy (last : Int) (k : Nat) : List Str := if (k : Int) = last then ["x", "y"] else ["y"]
def endsOf (pl : Pl) (k : Nat) : List Int := (pl.filter fun p => decide (p.1 ≤ (k : Int))).map (·.2)
def colOf (n : Str) (pl : Pl) (last : Int) (k : Nat) : List Cn × List Cn := match endsOf pl k with
  | [] => ([(⟨n, k, 0⟩, ["y"])], [])
  | e :: es => ((List.range (minI e es).toNat).map fun j => (⟨n, k, (j : Nat)⟩, fwD last k), [(⟨n, k, minI e es⟩, pwy last k)])
def coP (K : PySem.W.Frag) (x : List Cn × List Cn) : Pr := TuP K [LqP K (x.1.map (cnP K)), LqP K (x.2.map (cnP K))]
def ppP (K : PySem.W.Frag) (p : Int × Int) : Pr := TuP K [IsV (.int p.1), IsV (.int p.2)]
structure PlOk (pl : Pl) : Prop where
  ge : ∀ p ∈ pl, 0 ≤ p.1 ∧ 0 ≤ p.2
  le : ∀ p ∈ pl, p.1 ≤ 1000 ∧ p.2 ≤ 1000
  len : pl.length ≤ 1000
def lastOf : Pl → Int
  | [] => 0
  | p :: pl => maxI p.1 (pl.map (·.1))
def colsOf (n : Str) (pl : Pl) : List (List Cn × List Cn) := (List.range ((lastOf pl).toNat + 1)).map (colOf n pl (lastOf pl))
def Rcol (K : PySem.W.Frag) : List Pr → Pr → Prop := fun ps p => ∃ (n : Str) (pl : Pl), PlOk pl ∧ pl ≠ [] ∧ ps = [IsV (.str n), LqP K (pl.map (ppP K))] ∧ p = LsP ((colsOf n pl).map (coP K))
theorem last_in {pl : Pl} (h : pl ≠ []) : ∃ p ∈ pl, p.1 = lastOf pl := by
  cases pl with
  | nil => exact absurd rfl h
  | cons p pl =>
    rcases List.mem_cons.mp (maxI_mem (pl.map (·.1)) p.1) with e | e
    · exact ⟨p, List.mem_cons_self, e.symm⟩
    · obtain ⟨q, hq, e⟩ := List.mem_map.mp e
      exact ⟨q, List.mem_cons_of_mem _ hq, e⟩
theorem range_filter {α β : Type} (k : α → Bool) (f : α → β) (d : α) (l : List α) : ((List.range l.length).filter fun j => k (l.getD j d)).map (fun j => f (l.getD j d)) = (l.filter k).map f := by
  have e := range_map (id : α → α) d l
  rw [List.map_id] at e
  have : (l.filter k).map f = ((((List.range l.length).map fun j => id (l.getD j d))).filter k).map f := by rw [e]
  rw [this, List.filter_map, List.map_map]
  rfl
theorem ends_ge {pl : Pl} (h : PlOk pl) {k : Nat} {e : Int} {es : List Int} (he : endsOf pl k = e :: es) : 0 ≤ minI e es ∧ minI e es ≤ 1000 := by
  have hm : minI e es ∈ endsOf pl k := by rw [he]; exact minI_mem es e
  unfold endsOf at hm
  obtain ⟨p, hp, z⟩ := List.mem_map.mp hm
  have hp := (List.mem_filter.mp hp).1
  rw [← z]
  exact ⟨(h.ge p hp).2, (h.le p hp).2⟩
section
variable {te ta tb : TE} {σ : L2.St} {B H : Hp} {ps : List Pr} {K : PySem.W.Frag} {t : TA}
theorem et_list (h : EvP te σ B (LqP K ps)) : EvT (fun σ H Q => te σ H fun x H' => ∃ k, TruV K x H' k ∧ Q k H') σ B (!ps.isEmpty) := fun H1 a Q k => h H1 a _ fun v B2 H2 g x => by
  obtain ⟨l, xs, rfl, hl, al⟩ := x
  refine ⟨!xs.isEmpty, .inl ⟨xs, ex_l g.c hl, rfl⟩, ?_⟩
  have : xs.isEmpty = ps.isEmpty := by
    have := al.len
    cases xs <;> cases ps <;> simp_all
  rw [this]
  exact k H2 g.a
end
section
variable {P : Program} {w : World} {K : PySem.W.Frag} {mg : Str → Option Value} {base : Heap}

/-- _columns_of -/
abbrev s__columns_of : Stmt := topS 55
abbrev N__columns_of : List Str := ["name", "places", "last", "by_x", "_", "told", "column", "free_ways", "principal_ways", "ends", "by_y", "free"]
theorem sc__columns_of : FnScope N__columns_of ["name", "places"] (defScope s__columns_of) := ⟨rfl, rfl, rfl, by decide +kernel, rfl, by decide +kernel, by decide +kernel⟩
theorem ok__columns_of {f : Addr} {fd : FuncData} (F : Fun K "_columns_of" "_columns_of" s__columns_of f fd)  (n_max : mg "max" = none) (n_min : mg "min" = none) (n_range : mg "range" = none)  :
    FnOk P w K mg base CX0 1 f fd ["name", "places"] (spP (Rcol K)) := by
  refine F.ok sc__columns_of (spP_len (by rintro _ _ ⟨n, pl, _, _, rfl, rfl⟩; rfl)) (fun cdv A outer s H vs Q E hr h => ?_)
  obtain ⟨B, ps, p, eB, hv, ⟨n, pl, hp, hne, rfl, rfl⟩, q⟩ := h
  obtain ⟨v1, v2, rfl, h1, h2⟩ := all2 hv
  obtain rfl : v1 = .str n := h1
  have hu := hu_of hr
  refine ⟨_, (pss_cons (ps_set (i := 2) sc__columns_of.nd rfl (by first | exact .inl rfl | exact .inr rfl) (pe_callB (cr_max rfl) (by rfl) n_max (by decide +kernel) (pa_cons (pe_lc (own := [("by_x", 3), ("_", 4)]) (g := (gTup K 2 (gCons (gName 3) (gCons (gName 4) gNil)))) rfl sc__columns_of.nd (pi_list (pv 1)) (blkOk_by (N := N__columns_of) (sc := defScope s__columns_of) (by decide +kernel)) (fun _ _ _ _ _ => (pg_tup (by rfl) (pgs_cons (pg_name (i := 3) sc__columns_of.nd rfl (Or.inl rfl)) (pgs_cons (pg_name (i := 4) sc__columns_of.nd rfl (Or.inl rfl)) pgs_nil)))) (fun _ _ _ _ _ => pts_nil) (fun _ _ _ _ _ => (pv 3))) pa_nil)))
    (pss_cons (ps_set (i := 5) sc__columns_of.nd rfl (by first | exact .inl rfl | exact .inr rfl) (pe_lst pa_nil))
    (pss_cons (ps_for PassesOwn.never rfl (pi_range1 (by rfl) n_range (pa_cons (pe_op op_add (pv 2) pe_int) pa_nil)) (pg_name (i := 6) sc__columns_of.nd rfl (by first | exact .inl rfl | exact .inr rfl))
      (pss_cons (ps_set (i := 7) sc__columns_of.nd rfl (by first | exact .inl rfl | exact .inr rfl) (pe_ifExp (pt_cmpR op_eq (pv 6) (pv 2) (nomark _)) (pe_tup (pa_cons pe_str pa_nil)) (pe_tup pa_nil)))
    (pss_cons (ps_set (i := 8) sc__columns_of.nd rfl (by first | exact .inl rfl | exact .inr rfl) (pe_ifExp (pt_cmpR op_eq (pv 6) (pv 2) (nomark _)) (pe_tup (pa_cons pe_str (pa_cons pe_str pa_nil))) (pe_tup (pa_cons pe_str pa_nil))))
    (pss_cons (ps_setLc (i := 9) (own := [("by_x", 3), ("by_y", 10)]) (g := (gTup K 2 (gCons (gName 3) (gCons (gName 10) gNil)))) rfl sc__columns_of.nd rfl rfl (sw_true rfl rfl rfl (by decide +kernel)) (pi_list (pv 1)) (blkOk_by (N := N__columns_of) (sc := defScope s__columns_of) (by decide +kernel)) (fun _ _ _ _ _ => (pg_tup (by rfl) (pgs_cons (pg_name (i := 3) sc__columns_of.nd rfl (Or.inl rfl)) (pgs_cons (pg_name (i := 10) sc__columns_of.nd rfl (Or.inl rfl)) pgs_nil)))) (fun _ _ _ _ _ => (pts_one (pt_cmpR op_le (pv 3) (pv 6) (nomark _)))) (fun _ _ _ _ _ => (pv 10)))
    (pss_one (ps_if (pt_not (pt_truth (pv 9) (by intro _; rfl))) (pss_one (ps_expr (pe_bm PySem.F.plainAttrs_list PySem.F.slot_list_append PySem.F.type_list_append mt_append (pv 5) (pa_cons (pe_tup (pa_cons (pe_lst (pa_cons (pe_tup (pa_cons (pe_tup (pa_cons (pv 0) (pa_cons (pv 6) (pa_cons pe_int pa_nil)))) (pa_cons (pe_tup (pa_cons pe_str pa_nil)) pa_nil))) pa_nil)) (pa_cons (pe_lst pa_nil) pa_nil))) pa_nil)))) (pss_cons (ps_setLc (i := 11) (own := [("by_y", 10)]) rfl sc__columns_of.nd rfl rfl (sw_true rfl rfl rfl (by decide +kernel)) (pi_range1 (by rfl) n_range (pa_cons (pe_callB (cr_min rfl) (by rfl) n_min (by decide +kernel) (pa_cons (pv 9) pa_nil)) pa_nil)) (blkOk_by (N := N__columns_of) (sc := defScope s__columns_of) (by decide +kernel)) (fun _ _ _ _ _ => (pg_name (i := 10) sc__columns_of.nd rfl (Or.inl rfl))) (fun _ _ _ _ _ => pts_nil) (fun _ _ _ _ _ => (pe_tup (pa_cons (pe_tup (pa_cons (pv 0) (pa_cons (pv 6) (pa_cons (pv 10) pa_nil)))) (pa_cons (pv 7) pa_nil)))))
    (pss_one (ps_expr (pe_bm PySem.F.plainAttrs_list PySem.F.slot_list_append PySem.F.type_list_append mt_append (pv 5) (pa_cons (pe_tup (pa_cons (pv 11) (pa_cons (pe_lst (pa_cons (pe_tup (pa_cons (pe_tup (pa_cons (pv 0) (pa_cons (pv 6) (pa_cons (pe_callB (cr_min rfl) (by rfl) n_min (by decide +kernel) (pa_cons (pv 9) pa_nil)) pa_nil)))) (pa_cons (pv 8) pa_nil))) pa_nil)) pa_nil))) pa_nil)))))))))))
    (pss_one (ps_ret (pv 5)))))), ?_⟩
  have hlen := hp.len
  have hl0 : 0 ≤ lastOf pl ∧ lastOf pl ≤ 1000 := by
    obtain ⟨p, hm, e⟩ := last_in hne
    exact ⟨e ▸ (hp.ge p hm).1, e ▸ (hp.le p hm).1⟩
  have mx : Ev (tCB (rMax K) (tCons (tLc (iList K (tVar 1)) (gTup K 2 (gCons (gName 3) (gCons (gName 4) gNil))) tYes (tVar 3) [3, 4]) tNil)) [some (.str n), some v2, none, none, none, none, none, none, none, none, none, none] B (.int (lastOf pl)) := by
    have base : EvP (tLc (iList K (tVar 1)) (gTup K 2 (gCons (gName 3) (gCons (gName 4) gNil))) tYes (tVar 3) [3, 4]) [some (.str n), some v2, none, none, none, none, none, none, none, none, none, none] B (IsD K (.list ((pl.map (·.1)).map .int))) := by
      have := p_lcA (K := K) (te := tVar 3) (g := gTup K 2 (gCons (gName 3) (gCons (gName 4) gNil))) (vs := [3, 4]) (src_lq (K := K) (σ := [some (.str n), some v2, none, none, none, none, none, none, none, none, none, none]) (te := tVar 1) (p_var rfl h2)) (by rw [List.length_map]; omega) (fun i => .int ((pl.map (·.1)).getD i 0)) fun i v3 B1 hi e pv => by
        rw [List.length_map] at hi
        have pv : ((pl.map (ppP K)).getD i (IsV .non)).P v3 B1 := pv
        rw [getD_map hi] at pv
        obtain ⟨p3, ys, rfl, hp3, al⟩ := pv
        obtain ⟨y1, y2, rfl, m1, m2⟩ := all2 al
        obtain rfl : y1 = .int pl[i].1 := m1
        have : (pl.map (·.1)).getD i 0 = pl[i].1 := by
          rw [List.getD_eq_getElem?_getD, List.getElem?_map, List.getElem?_eq_getElem hi]
          rfl
        rw [this]
        exact ⟨[some (.str n), some v2, none, some (.int pl[i].1), some y2, none, none, none, none, none, none, none], rfl, fun H2 Q e q => ⟨p3, _, rfl, ex_t e hp3, rfl, _, _, rfl, _, _, rfl, rfl, q⟩, ed_in (ev_var rfl)⟩
      have r := range_map (fun i : Int => PyData.int i) 0 (pl.map (·.1))
      rw [List.length_map] at r this
      rw [r] at this
      exact this
    obtain ⟨p0, pl', rfl⟩ := List.exists_cons_of_ne_nil hne
    exact ev_max (x := p0.1) (xs := pl'.map (·.1)) base
  refine ps_asgN (fun x => [some (.str n), some v2, some x, none, none, none, none, none, none, none, none, none]) eB (p_ev mx) (fun x B2 H2 g2 hx => ?_) (fun _ => rfl)
  obtain rfl : x = .int (lastOf pl) := hx
  dsimp only
  refine ⟨sz_of (by show 0 ≤ 100000; decide), fun d hd => ?_⟩
  have A0 := acc_new g2.c hd
  have k2 := (LqP K (pl.map (ppP K))).m g2.b h2
  have hn : lastOf pl + 1 = (((lastOf pl).toNat + 1 : Nat) : Int) := by omega
  refine ps_forS (B := B2) A0.ex (src_rng (j := (lastOf pl).toNat + 1) (q_cons (p_ev (ev_is (ev_op (ev_var rfl) ev_c rv_I0) (by rw [← hn]))) q_nil) (by omega)) fun B3 H3 g3 => ?_
  have A3 := A0.step g3
  refine ⟨fun i σ H4 => ∃ B4, AccAt B2 H2 d (((List.range i).map (colOf n pl (lastOf pl))).map (coP K)) B4 H4 ∧ Ex B3 B4 ∧ ∃ a6 a7 a8 a9 a11, σ = [some (.str n), some v2, some (.int (lastOf pl)), none, none, some (.ref d), a6, a7, a8, a9, none, a11], ⟨B3, A3, Ex.refl B3, none, none, none, none, none, rfl⟩, fun i σ H4 _ h => ?_, fun i v3 σ H4 hi pv px => ?_, fun σ H4 pv => ?_⟩
  · obtain ⟨B4, A4, e34, _⟩ := h
    exact e34.trans A4.ex
  · obtain ⟨B4, A4, e34, a6, a7, a8, a9, a11, rfl⟩ := pv
    obtain rfl : v3 = .int (i : Nat) := px
    have tst : ∀ (σ : L2.St) (B' : Hp), σ[6]? = some (some (.int (i : Nat))) → σ[2]? = some (some (.int (lastOf pl))) → EvT (tTest (tOp rEq (tVar 6) (tVar 2))) σ B' (decide (((i : Nat) : Int) = lastOf pl)) := fun σ B' s6 s2 => et_is (et_test (ev_op (ev_var s6) (ev_var s2) (rv_eq rfl))) (by simp)
    refine ps_asgN (fun x => [some (.str n), some v2, some (.int (lastOf pl)), none, none, some (.ref d), some (.int (i : Nat)), some x, a8, a9, none, a11]) A4.ex (ed_if (p := IsD K (.tuple ((fwD (lastOf pl) i).map .str))) (tst _ _ rfl rfl) (fun hb => ?_) (fun hb => ?_)) (fun x7 B5 H5 g5 hx7 => ?_) (fun _ => rfl)
    · unfold fwD
      rw [if_pos (of_decide_eq_true hb)]
      exact ed_tup (K := K) (ds := [.str "x"]) (q_cons (ed_st ev_c) q_nil) (by show 1 ≤ 100000; decide)
    · unfold fwD
      rw [if_neg (of_decide_eq_false hb)]
      exact ed_tup (K := K) (ds := []) q_nil (by show 0 ≤ 100000; decide)
    dsimp only
    have A5 := A4.step g5
    refine ps_asgN (fun x => [some (.str n), some v2, some (.int (lastOf pl)), none, none, some (.ref d), some (.int (i : Nat)), some x7, some x, a9, none, a11]) A5.ex (ed_if (p := IsD K (.tuple ((pwy (lastOf pl) i).map .str))) (tst _ _ rfl rfl) (fun hb => ?_) (fun hb => ?_)) (fun x8 B6 H6 g6 hx8 => ?_) (fun _ => rfl)
    · unfold pwy
      rw [if_pos (of_decide_eq_true hb)]
      exact ed_tup (K := K) (ds := [.str "x", .str "y"]) (q_cons (ed_st ev_c) (q_cons (ed_st ev_c) q_nil)) (by show 2 ≤ 100000; decide)
    · unfold pwy
      rw [if_neg (of_decide_eq_false hb)]
      exact ed_tup (K := K) (ds := [.str "y"]) (q_cons (ed_st ev_c) q_nil) (by show 1 ≤ 100000; decide)
    dsimp only
    have A6 := A5.step g6
    have k6 := (LqP K (pl.map (ppP K))).m (g3.b.trans (e34.trans (g5.b.trans g6.b))) k2
    refine ps_asgN (fun x => [some (.str n), some v2, some (.int (lastOf pl)), none, none, some (.ref d), some (.int (i : Nat)), some x7, some x8, some x, none, a11]) A6.ex (p_lcS (src_lq (K := K) (p_var rfl k6)) (by rw [List.length_map]; omega) (fun j => decide ((pl.getD j (0, 0)).1 ≤ (i : Int))) (fun j => IsV (.int (pl.getD j (0, 0)).2)) fun j v4 B1 hj e pv => ?_) (fun x9 B7 H7 g7 hx9 => ?_) (fun _ => rfl)
    · rw [List.length_map] at hj
      have pv : ((pl.map (ppP K)).getD j (IsV .non)).P v4 B1 := pv
      rw [getD_map hj] at pv
      obtain ⟨p3, ys, rfl, hp3, al⟩ := pv
      obtain ⟨y1, y2, rfl, m1, m2⟩ := all2 al
      obtain rfl : y1 = .int pl[j].1 := m1
      obtain rfl : y2 = .int pl[j].2 := m2
      have z : pl.getD j (0, 0) = pl[j] := by
        rw [List.getD_eq_getElem?_getD, List.getElem?_eq_getElem hj]
        rfl
      rw [z]
      exact ⟨[some (.str n), some v2, some (.int (lastOf pl)), some (.int pl[j].1), none, some (.ref d), some (.int (i : Nat)), some x7, some x8, a9, some (.int pl[j].2), a11], rfl, fun H2 Q e q => ⟨p3, _, rfl, ex_t e hp3, rfl, _, _, rfl, _, _, rfl, rfl, q⟩, et_test (ev_op (ev_var rfl) (ev_var rfl) rv_I0), fun _ => p_varV rfl⟩
    have hx9 : (LqP K ((endsOf pl i).map fun e => IsV (.int e))).P x9 B7 := by
      rw [List.length_map, range_filter (fun p : Int × Int => decide (p.1 ≤ (i : Int))) (fun p => IsV (.int p.2)) (0, 0) pl] at hx9
      unfold endsOf
      rw [List.map_map]
      exact lq_ls hx9
    dsimp only
    have A7 := A6.step g7
    have e37 := e34.trans (g5.b.trans (g6.b.trans g7.b))
    have rs : ((List.range (i + 1)).map (colOf n pl (lastOf pl))).map (coP K) = ((List.range i).map (colOf n pl (lastOf pl))).map (coP K) ++ [coP K (colOf n pl (lastOf pl) i)] := by
      rw [List.range_succ, List.map_append, List.map_append]
      rfl
    have ll : (((List.range i).map (colOf n pl (lastOf pl))).map (coP K)).length < 100000 := by
      rw [List.length_map, List.length_map, List.length_range]
      omega
    have x7' := dp_m (g6.b.trans g7.b) hx7
    have x8' := dp_m g7.b hx8
    cases he : endsOf pl i with
    | nil =>
      rw [he] at hx9
      refine My.ps_ifT A7.ex (et_is (et_not (et_list (K := K) (ps := []) (p_var rfl hx9))) rfl) fun H8 e8 => ?_
      refine ps_app (K := K) (p := coP K (colOf n pl (lastOf pl) i)) rfl (A7.step (Gr.wide A7.ex e8)) ?_ ll fun B9 H9 e79 A9 => ?_
      · unfold colOf
        rw [he]
        exact p_tup (K := K) (q_cons (p_lq (p_lst (ps := [cnP K (⟨n, (i : Nat), 0⟩, ["y"])]) (q_cons (p_tup (K := K) (ps := [DvP ⟨n, (i : Nat), 0⟩, IsD K (.tuple [.str "y"])]) (q_cons (p_dv rfl rfl rfl (q_cons (p_varV rfl) (q_cons (p_varV rfl) (q_cons p_c q_nil)))) (q_cons (ed_tup (K := K) (ds := [.str "y"]) (q_cons (ed_st ev_c) q_nil) (by show 1 ≤ 100000; decide)) q_nil)) (by show 2 ≤ 100000; decide)) q_nil) (by show 1 ≤ 100000; decide))) (q_cons (p_lq (p_lst (ps := []) q_nil (by show 0 ≤ 100000; decide))) q_nil)) (by show 2 ≤ 100000; decide)
      · exact ⟨B9, by rw [rs]; exact A9, e37.trans e79, _, _, _, _, _, rfl⟩
    | cons e es =>
      rw [he] at hx9
      obtain ⟨m0, m1⟩ := ends_ge hp he
      have mn : ∀ (σ : L2.St) (B' : Hp), Ex B7 B' → σ[9]? = some (some x9) → Ev (tCB (rMin K) (tCons (tVar 9) tNil)) σ B' (.int (minI e es)) := fun σ B' ex s9 => ev_min (p_to (p_var s9 ((LqP K _).m ex hx9)) (to_lq (toAll_map (e :: es) fun x => to_int)))
      refine ps_ifF A7.ex (et_is (et_not (et_list (K := K) (p_var rfl hx9))) rfl) fun H8 e8 => ?_
      have A8 := A7.step (Gr.wide A7.ex e8)
      refine ps_asgN (fun x => [some (.str n), some v2, some (.int (lastOf pl)), none, none, some (.ref d), some (.int (i : Nat)), some x7, some x8, some x9, none, some x]) A8.ex (p_lcU (K := K) (src_rng (j := (minI e es).toNat) (q_cons (p_ev (ev_is (mn _ _ (Ex.refl B7) rfl) (by rw [Int.toNat_of_nonneg m0]))) q_nil) (by omega)) (by omega) (fun j => cnP K (⟨n, (i : Nat), (j : Nat)⟩, fwD (lastOf pl) i)) fun j v4 B1 hj e4 pv => ?_) (fun x11 B9 H9 g9 hx11 => ?_) (fun _ => rfl)
      · obtain rfl : v4 = .int (j : Nat) := pv
        exact ⟨[some (.str n), some v2, some (.int (lastOf pl)), none, none, some (.ref d), some (.int (i : Nat)), some x7, some x8, some x9, some (.int (j : Nat)), a11], rfl, fun H2 Q e q => q, p_tup (K := K) (ps := [DvP ⟨n, (i : Nat), (j : Nat)⟩, IsD K (.tuple ((fwD (lastOf pl) i).map .str))]) (q_cons (p_dv rfl rfl rfl (q_cons (p_varV rfl) (q_cons (p_varV rfl) (q_cons (p_varV rfl) q_nil)))) (q_cons (p_var rfl (dp_m e4 x7')) q_nil)) (by show 2 ≤ 100000; decide)⟩
      dsimp only
      refine ps_app (K := K) (p := coP K (colOf n pl (lastOf pl) i)) rfl (A8.step g9) ?_ ll fun B10 H10 e910 A10 => ?_
      · unfold colOf
        rw [he]
        refine p_tup (K := K) (q_cons (p_var rfl ?_) (q_cons (p_lq (p_lst (ps := [cnP K (⟨n, (i : Nat), minI e es⟩, pwy (lastOf pl) i)]) (q_cons (p_tup (K := K) (ps := [DvP ⟨n, (i : Nat), minI e es⟩, IsD K (.tuple ((pwy (lastOf pl) i).map .str))]) (q_cons (p_dv rfl rfl rfl (q_cons (p_varV rfl) (q_cons (p_varV rfl) (q_cons (p_ev (mn _ _ g9.b rfl)) q_nil)))) (q_cons (p_var rfl (dp_m g9.b x8')) q_nil)) (by show 2 ≤ 100000; decide)) q_nil) (by show 1 ≤ 100000; decide))) q_nil)) (by show 2 ≤ 100000; decide)
        rw [List.map_map]
        exact hx11
      · exact ⟨B10, by rw [rs]; exact A10, e37.trans (g9.b.trans e910), _, _, _, _, _, rfl⟩
  · obtain ⟨B4, A4, e34, a6, a7, a8, a9, a11, rfl⟩ := pv
    obtain ⟨B5, g5, hP⟩ := A4.fin hd
    dsimp only
    exact ⟨.ref d, rfl, q (.ref d) B5 H4 (g2.trans g5) hP⟩

end
end K12
namespace K12
set_option autoImplicit false
open PySem PySem.W L2 Evl My Nd
def xy : List Str := ["x", "y"]
def waysOf (r : Rk) : List Str := xy.filter fun x => decide (x ∈ r.axs)
def Raw (K : PySem.W.Frag) : List Pr → Pr → Prop := fun ps p => ∃ r : Rk, ps = [IsD K (.tuple (r.axs.map .str))] ∧ p = IsD K (.tuple ((waysOf r).map .str))
def placesOf (c : Ch) (n : Str) : Pl := (c.filter fun x => decide (x.1.n = n)).map fun x => (x.1.i, x.1.j)
def colsBy (r : Rk) (c : Ch) (n : Str) : List (List Cn × List Cn) := match placesOf c n with
  | [] => [([(⟨n, 0, 0⟩, waysOf r)], [])]
  | p :: pl => if (Str.ofString "y") ∈ r.axs then colsOf n (p :: pl) else [((List.range p.1.toNat).map fun j => (⟨n, (j : Nat), 0⟩, []), [(⟨n, p.1, 0⟩, ["x"])])]
def colsAll (r : Rk) (c : Ch) : List (List Cn × List Cn) := r.ns.flatMap (colsBy r c)
structure ChLe (c : Ch) : Prop where
  ge : ∀ x ∈ c, 0 ≤ x.1.i ∧ 0 ≤ x.1.j
  le : ∀ x ∈ c, x.1.i ≤ 1000 ∧ x.1.j ≤ 1000
  len : c.length ≤ 1000
theorem pl_ok {c : Ch} (h : ChLe c) (n : Str) : PlOk (placesOf c n) := ⟨fun p hp => by
    obtain ⟨x, hx, rfl⟩ := List.mem_map.mp hp
    exact h.ge x (List.mem_filter.mp hx).1, fun p hp => by
    obtain ⟨x, hx, rfl⟩ := List.mem_map.mp hp
    exact h.le x (List.mem_filter.mp hx).1, by
    unfold placesOf
    rw [List.length_map]
    exact Nat.le_trans (List.length_filter_le _ _) h.len⟩
theorem cols_len {r : Rk} {c : Ch} (h : ChLe c) (n : Str) : (colsBy r c n).length ≤ 1001 := by
  have hp := pl_ok h n
  unfold colsBy
  split
  · show 1 ≤ 1001
    omega
  · rename_i p pl e
    rw [e] at hp
    split
    · unfold colsOf
      rw [List.length_map, List.length_range]
      obtain ⟨q, hq, z⟩ := last_in (pl := p :: pl) (fun z => nomatch z)
      have := (hp.le q hq).1
      omega
    · show 1 ≤ 1001
      omega
theorem flat_len {α β : Type} {f : α → List β} {m : Nat} (h : ∀ x, (f x).length ≤ m) : ∀ l : List α, (l.flatMap f).length ≤ l.length * m
  | [] => Nat.zero_le _
  | x :: l => by
    rw [List.flatMap_cons, List.length_append, List.length_cons, Nat.succ_mul]
    have := h x
    have := flat_len h l
    omega
def Rcs (K : PySem.W.Frag) : List Pr → Pr → Prop := fun ps p => ∃ (r : Rk) (c : Ch), r.Ok ∧ ChLe c ∧ ps = [RkP K r, chP K c] ∧ p = LsP ((colsAll r c).map (coP K))
section
variable {P : Program} {w : World} {K : PySem.W.Frag} {mg : Str → Option Value} {base : Heap}

/-- _all_ways -/
abbrev s__all_ways : Stmt := topS 54
abbrev N__all_ways : List Str := ["axes", "axis"]
theorem sc__all_ways : FnScope N__all_ways ["axes"] (defScope s__all_ways) := ⟨rfl, rfl, rfl, by decide +kernel, rfl, by decide +kernel, by decide +kernel⟩
theorem ok__all_ways {f : Addr} {fd : FuncData} (F : Fun K "_all_ways" "_all_ways" s__all_ways f fd)  (n_tuple : mg "tuple" = none) {aA : Addr} (g_AXES : mg "AXES" = some (.ref aA)) (v_AXES : ∀ H, Dp K H (.ref aA) (.tuple ([("x" : Str), "y"].map .str))) :
    FnOk P w K mg base CX0 1 f fd ["axes"] (spP (Raw K)) := by
  refine F.ok sc__all_ways (spP_len (by rintro _ _ ⟨r, rfl, rfl⟩; rfl)) (fun cdv A outer s H vs Q E hr h => ?_)
  obtain ⟨B, ps, p, eB, hv, ⟨r, rfl, rfl⟩, q⟩ := h
  obtain ⟨v1, rfl, h1⟩ := all1 hv
  have hu := hu_of hr
  refine ⟨_, (pss_one (ps_ret (pe_callTy call_tuple_of (by rfl) n_tuple (by decide +kernel) (pa_cons (pe_lc (tt := tTest (tOp (rIn K false) (tVar 1) (tVar 0))) (own := [("axis", 1)]) rfl sc__all_ways.nd (pi_tup (pe_glob (by rfl) (v := .ref aA) g_AXES rfl)) (blkOk_by (N := N__all_ways) (sc := defScope s__all_ways) (by decide +kernel)) (fun _ _ _ _ _ => (pg_name (i := 1) sc__all_ways.nd rfl (Or.inl rfl))) (fun _ _ _ _ _ => (pts_one (pt_cmpR op_in_seq (pv 1) (pv 0) (by rfl)))) (fun _ _ _ _ _ => (pv 1))) pa_nil)))), ?_⟩
  have base : EvP (tLc (iTup K (tC (.ref aA))) (gName 1) (tTest (tOp (rIn K false) (tVar 1) (tVar 0))) (tVar 1) [1]) [some v1, none] B (LsP (((waysOf r).map PyData.str).map (IsD K))) := by
    have := p_lcS (tt := tTest (tOp (rIn K false) (tVar 1) (tVar 0))) (te := tVar 1) (g := gName 1) (vs := [1]) (src_tup (K := K) (ds := [("x" : Str), "y"].map .str) (σ := [some v1, none]) (ed_ref (v_AXES B))) (by show 2 ≤ 100000; decide) (fun j => decide (xy.getD j "" ∈ r.axs)) (fun j => IsD K (.str (xy.getD j ""))) fun j v4 B1 hj e pv => by
      have hj : j < 2 := hj
      have pv : Dp K B1 v4 (([("x" : Str), "y"].map PyData.str).getD j .none) := pv
      have ed : ([("x" : Str), "y"].map PyData.str).getD j .none = .str (xy.getD j "") := by
        match j, hj with
        | 0, _ => rfl
        | 1, _ => rfl
      rw [ed] at pv
      obtain rfl : v4 = .str (xy.getD j "") := by
        cases pv
        rfl
      exact ⟨[some v1, some (.str (xy.getD j ""))], rfl, fun H2 Q e q => q, et_is (et_test (ev_inT (K := K) (neg := false) (ys := r.axs) (ev_var rfl) (ed_var rfl (dp_m e h1)))) (by rw [if_neg Bool.false_ne_true]), fun _ => ed_st (ev_var rfl)⟩
    have rf := range_filter (fun x : Str => decide (x ∈ r.axs)) (fun x => IsD K (.str x)) "" xy
    have e2 : ([("x" : Str), "y"].map PyData.str).length = xy.length := rfl
    rw [e2, rf] at this
    rw [List.map_map]
    exact this
  refine My.ps_ret eB (d_tup (p_tupOf (K := K) (p_lq base))) fun v B3 H3 g hp => q v B3 H3 g hp

/-- _columns -/
abbrev s__columns : Stmt := topS 53
abbrev N__columns : List Str := ["ranking", "chain", "_", "names", "axes", "told", "name", "places", "other", "by_x", "by_y", "last", "free"]
theorem sc__columns : FnScope N__columns ["ranking", "chain"] (defScope s__columns) := ⟨rfl, rfl, rfl, by decide +kernel, rfl, by decide +kernel, by decide +kernel⟩
theorem ok__columns {f : Addr} {fd : FuncData} (F : Fun K "_columns" "_columns" s__columns f fd) {f__all_ways : Addr} {d__all_ways : FuncData} (c__all_ways : Cal P w K mg base "_all_ways" 1 ["axes"] (spP (Raw K)) f__all_ways d__all_ways) {f__columns_of : Addr} {d__columns_of : FuncData} (c__columns_of : Cal P w K mg base "_columns_of" 1 ["name", "places"] (spP (Rcol K)) f__columns_of d__columns_of) (n_range : mg "range" = none)  :
    FnOk P w K mg base CX0 2 f fd ["ranking", "chain"] (spP (Rcs K)) := by
  refine F.ok sc__columns (spP_len (by rintro _ _ ⟨r, c, _, _, rfl, rfl⟩; rfl)) (fun cdv A outer s H vs Q E hr h => ?_)
  obtain ⟨B, ps, p, eB, hv, ⟨r, c, hr0, hc, rfl, rfl⟩, q⟩ := h
  obtain ⟨v1, v2, rfl, h1, h2⟩ := all2 hv
  have hu := hu_of hr
  refine ⟨_, (pss_cons (ps_asg (pv 0) (pg_tup (by rfl) (pgs_cons (pg_name (i := 2) sc__columns.nd rfl (by first | exact .inl rfl | exact .inr rfl)) (pgs_cons (pg_name (i := 3) sc__columns.nd rfl (by first | exact .inl rfl | exact .inr rfl)) (pgs_cons (pg_name (i := 4) sc__columns.nd rfl (by first | exact .inl rfl | exact .inr rfl)) pgs_nil)))))
    (pss_cons (ps_set (i := 5) sc__columns.nd rfl (by first | exact .inl rfl | exact .inr rfl) (pe_lst pa_nil))
    (pss_cons (ps_for PassesOwn.never rfl (pi_tup (pv 3)) (pg_name (i := 6) sc__columns.nd rfl (by first | exact .inl rfl | exact .inr rfl))
      (pss_cons (ps_setLc (i := 7) (own := [("_", 2), ("other", 8), ("by_x", 9), ("by_y", 10)]) (g := (gTup K 2 (gCons (gTup K 3 (gCons (gName 8) (gCons (gName 9) (gCons (gName 10) gNil)))) (gCons (gName 2) gNil)))) rfl sc__columns.nd rfl rfl (sw_true rfl rfl rfl (by decide +kernel)) (pi_tup (pv 1)) (blkOk_by (N := N__columns) (sc := defScope s__columns) (by decide +kernel)) (fun _ _ _ _ _ => (pg_tup (by rfl) (pgs_cons (pg_tup (by rfl) (pgs_cons (pg_name (i := 8) sc__columns.nd rfl (Or.inl rfl)) (pgs_cons (pg_name (i := 9) sc__columns.nd rfl (Or.inl rfl)) (pgs_cons (pg_name (i := 10) sc__columns.nd rfl (Or.inl rfl)) pgs_nil)))) (pgs_cons (pg_name (i := 2) sc__columns.nd rfl (Or.inl rfl)) pgs_nil)))) (fun _ _ _ _ _ => (pts_one (pt_cmpR op_eq (pv 8) (pv 6) (nomark _)))) (fun _ _ _ _ _ => (pe_tup (pa_cons (pv 9) (pa_cons (pv 10) pa_nil)))))
    (pss_one (ps_if (pt_not (pt_truth (pv 7) (by intro _; rfl))) (pss_one (ps_expr (pe_bm PySem.F.plainAttrs_list PySem.F.slot_list_append PySem.F.type_list_append mt_append (pv 5) (pa_cons (pe_tup (pa_cons (pe_lst (pa_cons (pe_tup (pa_cons (pe_tup (pa_cons (pv 6) (pa_cons pe_int (pa_cons pe_int pa_nil)))) (pa_cons (pe_call c__all_ways.G (hr.mono (by decide)) (by rfl) c__all_ways.m c__all_ways.k c__all_ways.b .nil pass0 (pa_cons (pv 4) pa_nil)) pa_nil))) pa_nil)) (pa_cons (pe_lst pa_nil) pa_nil))) pa_nil)))) (pss_one (ps_if (pt_cmpR op_in_seq pe_str (pv 4) (by rfl)) (pss_one (ps_expr (pe_bm PySem.F.plainAttrs_list PySem.F.slot_list_extend PySem.F.type_list_extend mt_extend (pv 5) (pa_cons (pe_call c__columns_of.G (hr.mono (by decide)) (by rfl) c__columns_of.m c__columns_of.k c__columns_of.b .nil pass0 (pa_cons (pv 6) (pa_cons (pv 7) pa_nil))) pa_nil)))) (pss_cons (ps_set (i := 11) sc__columns.nd rfl (by first | exact .inl rfl | exact .inr rfl) (pe_ix ix_tup (pe_ix ix_list (pv 7) pe_int (fun _ _ => rfl)) pe_int (fun _ _ => rfl)))
    (pss_cons (ps_setLc (i := 12) (own := [("by_x", 9)]) rfl sc__columns.nd rfl rfl (sw_true rfl rfl rfl (by decide +kernel)) (pi_range1 (by rfl) n_range (pa_cons (pv 11) pa_nil)) (blkOk_by (N := N__columns) (sc := defScope s__columns) (by decide +kernel)) (fun _ _ _ _ _ => (pg_name (i := 9) sc__columns.nd rfl (Or.inl rfl))) (fun _ _ _ _ _ => pts_nil) (fun _ _ _ _ _ => (pe_tup (pa_cons (pe_tup (pa_cons (pv 6) (pa_cons (pv 9) (pa_cons pe_int pa_nil)))) (pa_cons (pe_tup pa_nil) pa_nil)))))
    (pss_one (ps_expr (pe_bm PySem.F.plainAttrs_list PySem.F.slot_list_append PySem.F.type_list_append mt_append (pv 5) (pa_cons (pe_tup (pa_cons (pv 12) (pa_cons (pe_lst (pa_cons (pe_tup (pa_cons (pe_tup (pa_cons (pv 6) (pa_cons (pv 11) (pa_cons pe_int pa_nil)))) (pa_cons (pe_tup (pa_cons pe_str pa_nil)) pa_nil))) pa_nil)) pa_nil))) pa_nil))))))))))))
    (pss_one (ps_ret (pv 5)))))), ?_⟩
  have hns : r.ns.length ≤ 3 := hr0.le
  have hcl := hc.len
  refine ps_unR (K := K) eB (p_var rfl h1) fun w2 w3 B2 H2 g2 n2 n3 => ?_
  dsimp only
  refine ⟨sz_of (by show 0 ≤ 100000; decide), fun d hd => ?_⟩
  have A0 := acc_new g2.c hd
  have k2 := (chP K c).m g2.b h2
  refine ps_forS (B := B2) A0.ex (src_tup (ed_nm (p_var rfl n2))) fun B3 H3 g3 => ?_
  have A3 := A0.step g3
  refine ⟨fun i σ H4 => ∃ B4, AccAt B2 H2 d (((r.ns.take i).flatMap (colsBy r c)).map (coP K)) B4 H4 ∧ Ex B3 B4 ∧ ∃ a6 a7 a11 a12, σ = [some v1, some v2, some (.str r.srt), some w2, some w3, some (.ref d), a6, a7, none, none, none, a11, a12], ⟨B3, A3, Ex.refl B3, none, none, none, none, rfl⟩, fun i σ H4 _ h => ?_, fun i v3 σ H4 hi pv px => ?_, fun σ H4 pv => ?_⟩
  · obtain ⟨B4, A4, e34, _⟩ := h
    exact e34.trans A4.ex
  · obtain ⟨B4, A4, e34, a6, a7, a11, a12, rfl⟩ := pv
    rw [List.length_map] at hi
    have px : Dp K B3 v3 ((r.ns.map PyData.str).getD i .none) := px
    have ed : (r.ns.map PyData.str).getD i .none = .str r.ns[i] := by
      rw [List.getD_eq_getElem?_getD, List.getElem?_map, List.getElem?_eq_getElem hi]
      rfl
    rw [ed] at px
    obtain rfl : v3 = .str r.ns[i] := by
      cases px
      rfl
    generalize hn : r.ns[i] = nm at *
    have k4 := (chP K c).m (g3.b.trans e34) k2
    refine ps_asgN (fun x => [some v1, some v2, some (.str r.srt), some w2, some w3, some (.ref d), some (.str nm), some x, none, none, none, a11, a12]) A4.ex (p_lcS (src_tu (K := K) (p_var rfl k4)) (by rw [List.length_map]; omega) (fun j => decide ((c.getD j (⟨"", 0, 0⟩, [])).1.n = nm)) (fun j => ppP K ((c.getD j (⟨"", 0, 0⟩, [])).1.i, (c.getD j (⟨"", 0, 0⟩, [])).1.j)) fun j v4 B1 hj e pv => ?_) (fun x7 B5 H5 g5 hx7 => ?_) (fun _ => rfl)
    · rw [List.length_map] at hj
      have pv : ((c.map (lkP K)).getD j (IsV .non)).P v4 B1 := pv
      rw [getD_map hj] at pv
      obtain ⟨p3, ys, rfl, hp3, al⟩ := pv
      obtain ⟨y1, y2, rfl, m1, m2⟩ := all2 al
      obtain ⟨a, rfl, ha⟩ := m1
      have z : c.getD j (⟨"", 0, 0⟩, []) = c[j] := by
        rw [List.getD_eq_getElem?_getD, List.getElem?_eq_getElem hj]
        rfl
      rw [z]
      exact ⟨[some v1, some v2, some y2, some w2, some w3, some (.ref d), some (.str nm), a7, some (.str c[j].1.n), some (.int c[j].1.i), some (.int c[j].1.j), a11, a12], rfl, fun H2 Q e q => ⟨p3, _, rfl, ex_t e hp3, rfl, _, _, rfl, a, _, rfl, st_of (e _ _ ha), rfl, _, _, rfl, _, _, rfl, _, _, rfl, rfl, _, _, rfl, rfl, q⟩,
        et_is (et_test (ev_op (ev_var rfl) (ev_var rfl) (rv_eq rfl))) (by simp), fun _ => p_tup (K := K) (ps := [IsV (.int c[j].1.i), IsV (.int c[j].1.j)]) (q_cons (p_varV rfl) (q_cons (p_varV rfl) q_nil)) (by show 2 ≤ 100000; decide)⟩
    have hp7 : (LqP K ((placesOf c nm).map (ppP K))).P x7 B5 := by
      rw [List.length_map, range_filter (fun x : Dv × Po => decide (x.1.n = nm)) (fun x => ppP K (x.1.i, x.1.j)) (⟨"", 0, 0⟩, []) c] at hx7
      unfold placesOf
      rw [List.map_map]
      exact lq_ls hx7
    dsimp only
    have A5 := A4.step g5
    have e35 := e34.trans g5.b
    have n3' := dp_m (g3.b.trans e35) n3
    have ts : r.ns.take (i + 1) = r.ns.take i ++ [nm] := by
      rw [List.take_add_one, List.getElem?_eq_getElem hi, hn]
      rfl
    have rs : ((r.ns.take (i + 1)).flatMap (colsBy r c)).map (coP K) = ((r.ns.take i).flatMap (colsBy r c)).map (coP K) ++ (colsBy r c nm).map (coP K) := by
      rw [ts, List.flatMap_append, List.map_append]
      simp
    have cl := cols_len (r := r) hc nm
    have fl := flat_len (f := colsBy r c) (m := 1001) (cols_len hc) (r.ns.take i)
    have tl : (r.ns.take i).length ≤ 3 := by
      rw [List.length_take]
      omega
    have l3 : (r.ns.take i).length * 1001 ≤ 3 * 1001 := Nat.mul_le_mul_right _ tl
    have ll : (((r.ns.take i).flatMap (colsBy r c)).map (coP K)).length < 5000 := by
      rw [List.length_map]
      omega
    cases he : placesOf c nm with
    | nil =>
      rw [he] at hp7
      have cb : colsBy r c nm = [([(⟨nm, 0, 0⟩, waysOf r)], [])] := by
        unfold colsBy
        rw [he]
      rw [cb] at rs
      refine My.ps_ifT A5.ex (et_is (et_not (et_list (K := K) (ps := []) (p_var rfl hp7))) rfl) fun H8 e8 => ?_
      refine ps_app (K := K) (p := coP K ([(⟨nm, 0, 0⟩, waysOf r)], [])) rfl (A5.step (Gr.wide A5.ex e8)) ?_ (by omega) fun B9 H9 e79 A9 => ?_
      · exact p_tup (K := K) (q_cons (p_lq (p_lst (ps := [cnP K (⟨nm, 0, 0⟩, waysOf r)]) (q_cons (p_tup (K := K) (ps := [DvP ⟨nm, 0, 0⟩, IsD K (.tuple ((waysOf r).map .str))]) (q_cons (p_dv rfl rfl rfl (q_cons (p_varV rfl) (q_cons p_c (q_cons p_c q_nil)))) (q_cons (p_callP (ps := [IsD K (.tuple (r.axs.map .str))]) (q_cons (p_var rfl n3') q_nil) ⟨r, rfl, rfl⟩) q_nil)) (by show 2 ≤ 100000; decide)) q_nil) (by show 1 ≤ 100000; decide))) (q_cons (p_lq (p_lst (ps := []) q_nil (by show 0 ≤ 100000; decide))) q_nil)) (by show 2 ≤ 100000; decide)
      · exact ⟨B9, by rw [rs]; exact A9, e35.trans e79, _, _, _, _, rfl⟩
    | cons p pl =>
      rw [he] at hp7
      have hok := pl_ok hc nm
      rw [he] at hok
      refine ps_ifF A5.ex (et_is (et_not (et_list (K := K) (p_var rfl hp7))) rfl) fun H8 e8 => ?_
      have A8 := A5.step (Gr.wide A5.ex e8)
      have tst : EvT (tTest (tOp (rIn K false) (tC (.str "y")) (tVar 4))) [some v1, some v2, some (.str r.srt), some w2, some w3, some (.ref d), some (.str nm), some x7, none, none, none, a11, a12] B5 (decide ((Str.ofString "y") ∈ r.axs)) := et_is (et_test (ev_inT (K := K) (neg := false) (ys := r.axs) ev_c (ed_var rfl n3'))) (by rw [if_neg Bool.false_ne_true])
      by_cases hy : (Str.ofString "y") ∈ r.axs
      · have cb : colsBy r c nm = colsOf nm (p :: pl) := by
          unfold colsBy
          rw [he]
          exact if_pos hy
        rw [cb] at rs cl
        refine My.ps_ifT A8.ex (et_is tst (decide_eq_true hy)) fun H9 e9 => ?_
        refine ps_ext (K := K) (qs := (colsOf nm (p :: pl)).map (coP K)) rfl (A8.step (Gr.wide A8.ex e9)) (p_callP (ps := [IsV (.str nm), LqP K ((p :: pl).map (ppP K))]) (q_cons (p_varV rfl) (q_cons (p_var rfl hp7) q_nil)) ⟨nm, p :: pl, hok, (fun z => nomatch z), rfl, rfl⟩) (by rw [List.length_map (as := colsOf nm (p :: pl))]; omega) fun B9 H9 e79 A9 => ?_
        exact ⟨B9, by rw [rs]; exact A9, e35.trans e79, _, _, _, _, rfl⟩
      · have cb : colsBy r c nm = [((List.range p.1.toNat).map fun j => ((⟨nm, (j : Nat), 0⟩ : Dv), ([] : List Str)), [((⟨nm, p.1, 0⟩ : Dv), (["x"] : List Str))])] := by
          unfold colsBy
          rw [he]
          exact if_neg hy
        rw [cb] at rs
        have m0 := (hok.ge p List.mem_cons_self).1
        have m1 := (hok.le p List.mem_cons_self).1
        refine ps_ifF A8.ex (et_is tst (decide_eq_false hy)) fun H9 e9 => ?_
        have A9 := A8.step (Gr.wide A8.ex e9)
        refine ps_asgN (fun x => [some v1, some v2, some (.str r.srt), some w2, some w3, some (.ref d), some (.str nm), some x7, none, none, none, some x, a12]) A9.ex (p_ixT (K := K) (ps := [IsV (.int p.1), IsV (.int p.2)]) (p := IsV (.int p.1)) (p_ix (K := K) (ps := (p :: pl).map (ppP K)) (p := ppP K p) (p_var rfl hp7) p_c (by exact atI_nat (j := 0) rfl)) p_c rfl) (fun x11 B10 H10 g10 hx11 => ?_) (fun _ => rfl)
        obtain rfl : x11 = .int p.1 := hx11
        dsimp only
        have A10 := A9.step g10
        refine ps_asgN (fun x => [some v1, some v2, some (.str r.srt), some w2, some w3, some (.ref d), some (.str nm), some x7, none, none, none, some (.int p.1), some x]) A10.ex (p_lcU (K := K) (src_rng (j := p.1.toNat) (q_cons (p_ev (ev_is (ev_var rfl) (by rw [Int.toNat_of_nonneg m0]))) q_nil) (by omega)) (by omega) (fun j => cnP K (⟨nm, (j : Nat), 0⟩, [])) fun j v4 B1 hj e4 pv => ?_) (fun x12 B11 H11 g11 hx12 => ?_) (fun _ => rfl)
        · obtain rfl : v4 = .int (j : Nat) := pv
          exact ⟨[some v1, some v2, some (.str r.srt), some w2, some w3, some (.ref d), some (.str nm), some x7, none, some (.int (j : Nat)), none, some (.int p.1), a12], rfl, fun H2 Q e q => q, p_tup (K := K) (ps := [DvP ⟨nm, (j : Nat), 0⟩, IsD K (.tuple (([] : List Str).map .str))]) (q_cons (p_dv rfl rfl rfl (q_cons (p_varV rfl) (q_cons (p_varV rfl) (q_cons p_c q_nil)))) (q_cons (ed_tup (K := K) (ds := []) q_nil (by show 0 ≤ 100000; decide)) q_nil)) (by show 2 ≤ 100000; decide)⟩
        dsimp only
        refine ps_app (K := K) (p := coP K ((List.range p.1.toNat).map fun j => ((⟨nm, (j : Nat), 0⟩ : Dv), ([] : List Str)), [((⟨nm, p.1, 0⟩ : Dv), (["x"] : List Str))])) rfl (A10.step g11) ?_ (by omega) fun B12 H12 e12 A12 => ?_
        · refine p_tup (K := K) (q_cons (p_var rfl ?_) (q_cons (p_lq (p_lst (ps := [cnP K (⟨nm, p.1, 0⟩, ["x"])]) (q_cons (p_tup (K := K) (ps := [DvP ⟨nm, p.1, 0⟩, IsD K (.tuple [.str "x"])]) (q_cons (p_dv rfl rfl rfl (q_cons (p_varV rfl) (q_cons (p_varV rfl) (q_cons p_c q_nil)))) (q_cons (ed_tup (K := K) (ds := [.str "x"]) (q_cons (ed_st ev_c) q_nil) (by show 1 ≤ 100000; decide)) q_nil)) (by show 2 ≤ 100000; decide)) q_nil) (by show 1 ≤ 100000; decide))) q_nil)) (by show 2 ≤ 100000; decide)
          rw [List.map_map]
          exact hx12
        · exact ⟨B12, by rw [rs]; exact A12, e35.trans (g10.b.trans (g11.b.trans e12)), _, _, _, _, rfl⟩
  · obtain ⟨B4, A4, e34, a6, a7, a11, a12, rfl⟩ := pv
    rw [List.length_map, List.take_length] at A4
    obtain ⟨B5, g5, hP⟩ := A4.fin hd
    exact ⟨.ref d, rfl, q (.ref d) B5 H4 (g2.trans g5) hP⟩

end
end K12
namespace K12
set_option autoImplicit false
open PySem PySem.W L2 Evl My Nd
/-- a chain whose leaders are small -/
structure ChSm (c : Ch) : Prop where
  ge : ∀ x ∈ c, 0 ≤ x.1.i ∧ 0 ≤ x.1.j
  le : ∀ x ∈ c, x.1.i ≤ 100 ∧ x.1.j ≤ 100
  len : c.length ≤ 1000
theorem ChSm.le' {c : Ch} (h : ChSm c) : ChLe c := ⟨h.ge, fun x hx => ⟨by have := (h.le x hx).1; omega, by have := (h.le x hx).2; omega⟩, h.len⟩
theorem range_flat {α β : Type} (f : α → List β) (d : α) (l : List α) : ((List.range l.length).flatMap fun i => f (l.getD i d)) = l.flatMap f := by
  have e := range_map (id : α → α) d l
  rw [List.map_id] at e
  have : l.flatMap f = ((List.range l.length).map fun i => id (l.getD i d)).flatMap f := by rw [e]
  rw [this, List.flatMap_map]
  rfl
theorem flat_len2 {α β : Type} {f : α → List β} {m : Nat} : ∀ {l : List α}, (∀ x ∈ l, (f x).length ≤ m) → (l.flatMap f).length ≤ l.length * m
  | [], _ => Nat.zero_le _
  | x :: l, h => by
    rw [List.flatMap_cons, List.length_append, List.length_cons, Nat.succ_mul]
    have := h x List.mem_cons_self
    have := flat_len2 (f := f) (l := l) fun y hy => h y (List.mem_cons_of_mem _ hy)
    omega
theorem ends_sm {c : Ch} (h : ChSm c) {n : Str} {k : Nat} {e : Int} {es : List Int} (he : endsOf (placesOf c n) k = e :: es) : 0 ≤ minI e es ∧ minI e es ≤ 100 := by
  have hm : minI e es ∈ endsOf (placesOf c n) k := by rw [he]; exact minI_mem es e
  unfold endsOf placesOf at hm
  obtain ⟨p, hp, z⟩ := List.mem_map.mp hm
  obtain ⟨x, hx, rfl⟩ := List.mem_map.mp (List.mem_filter.mp hp).1
  have hx := (List.mem_filter.mp hx).1
  rw [← z]
  exact ⟨(h.ge x hx).2, (h.le x hx).2⟩
theorem last_sm {c : Ch} (h : ChSm c) (n : Str) (hne : placesOf c n ≠ []) : lastOf (placesOf c n) ≤ 100 := by
  obtain ⟨q, hq, z⟩ := last_in hne
  unfold placesOf at hq
  obtain ⟨x, hx, rfl⟩ := List.mem_map.mp hq
  have := (h.le x (List.mem_filter.mp hx).1).1
  omega
theorem col_sm {c : Ch} (h : ChSm c) (n : Str) (k : Nat) : (colOf n (placesOf c n) (lastOf (placesOf c n)) k).1.length ≤ 100 ∧ (colOf n (placesOf c n) (lastOf (placesOf c n)) k).2.length ≤ 1 := by
  unfold colOf
  split
  · exact ⟨by show 1 ≤ 100; omega, by show 0 ≤ 1; omega⟩
  · rename_i e es he
    have := ends_sm h he
    refine ⟨?_, by show 1 ≤ 1; omega⟩
    show (List.map _ _).length ≤ 100
    rw [List.length_map, List.length_range]
    omega
theorem by_sm {r : Rk} {c : Ch} (h : ChSm c) (n : Str) : (colsBy r c n).length ≤ 101 ∧ ∀ x ∈ colsBy r c n, x.1.length ≤ 100 ∧ x.2.length ≤ 1 := by
  have hp := last_sm h n
  have hc := col_sm h n
  have h0 : ∀ p pl, placesOf c n = p :: pl → p.1 ≤ 100 := fun p pl e => by
    have : p ∈ placesOf c n := by rw [e]; exact List.mem_cons_self
    unfold placesOf at this
    obtain ⟨x, hx, rfl⟩ := List.mem_map.mp this
    exact (h.le x (List.mem_filter.mp hx).1).1
  unfold colsBy
  split
  · refine ⟨by show 1 ≤ 101; omega, fun x hx => ?_⟩
    obtain rfl := List.mem_singleton.mp hx
    exact ⟨by show 1 ≤ 100; omega, by show 0 ≤ 1; omega⟩
  · rename_i p pl e
    have h1 := h0 p pl e
    rw [e] at hp hc
    split
    · unfold colsOf
      have := hp (fun z => nomatch z)
      refine ⟨by rw [List.length_map, List.length_range]; omega, fun x hx => ?_⟩
      obtain ⟨k, _, rfl⟩ := List.mem_map.mp hx
      exact hc k
    · refine ⟨by show 1 ≤ 101; omega, fun x hx => ?_⟩
      obtain rfl := List.mem_singleton.mp hx
      refine ⟨?_, by show 1 ≤ 1; omega⟩
      show (List.map _ _).length ≤ 100
      rw [List.length_map, List.length_range]
      omega
theorem all_sm {r : Rk} {c : Ch} (hr : r.Ok) (h : ChSm c) : (colsAll r c).length ≤ 303 ∧ ∀ x ∈ colsAll r c, x.1.length ≤ 100 ∧ x.2.length ≤ 1 := by
  have hl := hr.le
  refine ⟨?_, fun x hx => ?_⟩
  · have := flat_len (f := colsBy r c) (m := 101) (fun n => (by_sm h n).1) r.ns
    have l3 : r.ns.length * 101 ≤ 3 * 101 := Nat.mul_le_mul_right _ hl
    unfold colsAll
    omega
  · unfold colsAll at hx
    obtain ⟨n, _, hx⟩ := List.mem_flatMap.mp hx
    exact (by_sm h n).2 x hx
def freeAll (r : Rk) (c : Ch) : List Cn := (colsAll r c).flatMap (·.1)
def prinAll (r : Rk) (c : Ch) : List Cn := (colsAll r c).flatMap (·.2)
theorem free_len {r : Rk} {c : Ch} (hr : r.Ok) (h : ChSm c) : (freeAll r c).length ≤ 30300 := by
  obtain ⟨h1, h2⟩ := all_sm hr h
  have := flat_len2 (f := fun x : List Cn × List Cn => x.1) (m := 100) (l := colsAll r c) fun x hx => (h2 x hx).1
  have l3 : (colsAll r c).length * 100 ≤ 303 * 100 := Nat.mul_le_mul_right _ h1
  unfold freeAll
  omega
theorem prin_len {r : Rk} {c : Ch} (hr : r.Ok) (h : ChSm c) : (prinAll r c).length ≤ 303 := by
  obtain ⟨h1, h2⟩ := all_sm hr h
  have := flat_len2 (f := fun x : List Cn × List Cn => x.2) (m := 1) (l := colsAll r c) fun x hx => (h2 x hx).2
  unfold prinAll
  omega
def Rfree (K : PySem.W.Frag) (f : Rk → Ch → List Cn) : List Pr → Pr → Prop := fun ps p => ∃ (r : Rk) (c : Ch), r.Ok ∧ ChOk r c ∧ ChSm c ∧ ps = [RkP K r, chP K c] ∧ p = TuP K ((f r c).map (cnP K))
section
variable {P : Program} {w : World} {K : PySem.W.Frag} {mg : Str → Option Value} {base : Heap}

/-- free_cones -/
abbrev s_free_cones : Stmt := topS 51
abbrev N_free_cones : List Str := ["ranking", "chain", "free", "_", "cone"]
theorem sc_free_cones : FnScope N_free_cones ["ranking", "chain"] (defScope s_free_cones) := ⟨rfl, rfl, rfl, by decide +kernel, rfl, by decide +kernel, by decide +kernel⟩
theorem ok_free_cones {f : Addr} {fd : FuncData} (F : Fun K "free_cones" "free_cones" s_free_cones f fd) {f_need_chain : Addr} {d_need_chain : FuncData} (c_need_chain : Cal P w K mg base "need_chain" 11 ["ranking", "chain"] (spP (Rch K)) f_need_chain d_need_chain) {f__columns : Addr} {d__columns : FuncData} (c__columns : Cal P w K mg base "_columns" 2 ["ranking", "chain"] (spP (Rcs K)) f__columns d__columns) (n_tuple : mg "tuple" = none)  :
    FnOk P w K mg base CX0 12 f fd ["ranking", "chain"] (spP (Rfree K freeAll)) := by
  refine F.ok sc_free_cones (spP_len (by rintro _ _ ⟨r, c, _, _, _, rfl, rfl⟩; rfl)) (fun cdv A outer s H vs Q E hr h => ?_)
  obtain ⟨B, ps, p, eB, hv, ⟨r, c, hr0, hc, hs, rfl, rfl⟩, q⟩ := h
  obtain ⟨v1, v2, rfl, h1, h2⟩ := all2 hv
  have hu := hu_of hr
  refine ⟨_, (pss_cons (ps_expr (pe_call c_need_chain.G (hr.mono (by decide)) (by rfl) c_need_chain.m c_need_chain.k c_need_chain.b .nil pass0 (pa_cons (pv 0) (pa_cons (pv 1) pa_nil))))
    (pss_one (ps_ret (pe_callTy call_tuple_of (by rfl) n_tuple (by decide +kernel) (pa_cons (pe_lc2 (own := [("free", 2), ("_", 3), ("cone", 4)]) (vs1 := [4]) (g := (gTup K 2 (gCons (gName 2) (gCons (gName 3) gNil)))) (wi1 := iList K (tVar 2)) rfl sc_free_cones.nd (pi_list (pe_call c__columns.G (hr.mono (by decide)) (by rfl) c__columns.m c__columns.k c__columns.b .nil pass0 (pa_cons (pv 0) (pa_cons (pv 1) pa_nil)))) (blkOk_by (N := N_free_cones) (sc := defScope s_free_cones) (by decide +kernel)) (by decide) (fun _ _ _ _ _ => (pg_tup (by rfl) (pgs_cons (pg_name (i := 2) sc_free_cones.nd rfl (Or.inl rfl)) (pgs_cons (pg_name (i := 3) sc_free_cones.nd rfl (Or.inl rfl)) pgs_nil)))) (fun _ _ _ _ _ => pts_nil) (fun _ _ _ _ _ => (pi_list (pv 2))) (fun _ _ _ _ _ => (pg_name (i := 4) sc_free_cones.nd rfl (Or.inl rfl))) (fun _ _ _ _ _ => pts_nil) (fun _ _ _ _ _ => (pv 4))) pa_nil))))), ?_⟩
  refine ps_exE eB (p_callP (ps := [RkP K r, chP K c]) (q_cons (p_var rfl h1) (q_cons (p_var rfl h2) q_nil)) ⟨r, c, hr0, hc, rfl, rfl⟩) fun H1 e1 => ?_
  dsimp only
  have hl := free_len hr0 hs
  refine My.ps_ret (eB.trans e1) (p_tupOf (K := K) (p_lq (?_ : EvP _ _ B (LsP ((freeAll r c).map (cnP K)))))) fun v B3 H4 g hp => q v B3 H4 ((Gr.wide eB e1).trans g) hp
  have eq : ((List.range ((colsAll r c).map (coP K)).length).flatMap fun i => (((colsAll r c).getD i ([], [])).1).map (cnP K)) = (freeAll r c).map (cnP K) := by
    rw [List.length_map, range_flat (fun x : List Cn × List Cn => x.1.map (cnP K)) ([], []) (colsAll r c)]
    unfold freeAll
    rw [List.map_flatMap]
  rw [← eq]
  refine p_lc2 (src_lq (K := K) (p_lq (p_callP (ps := [RkP K r, chP K c]) (q_cons (p_var rfl h1) (q_cons (p_var rfl h2) q_nil)) ⟨r, c, hr0, hs.le', rfl, rfl⟩))) (fun i => (((colsAll r c).getD i ([], [])).1).map (cnP K)) (by rw [eq, List.length_map]; omega) fun i v3 B1 hi e pv => ?_
  rw [List.length_map] at hi
  have pv : (((colsAll r c).map (coP K)).getD i (IsV .non)).P v3 B1 := pv
  rw [getD_map hi] at pv
  obtain ⟨p3, ys, rfl, hp3, al⟩ := pv
  obtain ⟨y1, y2, rfl, m1, m2⟩ := all2 al
  have z : (colsAll r c).getD i ([], []) = (colsAll r c)[i] := by
    rw [List.getD_eq_getElem?_getD, List.getElem?_eq_getElem hi]
    rfl
  rw [z]
  refine ⟨[some v1, some v2, some y1, some y2, none], rfl, fun H2 Q e q => ⟨p3, _, rfl, ex_t e hp3, rfl, _, _, rfl, _, _, rfl, rfl, q⟩, .inr ⟨et_yes, (((colsAll r c)[i]).1.map (cnP K)).length, _, fun _ => true, fun j => (((colsAll r c)[i]).1.map (cnP K)).getD j (IsV .non), src_lq (K := K) (p_var rfl m1), ?_, fun j v4 B2 hj e2 pv1 => ?_⟩⟩
  · rw [List.filter_eq_self.mpr (fun _ _ => rfl)]
    have := range_map (fun x : Pr => x) (IsV .non) (((colsAll r c)[i]).1.map (cnP K))
    rw [List.map_id'] at this
    exact this.symm
  · exact ⟨[some v1, some v2, some y1, some y2, some v4], rfl, fun H3 Q e q => q, et_yes, fun _ => p_var rfl pv1⟩

/-- principal_cones -/
abbrev s_principal_cones : Stmt := topS 52
abbrev N_principal_cones : List Str := ["ranking", "chain", "_", "principal", "cone"]
theorem sc_principal_cones : FnScope N_principal_cones ["ranking", "chain"] (defScope s_principal_cones) := ⟨rfl, rfl, rfl, by decide +kernel, rfl, by decide +kernel, by decide +kernel⟩
theorem ok_principal_cones {f : Addr} {fd : FuncData} (F : Fun K "principal_cones" "principal_cones" s_principal_cones f fd) {f_need_chain : Addr} {d_need_chain : FuncData} (c_need_chain : Cal P w K mg base "need_chain" 11 ["ranking", "chain"] (spP (Rch K)) f_need_chain d_need_chain) {f__columns : Addr} {d__columns : FuncData} (c__columns : Cal P w K mg base "_columns" 2 ["ranking", "chain"] (spP (Rcs K)) f__columns d__columns) (n_tuple : mg "tuple" = none)  :
    FnOk P w K mg base CX0 12 f fd ["ranking", "chain"] (spP (Rfree K prinAll)) := by
  refine F.ok sc_principal_cones (spP_len (by rintro _ _ ⟨r, c, _, _, _, rfl, rfl⟩; rfl)) (fun cdv A outer s H vs Q E hr h => ?_)
  obtain ⟨B, ps, p, eB, hv, ⟨r, c, hr0, hc, hs, rfl, rfl⟩, q⟩ := h
  obtain ⟨v1, v2, rfl, h1, h2⟩ := all2 hv
  have hu := hu_of hr
  refine ⟨_, (pss_cons (ps_expr (pe_call c_need_chain.G (hr.mono (by decide)) (by rfl) c_need_chain.m c_need_chain.k c_need_chain.b .nil pass0 (pa_cons (pv 0) (pa_cons (pv 1) pa_nil))))
    (pss_one (ps_ret (pe_callTy call_tuple_of (by rfl) n_tuple (by decide +kernel) (pa_cons (pe_lc2 (own := [("_", 2), ("principal", 3), ("cone", 4)]) (vs1 := [4]) (g := (gTup K 2 (gCons (gName 2) (gCons (gName 3) gNil)))) (wi1 := iList K (tVar 3)) rfl sc_principal_cones.nd (pi_list (pe_call c__columns.G (hr.mono (by decide)) (by rfl) c__columns.m c__columns.k c__columns.b .nil pass0 (pa_cons (pv 0) (pa_cons (pv 1) pa_nil)))) (blkOk_by (N := N_principal_cones) (sc := defScope s_principal_cones) (by decide +kernel)) (by decide) (fun _ _ _ _ _ => (pg_tup (by rfl) (pgs_cons (pg_name (i := 2) sc_principal_cones.nd rfl (Or.inl rfl)) (pgs_cons (pg_name (i := 3) sc_principal_cones.nd rfl (Or.inl rfl)) pgs_nil)))) (fun _ _ _ _ _ => pts_nil) (fun _ _ _ _ _ => (pi_list (pv 3))) (fun _ _ _ _ _ => (pg_name (i := 4) sc_principal_cones.nd rfl (Or.inl rfl))) (fun _ _ _ _ _ => pts_nil) (fun _ _ _ _ _ => (pv 4))) pa_nil))))), ?_⟩
  refine ps_exE eB (p_callP (ps := [RkP K r, chP K c]) (q_cons (p_var rfl h1) (q_cons (p_var rfl h2) q_nil)) ⟨r, c, hr0, hc, rfl, rfl⟩) fun H1 e1 => ?_
  dsimp only
  have hl := prin_len hr0 hs
  refine My.ps_ret (eB.trans e1) (p_tupOf (K := K) (p_lq (?_ : EvP _ _ B (LsP ((prinAll r c).map (cnP K)))))) fun v B3 H4 g hp => q v B3 H4 ((Gr.wide eB e1).trans g) hp
  have eq : ((List.range ((colsAll r c).map (coP K)).length).flatMap fun i => (((colsAll r c).getD i ([], [])).2).map (cnP K)) = (prinAll r c).map (cnP K) := by
    rw [List.length_map, range_flat (fun x : List Cn × List Cn => x.2.map (cnP K)) ([], []) (colsAll r c)]
    unfold prinAll
    rw [List.map_flatMap]
  rw [← eq]
  refine p_lc2 (src_lq (K := K) (p_lq (p_callP (ps := [RkP K r, chP K c]) (q_cons (p_var rfl h1) (q_cons (p_var rfl h2) q_nil)) ⟨r, c, hr0, hs.le', rfl, rfl⟩))) (fun i => (((colsAll r c).getD i ([], [])).2).map (cnP K)) (by rw [eq, List.length_map]; omega) fun i v3 B1 hi e pv => ?_
  rw [List.length_map] at hi
  have pv : (((colsAll r c).map (coP K)).getD i (IsV .non)).P v3 B1 := pv
  rw [getD_map hi] at pv
  obtain ⟨p3, ys, rfl, hp3, al⟩ := pv
  obtain ⟨y1, y2, rfl, m1, m2⟩ := all2 al
  have z : (colsAll r c).getD i ([], []) = (colsAll r c)[i] := by
    rw [List.getD_eq_getElem?_getD, List.getElem?_eq_getElem hi]
    rfl
  rw [z]
  refine ⟨[some v1, some v2, some y1, some y2, none], rfl, fun H2 Q e q => ⟨p3, _, rfl, ex_t e hp3, rfl, _, _, rfl, _, _, rfl, rfl, q⟩, .inr ⟨et_yes, (((colsAll r c)[i]).2.map (cnP K)).length, _, fun _ => true, fun j => (((colsAll r c)[i]).2.map (cnP K)).getD j (IsV .non), src_lq (K := K) (p_var rfl m2), ?_, fun j v4 B2 hj e2 pv1 => ?_⟩⟩
  · rw [List.filter_eq_self.mpr (fun _ _ => rfl)]
    have := range_map (fun x : Pr => x) (IsV .non) (((colsAll r c)[i]).2.map (cnP K))
    rw [List.map_id'] at this
    exact this.symm
  · exact ⟨[some v1, some v2, some y1, some y2, some v4], rfl, fun H3 Q e q => q, et_yes, fun _ => p_var rfl pv1⟩

end
end K12
namespace K12
set_option autoImplicit false
open PySem PySem.W L2 Evl My Nd LamX NdefX
def Rris (K : PySem.W.Frag) : List Pr → Pr → Prop := fun ps p => ∃ (r : Rk) (us : List Dv), r.Ok ∧ (∀ u ∈ us, Dv.Of u r) ∧ ps = [RkP K r, LqP K (us.map DvP)] ∧ p = LsP ((r.sort us).map DvP)
def RallT (K : PySem.W.Frag) : List Pr → Pr → Prop := fun ps p => ∃ (r : Rk) (o : Nat), r.Ok ∧ o ≤ 12 ∧ ps = [RkP K r, IsV (.int (o : Nat))] ∧ p = LsP ((r.sort (r.all o)).map DvP)
/-- all of an order to so many, rising, that are free, or not -/
def Rk.some (r : Rk) (c : Ch) (o : Nat) (b : Bool) : List Dv := (r.sort (r.all o)).filter fun u => decide (fstI c u = none) == b
def RfT (K : PySem.W.Frag) (b : Bool) : List Pr → Pr → Prop := fun ps p => ∃ (r : Rk) (c : Ch) (o : Nat), r.Ok ∧ ChOk r c ∧ o ≤ 12 ∧ ps = [RkP K r, chP K c, IsV (.int (o : Nat))] ∧ p = TuP K ((Rk.some r c o b).map DvP)
theorem keyD_alike (r : Rk) (us : List Dv) : AllAlike (us.map r.keyD) := AllAlike.of fun u v => by
  unfold Rk.keyD
  simp [alike, alike_ints]
theorem keyD_sortable (r : Rk) (us : List Dv) : Sortable (us.map r.keyD) := Sortable.tuples fun u => by
  obtain ⟨a, b, c, e⟩ := r.key3 u
  exact ⟨.int a, [.int b, .int c], by unfold Rk.keyD; rw [e]; rfl⟩
theorem keyD_depth (r : Rk) (us : List Dv) : ∀ d, d ∈ us.map r.keyD → d.depth ≤ 50 := fun d hd => by
  obtain ⟨u, _, rfl⟩ := List.mem_map.mp hd
  unfold Rk.keyD
  simp [PyData.depth, depth_ints]
theorem lc_bind {K : PySem.W.Frag} {ta te : TE} {g : TG} {tt : TT} {vs : List Nat} {σ : L2.St} {H : Hp} {Q : VK} (h : ta σ H fun v H2 => tLc (iList K (tC v)) g tt te vs σ H2 Q) : tLc (iList K ta) g tt te vs σ H Q := h
section
variable {P : Program} {w : World} {K : PySem.W.Frag} {mg : Str → Option Value} {base : Heap} {T : List (Addr × Str)}

/-- rising -/
abbrev s_rising : Stmt := topS 38
abbrev N_rising : List Str := ["ranking", "derivatives"]
theorem sc_rising : FnScope N_rising ["ranking", "derivatives"] (defScope s_rising) := ⟨rfl, rfl, rfl, by decide +kernel, rfl, by decide +kernel, by decide +kernel⟩

theorem ok_rising {f c tb : Addr} {fd : FuncData} (F : FunC K "rising" "rising" s_rising c f fd) {f_rank_key : Addr} {d_rank_key : FuncData} (c_rank_key : Cal P w K mg base "rank_key" 1 ["ranking", "derivative"] (spP (Rrd K fun r u => IsD K (.tuple ((r.key u).map .int)))) f_rank_key d_rank_key) (n_sorted : mg "sorted" = none) (TB : TabB base mg c tb) (hT : TO T tb "rising.<locals>.<lambda>") : FnOk P w K mg base CX0 5 f fd ["ranking", "derivatives"] (spT T (Rris K)) := by
  refine F.ok sc_rising (spT_len (by rintro _ _ ⟨r, us, _, _, rfl, rfl⟩; rfl)) (fun A outer s H vs Q E hr h => ?_)
  obtain ⟨B, ps, p, kn, hv, ⟨r, us, hok, hof, rfl, rfl⟩, q⟩ := h
  obtain ⟨vr, vd, rfl, hR, hL⟩ := all2 hv
  refine ⟨_, pss_one (ps_ret (pe_sortK (T := T) (N := ["derivative", "ranking"]) (fr := ["ranking"]) (x0 := "derivative") (js := [0]) (k := 1) (by rfl) n_sorted (pv 1) TB rfl hT.1 hT.2
    (nscope_by (by decide +kernel)) (ndef_free (sc := defScope s_rising) (fr := ["ranking"]) (by decide +kernel)) (ndef_fr (sc := defScope s_rising) (by decide +kernel)) rfl rfl hr (fun _ _ _ _ _ _ => rfl)
    (fun A' outer' s0 H0 F' f' hF hr' => by
      obtain ⟨nm, ql, pr, bd, sc, cl, c'⟩ := F'
      have hF : sc = _ := hF
      subst hF
      exact pe_call c_rank_key.G hr' (by rfl) c_rank_key.m c_rank_key.k c_rank_key.b .nil pass0 (pa_cons (pv 1) (pa_cons (pv 0) pa_nil))))), ?_⟩
  refine ⟨vd, rfl, kn.t, fun H2 eN T2 => ?_⟩
  have k2 := kn.next eN T2
  obtain ⟨l, xs, rfl, hl, hx⟩ := hL
  refine .inl ⟨l, xs, rfl, ex_l k2.e hl, us.map r.keyD, by rw [List.length_map, hx.len, List.length_map], keyD_alike r us, keyD_sortable r us, keyD_depth r us, fun i x k e1 e2 => ?_, fun H3 a e3 na => ?_⟩
  · obtain ⟨u, hu, px⟩ := (hx.m k2.e).ixD DvP e1
    rw [List.getElem?_map, hu] at e2
    obtain rfl : r.keyD u = k := Option.some.inj e2
    exact p_callP (ps := [RkP K r, DvP u]) (q_cons (p_var rfl ((RkP K r).m k2.e hR)) (q_cons (p_var rfl px) q_nil)) ⟨r, u, hok, hof u (List.mem_of_getElem? hu), rfl, rfl⟩
  · have eB3 : Ex B H3 := k2.e.trans e3
    exact q _ (upd B a (.lst (byKey xs (us.map r.keyD)))) _ ((GT.xn kn eN T2).trans (GT.gr ((Gr.wide k2.e e3).trans (Gr.new _ eB3 na)))) ⟨a, _, rfl, upd_same, (byKey_all r hx).m (Ex.new (fresh_back eB3 na))⟩

/-- all_to -/
abbrev s_all_to : Stmt := topS 39
abbrev N_all_to : List Str := ["ranking", "order", "_", "names", "axes", "found", "name", "by_x", "most_by_y", "by_y"]
theorem sc_all_to : FnScope N_all_to ["ranking", "order"] (defScope s_all_to) := ⟨rfl, rfl, rfl, by decide +kernel, rfl, by decide +kernel, by decide +kernel⟩
theorem ok_all_to {f : Addr} {fd : FuncData} (F : Fun K "all_to" "all_to" s_all_to f fd) {f_need_ranking : Addr} {d_need_ranking : FuncData} (c_need_ranking : Cal P w K mg base "need_ranking" 4 ["ranking"] (spP (Rrk K (IsV .non))) f_need_ranking d_need_ranking) {f_is_among : Addr} {d_is_among : FuncData} (c_is_among : Cal P w K mg base "is_among" 3 ["thing", "least", "most"] (spP Ramong) f_is_among d_is_among) {f_rising : Addr} {d_rising : FuncData} (c_rising : Cal P w K mg base "rising" 5 ["ranking", "derivatives"] (spT T (Rris K)) f_rising d_rising) (n_range : mg "range" = none) {tk1 : Nat} (g_MOST_ORDER : mg "MOST_ORDER" = some (.int 12 tk1)) :
    FnOk P w K mg base CX0 6 f fd ["ranking", "order"] (spT T (RallT K)) := by
  refine F.ok sc_all_to (spT_len (by rintro _ _ ⟨r, o, _, _, rfl, rfl⟩; rfl)) (fun cdv A outer s H vs Q E hr h => ?_)
  obtain ⟨B, ps, p, kn, hv, ⟨r, o, hok, ho, rfl, rfl⟩, q⟩ := h
  obtain ⟨vr, v2, rfl, hR, h2⟩ := all2 hv
  obtain rfl : v2 = .int (o : Nat) := h2
  have hu := hu_of hr
  refine ⟨_, (pss_cons (ps_expr (pe_call c_need_ranking.G (hr.mono (by decide)) (by rfl) c_need_ranking.m c_need_ranking.k c_need_ranking.b .nil pass0 (pa_cons (pv 0) pa_nil)))
    (pss_cons (ps_if (pt_not (pt_val (pe_call c_is_among.G (hr.mono (by decide)) (by rfl) c_is_among.m c_is_among.k c_is_among.b .nil pass0 (pa_cons (pv 1) (pa_cons pe_int (pa_cons (pe_glob (by rfl) (v := .int 12) g_MOST_ORDER ⟨_, rfl⟩) pa_nil)))))) (pss_one ps_never) pss_nil)
    (pss_cons (ps_asg (pv 0) (pg_tup (by rfl) (pgs_cons (pg_name (i := 2) sc_all_to.nd rfl (by first | exact .inl rfl | exact .inr rfl)) (pgs_cons (pg_name (i := 3) sc_all_to.nd rfl (by first | exact .inl rfl | exact .inr rfl)) (pgs_cons (pg_name (i := 4) sc_all_to.nd rfl (by first | exact .inl rfl | exact .inr rfl)) pgs_nil)))))
    (pss_cons (ps_set (i := 5) sc_all_to.nd rfl (by first | exact .inl rfl | exact .inr rfl) (pe_lst pa_nil))
    (pss_cons (ps_for PassesOwn.never rfl (pi_tup (pv 3)) (pg_name (i := 6) sc_all_to.nd rfl (by first | exact .inl rfl | exact .inr rfl))
      (pss_one (ps_for PassesOwn.never rfl (pi_range1 (by rfl) n_range (pa_cons (pe_op op_add (pv 1) pe_int) pa_nil)) (pg_name (i := 7) sc_all_to.nd rfl (by first | exact .inl rfl | exact .inr rfl))
      (pss_cons (ps_set (i := 8) sc_all_to.nd rfl (by first | exact .inl rfl | exact .inr rfl) (pe_ifExp (pt_cmpR op_in_seq pe_str (pv 4) (by rfl)) (pe_op op_sub (pv 1) (pv 7)) pe_int))
    (pss_one (ps_expr (pe_bm PySem.F.plainAttrs_list PySem.F.slot_list_extend PySem.F.type_list_extend mt_extend (pv 5) (pa_cons (pe_lc (own := [("by_y", 9)]) rfl sc_all_to.nd (pi_range1 (by rfl) n_range (pa_cons (pe_op op_add (pv 8) pe_int) pa_nil)) (blkOk_by (N := N_all_to) (sc := defScope s_all_to) (by decide +kernel)) (fun _ _ _ _ _ => (pg_name (i := 9) sc_all_to.nd rfl (Or.inl rfl))) (fun _ _ _ _ _ => pts_nil) (fun _ _ _ _ _ => (pe_tup (pa_cons (pv 6) (pa_cons (pv 7) (pa_cons (pv 9) pa_nil)))))) pa_nil))))))))
    (pss_one (ps_ret (pe_call c_rising.G (hr.mono (by decide)) (by rfl) c_rising.m c_rising.k c_rising.b .nil pass0 (pa_cons (pv 0) (pa_cons (pv 5) pa_nil)))))))))), ?_⟩
  refine ps_exE kn.e (p_callP (ps := [RkP K r]) (q_cons (p_var rfl hR) q_nil) ⟨r, hok, rfl, rfl⟩) fun H1 e1 => ?_
  dsimp only
  refine ps_ifN (kn.e.trans e1) (et_is (et_not (et_test (ev_p (p_callP (ps := [IsV (.int o), IsV (.int 0), IsV (.int 12)]) (q_cons (p_varV rfl) (q_cons p_c (q_cons p_c q_nil))) ⟨o, 0, 12, rfl, rfl⟩)))) (by simp; omega)) fun H2 e2 => ?_
  dsimp only
  have gB : Gr B H B H2 := Gr.wide kn.e (e1.trans e2)
  refine ps_unR (K := K) gB.c (p_var rfl hR) fun vn va B3 H3 g3 n2 n3 => ?_
  dsimp only
  have g03 := gB.trans g3
  refine ⟨sz_of (by show 0 ≤ 100000; decide), fun d hd => ?_⟩
  have A0 := acc_new g3.c hd
  dsimp only
  refine ps_forS (B := B3) A0.ex (src_tup (ed_nm (p_var rfl n2))) fun B4 H4 g4 => ?_
  have A4 := A0.step g4
  refine ⟨fun i σ H' => ∃ C, AccAt B3 H3 d ((r.rowsT o i).map DvP) C H' ∧ Ex B4 C ∧ ∃ w6 w7 w8, σ = [some vr, some (.int (o : Nat)), some (.str r.srt), some vn, some va, some (.ref d), w6, w7, w8, none], ⟨B4, A4, Ex.refl _, none, none, none, rfl⟩, fun i σ H' _ h => ?_, fun i v σ H' hi pv px => ?_, fun σ H' pv => ?_⟩
  · obtain ⟨C, A, e, _⟩ := h
    exact e.trans A.ex
  · rw [List.length_map] at hi
    have hv : v = .str r.ns[i] := by
      have px : Dp K B4 v ((r.ns.map PyData.str).getD i .none) := px
      rw [List.getD_eq_getElem?_getD, List.getElem?_map, List.getElem?_eq_getElem hi] at px
      cases px
      rfl
    subst hv
    obtain ⟨C, A, e, w6, w7, w8, rfl⟩ := pv
    dsimp only
    refine ps_forS (B := C) A.ex (src_rng (j := o + 1) (q_cons (p_ev (ev_is (ev_op (ev_var rfl) ev_c rv_I0) (by simp))) q_nil) (by omega)) fun C1 H5 g5 => ?_
    have A5 := A.step g5
    refine ⟨fun m σ H' => ∃ C, AccAt B3 H3 d ((r.rowsT o i ++ r.rowsN o r.ns[i] m).map DvP) C H' ∧ Ex C1 C ∧ ∃ x7 x8, σ = [some vr, some (.int (o : Nat)), some (.str r.srt), some vn, some va, some (.ref d), some (.str r.ns[i]), x7, x8, none], ⟨C1, by rw [show r.rowsN o r.ns[i] 0 = [] from rfl, List.append_nil]; exact A5, Ex.refl _, w7, w8, rfl⟩, fun m σ H' _ h => ?_, fun m v σ H' hm pv px => ?_, fun σ H' pv => ?_⟩
    · obtain ⟨C, A, e, _⟩ := h
      exact e.trans A.ex
    · obtain rfl : v = .int (m : Int) := px
      obtain ⟨D1, A6, e6, x7, x8, rfl⟩ := pv
      have va5 := dp_m ((g4.b.trans e).trans (g5.b.trans e6)) n3
      refine ps_asgN (fun x => [some vr, some (.int (o : Nat)), some (.str r.srt), some vn, some va, some (.ref d), some (.str r.ns[i]), some (.int m), some x, none]) A6.ex (p_ev (v := .int (r.most o m : Nat)) (ev_if (b := decide ((Str.ofString "y") ∈ r.axs)) (et_is (et_test (ev_inT (neg := false) (ys := r.axs) ev_c (ed_var rfl va5))) (by rw [if_neg Bool.false_ne_true])) (fun hb => ev_is (ev_op (ev_var rfl) (ev_var rfl) rv_I0) ?_) fun hb => ev_is ev_c ?_)) (fun x D3 H6 g6 hx => ?_) (fun _ => rfl)
      · unfold Rk.most
        rw [if_pos (of_decide_eq_true hb)]
        congr 1
        omega
      · unfold Rk.most
        rw [if_neg (of_decide_eq_false hb)]
        rfl
      obtain rfl : x = .int (r.most o m : Nat) := hx
      dsimp only
      have mm : r.most o m ≤ 12 := by
        unfold Rk.most
        split <;> omega
      have lc := p_lcP (te := tTup (tCons (tVar 6) (tCons (tVar 7) (tCons (tVar 9) tNil)))) (g := gName 9) (vs := [9]) (σ := [some vr, some (.int (o : Nat)), some (.str r.srt), some vn, some va, some (.ref d), some (.str r.ns[i]), some (.int m), some (.int (r.most o m : Nat)), none]) (B := D3)
        (src_rng (j := r.most o m + 1) (t := tCons (tOp (rI0 fun i j => .int (i + j)) (tVar 8) (tC (.int 1))) tNil) (q_cons (p_ev (ev_is (ev_op (ev_var rfl) ev_c rv_I0) (by simp))) q_nil) (by omega)) (by omega) (fun j => DvP ⟨r.ns[i], (m : Int), (j : Int)⟩) fun j v B5 hj e5 pv => by
          obtain rfl : v = .int (j : Int) := pv
          exact ⟨[some vr, some (.int (o : Nat)), some (.str r.srt), some vn, some va, some (.ref d), some (.str r.ns[i]), some (.int m), some (.int (r.most o m : Nat)), some (.int j)], rfl, fun H2 Q e q => q, p_dv (u := ⟨r.ns[i], (m : Int), (j : Int)⟩) rfl rfl rfl (q_cons (p_varV rfl) (q_cons (p_varV rfl) (q_cons (p_varV rfl) q_nil)))⟩
      have rowE : (List.range (r.most o m + 1)).map (fun j => DvP ⟨r.ns[i], (m : Int), ((j : Nat) : Int)⟩) = (r.row o r.ns[i] m).map DvP := by
        unfold Rk.row
        rw [List.map_map]
        rfl
      rw [rowE] at lc
      refine ps_ext (K := K) (qs := (r.row o r.ns[i] m).map DvP) rfl (A6.step g6) lc (by
        have h2 := r.rowsT_len (o := o) (m := i) ho hok.le
        have h3 := r.rowsN_len r.ns[i] (o := o) (m := m + 1) (by omega) ho
        rw [Rk.rowsN_succ, List.length_append] at h3
        rw [List.length_map, List.length_map, List.length_append]
        omega) fun B9 H9 e79 A9 => ?_
      refine ⟨B9, ?_, e6.trans (g6.b.trans e79), _, _, rfl⟩
      rw [Rk.rowsN_succ, ← List.append_assoc, List.map_append]
      exact A9
    · obtain ⟨D1, A6, e6, x7, x8, rfl⟩ := pv
      refine ⟨D1, ?_, e.trans (g5.b.trans e6), _, _, _, rfl⟩
      rw [Rk.rowsT_succ r o i hi]
      exact A6
  · obtain ⟨C, A, e, w6, w7, w8, rfl⟩ := pv
    rw [List.length_map, Rk.rowsT_all] at A
    obtain ⟨B5, g5, hP⟩ := A.fin hd
    have g05 := g03.trans g5
    exact t_call (kn.gr g05) (q_cons (p_var rfl ((RkP K r).m g05.b hR)) (q_cons (p_var rfl (lq_ls hP)) q_nil)) ⟨r, r.all o, hok, fun u hu => Rk.mem_all hu, rfl, rfl⟩ fun v B6 H6 g6 hp => q v B6 H6 ((GT.gr g05).trans g6) hp

theorem p_k {v : V} {σ : L2.St} {B : Hp} {p : Pr} (h : p.P v B) : EvP (tC v) σ B p := fun H1 a _ k => k v B H1 (Gr.refl a) h

/-- free_to -/
abbrev s_free_to : Stmt := topS 64
abbrev N_free_to : List Str := ["ranking", "chain", "order", "one"]
theorem sc_free_to : FnScope N_free_to ["ranking", "chain", "order"] (defScope s_free_to) := ⟨rfl, rfl, rfl, by decide +kernel, rfl, by decide +kernel, by decide +kernel⟩
theorem ok_free_to {f : Addr} {fd : FuncData} (F : Fun K "free_to" "free_to" s_free_to f fd) {f_need_chain : Addr} {d_need_chain : FuncData} (c_need_chain : Cal P w K mg base "need_chain" 11 ["ranking", "chain"] (spP (Rch K)) f_need_chain d_need_chain) {f_all_to : Addr} {d_all_to : FuncData} (c_all_to : Cal P w K mg base "all_to" 6 ["ranking", "order"] (spT T (RallT K)) f_all_to d_all_to) {f_first_by : Addr} {d_first_by : FuncData} (c_first_by : Cal P w K mg base "first_by" 2 ["chain", "derivative"] (spP (Rfst K)) f_first_by d_first_by) (n_tuple : mg "tuple" = none)  :
    FnOk P w K mg base CX0 12 f fd ["ranking", "chain", "order"] (spT T (RfT K true)) := by
  refine F.ok sc_free_to (spT_len (by rintro _ _ ⟨r, c, o, _, _, _, rfl, rfl⟩; rfl)) (fun cdv A outer s H vs Q E hr h => ?_)
  obtain ⟨B, ps, p, kn, hv, ⟨r, c, o, hok, hc, ho, rfl, rfl⟩, q⟩ := h
  obtain ⟨v1, v2, v3, rfl, h1, h2, h3⟩ := all3 hv
  obtain rfl : v3 = .int (o : Nat) := h3
  have hu := hu_of hr
  refine ⟨_, (pss_cons (ps_expr (pe_call c_need_chain.G (hr.mono (by decide)) (by rfl) c_need_chain.m c_need_chain.k c_need_chain.b .nil pass0 (pa_cons (pv 0) (pa_cons (pv 1) pa_nil))))
    (pss_one (ps_ret (pe_callTy call_tuple_of (by rfl) n_tuple (by decide +kernel) (pa_cons (pe_lc (own := [("one", 3)]) rfl sc_free_to.nd (pi_list (pe_call c_all_to.G (hr.mono (by decide)) (by rfl) c_all_to.m c_all_to.k c_all_to.b .nil pass0 (pa_cons (pv 0) (pa_cons (pv 2) pa_nil)))) (blkOk_by (N := N_free_to) (sc := defScope s_free_to) (by decide +kernel)) (fun _ _ _ _ _ => (pg_name (i := 3) sc_free_to.nd rfl (Or.inl rfl))) (fun _ _ _ _ _ => (pts_one (pt_cmpR op_isN (pe_call c_first_by.G (hr.mono (by decide)) (by rfl) c_first_by.m c_first_by.k c_first_by.b .nil pass0 (pa_cons (pv 1) (pa_cons (pv 3) pa_nil))) pe_non (nomark _)))) (fun _ _ _ _ _ => (pv 3))) pa_nil))))), ?_⟩
  refine ps_exE kn.e (p_callP (ps := [RkP K r, chP K c]) (q_cons (p_var rfl h1) (q_cons (p_var rfl h2) q_nil)) ⟨r, c, hok, hc, rfl, rfl⟩) fun H1 e1 => ?_
  dsimp only
  refine t_call (kn.ex e1) (q_cons (p_var rfl h1) (q_cons (p_varV rfl) q_nil)) ⟨r, o, hok, ho, rfl, rfl⟩ fun v B2 H2 g2 hl => ?_
  have h2' := (chP K c).m g2.b h2
  have base : EvP (tLc (iList K (tC v)) (gName 3) (tTest (tOp (fun x y H Q => y = V.non ∧ Q (.bl (decide (x = V.non))) H) (tCall (spP (Rfst K)) [] E0 (tCons (tVar 1) (tCons (tVar 3) tNil))) (tC .non))) (tVar 3) [3]) [some v1, some v2, some (.int (o : Nat)), none] B2 (LsP ((Rk.some r c o true).map DvP)) := by
    have := p_lcS (tt := tTest (tOp (fun x y H Q => y = V.non ∧ Q (.bl (decide (x = V.non))) H) (tCall (spP (Rfst K)) [] E0 (tCons (tVar 1) (tCons (tVar 3) tNil))) (tC .non))) (te := tVar 3) (g := gName 3) (vs := [3]) (src_lq (K := K) (σ := [some v1, some v2, some (.int (o : Nat)), none]) (te := tC v) (p_k (lq_ls hl))) (by
        rw [List.length_map, (r.sort_perm _).length_eq, ← Rk.rowsT_all]
        have := r.rowsT_len (o := o) (m := r.ns.length) ho hok.le
        omega) (fun j => decide (fstI c ((r.sort (r.all o)).getD j ⟨"", 0, 0⟩) = none) == true) (fun j => DvP ((r.sort (r.all o)).getD j ⟨"", 0, 0⟩)) fun j v4 B3 hj e pv => by
      rw [List.length_map] at hj
      have pv : (((r.sort (r.all o)).map DvP).getD j (IsV .non)).P v4 B3 := pv
      rw [getD_map hj] at pv
      have z : (r.sort (r.all o)).getD j ⟨"", 0, 0⟩ = (r.sort (r.all o))[j] := by
        rw [List.getD_eq_getElem?_getD, List.getElem?_eq_getElem hj]
        rfl
      rw [z]
      refine ⟨[some v1, some v2, some (.int (o : Nat)), some v4], rfl, fun H2 Q e q => q, et_is (et_test (ev_isN0 (ev_p (p_callP (ps := [chP K c, DvP ((r.sort (r.all o))[j])]) (q_cons (p_var rfl ((chP K c).m e h2')) (q_cons (p_var rfl pv) q_nil)) ⟨c, _, rfl, rfl⟩)))) ?_, fun _ => p_var rfl pv⟩
      cases fstI c (r.sort (r.all o))[j] <;> simp [optV]
    rw [List.length_map, range_filter (fun u : Dv => decide (fstI c u = none) == true) DvP ⟨"", 0, 0⟩ (r.sort (r.all o))] at this
    exact this
  exact p_tupOf (K := K) (p_lq base) H2 g2.c _ fun v3 B3 H3 g3 hp => q v3 B3 H3 ((((GT.gr (Gr.wide kn.e e1)).trans g2)).trans (GT.gr g3)) hp

/-- principal_to -/
abbrev s_principal_to : Stmt := topS 65
abbrev N_principal_to : List Str := ["ranking", "chain", "order", "one"]
theorem sc_principal_to : FnScope N_principal_to ["ranking", "chain", "order"] (defScope s_principal_to) := ⟨rfl, rfl, rfl, by decide +kernel, rfl, by decide +kernel, by decide +kernel⟩
theorem ok_principal_to {f : Addr} {fd : FuncData} (F : Fun K "principal_to" "principal_to" s_principal_to f fd) {f_need_chain : Addr} {d_need_chain : FuncData} (c_need_chain : Cal P w K mg base "need_chain" 11 ["ranking", "chain"] (spP (Rch K)) f_need_chain d_need_chain) {f_all_to : Addr} {d_all_to : FuncData} (c_all_to : Cal P w K mg base "all_to" 6 ["ranking", "order"] (spT T (RallT K)) f_all_to d_all_to) {f_first_by : Addr} {d_first_by : FuncData} (c_first_by : Cal P w K mg base "first_by" 2 ["chain", "derivative"] (spP (Rfst K)) f_first_by d_first_by) (n_tuple : mg "tuple" = none)  :
    FnOk P w K mg base CX0 12 f fd ["ranking", "chain", "order"] (spT T (RfT K false)) := by
  refine F.ok sc_principal_to (spT_len (by rintro _ _ ⟨r, c, o, _, _, _, rfl, rfl⟩; rfl)) (fun cdv A outer s H vs Q E hr h => ?_)
  obtain ⟨B, ps, p, kn, hv, ⟨r, c, o, hok, hc, ho, rfl, rfl⟩, q⟩ := h
  obtain ⟨v1, v2, v3, rfl, h1, h2, h3⟩ := all3 hv
  obtain rfl : v3 = .int (o : Nat) := h3
  have hu := hu_of hr
  refine ⟨_, (pss_cons (ps_expr (pe_call c_need_chain.G (hr.mono (by decide)) (by rfl) c_need_chain.m c_need_chain.k c_need_chain.b .nil pass0 (pa_cons (pv 0) (pa_cons (pv 1) pa_nil))))
    (pss_one (ps_ret (pe_callTy call_tuple_of (by rfl) n_tuple (by decide +kernel) (pa_cons (pe_lc (own := [("one", 3)]) rfl sc_principal_to.nd (pi_list (pe_call c_all_to.G (hr.mono (by decide)) (by rfl) c_all_to.m c_all_to.k c_all_to.b .nil pass0 (pa_cons (pv 0) (pa_cons (pv 2) pa_nil)))) (blkOk_by (N := N_principal_to) (sc := defScope s_principal_to) (by decide +kernel)) (fun _ _ _ _ _ => (pg_name (i := 3) sc_principal_to.nd rfl (Or.inl rfl))) (fun _ _ _ _ _ => (pts_one (pt_cmpR op_notN (pe_call c_first_by.G (hr.mono (by decide)) (by rfl) c_first_by.m c_first_by.k c_first_by.b .nil pass0 (pa_cons (pv 1) (pa_cons (pv 3) pa_nil))) pe_non (nomark _)))) (fun _ _ _ _ _ => (pv 3))) pa_nil))))), ?_⟩
  refine ps_exE kn.e (p_callP (ps := [RkP K r, chP K c]) (q_cons (p_var rfl h1) (q_cons (p_var rfl h2) q_nil)) ⟨r, c, hok, hc, rfl, rfl⟩) fun H1 e1 => ?_
  dsimp only
  refine t_call (kn.ex e1) (q_cons (p_var rfl h1) (q_cons (p_varV rfl) q_nil)) ⟨r, o, hok, ho, rfl, rfl⟩ fun v B2 H2 g2 hl => ?_
  have h2' := (chP K c).m g2.b h2
  have base : EvP (tLc (iList K (tC v)) (gName 3) (tTest (tOp (fun x y H Q => y = V.non ∧ Q (.bl (!decide (x = V.non))) H) (tCall (spP (Rfst K)) [] E0 (tCons (tVar 1) (tCons (tVar 3) tNil))) (tC .non))) (tVar 3) [3]) [some v1, some v2, some (.int (o : Nat)), none] B2 (LsP ((Rk.some r c o false).map DvP)) := by
    have := p_lcS (tt := tTest (tOp (fun x y H Q => y = V.non ∧ Q (.bl (!decide (x = V.non))) H) (tCall (spP (Rfst K)) [] E0 (tCons (tVar 1) (tCons (tVar 3) tNil))) (tC .non))) (te := tVar 3) (g := gName 3) (vs := [3]) (src_lq (K := K) (σ := [some v1, some v2, some (.int (o : Nat)), none]) (te := tC v) (p_k (lq_ls hl))) (by
        rw [List.length_map, (r.sort_perm _).length_eq, ← Rk.rowsT_all]
        have := r.rowsT_len (o := o) (m := r.ns.length) ho hok.le
        omega) (fun j => decide (fstI c ((r.sort (r.all o)).getD j ⟨"", 0, 0⟩) = none) == false) (fun j => DvP ((r.sort (r.all o)).getD j ⟨"", 0, 0⟩)) fun j v4 B3 hj e pv => by
      rw [List.length_map] at hj
      have pv : (((r.sort (r.all o)).map DvP).getD j (IsV .non)).P v4 B3 := pv
      rw [getD_map hj] at pv
      have z : (r.sort (r.all o)).getD j ⟨"", 0, 0⟩ = (r.sort (r.all o))[j] := by
        rw [List.getD_eq_getElem?_getD, List.getElem?_eq_getElem hj]
        rfl
      rw [z]
      refine ⟨[some v1, some v2, some (.int (o : Nat)), some v4], rfl, fun H2 Q e q => q, et_is (et_test (ev_notV0 (ev_p (p_callP (ps := [chP K c, DvP ((r.sort (r.all o))[j])]) (q_cons (p_var rfl ((chP K c).m e h2')) (q_cons (p_var rfl pv) q_nil)) ⟨c, _, rfl, rfl⟩)))) ?_, fun _ => p_var rfl pv⟩
      cases fstI c (r.sort (r.all o))[j] <;> simp [optV]
    rw [List.length_map, range_filter (fun u : Dv => decide (fstI c u = none) == false) DvP ⟨"", 0, 0⟩ (r.sort (r.all o))] at this
    exact this
  exact p_tupOf (K := K) (p_lq base) H2 g2.c _ fun v3 B3 H3 g3 hp => q v3 B3 H3 ((((GT.gr (Gr.wide kn.e e1)).trans g2)).trans (GT.gr g3)) hp

end
end K12
namespace K12
open PySem L2 My
/-- a draw's state at d -/
def DSt (H : Hp) (d : Addr) (n : Nat) : Prop := ∃ l c t : Int, H d = some (.dK [(.inr "left", .int l), (.inr "cell", .int c), (.inr "turns", .int t)]) ∧ 0 ≤ l ∧ 0 ≤ t ∧ t ≤ n
/-- all but d as it was -/
def SameBut (d : Addr) (H H' : Hp) : Prop := ∀ b o, b ≠ d → H b = some o → H' b = some o
def spMixed : Sp := fun vs H Q _ => ∃ c k : Int, vs = [.int c, .int k] ∧ 0 ≤ k ∧ k ≤ 2 ^ 40 ∧ ∀ (m : Int) (H' : Hp), 0 ≤ m → m < 2147483647 → Same H H' → Q (.int m) H'
def spDraw : Sp := fun vs H Q _ => ∃ c k : Int, vs = [.int c, .int k] ∧ 0 ≤ k ∧ k ≤ 1000 ∧ ∀ (d : Addr) (H' : Hp), H d = none → DSt H' d 1000000 → Same H H' → Q (.ref d) H'
def spDigit : Sp := fun vs H Q _ => ∃ (d : Addr) (z : Int) (n : Nat), vs = [.ref d, .int z] ∧ 0 < z ∧ z < 1073741824 ∧ DSt H d n ∧ n ≤ 2 ^ 39 ∧ ∀ (m : Int) (H' : Hp), 0 ≤ m → m < z → DSt H' d (n + 4) → SameBut d H H' → Q (.int m) H'

theorem sb_trans {d : Addr} {H H1 H2 : Hp} (a : SameBut d H H1) (b : SameBut d H1 H2) : SameBut d H H2 := fun c o n e => b c o n (a c o n e)
theorem sb_same {d : Addr} {H H1 : Hp} (a : Same H H1) : SameBut d H H1 := fun c o _ e => a c o e
theorem sb_upd {d : Addr} {H : Hp} {o : HO} : SameBut d H (upd H d o) := fun c u n e => by rw [upd_ne n]; exact e
theorem DSt.le {H : Hp} {d : Addr} {n m : Nat} (h : DSt H d n) (k : n ≤ m) : DSt H d m := by
  obtain ⟨l, c, t, a, b, e, f⟩ := h
  exact ⟨l, c, t, a, b, e, by omega⟩
theorem DSt.same {H H' : Hp} {d : Addr} {n : Nat} (h : DSt H d n) (k : Same H H') : DSt H' d n := by
  obtain ⟨l, c, t, a, b⟩ := h
  exact ⟨l, c, t, k _ _ a, b⟩
theorem DSt.ne {H : Hp} {d p : Addr} {n : Nat} (h : DSt H d n) (k : H p = none) : d ≠ p := by
  obtain ⟨l, c, t, a, b⟩ := h
  exact ne_of_none a k
theorem DSt.upd {H : Hp} {d p : Addr} {n : Nat} {o : HO} (h : DSt H d n) (k : d ≠ p) : DSt (upd H p o) d n := by
  obtain ⟨l, c, t, a, b⟩ := h
  exact ⟨l, c, t, by rw [upd_ne k]; exact a, b⟩
theorem sb_new {d p : Addr} {H H1 : Hp} {o : HO} (a : SameBut d H H1) (h : H p = none) : SameBut d H (upd H1 p o) := fun c u n e => by
  rw [upd_ne (ne_of_none e h)]
  exact a c u n e
theorem sb_free {d p : Addr} {H H1 : Hp} (a : SameBut d H H1) (n : p ≠ d) (h : H1 p = none) : H p = none := by
  cases e : H p with
  | none => rfl
  | some o =>
    rw [a p o n e] at h
    cases h

abbrev s_Lmixed : Stmt := topS 67
abbrev N_Lmixed : List Str := ["_law_cell", "_law_k", "_law_number"]
theorem sc_Lmixed : FnScope N_Lmixed ["_law_cell", "_law_k"] (defScope s_Lmixed) := ⟨rfl, rfl, rfl, by decide +kernel, rfl, by decide +kernel, by decide +kernel⟩
abbrev s_Ldraw : Stmt := topS 68
abbrev N_Ldraw : List Str := ["_law_cell", "_law_k"]
theorem sc_Ldraw : FnScope N_Ldraw ["_law_cell", "_law_k"] (defScope s_Ldraw) := ⟨rfl, rfl, rfl, by decide +kernel, rfl, by decide +kernel, by decide +kernel⟩
section
variable {P : Program} {w : World} {K : PySem.W.Frag} {mg : Str → Option Value} {base : Heap}
theorem ok_Lmixed {f : Addr} {fd : FuncData} (F : Fun K "_law_mixed" "_law_mixed" s_Lmixed f fd) : FnOk P w K mg base CX0 1 f fd ["_law_cell", "_law_k"] spMixed := by
  refine F.ok sc_Lmixed (fun vs H Q E h => ?_) (fun cdv A outer s H vs Q E hr h => ?_)
  · obtain ⟨c, k, rfl, _⟩ := h
    rfl
  · obtain ⟨c, k, rfl, hk0, hk, q⟩ := h
    refine ⟨_, (pss_cons (ps_set (i := 2) sc_Lmixed.nd rfl (by first | exact .inl rfl | exact .inr rfl) (pe_op op_add (pe_op op_add (pe_op op_mod (pv 0) (pe_ix ix_list (pe_lst (pa_cons pe_int (pa_cons pe_int (pa_cons pe_int (pa_cons pe_int pa_nil))))) (pe_op op_mod (pv 1) pe_int) (fun _ _ => rfl))) (pe_op op_mul pe_int (pv 1))) pe_int))
    (pss_one (ps_ret (pe_op op_mod (pe_op op_mul (pe_op op_mod (pe_op op_mul (pv 2) (pv 2)) pe_int) pe_int) pe_int)))), ?_⟩
    walk_at "go"
    refine ⟨My.small (by decide), fun p hp => ?_⟩
    walk_at "go"
    obtain ⟨v, hv, e⟩ := My.atIn [V.int 1000000007, V.int 998244353, V.int 2147483629, V.int 1000000009] (k % 4) (by omega) (by show k % 4 < 4; omega)
    obtain ⟨y, rfl, hy⟩ : ∃ y, v = V.int y ∧ 0 < y ∧ y < 2147483647 := by
      simp only [List.mem_cons, List.not_mem_nil, or_false] at hv
      rcases hv with rfl | rfl | rfl | rfl <;> exact ⟨_, rfl, by decide⟩

    refine ⟨p, _, _, _, rfl, rfl, My.lstNew, e, ?_⟩
    have h1 := Int.emod_nonneg c (b := y) (by omega)
    have h2 := Int.emod_lt_of_pos c (b := y) (by omega)
    refine ⟨_, _, rfl, rfl, hy.1, ?_⟩
    walk_at "go"
    exact q _ _ (Int.emod_nonneg _ (by decide)) (Int.emod_lt_of_pos _ (by decide)) (My.new hp)
theorem ok_Ldraw {f : Addr} {fd : FuncData} (F : Fun K "_law_draw" "_law_draw" s_Ldraw f fd) : FnOk P w K mg base CX0 1 f fd ["_law_cell", "_law_k"] spDraw := by
  refine F.ok sc_Ldraw (fun vs H Q E h => ?_) (fun cdv A outer s H vs Q E hr h => ?_)
  · obtain ⟨c, k, rfl, _⟩ := h
    rfl
  · obtain ⟨c, k, rfl, hk0, hk, q⟩ := h
    have hu := hu_of hr
    refine ⟨_, (pss_one (ps_ret (pe_disp (pps_cons pe_str (pe_ifExp (pt_cmpR op_ge (pv 0) (pe_op op_pow pe_int pe_int) (nomark _)) (pv 0) pe_int) (pps_cons pe_str (pv 0) (pps_cons pe_str (pe_op op_mul pe_int (pv 1)) pps_nil))) rfl rfl (by simp) (by decide)))), ?_⟩
    intro p hp
    walk_at "go"
    refine ite2 (fun h => ?_) (fun h => ?_)
    · walk_at "go"
      refine ⟨upd_same, [(.inr "left", .int c), (.inr "cell", .int c), (.inr "turns", .int (1000 * k))], rfl, (by show 3 ≤ 15; decide), ?_⟩
      refine q _ _ hp ⟨c, c, 1000 * k, ?_, ?_, by omega, by omega⟩ ?_
      · rw [upd_same]; rfl
      · have := of_decide_eq_true h
        simp at this
        omega
      · exact My.new2 hp
    · walk_at "go"
      refine ⟨upd_same, [(.inr "left", .int 0), (.inr "cell", .int c), (.inr "turns", .int (1000 * k))], rfl, (by show 3 ≤ 15; decide), ?_⟩
      refine q _ _ hp ⟨0, c, 1000 * k, ?_, by omega, by omega, by omega⟩ ?_
      · rw [upd_same]; rfl
      · exact My.new2 hp
theorem dget_left {H : Hp} {d : Addr} {a b c : V} (h : H d = some (.dK [(.inr "left", a), (.inr "cell", b), (.inr "turns", c)])) : DGet H d (.str "left") (some a) := DGet.k (k := .inr "left") h
theorem dget_cell {H : Hp} {d : Addr} {a b c : V} (h : H d = some (.dK [(.inr "left", a), (.inr "cell", b), (.inr "turns", c)])) : DGet H d (.str "cell") (some b) := DGet.k (k := .inr "cell") h
theorem dget_turns {H : Hp} {d : Addr} {a b c : V} (h : H d = some (.dK [(.inr "left", a), (.inr "cell", b), (.inr "turns", c)])) : DGet H d (.str "turns") (some c) := DGet.k (k := .inr "turns") h
theorem put_left {a b c v : V} : putK [((.inr "left" : Key), a), (.inr "cell", b), (.inr "turns", c)] (.inr "left") v = [(.inr "left", v), (.inr "cell", b), (.inr "turns", c)] := rfl
theorem put_turns {a b c v : V} : putK [((.inr "left" : Key), a), (.inr "cell", b), (.inr "turns", c)] (.inr "turns") v = [(.inr "left", a), (.inr "cell", b), (.inr "turns", v)] := rfl
theorem dput_left {H : Hp} {d : Addr} {a b c v : V} (h : H d = some (.dK [(.inr "left", a), (.inr "cell", b), (.inr "turns", c)])) : DPut H d (.str "left") v (upd H d (.dK [(.inr "left", v), (.inr "cell", b), (.inr "turns", c)])) := DPut.k (k := .inr "left") h (by show 3 < sizeLine; decide)
theorem dput_turns {H : Hp} {d : Addr} {a b c v : V} (h : H d = some (.dK [(.inr "left", a), (.inr "cell", b), (.inr "turns", c)])) : DPut H d (.str "turns") v (upd H d (.dK [(.inr "left", a), (.inr "cell", b), (.inr "turns", v)])) := DPut.k (k := .inr "turns") h (by show 3 < sizeLine; decide)

abbrev s_Ldigit : Stmt := topS 69
abbrev N_Ldigit : List Str := ["_law_state", "_law_many", "_law_j", "_law_found"]
theorem sc_Ldigit : FnScope N_Ldigit ["_law_state", "_law_many"] (defScope s_Ldigit) := ⟨rfl, rfl, rfl, by decide +kernel, rfl, by decide +kernel, by decide +kernel⟩
theorem ok_Ldigit {f fM : Addr} {fd fdM : FuncData} (F : Fun K "_law_digit" "_law_digit" s_Ldigit f fd) (G : FnOk P w K mg base CX0 1 fM fdM ["_law_cell", "_law_k"] spMixed)
    (n_range : mg "range" = none) (m_Lmixed : mg "_law_mixed" = some (.ref fM)) (k_Lmixed : PySem.W.keepIn K (.ref fM) = true) (b_Lmixed : Binds K fdM ["_law_cell", "_law_k"] []) : FnOk P w K mg base CX0 2 f fd ["_law_state", "_law_many"] spDigit := by
  refine F.ok sc_Ldigit (fun vs H Q E h => ?_) (fun cdv A outer s H vs Q E hr h => ?_)
  · obtain ⟨d, z, n, rfl, _⟩ := h
    rfl
  · obtain ⟨d, z, n, rfl, hz, hz2, ⟨l, c, t, hd, hl, ht, htn⟩, hn, q⟩ := h
    have hu := hu_of hr
    refine ⟨_, (pss_cons (ps_if (pt_cmpR op_eq (pe_dget hu (pv 0) pe_str (fun _ _ => rfl)) pe_int (nomark _)) (pss_one (ps_for PassesOwn.never rfl (pi_range1 (by rfl) n_range (pa_cons pe_int pa_nil)) (pg_name (i := 2) sc_Ldigit.nd rfl (by first | exact .inl rfl | exact .inr rfl))
      (pss_cons (ps_dput hu (pv 0) pe_str (pe_op op_add (pe_dget hu (pv 0) pe_str (fun _ _ => rfl)) pe_int) rfl)
    (pss_one (ps_dput hu (pv 0) pe_str (pe_op op_add (pe_op op_mul (pe_dget hu (pv 0) pe_str (fun _ _ => rfl)) pe_int) (pe_call G (hr.mono (by decide)) (by rfl) m_Lmixed k_Lmixed b_Lmixed .nil pass0 (pa_cons (pe_dget hu (pv 0) pe_str (fun _ _ => rfl)) (pa_cons (pe_dget hu (pv 0) pe_str (fun _ _ => rfl)) pa_nil)))) rfl))))) pss_nil)
    (pss_cons (ps_set (i := 3) sc_Ldigit.nd rfl (by first | exact .inl rfl | exact .inr rfl) (pe_op op_mod (pe_dget hu (pv 0) pe_str (fun _ _ => rfl)) (pv 1)))
    (pss_cons (ps_dput hu (pv 0) pe_str (pe_op op_fdiv (pe_dget hu (pv 0) pe_str (fun _ _ => rfl)) (pv 1)) rfl)
    (pss_one (ps_ret (pv 3)))))), ?_⟩
    -- what follows the if, from any state
    have rest : ∀ (x : Option V) (l t : Int) (H1 : Hp), H1 d = some (.dK [(.inr "left", .int l), (.inr "cell", .int c), (.inr "turns", .int t)]) → 0 ≤ l → 0 ≤ t → t ≤ (n + 4 : Nat) → SameBut d H H1 →
      ∀ D : Ends, D.rt = Q → tSeq (tAsg (tOp (rI (fun _ j => 0 < j) fun i j => .int (i % j)) (tDGet (tVar 0) (tC (.str "left"))) (tVar 1)) (gName 3)) (tSeq (sDPut (tVar 0) (tC (.str "left")) (tOp (rI CDiv fun i j => .int (i / j)) (tDGet (tVar 0) (tC (.str "left"))) (tVar 1))) (tRet (tVar 3))) D [some (.ref d), some (.int z), x, none] H1 := by
      intro x l t H1 h1 hl ht htn sb D hD
      walk_at "go"
      refine ⟨_, _, rfl, dget_left h1, ?_⟩
      walk_at "go"
      refine ⟨_, _, rfl, dget_left h1, ?_⟩
      walk_at "go"
      refine ⟨_, _, rfl, dput_left h1, ?_⟩
      walk_at "go"
      show D.rt _ _
      rw [hD]
      exact q _ _ (Int.emod_nonneg _ (by omega)) (Int.emod_lt_of_pos _ hz) ⟨_, _, _, upd_same, Int.ediv_nonneg hl (by omega), ht, htn⟩ (sb_trans sb sb_upd)
    walk_at "go"
    refine ⟨_, _, rfl, dget_left hd, ?_⟩
    walk_at "go"
    refine ite2 (fun h => ?_) (fun h => ?_)
    · walk_at "go"
      refine ⟨by decide, by decide, for_range (lo := 0) (n := 4) (fun i σ H1 => ∃ (x : Option V) (l t : Int), σ = [some (.ref d), some (.int z), x, none] ∧ H1 d = some (.dK [(.inr "left", .int l), (.inr "cell", .int c), (.inr "turns", .int t)]) ∧ 0 ≤ l ∧ 0 ≤ t ∧ t ≤ (n + i : Nat) ∧ SameBut d H H1)
        ⟨none, l, t, rfl, hd, hl, ht, by omega, fun c o n e => e⟩ ?_ ?_⟩
      · rintro i σ H1 hi ⟨x, l1, t1, rfl, h1, hl1, ht1, ht2, sb⟩
        walk_at "go"
        refine ⟨_, _, rfl, dget_turns h1, ?_⟩
        walk_at "go"
        refine ⟨_, _, rfl, dput_turns h1, ?_⟩
        walk_at "go"
        refine ⟨_, _, rfl, dget_left upd_same, ?_⟩
        walk_at "go"
        refine ⟨_, _, rfl, dget_cell upd_same, ?_⟩
        walk_at "go"
        refine ⟨_, _, rfl, dget_turns upd_same, ?_⟩
        refine ⟨c, t1 + 1, rfl, by omega, by omega, fun m H2 hm0 hm1 S => ?_⟩
        walk_at "go"
        refine ⟨_, _, rfl, dput_left (S _ _ upd_same), ?_⟩
        refine ⟨_, _, _, rfl, upd_same, ?_, by omega, by omega, sb_trans sb (sb_trans sb_upd (sb_trans (sb_same S) sb_upd))⟩
        have := Int.mul_nonneg hl1 (by decide : (0 : Int) ≤ 2147483647)
        omega
      · rintro σ H1 ⟨x, l1, t1, rfl, h1, hl1, ht1, ht2, sb⟩
        exact rest x l1 t1 H1 h1 hl1 ht1 ht2 sb _ rfl
    · exact rest none l t H hd hl ht (by omega) (fun c o n e => e) _ rfl
end


end K12
namespace K12
set_option autoImplicit false
open PySem PySem.W L2 Evl My Nd LamX NdefX
theorem DSt.ne0 {H : Hp} {d : Addr} {n : Nat} (h : DSt H d n) : H d ≠ none := by
  obtain ⟨l, c, t, e, _⟩ := h
  rw [e]
  exact fun z => nomatch z
theorem DSt.ex {H H' : Hp} {d : Addr} {n : Nat} (h : DSt H d n) (e : Ex H H') : DSt H' d n := by
  obtain ⟨l, c, t, a, b⟩ := h
  exact ⟨l, c, t, e _ _ a, b⟩
theorem tabs_lst {T : List (Addr × Str)} {p : Addr} {H : Hp} {xs : List V} {o : HO} (t : Tabs T H) (hp : H p = some (.lst xs)) : Tabs T (upd H p o) := by
  have at_ : ∀ {b : Addr} {u : HO}, H b = some u → (∀ ys, u ≠ .lst ys) → wo p H b = some u := fun {b u} h n => by
    rw [wo_ne fun z => by
      subst z
      rw [hp] at h
      exact n xs (Option.some.inj h).symm]
    exact h
  refine Tabs.ext (H := wo p H) (fun q hq => ?_) fun b u e => by
    obtain ⟨n, k⟩ := wo_some e
    rw [upd_ne n]
    exact k
  obtain ⟨ps, h1, h2, h3⟩ := t q hq
  refine ⟨ps, at_ h1 (fun _ z => nomatch z), h2, fun pos cv hc => ?_⟩
  obtain ⟨c, e1, e2⟩ := h3 pos cv hc
  exact ⟨c, e1, at_ e2 (fun _ z => nomatch z)⟩
section
variable {t u : TS} {D : Ends} {σ : L2.St} {H : Hp} {te ta tb : TE} {tx tr : TA} {g : TG} {Q : VK} {r : R2}
theorem b_seq (h : t { D with nx := u D } σ H) : tSeq t u D σ H := h
theorem b_asg (h : te σ H fun x H1 => g x σ H1 D.nx) : tAsg te g D σ H := h
theorem b_op (h : ta σ H fun x H1 => tb σ H1 fun y H2 => r x y H2 Q) : tOp r ta tb σ H Q := h
theorem b_ret (h : te σ H D.rt) : tRet te D σ H := h
theorem b_tup (h : tx σ H fun xs H1 => xs.length ≤ sizeLine ∧ ∀ p, H1 p = none → Q (.ref p) (upd H1 p (.tup xs))) : tTup tx σ H Q := h
theorem b_cons {Q : List V → Hp → Prop} (h : ta σ H fun x H1 => tr σ H1 fun xs H2 => Q (x :: xs) H2) : tCons ta tr σ H Q := h
end
/-- what is known in B of a heap H with tables T and the draws' state at d, of at most n turns -/
structure Kx (T : List (Addr × Str)) (d : Addr) (n : Nat) (B H : Hp) : Prop where
  e : Ex B H
  nt : NoTab B
  t : Tabs T H
  z : B d = none
  s : DSt H d n
/-- what stays: all but the tables and the state -/
structure GX (d : Addr) (B H B' H' : Hp) : Prop where
  a : ∀ b o, b ≠ d → H b = some o → (∀ ps, o ≠ .tbl ps) → H' b = some o
  b : Ex B B'
  f : ∀ x o, x ≠ d → B x = none → H x = some o → (∀ ps, o ≠ .tbl ps) → B' x = none
section
variable {T : List (Addr × Str)} {d : Addr} {n m : Nat} {B H B1 H1 B2 H2 : Hp}
theorem GX.refl : GX d B H B H := ⟨fun _ _ _ e _ => e, Ex.refl B, fun _ _ _ h _ _ => h⟩
theorem GX.trans (g : GX d B H B1 H1) (k : GX d B1 H1 B2 H2) : GX d B H B2 H2 := ⟨fun b o n e z => k.a b o n (g.a b o n e z) z, g.b.trans k.b, fun x o n hb hh z => k.f x o n (g.f x o n hb hh z) (g.a x o n hh z) z⟩
theorem GX.gr (g : Gr B H B1 H1) : GX d B H B1 H1 := ⟨fun b o _ e _ => g.a b o e, g.b, fun x o _ hb hh _ => g.d x hb (by rw [hh]; exact fun z => nomatch z)⟩
theorem GX.gt (g : GT T B H B1 H1) : GX d B H B1 H1 := ⟨fun b o _ e z => g.a b o e z, g.b, fun x o _ hb hh z => g.f x o hb hh z⟩
theorem GX.sb (S : SameBut d H H1) : GX d B H B H1 := ⟨fun b o n e _ => S b o n e, Ex.refl B, fun _ _ _ h _ _ => h⟩
theorem GX.ex (e : Ex H H1) : GX d B H B H1 := ⟨fun b o _ h _ => e b o h, Ex.refl B, fun _ _ _ h _ _ => h⟩
theorem Kx.kn (k : Kx T d n B H) : Kn T B H := ⟨k.e, k.nt, k.t⟩
theorem Kx.gr (k : Kx T d n B H) (g : Gr B H B1 H1) : Kx T d n B1 H1 := ⟨g.c, g.e k.nt, k.t.ext g.a, g.d d k.z k.s.ne0, k.s.ex g.a⟩
theorem Kx.ex (k : Kx T d n B H) (e : Ex H H1) : Kx T d n B H1 := ⟨k.e.trans e, k.nt, k.t.ext e, k.z, k.s.ex e⟩
theorem Kx.gt (k : Kx T d n B H) (g : GT T B H B1 H1) : Kx T d n B1 H1 := by
  obtain ⟨l, c, t, a, b⟩ := k.s
  exact ⟨g.c, g.e k.nt, g.t k.t, g.f d _ k.z a (fun _ z => nomatch z), l, c, t, g.a _ _ a (fun _ z => nomatch z), b⟩
theorem Kx.sb (k : Kx T d n B H) (S : SameBut d H H1) (hd : DSt H1 d m) : Kx T d m B H1 := by
  obtain ⟨l, c, t, a, b⟩ := k.s
  exact ⟨fun b o e => S b o (ne_of_none e k.z) (k.e b o e), k.nt, tabs_but k.t a S, k.z, hd⟩
theorem Kx.le (k : Kx T d n B H) (h : n ≤ m) : Kx T d m B H := ⟨k.e, k.nt, k.t, k.z, k.s.le h⟩
theorem x_digit {i : Nat} {z : Int} {te : TE} {σ : L2.St} {Q : VK} (k : Kx T d n B H) (hi : σ[i]? = some (some (.ref d))) (he : Ev te σ B (.int z)) (z0 : 0 < z) (z1 : z < 1073741824) (hn : n ≤ 2 ^ 39)
    (q : ∀ (m : Int) H', 0 ≤ m → m < z → Kx T d (n + 4) B H' → GX d B H B H' → Q (.int m) H') : tCall spDigit [] E0 (tCons (tVar i) (tCons te tNil)) σ H Q :=
  ⟨.ref d, hi, he H k.e _ fun H2 e2 => ⟨d, z, n, rfl, z0, z1, (k.ex e2).s, hn, fun m H' m0 m1 hd S => q m H' m0 m1 ((k.ex e2).sb S hd) ((GX.ex e2).trans (GX.sb S))⟩⟩
end
/-- the digit's thing of a list -/
theorem pick {ps : List Pr} {xs : List V} {B : Hp} (h : AllP ps xs B) {m : Int} (m0 : 0 ≤ m) (m1 : m < ps.length) : ∃ (i : Nat) (p : Pr) (v : V), i < ps.length ∧ m = (i : Nat) ∧ ps[i]? = some p ∧ atI xs m = some v ∧ p.P v B := by
  obtain ⟨i, rfl⟩ : ∃ i : Nat, m = (i : Nat) := ⟨m.toNat, by omega⟩
  have hi : i < ps.length := by omega
  obtain ⟨v, hv, pv⟩ := h.at (i := i) (p := ps[i]) (List.getElem?_eq_getElem hi)
  exact ⟨i, ps[i], v, hi, rfl, List.getElem?_eq_getElem hi, atI_nat hv, pv⟩
def nm5 : List (List Str) := [["u"], ["v", "u"], ["u", "v"], ["w", "u", "v"], ["v", "w", "u"]]
def ax4 : List (Fin 3) := [0, 1, 1, 2]
def so2 : List Str := ["total", "names"]
theorem nm5_ok : ∀ ns ∈ nm5, 1 ≤ ns.length ∧ ns.length ≤ 3 ∧ ns.Nodup ∧ ∀ x ∈ ns, My.IsNm x := by
  unfold My.IsNm
  decide +kernel
def spRkL (K : PySem.W.Frag) (T : List (Addr × Str)) : Sp := fun vs H Q _ => ∃ (B : Hp) (d : Addr) (n : Nat), vs = [.ref d] ∧ Kx T d n B H ∧ n ≤ 2 ^ 38 ∧ ∀ (v : V) (r : Rk) (B' H' : Hp), Rk.Ok r → GX d B H B' H' → Kx T d (n + 12) B' H' → (RkP K r).P v B' → Q v H'
def Rlk (K : PySem.W.Frag) : List Pr → Pr → Prop := fun ps p => ∃ (r : Rk) (u : Dv), r.Ok ∧ u.Of r ∧ ps = [RkP K r, DvP u] ∧ p = IsD K (.tuple ((r.key u).map .int))
def Rlp (K : PySem.W.Frag) : List Pr → Pr → Prop := fun ps p => ∃ (ls : List Dv) (u : Dv), ls.length ≤ 1000 ∧ ps = [LqP K (ls.map DvP), DvP u] ∧ p = IsV (.bl (ls.any fun v => wayB v u))
section
variable {te tb : TE} {σ : L2.St} {B : Hp} {K : PySem.W.Frag} {r : Rk}
theorem p_rk1 (h : EvP te σ B (RkP K r)) : EvP (tOp (rIxT K) te (tC (.int 1))) σ B (NmP r.ns) := fun H1 a Q k => h H1 a _ fun v B2 H2 g x => by
  obtain ⟨p, vn, va, rfl, hp, hn, ha⟩ := x
  exact ⟨p, _, 1, vn, rfl, rfl, ex_t g.c hp, rfl, k vn B2 H2 g hn⟩
theorem p_rk2 (h : EvP te σ B (RkP K r)) : EvP (tOp (rIxT K) te (tC (.int 2))) σ B (IsD K (.tuple (r.axs.map .str))) := fun H1 a Q k => h H1 a _ fun v B2 H2 g x => by
  obtain ⟨p, vn, va, rfl, hp, hn, ha⟩ := x
  exact ⟨p, _, 2, va, rfl, rfl, ex_t g.c hp, rfl, k va B2 H2 g ha⟩
theorem p_rk0 (h : EvP te σ B (RkP K r)) : Ev (tOp (rIxT K) te (tC (.int 0))) σ B (.str r.srt) := ev_p fun H1 a Q k => h H1 a _ fun v B2 H2 g x => by
  obtain ⟨p, vn, va, rfl, hp, hn, ha⟩ := x
  exact ⟨p, _, 0, _, rfl, rfl, ex_t g.c hp, rfl, k _ B2 H2 g rfl⟩
theorem eqv_nil' (ds : List PyData) : PyData.eqv (.list ds) (.list []) = ds.isEmpty := eqv_nil ds
end
theorem ax_first' (r : Rk) : ∃ x, r.axs[0]? = some x ∧ decide (x = ("x" : Str)) = decide (r.ax ≠ 2) := by
  have : ∀ a : Fin 3, ∃ x, (axsOf a)[0]? = some x ∧ decide (x = ("x" : Str)) = decide (a ≠ 2) := by
    intro a
    match a with
    | 0 => exact ⟨"x", rfl, by decide +kernel⟩
    | 1 => exact ⟨"x", rfl, by decide +kernel⟩
    | 2 => exact ⟨"y", rfl, by decide +kernel⟩
  exact this r.ax
section
variable {P : Program} {w : World} {K : PySem.W.Frag} {mg : Str → Option Value} {base : Heap} {T : List (Addr × Str)}

/-- _law_ranking -/
abbrev s_Lranking : Stmt := topS 70
abbrev N_Lranking : List Str := ["_law_state", "_law_names", "_law_axes"]
theorem sc_Lranking : FnScope N_Lranking ["_law_state"] (defScope s_Lranking) := ⟨rfl, rfl, rfl, by decide +kernel, rfl, by decide +kernel, by decide +kernel⟩
theorem ok_Lranking {f : Addr} {fd : FuncData} (F : Fun K "_law_ranking" "_law_ranking" s_Lranking f fd) {f_Ldigit : Addr} {d_Ldigit : FuncData} (c_Ldigit : Cal P w K mg base "_law_digit" 2 ["_law_state", "_law_many"] spDigit f_Ldigit d_Ldigit)   :
    FnOk P w K mg base CX0 3 f fd ["_law_state"] (spRkL K T) := by
  refine F.ok sc_Lranking (fun vs H Q E h => by obtain ⟨B, d, n, rfl, _⟩ := h; rfl) (fun cdv A outer s H vs Q E hr h => ?_)
  obtain ⟨B, d, n, rfl, k, hn, q⟩ := h
  have hu := hu_of hr
  refine ⟨_, (pss_cons (ps_set (i := 1) sc_Lranking.nd rfl (by first | exact .inl rfl | exact .inr rfl) (pe_ix ix_list (pe_lst (pa_cons (pe_tupF (pa_cons pe_str pa_nil)) (pa_cons (pe_tupF (pa_cons pe_str (pa_cons pe_str pa_nil))) (pa_cons (pe_tupF (pa_cons pe_str (pa_cons pe_str pa_nil))) (pa_cons (pe_tupF (pa_cons pe_str (pa_cons pe_str (pa_cons pe_str pa_nil)))) (pa_cons (pe_tupF (pa_cons pe_str (pa_cons pe_str (pa_cons pe_str pa_nil)))) pa_nil)))))) (pe_call c_Ldigit.G (hr.mono (by decide)) (by rfl) c_Ldigit.m c_Ldigit.k c_Ldigit.b .nil pass0 (pa_cons (pv 0) (pa_cons pe_int pa_nil))) (fun _ _ => rfl)))
    (pss_cons (ps_set (i := 2) sc_Lranking.nd rfl (by first | exact .inl rfl | exact .inr rfl) (pe_ix ix_list (pe_lst (pa_cons (pe_tup (pa_cons pe_str pa_nil)) (pa_cons (pe_tup (pa_cons pe_str (pa_cons pe_str pa_nil))) (pa_cons (pe_tup (pa_cons pe_str (pa_cons pe_str pa_nil))) (pa_cons (pe_tup (pa_cons pe_str (pa_cons pe_str pa_nil))) pa_nil))))) (pe_call c_Ldigit.G (hr.mono (by decide)) (by rfl) c_Ldigit.m c_Ldigit.k c_Ldigit.b .nil pass0 (pa_cons (pv 0) (pa_cons pe_int pa_nil))) (fun _ _ => rfl)))
    (pss_one (ps_ret (pe_tup (pa_cons (pe_ix ix_list (pe_lst (pa_cons pe_str (pa_cons pe_str pa_nil))) (pe_call c_Ldigit.G (hr.mono (by decide)) (by rfl) c_Ldigit.m c_Ldigit.k c_Ldigit.b .nil pass0 (pa_cons (pv 0) (pa_cons pe_int pa_nil))) (fun _ _ => rfl)) (pa_cons (pv 1) (pa_cons (pv 2) pa_nil)))))))), ?_⟩
  have q1 : EvPs _ [some (V.ref d), none, none] B (nm5.map NmP) := q_cons (p_tupF (ns := ["u"]) (q_cons p_c q_nil) (by decide)) (q_cons (p_tupF (ns := ["v", "u"]) (q_cons p_c (q_cons p_c q_nil)) (by decide)) (q_cons (p_tupF (ns := ["u", "v"]) (q_cons p_c (q_cons p_c q_nil)) (by decide)) (q_cons (p_tupF (ns := ["w", "u", "v"]) (q_cons p_c (q_cons p_c (q_cons p_c q_nil))) (by decide)) (q_cons (p_tupF (ns := ["v", "w", "u"]) (q_cons p_c (q_cons p_c (q_cons p_c q_nil))) (by decide)) q_nil))))
  refine b_seq (b_asg (b_op ?_))
  refine p_lst q1 (by decide) H k.e _ fun v1 B1 H1 g1 hv1 => ?_
  obtain ⟨p1, xs1, rfl, hp1, al1⟩ := hv1
  refine x_digit (k.gr g1) rfl ev_c (by decide) (by decide) (by omega) fun m1 H2 a1 b1 k2 x2 => ?_
  obtain ⟨i1, pr1, w1, hi1, rfl, hpr1, hat1, hw1⟩ := pick al1 a1 (by exact b1)
  refine ⟨p1, xs1, _, w1, rfl, rfl, sq_of (k2.e _ _ hp1), hat1, ?_⟩
  rw [List.getElem?_map] at hpr1
  obtain ⟨ns, hns, rfl⟩ := Option.map_eq_some_iff.mp hpr1
  have hok := nm5_ok ns (List.mem_of_getElem? hns)
  have x12 := (GX.gr g1 (d := d)).trans x2
  clear hpr1 hat1 hp1 al1 q1
  dsimp only
  refine b_seq (b_asg (b_op ?_))
  have q2 : EvPs _ [some (V.ref d), some w1, none] B1 (ax4.map fun a => IsD K (.tuple ((axsOf a).map .str))) := q_cons (ed_tup (K := K) (ds := [.str "x"]) (q_cons (ed_st ev_c) q_nil) (by decide)) (q_cons (ed_tup (K := K) (ds := [.str "x", .str "y"]) (q_cons (ed_st ev_c) (q_cons (ed_st ev_c) q_nil)) (by decide)) (q_cons (ed_tup (K := K) (ds := [.str "x", .str "y"]) (q_cons (ed_st ev_c) (q_cons (ed_st ev_c) q_nil)) (by decide)) (q_cons (ed_tup (K := K) (ds := [.str "y", .str "x"]) (q_cons (ed_st ev_c) (q_cons (ed_st ev_c) q_nil)) (by decide)) q_nil)))
  refine p_lst q2 (by rw [List.length_map]; decide) H2 k2.e _ fun v3 B3 H3 g3 hv3 => ?_
  obtain ⟨p3, xs3, rfl, hp3, al3⟩ := hv3
  refine x_digit (k2.gr g3) rfl ev_c (by decide) (by decide) (by omega) fun m3 H4 a3 b3 k4 x4 => ?_
  obtain ⟨i3, pr3, w3, hi3, rfl, hpr3, hat3, hw3⟩ := pick al3 a3 (by exact b3)
  refine ⟨p3, xs3, _, w3, rfl, rfl, sq_of (k4.e _ _ hp3), hat3, ?_⟩
  rw [List.getElem?_map] at hpr3
  obtain ⟨ax, hax, rfl⟩ := Option.map_eq_some_iff.mp hpr3
  have x14 := x12.trans ((GX.gr g3).trans x4)
  have hw1' := (NmP ns).m g3.b hw1
  clear hpr3 hat3 hp3 al3 q2
  dsimp only
  refine b_ret (b_tup (b_cons (b_op ?_)))
  have q3 : EvPs _ [some (V.ref d), some w1, some w3] B3 (so2.map fun x => IsV (.str x)) := q_cons p_c (q_cons p_c q_nil)
  refine p_lst q3 (by decide) H4 k4.e _ fun v5 B5 H5 g5 hv5 => ?_
  obtain ⟨p5, xs5, rfl, hp5, al5⟩ := hv5
  refine x_digit (k4.gr g5) rfl ev_c (by decide) (by decide) (by omega) fun m5 H6 a5 b5 k6 x6 => ?_
  obtain ⟨i5, pr5, w5, hi5, rfl, hpr5, hat5, hw5⟩ := pick al5 a5 (by exact b5)
  refine ⟨p5, xs5, _, w5, rfl, rfl, sq_of (k6.e _ _ hp5), hat5, ?_⟩
  rw [List.getElem?_map] at hpr5
  obtain ⟨so, hso, rfl⟩ := Option.map_eq_some_iff.mp hpr5
  obtain rfl : w5 = .str so := hw5
  refine ⟨_, rfl, _, rfl, by show 3 ≤ sizeLine; decide, fun a ha => ?_⟩
  have hs : so = (Rk.mk (decide (so = ("total" : Str))) ns ax).srt := by
    unfold Rk.srt
    have : ∀ x ∈ so2, x = if decide (x = ("total" : Str)) = true then ("total" : Str) else ("names" : Str) := by decide +kernel
    exact this so (List.mem_of_getElem? hso)
  have gn := Gr.new (B := B5) (.tup [.str so, w1, w3]) k6.e ha
  exact q _ ⟨decide (so = ("total" : Str)), ns, ax⟩ _ _ ⟨hok.1, hok.2.1, hok.2.2.1, hok.2.2.2⟩ (x14.trans ((GX.gr g5).trans (x6.trans (GX.gr gn)))) (k6.gr gn) ⟨a, w1, w3, rfl, by rw [← hs]; exact st_of upd_same, (NmP ns).m (g5.b.trans gn.b) hw1', dp_m (g5.b.trans gn.b) hw3⟩

/-- _law_key -/
abbrev s_Lkey : Stmt := topS 71
abbrev N_Lkey : List Str := ["_law_ranking_here", "_law_derivative", "_law_name", "_law_i", "_law_j", "_law_place", "_law_first"]
theorem sc_Lkey : FnScope N_Lkey ["_law_ranking_here", "_law_derivative"] (defScope s_Lkey) := ⟨rfl, rfl, rfl, by decide +kernel, rfl, by decide +kernel, by decide +kernel⟩
theorem ok_Lkey {f : Addr} {fd : FuncData} (F : Fun K "_law_key" "_law_key" s_Lkey f fd)    :
    FnOk P w K mg base CX0 1 f fd ["_law_ranking_here", "_law_derivative"] (spP (Rlk K)) := by
  refine F.ok sc_Lkey (spP_len (by rintro _ _ ⟨r, u, _, _, rfl, rfl⟩; rfl)) (fun cdv A outer s H vs Q E hr h => ?_)
  obtain ⟨B, ps, p, eB, hv, ⟨r, u, hok, hu0, rfl, rfl⟩, q⟩ := h
  obtain ⟨v0, v1, rfl, h0, h1⟩ := all2 hv
  have hu := hu_of hr
  refine ⟨_, (pss_cons (ps_asg (pv 1) (pg_tup (by rfl) (pgs_cons (pg_name (i := 2) sc_Lkey.nd rfl (by first | exact .inl rfl | exact .inr rfl)) (pgs_cons (pg_name (i := 3) sc_Lkey.nd rfl (by first | exact .inl rfl | exact .inr rfl)) (pgs_cons (pg_name (i := 4) sc_Lkey.nd rfl (by first | exact .inl rfl | exact .inr rfl)) pgs_nil)))))
    (pss_cons (ps_set (i := 5) sc_Lkey.nd rfl (by first | exact .inl rfl | exact .inr rfl) (pe_op op_sub pe_int (pe_tupIndex (pe_ix ix_tup (pv 0) pe_int (fun _ _ => rfl)) (pv 2))))
    (pss_cons (ps_set (i := 6) sc_Lkey.nd rfl (by first | exact .inl rfl | exact .inr rfl) (pe_ifExp (pt_cmpR op_eq (pe_ix ix_tup (pe_ix ix_tup (pv 0) pe_int (fun _ _ => rfl)) pe_int (fun _ _ => rfl)) pe_str (nomark _)) (pv 3) (pv 4)))
    (pss_one (ps_ret (pe_ifExp (pt_cmpR op_eq (pe_ix ix_tup (pv 0) pe_int (fun _ _ => rfl)) pe_str (nomark _)) (pe_tup (pa_cons (pe_op op_add (pv 3) (pv 4)) (pa_cons (pv 6) (pa_cons (pv 5) pa_nil)))) (pe_tup (pa_cons (pv 5) (pa_cons (pe_op op_add (pv 3) (pv 4)) (pa_cons (pv 6) pa_nil)))))))))), ?_⟩
  refine ps_unD (K := K) eB (p_var rfl h1) fun B2 H2 g2 => ?_
  dsimp only
  have h0' := (RkP K r).m g2.b h0
  refine ps_asgN (fun x => [some v0, some v1, some (.str u.n), some (.int u.i), some (.int u.j), some x, none]) g2.c (p_ev (v := .int (r.ahead u)) (ev_is (ev_op ev_c (ev_tupIx (p_rk1 (p_var rfl h0')) (ev_var rfl) hu0.n) rv_I0) (by unfold Rk.ahead; congr 1; omega))) (fun x B3 H3 g3 hx => ?_) (fun _ => rfl)
  obtain rfl : x = .int (r.ahead u) := hx
  dsimp only
  have h0'' := (RkP K r).m g3.b h0'
  obtain ⟨ax0, hax, hdec⟩ := ax_first' r
  have axD : atI (r.axs.map PyData.str) 0 = some (.str ax0) := atI_nat (j := 0) (by rw [List.getElem?_map, hax]; rfl)
  refine ps_asgN (fun x => [some v0, some v1, some (.str u.n), some (.int u.i), some (.int u.j), some (.int (r.ahead u)), some x]) g3.c (p_ev (v := .int (r.first u)) (ev_if (b := decide (r.ax ≠ 2)) (et_is (et_test (ev_op (ev_st (ed_ixT (p_rk2 (p_var rfl h0'')) ev_c axD)) ev_c (rv_eq rfl))) (by rw [← hdec]; simp)) (fun hb => ev_is (ev_var rfl) ?_) fun hb => ev_is (ev_var rfl) ?_)) (fun x B4 H4 g4 hx => ?_) (fun _ => rfl)
  · unfold Rk.first
    rw [if_neg (of_decide_eq_true hb)]
  · unfold Rk.first
    rw [if_pos (Decidable.not_not.mp (of_decide_eq_false hb))]
  obtain rfl : x = .int (r.first u) := hx
  dsimp only
  have h03 := (RkP K r).m g4.b h0''
  refine My.ps_ret g4.c (?_ : EvP _ _ B4 (IsD K (.tuple ((r.key u).map .int)))) fun v B5 H5 g5 hp => q v B5 H5 (((g2.trans g3).trans g4).trans g5) hp
  refine ed_if (b := r.tot) (et_is (et_test (ev_op (p_rk0 (p_var rfl h03)) ev_c (rv_eq rfl))) (by unfold Rk.srt; cases r.tot <;> decide +kernel)) (fun hb => ?_) fun hb => ?_
  · have e : r.key u = [u.i + u.j, r.first u, r.ahead u] := by
      unfold Rk.key
      rw [if_pos hb]
    rw [e]
    exact ed_tup (K := K) (ds := [.int (u.i + u.j), .int (r.first u), .int (r.ahead u)]) (q_cons (ed_in (ev_op (ev_var rfl) (ev_var rfl) rv_I0)) (q_cons (ed_in (ev_var rfl)) (q_cons (ed_in (ev_var rfl)) q_nil))) (by show 3 ≤ 100000; decide)
  · have e : r.key u = [r.ahead u, u.i + u.j, r.first u] := by
      unfold Rk.key
      rw [hb, if_neg Bool.false_ne_true]
    rw [e]
    exact ed_tup (K := K) (ds := [.int (r.ahead u), .int (u.i + u.j), .int (r.first u)]) (q_cons (ed_in (ev_var rfl)) (q_cons (ed_in (ev_op (ev_var rfl) (ev_var rfl) rv_I0)) (q_cons (ed_in (ev_var rfl)) q_nil))) (by show 3 ≤ 100000; decide)

/-- _law_is_principal -/
abbrev s_Lis_principal : Stmt := topS 73
abbrev N_Lis_principal : List Str := ["_law_leaders_here", "_law_derivative", "_law_name", "_law_i", "_law_j", "_law_own", "_law_right", "_law_up"]
theorem sc_Lis_principal : FnScope N_Lis_principal ["_law_leaders_here", "_law_derivative"] (defScope s_Lis_principal) := ⟨rfl, rfl, rfl, by decide +kernel, rfl, by decide +kernel, by decide +kernel⟩
theorem ok_Lis_principal {f : Addr} {fd : FuncData} (F : Fun K "_law_is_principal" "_law_is_principal" s_Lis_principal f fd)    :
    FnOk P w K mg base CX0 1 f fd ["_law_leaders_here", "_law_derivative"] (spP (Rlp K)) := by
  refine F.ok sc_Lis_principal (spP_len (by rintro _ _ ⟨ls, u, _, rfl, rfl⟩; rfl)) (fun cdv A outer s H vs Q E hr h => ?_)
  obtain ⟨B, ps, p, eB, hv, ⟨ls, u, hl, rfl, rfl⟩, q⟩ := h
  obtain ⟨v0, v1, rfl, h0, h1⟩ := all2 hv
  have hu := hu_of hr
  refine ⟨_, (pss_cons (ps_asg (pv 1) (pg_tup (by rfl) (pgs_cons (pg_name (i := 2) sc_Lis_principal.nd rfl (by first | exact .inl rfl | exact .inr rfl)) (pgs_cons (pg_name (i := 3) sc_Lis_principal.nd rfl (by first | exact .inl rfl | exact .inr rfl)) (pgs_cons (pg_name (i := 4) sc_Lis_principal.nd rfl (by first | exact .inl rfl | exact .inr rfl)) pgs_nil)))))
    (pss_one (ps_ret (pe_cmpR (op_neD hr.units) (pe_lc (own := [("_law_own", 5), ("_law_right", 6), ("_law_up", 7)]) (g := (gTup K 3 (gCons (gName 5) (gCons (gName 6) (gCons (gName 7) gNil))))) rfl sc_Lis_principal.nd (pi_list (pv 0)) (blkOk_by (N := N_Lis_principal) (sc := defScope s_Lis_principal) (by decide +kernel)) (fun _ _ _ _ _ => (pg_tup (by rfl) (pgs_cons (pg_name (i := 5) sc_Lis_principal.nd rfl (Or.inl rfl)) (pgs_cons (pg_name (i := 6) sc_Lis_principal.nd rfl (Or.inl rfl)) (pgs_cons (pg_name (i := 7) sc_Lis_principal.nd rfl (Or.inl rfl)) pgs_nil))))) (fun _ _ _ _ _ => (pts_one (PW.pt (pw_and (pt_cmpR op_eq (pv 5) (pv 2) (nomark _)) (pw_and (pt_cmpR op_le (pv 6) (pv 3) (nomark _)) (pw_and1 (pt_cmpR op_le (pv 7) (pv 4) (nomark _)))))))) (fun _ _ _ _ _ => pe_int)) (pe_lst pa_nil) (nomark _))))), ?_⟩
  refine ps_unD (K := K) eB (p_var rfl h1) fun B2 H2 g2 => ?_
  dsimp only
  have h0' := (LqP K (ls.map DvP)).m g2.b h0
  have base := p_lcS (tt := tAnd (tTest (tOp rEq (tVar 5) (tVar 2))) (tAnd (tTest (tOp (rI0 fun i j => .bl (decide (i ≤ j))) (tVar 6) (tVar 3))) (tTest (tOp (rI0 fun i j => .bl (decide (i ≤ j))) (tVar 7) (tVar 4))))) (te := tC (.int 1)) (g := gTup K 3 (gCons (gName 5) (gCons (gName 6) (gCons (gName 7) gNil)))) (vs := [5, 6, 7]) (σ := [some v0, some v1, some (.str u.n), some (.int u.i), some (.int u.j), none, none, none]) (src_lq (K := K) (te := tVar 0) (p_var rfl h0')) (by rw [List.length_map]; omega) (fun j => wayB (ls.getD j u) u) (fun _ => IsD K (.int 1)) fun j v4 B3 hj e pv => by
    rw [List.length_map] at hj
    have pv : ((ls.map DvP).getD j (IsV .non)).P v4 B3 := pv
    rw [getD_map hj] at pv
    have z : ls.getD j u = ls[j] := by
      rw [List.getD_eq_getElem?_getD, List.getElem?_eq_getElem hj]
      rfl
    rw [z]
    obtain ⟨a, rfl, ha⟩ := pv
    exact ⟨[some v0, some v1, some (.str u.n), some (.int u.i), some (.int u.j), some (.str ls[j].n), some (.int ls[j].i), some (.int ls[j].j)], rfl, fun H2 Q e q => ⟨a, _, rfl, st_of (e _ _ ha), rfl, _, _, rfl, _, _, rfl, _, _, rfl, rfl, q⟩, et_is (et_and (et_test (ev_op (ev_var rfl) (ev_var rfl) (rv_eq rfl))) fun _ => et_and (et_test (ev_op (ev_var rfl) (ev_var rfl) rv_I0)) fun _ => et_test (ev_op (ev_var rfl) (ev_var rfl) rv_I0)) (by unfold wayB; simp), fun _ => ed_in ev_c⟩
  rw [List.length_map, range_filter (fun v : Dv => wayB v u) (fun _ => IsD K (.int 1)) u ls] at base
  have lst : EvP _ _ B2 (IsD K (.list ((ls.filter fun v => wayB v u).map fun _ => PyData.int 1))) := d_lst (K := K) (by rw [List.map_map]; exact base)
  have shp : ∀ l : List Dv, SeqAt.shaped (.list (l.map fun _ => PyData.int 1)) = true := fun l => by
    have : ∀ l : List Dv, PyData.canLayAll0 (l.map fun _ => PyData.int 1) = true ∧ PyData.depthAll (l.map fun _ => PyData.int 1) = 0 := by
      intro l
      induction l with
      | nil => exact ⟨rfl, rfl⟩
      | cons x l ih =>
        refine ⟨?_, ?_⟩
        · simp only [List.map_cons, PyData.canLayAll0, PyData.canLay0, Bool.true_and]
          exact ih.1
        · simp only [List.map_cons, PyData.depthAll, PyData.depth]
          rw [ih.2]
          rfl
    have := this l
    simp [SeqAt.shaped, PyData.canLay0, PyData.depth, this.1, this.2]
  refine My.ps_ret g2.c (p_ev (ev_neD lst (ed_lst (K := K) (ds := []) q_nil (by decide)) (shp _) rfl)) fun v B5 H5 g5 hp => q v B5 H5 (g2.trans g5) ?_
  rw [eqv_nil] at hp
  have : (!((ls.filter fun v => wayB v u).map fun _ => PyData.int 1).isEmpty) = ls.any fun v => wayB v u := by
    rw [List.isEmpty_map]
    rw [Bool.eq_iff_iff, Bool.not_eq_true', List.any_eq_true, List.isEmpty_eq_false_iff_exists_mem]
    constructor
    · rintro ⟨x, hx⟩
      exact ⟨x, (List.mem_filter.mp hx).1, (List.mem_filter.mp hx).2⟩
    · rintro ⟨x, hx, hw⟩
      exact ⟨x, List.mem_filter.mpr ⟨hx, hw⟩⟩
  rw [← this]
  exact hp

end
end K12
namespace K12
set_option autoImplicit false
open PySem PySem.W L2 Evl My Nd LamX NdefX
/-- sorted(x, key=..) of derivatives, by their keys -/
theorem srt_use {K : PySem.W.Frag} {T : List (Addr × Str)} {tl : TE} {N : List Str} {js : List Nat} {i : Nat} {σ : L2.St} {B H : Hp} {r : Rk} {us : List Dv} {vd : V} {Q : VK} (kn : Kn T B H) (hi : σ[i]? = some (some vd)) (hL : (LqP K (us.map DvP)).P vd B)
    (key : ∀ (H2 : Hp) (x : V) (u : Dv), Ex B H2 → u ∈ us → (DvP u).P x H2 → EvP tl (startF N [x] (js.map (slotAt σ))) H2 (IsD K (r.keyD u))) (q : ∀ v B' H', GT T B H B' H' → (LsP ((r.sort us).map DvP)).P v B' → Q v H') : tSortK T K tl N js (tVar i) σ H Q := by
  refine ⟨vd, hi, kn.t, fun H2 eN T2 => ?_⟩
  have k2 := kn.next eN T2
  obtain ⟨l, xs, rfl, hl, hx⟩ := hL
  refine .inl ⟨l, xs, rfl, ex_l k2.e hl, us.map r.keyD, by rw [List.length_map, hx.len, List.length_map], keyD_alike r us, keyD_sortable r us, keyD_depth r us, fun i x k e1 e2 => ?_, fun H3 a e3 na => ?_⟩
  · obtain ⟨u, hu, px⟩ := (hx.m k2.e).ixD DvP e1
    rw [List.getElem?_map, hu] at e2
    obtain rfl : r.keyD u = k := Option.some.inj e2
    exact key H2 x u k2.e (List.mem_of_getElem? hu) px
  · have eB3 : Ex B H3 := k2.e.trans e3
    exact q _ (upd B a (.lst (byKey xs (us.map r.keyD)))) _ ((GT.xn kn eN T2).trans (GT.gr ((Gr.wide k2.e e3).trans (Gr.new _ eB3 na)))) ⟨a, _, rfl, upd_same, (byKey_all r hx).m (Ex.new (fresh_back eB3 na))⟩
theorem mem_line {r : Rk} {n : Str} {t : Nat} {u : Dv} (h : u ∈ r.line n t) : u.n = n ∧ u.i + u.j = t := by
  unfold Rk.line at h
  obtain ⟨j, _, rfl⟩ := List.mem_map.mp h
  exact ⟨rfl, by show (t : Int) - j + j = t; omega⟩
theorem line_nd (r : Rk) (n : Str) (t : Nat) : (r.line n t).Nodup := by
  unfold Rk.line
  rw [List.Nodup, List.pairwise_map]
  refine List.Pairwise.imp (fun {a b} h e => h ?_) List.nodup_range
  injection e with _ _ e
  omega
theorem lines_nd (r : Rk) (o : Nat) (h : r.ns.Nodup) : (r.lines o r.ns.length).Nodup := by
  unfold Rk.lines
  rw [List.take_length]
  refine nd_flat h (fun n _ => ?_) fun a _ b _ x hx hy => ?_
  · unfold Rk.linesN
    refine nd_flat List.nodup_range (fun t _ => line_nd r n t) fun a _ b _ x hx hy => ?_
    have := (mem_line hx).2
    have := (mem_line hy).2
    omega
  · unfold Rk.linesN at hx hy
    obtain ⟨_, _, hx⟩ := List.mem_flatMap.mp hx
    obtain ⟨_, _, hy⟩ := List.mem_flatMap.mp hy
    rw [← (mem_line hx).1, (mem_line hy).1]
theorem lines_of {r : Rk} {o : Nat} {u : Dv} (h : u ∈ r.lines o r.ns.length) : u.Of r := Rk.mem_all ((r.mem_lines o u).mp h)
theorem sort_lines (r : Rk) (o : Nat) (h : r.ns.Nodup) : r.sort (r.lines o r.ns.length) = r.sort (r.all o) :=
  r.sort_one (fun u hu => (lines_of hu).n) ((List.perm_ext_iff_of_nodup (lines_nd r o h) (Rk.all_nd o h)).mpr fun v => r.mem_lines o v)
/-- leaders under way: of the ranking, none derived of another -/
structure LdI (r : Rk) (hi : Nat) (us : List Dv) : Prop where
  of : ∀ u ∈ us, Dv.Of u r ∧ u.i + u.j ≤ hi
  ap : us.Pairwise fun u v => wayB u v = false ∧ wayB v u = false
theorem way_refl (u : Dv) : wayB u u = true := by simp [wayB]
theorem LdI.nd {r : Rk} {hi : Nat} {us : List Dv} (h : LdI r hi us) : us.Nodup := by
  refine List.Pairwise.imp (fun {a b} k e => ?_) h.ap
  subst e
  rw [way_refl] at k
  exact absurd k.1 (by decide)
theorem LdI.add {r : Rk} {hi : Nat} {us : List Dv} {u : Dv} (h : LdI r hi us) (hu : Dv.Of u r ∧ u.i + u.j ≤ hi) (hn : (us.any fun v => wayB v u) = false) : LdI r hi ((us.filter fun v => !wayB u v) ++ [u]) := by
  refine ⟨fun v hv => ?_, ?_⟩
  · rcases List.mem_append.mp hv with hv | hv
    · exact h.of v (List.mem_filter.mp hv).1
    · rw [List.mem_singleton.mp hv]
      exact hu
  · rw [List.pairwise_append]
    refine ⟨h.ap.sublist List.filter_sublist, List.pairwise_singleton _ _, fun v hv x hx => ?_⟩
    rw [List.mem_singleton.mp hx]
    obtain ⟨h1, h2⟩ := List.mem_filter.mp hv
    have := List.any_eq_false.mp hn v h1
    exact ⟨by simpa using this, by simpa using h2⟩
/-- leaders: rising, none derived of another -/
structure LdOk (r : Rk) (hi : Nat) (us : List Dv) : Prop where
  of : ∀ u ∈ us, Dv.Of u r ∧ u.i + u.j ≤ hi
  up : us.Pairwise r.lt
  ap : ∀ u ∈ us, ∀ v ∈ us, wayB u v = true → u = v
theorem LdI.ok {r : Rk} {hi : Nat} {us : List Dv} (h : LdI r hi us) : LdOk r hi (r.sort us) := by
  have hm : ∀ u, u ∈ r.sort us ↔ u ∈ us := fun u => (r.sort_perm us).mem_iff
  refine ⟨fun u hu => h.of u ((hm u).mp hu), r.sort_lt (fun u hu => (h.of u hu).1.n) h.nd, fun u hu v hv e => ?_⟩
  have hu := (hm u).mp hu
  have hv := (hm v).mp hv
  by_cases k : u = v
  · exact k
  · exfalso
    have : ∀ (us : List Dv), (us.Pairwise fun u v => wayB u v = false ∧ wayB v u = false) → u ∈ us → v ∈ us → wayB u v = false := by
      intro us
      induction us with
      | nil => intro _ h; exact absurd h List.not_mem_nil
      | cons x us ih =>
        intro hp h1 h2
        rw [List.pairwise_cons] at hp
        rcases List.mem_cons.mp h1 with e1 | f1 <;> rcases List.mem_cons.mp h2 with e2 | f2
        · exact absurd (e1.trans e2.symm) k
        · rw [e1]
          exact (hp.1 _ f2).1
        · rw [e2]
          exact (hp.1 _ f1).2
        · exact ih hp.2 f1 f2
    have := this us h.ap hu hv
    rw [e] at this
    cases this
def spLd (K : PySem.W.Frag) (T : List (Addr × Str)) : Sp := fun vs H Q _ => ∃ (B : Hp) (d : Addr) (n : Nat) (r : Rk) (vr : V) (hi : Nat), vs = [.ref d, vr, .int (hi : Nat)] ∧ Rk.Ok r ∧ hi ≤ 20 ∧ (RkP K r).P vr B ∧ Kx T d n B H ∧ n ≤ 2 ^ 37 ∧
  ∀ (v : V) (us : List Dv) (B' H' : Hp), LdOk r hi us → us.length ≤ 12 → GX d B H B' H' → Kx T d (n + 120) B' H' → (LsP (us.map DvP)).P v B' → Q v H'
section
variable {t u : TS} {D : Ends} {σ : L2.St} {H : Hp} {tc ta tb : TE} {tt : TT} {g : TG} {Q : VK}
theorem b_forD (h : tc σ H fun v H1 => ∃ j : Int, [v] = [V.int j] ∧ -(2 ^ 62) ≤ j ∧ j < 2 ^ 62 ∧ ∃ W : Nat → Nat → L2.St → Hp → Prop, (∃ m, W 0 m σ H1) ∧ ∀ i m σ H, W i m σ H →
      ((Itr 0 j.toNat).stop i H ∧ D.nx σ H) ∨ ((Itr 0 j.toNat).go i H ∧ ∃ N : L2.St → Hp → Prop, (∀ σ' H', N σ' H' → ∃ m', m' < m ∧ W (i + 1) m' σ' H') ∧ ∀ x H', (Itr 0 j.toNat).yld i H x H' → g x σ H' fun σ2 H2 => t { D with nx := N, ct := N, bk := D.nx } σ2 H2)) : tFor (iRng1 (tCons tc tNil)) g t D σ H := h
theorem b_if {b : Bool} {B : Hp} (h : EvT tt σ B b) (e : Ex B H) (h1 : b = true → ∀ H1, Ex H H1 → ta σ H1 Q) (h2 : b = false → ∀ H1, Ex H H1 → tb σ H1 Q) : tIf tt ta tb σ H Q := h H e _ fun H1 e1 => by
  cases b with
  | true => exact h1 rfl H1 e1
  | false => exact h2 rfl H1 e1
end
section
variable {P : Program} {w : World} {K : PySem.W.Frag} {mg : Str → Option Value} {base : Heap} {T : List (Addr × Str)}
theorem ev_two {σ : L2.St} {B : Hp} {r : Rk} {v : V} {i : Nat} (hi : σ[i]? = some (some v)) (h : (RkP K r).P v B) : EvT (tTest (tOp rEq (tCB (rLenS K) (tCons (tOp (rIxT K) (tVar i) (tC (.int 2))) tNil)) (tC (.int 2)))) σ B (decide (r.axs.length = 2)) :=
  et_is (et_test (ev_op (ev_lenD (K := K) (p_rk2 (p_var hi h)) (.inl rfl)) ev_c (rv_eq rfl))) (by
    rw [List.length_map]
    by_cases e : r.axs.length = 2
    · rw [e]; rfl
    · rw [decide_eq_false e, decide_eq_false_iff_not]
      intro z
      injection z with z
      omega)

/-- _law_all -/
abbrev s_Lall : Stmt := topS 72
abbrev N_Lall : List Str := ["_law_ranking_here", "_law_high", "_law_found", "_law_name", "_law_total", "_law_j"]
theorem sc_Lall : FnScope N_Lall ["_law_ranking_here", "_law_high"] (defScope s_Lall) := ⟨rfl, rfl, rfl, by decide +kernel, rfl, by decide +kernel, by decide +kernel⟩
theorem ok_Lall {f c tb : Addr} {fd : FuncData} (F : FunC K "_law_all" "_law_all" s_Lall c f fd) {f_Lkey : Addr} {d_Lkey : FuncData} (c_Lkey : Cal P w K mg base "_law_key" 1 ["_law_ranking_here", "_law_derivative"] (spP (Rlk K)) f_Lkey d_Lkey) (n_len : mg "len" = none) (n_range : mg "range" = none)  (n_sorted : mg "sorted" = none) (TB : TabB base mg c tb) (hT : TO T tb "_law_all.<locals>.<lambda>") :
    FnOk P w K mg base CX0 6 f fd ["_law_ranking_here", "_law_high"] (spT T (RallT K)) := by
  refine F.ok sc_Lall (spT_len (by rintro _ _ ⟨r, o, _, _, rfl, rfl⟩; rfl)) (fun A outer s H vs Q E hr h => ?_)
  obtain ⟨B, ps, p, kn, hv, ⟨r, o, hok, ho, rfl, rfl⟩, q⟩ := h
  obtain ⟨v0, v1, rfl, hR, h1⟩ := all2 hv
  obtain rfl : v1 = .int (o : Nat) := h1
  have hu := hu_of hr
  refine ⟨_, (pss_cons (ps_set (i := 2) sc_Lall.nd rfl (by first | exact .inl rfl | exact .inr rfl) (pe_lst pa_nil))
    (pss_cons (ps_for PassesOwn.never rfl (pi_tup (pe_ix ix_tup (pv 0) pe_int (fun _ _ => rfl))) (pg_name (i := 3) sc_Lall.nd rfl (by first | exact .inl rfl | exact .inr rfl))
      (pss_one (ps_for PassesOwn.never rfl (pi_range1 (by rfl) n_range (pa_cons (pe_op op_add (pv 1) pe_int) pa_nil)) (pg_name (i := 4) sc_Lall.nd rfl (by first | exact .inl rfl | exact .inr rfl))
      (pss_one (ps_set (i := 2) sc_Lall.nd rfl (by first | exact .inl rfl | exact .inr rfl) (pe_op op_cat (pv 2) (pe_lc (own := [("_law_j", 5)]) rfl sc_Lall.nd (pi_range1 (by rfl) n_range (pa_cons (pe_ifExp (pt_cmpR op_eq (pe_callB call_len_seq (by rfl) n_len (by decide +kernel) (pa_cons (pe_ix ix_tup (pv 0) pe_int (fun _ _ => rfl)) pa_nil)) pe_int (nomark _)) (pe_op op_add (pv 4) pe_int) pe_int) pa_nil)) (blkOk_by (N := N_Lall) (sc := defScope s_Lall) (by decide +kernel)) (fun _ _ _ _ _ => (pg_name (i := 5) sc_Lall.nd rfl (Or.inl rfl))) (fun _ _ _ _ _ => pts_nil) (fun _ _ _ _ _ => (pe_tup (pa_cons (pv 3) (pa_cons (pe_op op_sub (pv 4) (pv 5)) (pa_cons (pv 5) pa_nil))))))))))))
    (pss_one (ps_ret (pe_sortK (T := T) (N := ["_law_one", "_law_ranking_here"]) (fr := ["_law_ranking_here"]) (x0 := "_law_one") (js := [0]) (k := 1) (by rfl) n_sorted (pv 2) TB rfl hT.1 hT.2
    (nscope_by (by decide +kernel)) (ndef_free (sc := defScope s_Lall) (fr := ["_law_ranking_here"]) (by decide +kernel)) (ndef_fr (sc := defScope s_Lall) (by decide +kernel)) rfl rfl (hr.mono (by decide)) (fun _ _ _ _ _ _ => rfl)
    (fun A' outer' s0 H0 F' f' hF hr' => by
      obtain ⟨nm, ql, pr, bd, sc, cl, c'⟩ := F'
      have hF : sc = _ := hF
      subst hF
      exact pe_call c_Lkey.G hr' (by rfl) c_Lkey.m c_Lkey.k c_Lkey.b .nil pass0 (pa_cons (pv 1) (pa_cons (pv 0) pa_nil)))))))), ?_⟩
  refine ps_asgN (fun x => [some v0, some (.int (o : Nat)), some x, none, none, none]) kn.e (p_lst (ps := ([] : List Dv).map DvP) q_nil (by show 0 ≤ 100000; decide)) (fun x B1 H1 g1 hx => ?_) (fun _ => rfl)
  dsimp only
  have hR1 := (RkP K r).m g1.b hR
  refine ps_forS (B := B1) g1.c (src_tup (ed_nm (p_rk1 (p_var rfl hR1)))) fun B2 H2 g2 => ?_
  refine ⟨fun i σ H' => ∃ C x x3 x4, Gr B2 H2 C H' ∧ (LsP ((r.lines o i).map DvP)).P x C ∧ σ = [some v0, some (.int (o : Nat)), some x, x3, x4, none], ⟨B2, x, none, none, Gr.refl g2.c, (LsP _).m g2.b hx, rfl⟩, fun i σ H' _ h => ?_, fun i v σ H' hi pv px => ?_, fun σ H' pv => ?_⟩
  · obtain ⟨C, x, x3, x4, g, _⟩ := h
    exact g.b.trans g.c
  · rw [List.length_map] at hi
    have hv : v = .str r.ns[i] := by
      have px : Dp K B2 v ((r.ns.map PyData.str).getD i .none) := px
      rw [List.getD_eq_getElem?_getD, List.getElem?_map, List.getElem?_eq_getElem hi] at px
      cases px
      rfl
    subst hv
    obtain ⟨C, x, x3, x4, g, hx, rfl⟩ := pv
    dsimp only
    have hRC := (RkP K r).m (g2.b.trans g.b) hR1
    refine ps_forS (B := C) g.c (src_rng (j := o + 1) (q_cons (p_ev (ev_is (ev_op (ev_var rfl) ev_c rv_I0) (by simp))) q_nil) (by omega)) fun C1 H5 g5 => ?_
    refine ⟨fun t σ H' => ∃ D x x4, Gr C1 H5 D H' ∧ (LsP ((r.lines o i ++ r.linesN r.ns[i] t).map DvP)).P x D ∧ σ = [some v0, some (.int (o : Nat)), some x, some (.str r.ns[i]), x4, none], ⟨C1, x, x4, Gr.refl g5.c, by rw [show r.linesN r.ns[i] 0 = [] from rfl, List.append_nil]; exact (LsP _).m g5.b hx, rfl⟩, fun t σ H' _ h => ?_, fun t v σ H' ht pv px => ?_, fun σ H' pv => ?_⟩
    · obtain ⟨D, x, x4, g, _⟩ := h
      exact g.b.trans g.c
    · obtain rfl : v = .int (t : Int) := px
      obtain ⟨D, x, x4, g6, hx, rfl⟩ := pv
      have hRD := (RkP K r).m (g5.b.trans g6.b) hRC
      have hline : (r.line r.ns[i] t).map DvP = (List.range (if r.axs.length = 2 then t + 1 else 1)).map fun (j : Nat) => DvP ⟨r.ns[i], (t : Int) - (j : Nat), ((j : Nat) : Int)⟩ := by
        unfold Rk.line
        rw [List.map_map]
        rfl
      have l1 := r.lines_len (o := o) (m := i) ho hok.le
      have l2 := r.linesN_len r.ns[i] (m := t) (by omega)
      have l3 : (if r.axs.length = 2 then t + 1 else 1) ≤ 13 := by split <;> omega
      have lc := p_lcP (te := tTup (tCons (tVar 3) (tCons (tOp (rI0 fun i j => .int (i - j)) (tVar 4) (tVar 5)) (tCons (tVar 5) tNil)))) (g := gName 5) (vs := [5]) (σ := [some v0, some (.int (o : Nat)), some x, some (.str r.ns[i]), some (.int (t : Nat)), none]) (B := D)
        (src_rng (j := if r.axs.length = 2 then t + 1 else 1) (t := tCons (tIf (tTest (tOp rEq (tCB (rLenS K) (tCons (tOp (rIxT K) (tVar 0) (tC (.int 2))) tNil)) (tC (.int 2)))) (tOp (rI0 fun i j => .int (i + j)) (tVar 4) (tC (.int 1))) (tC (.int 1))) tNil) (q_cons (p_ev (ev_if (b := decide (r.axs.length = 2)) (ev_two rfl hRD) (fun hb => ev_is (ev_op (ev_var rfl) ev_c rv_I0) (by rw [if_pos (of_decide_eq_true hb)]; simp)) fun hb => ev_is ev_c (by rw [if_neg (of_decide_eq_false hb)]; rfl))) q_nil) (by omega)) (by omega) (fun j => DvP ⟨r.ns[i], (t : Int) - (j : Nat), ((j : Nat) : Int)⟩) fun j v B5 hj e5 pv => by
          obtain rfl : v = .int (j : Int) := pv
          exact ⟨[some v0, some (.int (o : Nat)), some x, some (.str r.ns[i]), some (.int (t : Nat)), some (.int j)], rfl, fun H2 Q e q => q, p_dv (u := ⟨r.ns[i], (t : Int) - (j : Nat), (j : Int)⟩) rfl rfl rfl (q_cons (p_varV rfl) (q_cons (p_ev (ev_op (ev_var rfl) (ev_var rfl) rv_I0)) (q_cons (p_varV rfl) q_nil)))⟩
      rw [← hline] at lc
      refine ps_asgN (fun x => [some v0, some (.int (o : Nat)), some x, some (.str r.ns[i]), some (.int (t : Nat)), none]) g6.c (p_cat (ps := (r.lines o i ++ r.linesN r.ns[i] t).map DvP) (p_var rfl hx) lc (by
        rw [List.length_map, List.length_map, List.length_append]
        have : (r.line r.ns[i] t).length ≤ 13 := by
          unfold Rk.line
          rw [List.length_map, List.length_range]
          exact l3
        omega)) (fun x7 B7 H7 g7 hx7 => ?_) (fun _ => rfl)
      refine ⟨B7, x7, _, g6.trans g7, ?_, rfl⟩
      rw [← List.map_append, List.append_assoc, ← Rk.linesN_succ] at hx7
      exact hx7
    · obtain ⟨D, x, x4, g6, hx, rfl⟩ := pv
      rw [← Rk.lines_succ r o i hi] at hx
      exact ⟨D, x, _, _, g.trans (g5.trans g6), hx, rfl⟩
  · obtain ⟨C, x, x3, x4, g, hx, rfl⟩ := pv
    rw [List.length_map] at hx
    have gg := (g1.trans g2).trans g
    have hRC := (RkP K r).m gg.b hR
    refine srt_use (us := r.lines o r.ns.length) (r := r) (kn.gr gg) rfl (lq_ls hx) (fun H2 y u e hu hy => ?_) fun v B6 H6 g6 hp => q v B6 H6 ((GT.gr gg).trans g6) ?_
    · exact p_callP (ps := [RkP K r, DvP u]) (q_cons (p_var rfl ((RkP K r).m e hRC)) (q_cons (p_var rfl hy) q_nil)) ⟨r, u, hok, lines_of hu, rfl, rfl⟩
    · rw [sort_lines r o hok.nd] at hp
      exact hp

/-- _law_leaders -/
abbrev s_Lleaders : Stmt := topS 74
abbrev N_Lleaders : List Str := ["_law_state", "_law_ranking_here", "_law_high", "_law_found", "_law_name", "_law_turn", "_law_total", "_law_j", "_law_one", "_law_leader"]
theorem sc_Lleaders : FnScope N_Lleaders ["_law_state", "_law_ranking_here", "_law_high"] (defScope s_Lleaders) := ⟨rfl, rfl, rfl, by decide +kernel, rfl, by decide +kernel, by decide +kernel⟩
theorem ok_Lleaders {f c tb : Addr} {fd : FuncData} (F : FunC K "_law_leaders" "_law_leaders" s_Lleaders c f fd) {f_Lkey : Addr} {d_Lkey : FuncData} (c_Lkey : Cal P w K mg base "_law_key" 1 ["_law_ranking_here", "_law_derivative"] (spP (Rlk K)) f_Lkey d_Lkey) {f_Ldigit : Addr} {d_Ldigit : FuncData} (c_Ldigit : Cal P w K mg base "_law_digit" 2 ["_law_state", "_law_many"] spDigit f_Ldigit d_Ldigit) {f_Lis_principal : Addr} {d_Lis_principal : FuncData} (c_Lis_principal : Cal P w K mg base "_law_is_principal" 1 ["_law_leaders_here", "_law_derivative"] (spP (Rlp K)) f_Lis_principal d_Lis_principal) (n_len : mg "len" = none) (n_range : mg "range" = none)  (n_sorted : mg "sorted" = none) (TB : TabB base mg c tb) (hT : TO T tb "_law_leaders.<locals>.<lambda>") :
    FnOk P w K mg base CX0 6 f fd ["_law_state", "_law_ranking_here", "_law_high"] (spLd K T) := by
  refine F.ok sc_Lleaders (fun vs H Q E h => by obtain ⟨B, d, n, r, vr, hi, rfl, _⟩ := h; rfl) (fun A outer s H vs Q E hr h => ?_)
  obtain ⟨B, d, n, r, vr, hi, rfl, hok, hhi, hR, k, hn, q⟩ := h
  have hu := hu_of hr
  refine ⟨_, (pss_cons (ps_set (i := 3) sc_Lleaders.nd rfl (by first | exact .inl rfl | exact .inr rfl) (pe_lst pa_nil))
    (pss_cons (ps_for PassesOwn.never rfl (pi_tup (pe_ix ix_tup (pv 1) pe_int (fun _ _ => rfl))) (pg_name (i := 4) sc_Lleaders.nd rfl (by first | exact .inl rfl | exact .inr rfl))
      (pss_one (ps_for PassesOwn.never rfl (pi_range1 (by rfl) n_range (pa_cons (pe_call c_Ldigit.G (hr.mono (by decide)) (by rfl) c_Ldigit.m c_Ldigit.k c_Ldigit.b .nil pass0 (pa_cons (pv 0) (pa_cons pe_int pa_nil))) pa_nil)) (pg_name (i := 5) sc_Lleaders.nd rfl (by first | exact .inl rfl | exact .inr rfl))
      (pss_cons (ps_set (i := 6) sc_Lleaders.nd rfl (by first | exact .inl rfl | exact .inr rfl) (pe_call c_Ldigit.G (hr.mono (by decide)) (by rfl) c_Ldigit.m c_Ldigit.k c_Ldigit.b .nil pass0 (pa_cons (pv 0) (pa_cons (pe_op op_add (pv 2) pe_int) pa_nil))))
    (pss_cons (ps_set (i := 7) sc_Lleaders.nd rfl (by first | exact .inl rfl | exact .inr rfl) (pe_ifExp (pt_cmpR op_eq (pe_callB call_len_seq (by rfl) n_len (by decide +kernel) (pa_cons (pe_ix ix_tup (pv 1) pe_int (fun _ _ => rfl)) pa_nil)) pe_int (nomark _)) (pe_call c_Ldigit.G (hr.mono (by decide)) (by rfl) c_Ldigit.m c_Ldigit.k c_Ldigit.b .nil pass0 (pa_cons (pv 0) (pa_cons (pe_op op_add (pv 6) pe_int) pa_nil))) pe_int))
    (pss_cons (ps_set (i := 8) sc_Lleaders.nd rfl (by first | exact .inl rfl | exact .inr rfl) (pe_tup (pa_cons (pv 4) (pa_cons (pe_op op_sub (pv 6) (pv 7)) (pa_cons (pv 7) pa_nil)))))
    (pss_one (ps_if (pt_not (pt_val (pe_call c_Lis_principal.G (hr.mono (by decide)) (by rfl) c_Lis_principal.m c_Lis_principal.k c_Lis_principal.b .nil pass0 (pa_cons (pv 3) (pa_cons (pv 8) pa_nil))))) (pss_one (ps_set (i := 3) sc_Lleaders.nd rfl (by first | exact .inl rfl | exact .inr rfl) (pe_op op_cat (pe_lc (own := [("_law_leader", 9)]) rfl sc_Lleaders.nd (pi_list (pv 3)) (blkOk_by (N := N_Lleaders) (sc := defScope s_Lleaders) (by decide +kernel)) (fun _ _ _ _ _ => (pg_name (i := 9) sc_Lleaders.nd rfl (Or.inl rfl))) (fun _ _ _ _ _ => (pts_one (pt_not (pt_val (pe_call c_Lis_principal.G (hr.mono (by decide)) (by rfl) c_Lis_principal.m c_Lis_principal.k c_Lis_principal.b .nil pass0 (pa_cons (pe_lst (pa_cons (pv 8) pa_nil)) (pa_cons (pv 9) pa_nil))))))) (fun _ _ _ _ _ => (pv 9))) (pe_lst (pa_cons (pv 8) pa_nil))))) pss_nil))))))))
    (pss_one (ps_ret (pe_sortK (T := T) (N := ["_law_one", "_law_ranking_here"]) (fr := ["_law_ranking_here"]) (x0 := "_law_one") (js := [1]) (k := 1) (by rfl) n_sorted (pv 3) TB rfl hT.1 hT.2
    (nscope_by (by decide +kernel)) (ndef_free (sc := defScope s_Lleaders) (fr := ["_law_ranking_here"]) (by decide +kernel)) (ndef_fr (sc := defScope s_Lleaders) (by decide +kernel)) rfl rfl (hr.mono (by decide)) (fun _ _ _ _ _ _ => rfl)
    (fun A' outer' s0 H0 F' f' hF hr' => by
      obtain ⟨nm, ql, pr, bd, sc, cl, c'⟩ := F'
      have hF : sc = _ := hF
      subst hF
      exact pe_call c_Lkey.G hr' (by rfl) c_Lkey.m c_Lkey.k c_Lkey.b .nil pass0 (pa_cons (pv 1) (pa_cons (pv 0) pa_nil)))))))), ?_⟩
  refine ps_asgN (fun x => [some (.ref d), some vr, some (.int (hi : Nat)), some x, none, none, none, none, none, none]) k.e (p_lst (ps := ([] : List Dv).map DvP) q_nil (by show 0 ≤ 100000; decide)) (fun x B1 H1 g1 hx => ?_) (fun _ => rfl)
  dsimp only
  have k1 := k.gr g1
  have hR1 := (RkP K r).m g1.b hR
  have hle := hok.le
  refine ps_forS (B := B1) k1.e (src_tup (ed_nm (p_rk1 (p_var rfl hR1)))) fun B2 H2 g2 => ?_
  have k2 := k1.gr g2
  refine ⟨fun i σ H' => ∃ C x us x4 x5 x6 x7 x8, Kx T d (n + 36 * i) C H' ∧ GX d B2 H2 C H' ∧ (LsP (us.map DvP)).P x C ∧ LdI r hi us ∧ us.length ≤ 4 * i ∧ σ = [some (.ref d), some vr, some (.int (hi : Nat)), some x, x4, x5, x6, x7, x8, none],
    ⟨B2, x, [], none, none, none, none, none, k2, GX.refl, (LsP _).m g2.b hx, ⟨fun u h => absurd h List.not_mem_nil, List.Pairwise.nil⟩, Nat.le_refl _, rfl⟩, fun i σ H' _ h => ?_, fun i v σ H' hi' pv px => ?_, fun σ H' pv => ?_⟩
  · obtain ⟨C, x, us, x4, x5, x6, x7, x8, k, g, _⟩ := h
    exact g.b.trans k.e
  · rw [List.length_map] at hi'
    have hv : v = .str r.ns[i] := by
      have px : Dp K B2 v ((r.ns.map PyData.str).getD i .none) := px
      rw [List.getD_eq_getElem?_getD, List.getElem?_map, List.getElem?_eq_getElem hi'] at px
      cases px
      rfl
    subst hv
    obtain ⟨C, x, us, x4, x5, x6, x7, x8, kC, gC, hx, hI, hl, rfl⟩ := pv
    dsimp only
    refine b_forD (x_digit kC rfl ev_c (by decide) (by decide) (by omega) fun m H5 m0 m1 k5 g5 => ⟨m, rfl, by omega, by omega, for_range (lo := 0) (n := m.toNat) (fun t σ H' => ∃ D x us' x5 x6 x7 x8, Kx T d (n + 36 * i + 4 + 8 * t) D H' ∧ GX d C H5 D H' ∧ (LsP (us'.map DvP)).P x D ∧ LdI r hi us' ∧ us'.length ≤ us.length + t ∧ σ = [some (.ref d), some vr, some (.int (hi : Nat)), some x, some (.str r.ns[i]), x5, x6, x7, x8, none])
      ⟨C, x, us, x5, x6, x7, x8, k5, GX.refl, hx, hI, Nat.le_refl _, rfl⟩ (fun t σ H' ht pv => ?_) (fun σ H' pv => ?_)⟩)
    · obtain ⟨D, x, us', x5, x6, x7, x8, kD, gD, hx, hI, hl', rfl⟩ := pv
      have hRD := (RkP K r).m ((g2.b.trans gC.b).trans gD.b) hR1
      -- total
      refine b_seq (b_asg ?_)
      refine x_digit (z := (hi : Int) + 1) kD rfl (ev_op (ev_var rfl) ev_c rv_I0) (by omega) (by omega) (by omega) fun tt H6 t0 t1 k6 g6 => ?_
      -- j
      dsimp only
      refine b_seq (b_asg ?_)
      have fin : ∀ (j : Int) (H7 : Hp), 0 ≤ j → j ≤ tt → (j = 0 ∨ (Str.ofString "y") ∈ r.axs) → Kx T d (n + 36 * i + 4 + 8 * t + 8) D H7 → GX d D H6 D H7 → ∀ D' : Ends, (∀ σ H', (∃ D x us' x5 x6 x7 x8, Kx T d (n + 36 * i + 4 + 8 * (t + 1)) D H' ∧ GX d C H5 D H' ∧ (LsP (us'.map DvP)).P x D ∧ LdI r hi us' ∧ us'.length ≤ us.length + (t + 1) ∧ σ = [some (.ref d), some vr, some (.int (hi : Nat)), some x, some (.str r.ns[i]), x5, x6, x7, x8, none]) → D'.nx σ H') →
          tSeq (tAsg (tTup (tCons (tVar 4) (tCons (tOp (rI0 fun i j => .int (i - j)) (tVar 6) (tVar 7)) (tCons (tVar 7) tNil)))) (gName 8)) (tIfS (tNot (tB (tCall (spP (Rlp K)) [] E0 (tCons (tVar 3) (tCons (tVar 8) tNil))))) (tAsg (tOp rCat (tLc (iList K (tVar 3)) (gName 9) (tNot (tB (tCall (spP (Rlp K)) [] E0 (tCons (tLst (tCons (tVar 8) tNil)) (tCons (tVar 9) tNil))))) (tVar 9) [9]) (tLst (tCons (tVar 8) tNil))) (gName 3)) tNext)
          D' [some (.ref d), some vr, some (.int (hi : Nat)), some x, some (.str r.ns[i]), some (.int (0 + (t : Nat))), some (.int tt), some (.int j), x8, none] H7 := fun j H7 j0 j1 hy k7 g7 D' hD' => by
        let u : Dv := ⟨r.ns[i], tt - j, j⟩
        have hu : Dv.Of u r ∧ u.i + u.j ≤ hi := ⟨⟨List.getElem_mem hi', by show 0 ≤ tt - j; omega, j0, hy⟩, by show tt - j + j ≤ hi; omega⟩
        refine b_seq (ps_asgN (fun y => [some (.ref d), some vr, some (.int (hi : Nat)), some x, some (.str r.ns[i]), some (.int (0 + (t : Nat))), some (.int tt), some (.int j), some y, none]) k7.e (p_dv (u := u) rfl rfl rfl (q_cons (p_varV rfl) (q_cons (p_ev (ev_op (ev_var rfl) (ev_var rfl) rv_I0)) (q_cons (p_varV rfl) q_nil)))) (fun y B8 H8 g8 hy8 => ?_) (fun _ => rfl))
        dsimp only
        have k8 := k7.gr g8
        have hx8 := (LsP (us'.map DvP)).m g8.b hx
        have hl2 : us'.length ≤ 1000 := by omega
        have tst := et_not (et_B (ev_p (p_callP (R := Rlp K) (p := IsV (.bl (us'.any fun v => wayB v u))) (ps := [LqP K (us'.map DvP), DvP u]) (σ := [some (.ref d), some vr, some (.int (hi : Nat)), some x, some (.str r.ns[i]), some (.int (0 + (t : Nat))), some (.int tt), some (.int j), some y, none]) (t := tCons (tVar 3) (tCons (tVar 8) tNil)) (q_cons (p_var rfl (lq_ls hx8)) (q_cons (p_var rfl hy8) q_nil)) ⟨us', u, hl2, rfl, rfl⟩)))
        cases hp : us'.any fun v => wayB v u with
        | true =>
          rw [hp] at tst
          refine ps_ifN k8.e tst fun H9 e9 => ?_
          exact hD' _ _ ⟨B8, x, us', _, _, _, _, (k8.ex e9).le (by omega), gD.trans (g6.trans (g7.trans ((GX.gr g8).trans (GX.ex e9)))), hx8, hI, by omega, rfl⟩
        | false =>
          rw [hp] at tst
          refine My.ps_ifT k8.e tst fun H9 e9 => ?_
          have k9 := k8.ex e9
          have lc := p_lcS (tt := tNot (tTest (tCall (spP (Rlp K)) [] E0 (tCons (tLst (tCons (tVar 8) tNil)) (tCons (tVar 9) tNil))))) (te := tVar 9) (g := gName 9) (vs := [9]) (σ := [some (.ref d), some vr, some (.int (hi : Nat)), some x, some (.str r.ns[i]), some (.int (0 + (t : Nat))), some (.int tt), some (.int j), some y, none]) (src_lq (K := K) (te := tVar 3) (p_var rfl (lq_ls hx8))) (by rw [List.length_map]; omega) (fun a => !wayB u (us'.getD a u)) (fun a => DvP (us'.getD a u)) fun a v4 B3 ha e pv => by
            rw [List.length_map] at ha
            have pv : ((us'.map DvP).getD a (IsV .non)).P v4 B3 := pv
            rw [getD_map ha] at pv
            have z : us'.getD a u = us'[a] := by
              rw [List.getD_eq_getElem?_getD, List.getElem?_eq_getElem ha]
              rfl
            rw [z]
            exact ⟨[some (.ref d), some vr, some (.int (hi : Nat)), some x, some (.str r.ns[i]), some (.int (0 + (t : Nat))), some (.int tt), some (.int j), some y, some v4], rfl, fun H2 Q e q => q, et_is (et_not (et_B (ev_p (p_callP (ps := [LqP K ([u].map DvP), DvP us'[a]]) (q_cons (p_lq (p_lst (ps := [u].map DvP) (q_cons (p_var rfl ((DvP u).m e hy8)) q_nil) (by show 1 ≤ 100000; decide))) (q_cons (p_var rfl pv) q_nil)) ⟨[u], us'[a], by show 1 ≤ 1000; decide, rfl, rfl⟩)))) (by simp), fun _ => p_var rfl pv⟩
          rw [List.length_map, range_filter (fun v : Dv => !wayB u v) DvP u us'] at lc
          have fl := List.length_filter_le (fun v : Dv => !wayB u v) us'
          refine ps_asgN (fun x => [some (.ref d), some vr, some (.int (hi : Nat)), some x, some (.str r.ns[i]), some (.int (0 + (t : Nat))), some (.int tt), some (.int j), some y, none]) k9.e (p_cat (ps := (us'.filter fun v => !wayB u v).map DvP) (qs := [u].map DvP) lc (p_lst (ps := [u].map DvP) (q_cons (p_var rfl hy8) q_nil) (by show 1 ≤ 100000; decide)) (by rw [List.length_map]; show _ + 1 ≤ 100000; omega)) (fun x' B10 H10 g10 hx10 => ?_) (fun _ => rfl)
          rw [← List.map_append] at hx10
          exact hD' _ _ ⟨B10, x', _, _, _, _, _, (k9.gr g10).le (by omega), gD.trans (g6.trans (g7.trans ((GX.gr g8).trans ((GX.ex e9).trans (GX.gr g10))))), hx10, hI.add hu hp, by rw [List.length_append]; show _ + 1 ≤ _; omega, rfl⟩
      refine b_if (ev_two rfl hRD) k6.e (fun hb H7 e7 => ?_) fun hb H7 e7 => ?_
      · have k7 := k6.ex e7
        refine x_digit (z := tt + 1) k7 rfl (ev_op (ev_var rfl) ev_c rv_I0) (by omega) (by omega) (by omega) fun j H8 j0 j1 k8 g8 => ?_
        exact fin j H8 j0 (by omega) (.inr ((ax2 r).mp (of_decide_eq_true hb))) k8 ((GX.ex e7).trans g8) _ fun σ H' z => z
      · exact fin 0 H7 (by omega) t0 (.inl rfl) ((k6.ex e7).le (by omega)) (GX.ex e7) _ fun σ H' z => z
    · obtain ⟨D, x, us', x5, x6, x7, x8, kD, gD, hx, hI, hl', rfl⟩ := pv
      exact ⟨D, x, us', _, _, _, _, _, kD.le (by omega), gC.trans (g5.trans gD), hx, hI, by omega, rfl⟩
  · obtain ⟨C, x, us, x4, x5, x6, x7, x8, kC, gC, hx, hI, hl, rfl⟩ := pv
    rw [List.length_map] at hl kC
    have gg := (GX.gr (d := d) g1).trans ((GX.gr g2).trans gC)
    have hRC := (RkP K r).m gg.b hR
    refine srt_use (us := us) (r := r) kC.kn rfl (lq_ls hx) (fun H2 y u e hu hy => ?_) fun v B6 H6 g6 hp => q v (r.sort us) B6 H6 hI.ok (by rw [(r.sort_perm us).length_eq]; omega) (gg.trans (GX.gt g6)) ((kC.gt g6).le (by omega)) hp
    exact p_callP (ps := [RkP K r, DvP u]) (q_cons (p_var rfl ((RkP K r).m e hRC)) (q_cons (p_var rfl hy) q_nil)) ⟨r, u, hok, (hI.of u hu).1, rfl, rfl⟩

end
end K12
namespace K12
set_option autoImplicit false
open PySem PySem.W L2 Evl My Nd LamX NdefX
theorem b_rest {ts : TS} {D : Ends} {σ : L2.St} {H : Hp} (R : L2.St → Hp → Prop) (h : ∀ D' : Ends, (∀ σ' H', R σ' H' → D'.nx σ' H') → ts D' σ H) (q : ∀ σ' H', R σ' H' → D.nx σ' H') : ts D σ H := h D q
theorem b_ifI {tt : TT} {ta tb : TE} {σ : L2.St} {B H : Hp} {Q : VK} {b : Bool} (R : V → Hp → Prop) (h : EvT tt σ B b) (e : Ex B H) (h1 : b = true → ∀ H1, Ex H H1 → ∀ Q : VK, (∀ v H', R v H' → Q v H') → ta σ H1 Q) (h2 : b = false → ∀ H1, Ex H H1 → ∀ Q : VK, (∀ v H', R v H' → Q v H') → tb σ H1 Q) (q : ∀ v H', R v H' → Q v H') : tIf tt ta tb σ H Q := h H e _ fun H1 e1 => by
  cases b with
  | true => exact h1 rfl H1 e1 Q q
  | false => exact h2 rfl H1 e1 Q q
/-- a list under way at l, made at H0 -/
structure AccX (T : List (Addr × Str)) (d l : Addr) (B H0 : Hp) (n : Nat) (ps : List Pr) (C H : Hp) : Prop where
  k : Kx T d n C H
  g : GX d B H0 C (wo l H)
  at_ : ∃ xs, H l = some (.lst xs) ∧ AllP ps xs C
  z : C l = none
  nd : l ≠ d
section
variable {T : List (Addr × Str)} {d l : Addr} {B H0 C H C2 H2 : Hp} {n m : Nat} {ps : List Pr} {p : Pr} {xs : List V} {y : V}
theorem AccX.new (k : Kx T d n B H) (hl : H l = none) : AccX T d l B H n [] B (upd H l (.lst [])) :=
  ⟨k.ex (Ex.new hl), by rw [wo_new hl]; exact GX.refl, ⟨[], upd_same, trivial⟩, fresh_back k.e hl, fun z => k.s.ne0 (z ▸ hl)⟩
theorem AccX.step (A : AccX T d l B H0 n ps C H) (g : GX d C H C2 H2) (k : Kx T d m C2 H2) : AccX T d l B H0 m ps C2 H2 := by
  obtain ⟨xs, h, al⟩ := A.at_
  have h2 := g.a l _ A.nd h (fun _ z => nomatch z)
  have z2 := g.f l _ A.nd A.z h (fun _ z => nomatch z)
  refine ⟨k, A.g.trans ⟨fun b o n e q => ?_, g.b, fun x o n hx e q => ?_⟩, ⟨xs, h2, al.m g.b⟩, z2, A.nd⟩
  · obtain ⟨n1, e1⟩ := wo_some e
    rw [wo_ne n1]
    exact g.a b o n e1 q
  · exact g.f x o n hx (wo_some e).2 q
theorem AccX.app (A : AccX T d l B H0 n ps C H) (h : H l = some (.lst xs)) (hp : p.P y C) : AccX T d l B H0 n (ps ++ [p]) C (upd H l (.lst (xs ++ [y]))) := by
  obtain ⟨xs', h', al⟩ := A.at_
  rw [h] at h'
  obtain rfl : xs = xs' := by injection h' with h'; injection h'
  exact ⟨⟨Ex.mut A.k.e A.z, A.k.nt, tabs_lst A.k.t h, A.k.z, A.k.s.upd A.nd.symm⟩, by rw [wo_upd]; exact A.g, ⟨_, upd_same, al.app ⟨hp, trivial⟩⟩, A.z, A.nd⟩
theorem AccX.fin (A : AccX T d l B H0 n ps C H) (h0 : H0 l = none) : ∃ B', GX d B H0 B' H ∧ Kx T d n B' H ∧ (LsP ps).P (.ref l) B' := by
  obtain ⟨xs, h, al⟩ := A.at_
  refine ⟨upd C l (.lst xs), ⟨fun b o n e q => (wo_some (A.g.a b o n e q)).2, A.g.b.trans (Ex.new A.z), fun x o n hx e q => ?_⟩, ⟨fun b o e => ?_, nt_upd A.k.nt (fun _ z => nomatch z), A.k.t, ?_, A.k.s⟩, l, xs, rfl, upd_same, al.m (Ex.new A.z)⟩
  · rw [upd_ne (fun z => by rw [z, h0] at e; cases e)]
    exact A.g.f x o n hx e q
  · by_cases n : b = l
    · subst n
      rw [upd_same] at e
      rw [h]
      exact e
    · rw [upd_ne n] at e
      exact A.k.e b o e
  · rw [upd_ne A.nd.symm]
    exact A.k.z
end
/-- a dict from monomials to fractions under way at t, made at H0 -/
structure DcX (P : Program) (w : World) (K : PySem.W.Frag) (T : List (Addr × Str)) (d t : Addr) (B H0 : Hp) (n : Nat) (zs : Po) (C H : Hp) : Prop where
  k : Kx T d n C (wo t H)
  g : GX d B H0 C (wo t H)
  at_ : ∃ xs, H t = some (DN P w t xs) ∧ KM K zs xs C
  nd : t ≠ d
section
variable {P : Program} {w : World} {K : PySem.W.Frag} {T : List (Addr × Str)} {d t : Addr} {B H0 C H C2 H2 : Hp} {n m : Nat} {zs : Po} {xs : List NV} {σ : L2.St}
theorem DcX.new (k : Kx T d n B H) (ht : H t = none) : DcX P w K T d t B H n [] B (upd H t (DN P w t [])) :=
  ⟨by rw [wo_new ht]; exact k, by rw [wo_new ht]; exact GX.refl, ⟨[], upd_same, trivial⟩, fun z => k.s.ne0 (z ▸ ht)⟩
theorem DcX.e (A : DcX P w K T d t B H0 n zs C H) : Ex C H := A.k.e.trans wo_ex
theorem DcX.on (A : DcX P w K T d t B H0 n zs C H) : H t ≠ none := by
  obtain ⟨xs, h, _⟩ := A.at_
  rw [h]
  exact fun z => nomatch z
theorem DcX.gr (A : DcX P w K T d t B H0 n zs C H) (g : Gr C H C2 H2) : DcX P w K T d t B H0 n zs C2 H2 := by
  obtain ⟨xs, h, km⟩ := A.at_
  have g2 : Gr C (wo t H) C2 (wo t H2) := (Gr.refl A.k.e).side A.on g
  exact ⟨A.k.gr g2, A.g.trans (GX.gr g2), ⟨xs, g.a _ _ h, km.m g.b⟩, A.nd⟩
theorem DcX.ex (A : DcX P w K T d t B H0 n zs C H) (e : Ex H H2) : DcX P w K T d t B H0 n zs C H2 := A.gr (Gr.wide A.e e)
theorem DcX.sb (A : DcX P w K T d t B H0 n zs C H) (S : SameBut d H H2) (hd : DSt H2 d m) : DcX P w K T d t B H0 m zs C H2 := by
  obtain ⟨xs, h, km⟩ := A.at_
  have S2 : SameBut d (wo t H) (wo t H2) := fun b o nb e => by
    obtain ⟨n1, e1⟩ := wo_some e
    rw [wo_ne n1]
    exact S b o nb e1
  have hd2 : DSt (wo t H2) d m := by
    obtain ⟨l, c, u, a, b⟩ := hd
    exact ⟨l, c, u, by rw [wo_ne A.nd.symm]; exact a, b⟩
  exact ⟨A.k.sb S2 hd2, A.g.trans (GX.sb S2), ⟨xs, S _ _ A.nd h, km⟩, A.nd⟩
theorem DcX.le (A : DcX P w K T d t B H0 n zs C H) (h : n ≤ m) : DcX P w K T d t B H0 m zs C H := ⟨A.k.le h, A.g, A.at_, A.nd⟩
theorem DcX.st (A : DcX P w K T d t B H0 n zs C H) : DSt H d n := by
  obtain ⟨l, c, u, a, b⟩ := A.k.s
  exact ⟨l, c, u, (wo_some a).2, b⟩
theorem DcX.digit {i : Nat} {z : Int} {te : TE} {Q : VK} (A : DcX P w K T d t B H0 n zs C H) (hi : σ[i]? = some (some (.ref d))) (he : Ev te σ C (.int z)) (z0 : 0 < z) (z1 : z < 1073741824) (hn : n ≤ 2 ^ 39)
    (q : ∀ (m : Int) H', 0 ≤ m → m < z → DcX P w K T d t B H0 (n + 4) zs C H' → SameBut d H H' → Q (.int m) H') : tCall spDigit [] E0 (tCons (tVar i) (tCons te tNil)) σ H Q :=
  ⟨.ref d, hi, he H A.e _ fun H2 e2 => ⟨d, z, n, rfl, z0, z1, (A.ex e2).st, hn, fun m H' m0 m1 hd S => q m H' m0 m1 ((A.ex e2).sb S hd) (sb_trans (sb_same e2) S)⟩⟩
theorem DcX.put {mo : Mo} {f : Fr} {a : Addr} {v : V} (A : DcX P w K T d t B H0 n zs C H) (km : KM K zs xs C) (ha : (moP K mo).P (.ref a) C) (hf : (frP K f).P v C) : DcX P w K T d t B H0 n (putZ zs mo f) C (upd H t (DN P w t (putN xs (nk (moD mo)) a v))) :=
  ⟨by rw [wo_upd]; exact A.k, by rw [wo_upd]; exact A.g, ⟨_, upd_same, km.put ha hf⟩, A.nd⟩
theorem DcX.out (A : DcX P w K T d t B H0 n zs C H) : Kx T d n C H ∧ GX d B H0 C H :=
  ⟨⟨A.e, A.k.nt, A.k.t.ext wo_ex, A.k.z, A.st⟩, fun b o n e q => (wo_some (A.g.a b o n e q)).2, A.g.b, A.g.f⟩
open Classical in
/-- C, and what H3 has new at such places -/
noncomputable def tak (C H H3 : Hp) (S : Addr → Prop) : Hp := fun x => if H x = none ∧ S x then H3 x else C x
theorem tak_in {H3 : Hp} {S : Addr → Prop} {x : Addr} (h : H x = none) (k : S x) : tak C H H3 S x = H3 x := if_pos ⟨h, k⟩
theorem items_gr {H3 : Hp} {S : Addr → Prop} (e : Ex C H) (k : Ex H H3) (hs : ∀ x, S x → ∀ ps, H3 x ≠ some (.tbl ps)) : Gr C H (tak C H H3 S) H3 := by
  have out : ∀ {x : Addr}, ¬ (H x = none ∧ S x) → tak C H H3 S x = C x := fun h => if_neg h
  refine ⟨k, fun b o q => ?_, fun b o q => ?_, fun x hx hh => ?_, fun z b ps q => ?_⟩
  · rw [out (fun h => by rw [e b o q] at h; exact nomatch h.1)]
    exact q
  · by_cases h : H b = none ∧ S b
    · rw [tak_in h.1 h.2] at q
      exact q
    · rw [out h] at q
      exact k b o (e b o q)
  · rw [out (fun h => hh h.1)]
    exact hx
  · by_cases h : H b = none ∧ S b
    · rw [tak_in h.1 h.2] at q
      exact hs b h.2 ps q
    · rw [out h] at q
      exact z b ps q
/-- tuple(sorted(d.items())): the polynomial -/
theorem DcX.sorted {i : Nat} {Q : VK} (A : DcX P w K T d t B H0 n zs C H) (hi : σ[i]? = some (some (.ref t))) (q : ∀ v C' H', Gr C H C' H' → (poP K (srtT zs)).P v C' → Q v H') :
    tCB (fun xs H Q => ∃ p ys, xs = [.ref p] ∧ ((SqL K H p ys ∧ ∀ l, H l = none → Q (.ref l) (upd H l (.tup ys))) ∨ (SqT K H p ys ∧ Q (.ref p) H))) (tCons (tCB (rSortItN P w K) (tCons (fun σ H Q => (tVar i) σ H fun x H1 => rItemsN P w x [] H1 Q) tNil)) tNil) σ H Q := by
  obtain ⟨xs, hD, km⟩ := A.at_
  have hC := A.e
  have lx := km.len
  refine ⟨.ref t, hi, t, xs, rfl, rfl, hD, fun p hp => ?_⟩
  have ntp : t ≠ p := fun z => A.on (z ▸ hp)
  have e1 : Ex H (upd H p (DX.itemsO p t)) := Ex.new hp
  refine ⟨p, t, xs, zs.map tmD, rfl, upd_same, by rw [upd_ne ntp]; exact hD, by rw [List.length_map]; omega, tm_alike zs, tm_sortable zs, tm_depth zs, fun j x hj => ?_, fun H2 as a eH la pt h2a hpa => ?_⟩
  · obtain ⟨z, hz, h1, h2, h3⟩ := km.at hj
    exact ⟨moD z.1, frD z.2, by rw [List.getElem?_map, hz]; rfl, to_mo _ _ _ ((moP K _).m (hC.trans e1) h2), to_fr _ _ _ ((frP K _).m (hC.trans e1) h3)⟩
  have e2 : Ex H H2 := e1.trans eH
  have e3 : Ex H (upd H2 a (.lst (byKey (as.map V.ref) (zs.map tmD)))) := e2.trans (Ex.new h2a)
  have hHa : H a = none := by
    rw [upd_ne (fun z => by rw [z, upd_same] at hpa; cases hpa)] at hpa
    exact hpa
  have tup_ : ∀ b ∈ as, ∃ ys, H2 b = some (.tup ys) ∧ H b = none := fun b hb => by
    obtain ⟨j, hj⟩ := List.mem_iff_getElem?.mp hb
    have hjl : j < xs.length := by
      have := (List.getElem?_eq_some_iff.mp hj).1
      omega
    obtain ⟨h1, h2⟩ := pt j b xs[j] hj (List.getElem?_eq_getElem hjl)
    refine ⟨_, h2, ?_⟩
    rw [upd_ne (fun z => by rw [z, upd_same] at h1; cases h1)] at h1
    exact h1
  have g1 := items_gr (C := C) (S := fun x => x = a ∨ x ∈ as) hC e3 fun x hx ps z => by
    rcases hx with rfl | hx
    · rw [upd_same] at z
      cases z
    · obtain ⟨ys, h1, _⟩ := tup_ x hx
      rw [upd_ne (fun k => by rw [k] at h1; rw [h2a] at h1; cases h1), h1] at z
      cases z
  have atb : ∀ b ∈ as, ∀ o, H2 b = some o → tak C H (upd H2 a (.lst (byKey (as.map V.ref) (zs.map tmD)))) (fun x => x = a ∨ x ∈ as) b = some o := fun b hb o ho => by
    obtain ⟨ys, h1, h2⟩ := tup_ b hb
    rw [tak_in h2 (.inr hb), upd_ne (fun k => by rw [k] at h1; rw [h2a] at h1; cases h1)]
    exact ho
  generalize tak C H (upd H2 a (.lst (byKey (as.map V.ref) (zs.map tmD)))) (fun x => x = a ∨ x ∈ as) = C1 at g1 atb
  have al : AllP (zs.map (tmP K)) (as.map V.ref) C1 := AllP.ix (by rw [List.length_map, List.length_map]; omega) fun j p v hp hv => by
    rw [List.getElem?_map] at hp hv
    obtain ⟨z, hz, rfl⟩ := Option.map_eq_some_iff.mp hp
    obtain ⟨b, hb, rfl⟩ := Option.map_eq_some_iff.mp hv
    have hjl : j < xs.length := by
      have := (List.getElem?_eq_some_iff.mp hz).1
      omega
    obtain ⟨z', hz', h1, h2, h3⟩ := km.at (List.getElem?_eq_getElem hjl)
    rw [hz] at hz'
    obtain rfl := Option.some.inj hz'
    have := atb b (List.mem_of_getElem? hb) _ (pt j b xs[j] hb (List.getElem?_eq_getElem hjl)).2
    exact ⟨b, _, rfl, st_of this, (moP K _).m g1.b h2, (frP K _).m g1.b h3, trivial⟩
  refine ⟨a, _, rfl, .inl ⟨sq_of upd_same, fun c hc => ?_⟩⟩
  refine q _ _ _ (g1.trans (Gr.new (.tup (byKey (as.map V.ref) (zs.map tmD))) g1.c hc)) ⟨c, _, rfl, st_of upd_same, (byKey_tm al).m (Ex.new (fresh_back g1.c hc))⟩
end
theorem lexD (r : Rk) (u v : Dv) : HT.lexLt (r.key u) (r.key v) = decide (r.lt u v) := by
  obtain ⟨a, b, c, e1⟩ := r.key3 u
  obtain ⟨x, y, z, e2⟩ := r.key3 v
  rw [Bool.eq_iff_iff, decide_eq_true_iff]
  unfold Rk.lt
  rw [e1, e2, lex3, decide_eq_true_iff]
theorem p_neg {te : TE} {σ : L2.St} {B : Hp} {i : Int} (h : EvP te σ B (IsV (.int i))) : EvP (tUn (rU fun i => .int (-i)) te) σ B (IsV (.int (-i))) := p_ev fun H1 a Q k => ev_p h H1 a _ fun H2 e2 => ⟨i, rfl, k H2 e2⟩
/-- what a right side is made of -/
def someOf (r : Rk) (us : List Dv) (u : Dv) : List Dv := ((r.sort (r.all 3)).filter fun v => decide (r.lt v u)).filter fun v => !(us.any fun x => wayB x v)
structure Gd3 (r : Rk) (us : List Dv) (u : Dv) (zs : Po) : Prop where
  nd : (zs.map (·.1)).Nodup
  ok : ∀ z ∈ zs, (z.1 = [] ∨ ∃ v ∈ someOf r us u, z.1 = [(v, 1)]) ∧ FrOk z.2 ∧ z.2.1 ≠ 0
theorem Gd3.nil (r : Rk) (us : List Dv) (u : Dv) : Gd3 r us u [] := ⟨List.nodup_nil, fun z h => absurd h List.not_mem_nil⟩
theorem Gd3.put {r : Rk} {us : List Dv} {u : Dv} {zs : Po} {m : Mo} {f : Fr} (h : Gd3 r us u zs) (hm : m = [] ∨ ∃ v ∈ someOf r us u, m = [(v, 1)]) (hf : FrOk f ∧ f.1 ≠ 0) : Gd3 r us u (putZ zs m f) := by
  refine ⟨putZ_nd h.nd, fun z hz => ?_⟩
  rcases putZ_mem hz with k | k
  · exact h.ok z k
  · rw [k]
    exact ⟨hm, hf.1, hf.2⟩
def fr3 : List Fr := [(1, 1), (-2, 1), (1, 2)]
theorem fr3_ok : ∀ f ∈ fr3, FrOk f ∧ f.1 ≠ 0 := by
  intro f hf
  simp only [fr3, List.mem_cons, List.not_mem_nil, or_false] at hf
  rcases hf with rfl | rfl | rfl <;> exact ⟨⟨by decide, by decide⟩, by decide⟩
/-- the chain so far -/
structure ChW (r : Rk) (us : List Dv) (i : Nat) (c : Ch) : Prop where
  ld : c.map (·.1) = us.take i
  gd : ∀ x ∈ c, ∃ zs, Gd3 r us x.1 zs ∧ zs.length ≤ 3 ∧ x.2 = srtT zs
theorem some_of {r : Rk} {us : List Dv} {u v : Dv} (h : v ∈ someOf r us u) : v.Of r ∧ r.lt v u ∧ (us.any fun x => wayB x v) = false := by
  obtain ⟨h1, h2⟩ := List.mem_filter.mp h
  obtain ⟨h3, h4⟩ := List.mem_filter.mp h1
  exact ⟨Rk.mem_all ((r.sort_perm _).mem_iff.mp h3), of_decide_eq_true h4, by simpa using h2⟩
theorem dvs_one {zs : Po} {d : Dv} (h : d ∈ dvs zs) : ∃ z ∈ zs, ∃ x ∈ z.1, x.1 = d := by
  unfold dvs at h
  obtain ⟨z, hz, h⟩ := List.mem_flatMap.mp h
  obtain ⟨x, hx, e⟩ := List.mem_map.mp h
  exact ⟨z, hz, x, hx, e⟩
theorem gd_dvs {r : Rk} {us : List Dv} {u : Dv} {zs : Po} (h : Gd3 r us u zs) {d : Dv} (hd : d ∈ dvs (srtT zs)) : d ∈ someOf r us u := by
  obtain ⟨z, hz, x, hx, rfl⟩ := dvs_one hd
  rcases (h.ok z (srtT_mem.mp hz)).1 with e | ⟨v, hv, e⟩
  · rw [e] at hx
    exact absurd hx List.not_mem_nil
  · rw [e] at hx
    rw [List.mem_singleton.mp hx]
    exact hv
theorem gd_po {r : Rk} {us : List Dv} {u : Dv} {zs : Po} (h : Gd3 r us u zs) : PoOk r (srtT zs) := by
  refine ⟨fun z hz => ?_, srtT_ups h.nd⟩
  obtain ⟨h1, h2, h3⟩ := h.ok z (srtT_mem.mp hz)
  refine ⟨?_, h2, h3⟩
  rcases h1 with e | ⟨v, hv, e⟩
  · rw [e]
    exact ⟨fun x hx => absurd hx List.not_mem_nil, fun i hi => absurd hi (Nat.not_lt_zero _)⟩
  · rw [e]
    refine ⟨fun x hx => ?_, fun i hi => absurd hi (by simp)⟩
    rw [List.mem_singleton.mp hx]
    exact ⟨(some_of hv).1, Int.zero_lt_one⟩
theorem gd_len {r : Rk} {us : List Dv} {u : Dv} {zs : Po} (h : Gd3 r us u zs) (hl : zs.length ≤ 3) : (dvs (srtT zs)).length ≤ 1000 := by
  have h1 : ∀ z ∈ srtT zs, (z.1.map (·.1)).length ≤ 1 := fun z hz => by
    rcases (h.ok z (srtT_mem.mp hz)).1 with e | ⟨v, hv, e⟩ <;> rw [e] <;> simp
  have := flat_len2 (f := fun t : Mo × Fr => t.1.map (·.1)) (m := 1) h1
  have l2 : (srtT zs).length = zs.length := (List.mergeSort_perm zs leT).length_eq
  unfold dvs
  omega
theorem ch_ok {r : Rk} {hi : Nat} {us : List Dv} {c : Ch} (hl : LdOk r hi us) (hn : us.length ≤ 12) (h : ChW r us us.length c) : ChOk r c := by
  have ld : c.map (·.1) = us := by rw [h.ld, List.take_length]
  have len : c.length = us.length := by rw [← ld, List.length_map]
  have at_ : ∀ (i : Nat) (hi : i < c.length), c[i].1 = us[i]'(by omega) := fun i hi => by
    have : (c.map (·.1))[i]? = us[i]? := by rw [ld]
    rw [List.getElem?_map, List.getElem?_eq_getElem hi, List.getElem?_eq_getElem (by omega : i < us.length)] at this
    exact Option.some.inj this
  have mem : ∀ x ∈ c, x.1 ∈ us := fun x hx => by
    rw [← ld]
    exact List.mem_map_of_mem hx
  refine ⟨fun x hx => ?_, fun i hi => ?_, fun i hi => ?_, fun x hx d hd => ?_, fun x hx d hd => ?_, by omega⟩
  · obtain ⟨zs, g, hz, e⟩ := h.gd x hx
    rw [e]
    exact ⟨(hl.of _ (mem x hx)).1, gd_po g, gd_len g hz⟩
  · rw [at_ i (Nat.lt_of_succ_lt hi), at_ (i + 1) hi]
    exact List.pairwise_iff_getElem.mp hl.up i (i + 1) _ _ (Nat.lt_succ_self i)
  · rw [ld, List.any_eq_false]
    intro v hv k
    rw [at_ i hi] at k
    obtain ⟨j, hj, rfl⟩ := List.mem_iff_getElem.mp hv
    rw [List.length_take] at hj
    rw [List.getElem_take] at k
    have e := hl.ap _ (List.getElem_mem (by omega : j < us.length)) _ (List.getElem_mem (by omega : i < us.length)) k
    have := List.pairwise_iff_getElem.mp hl.up j i (by omega) (by omega) (by omega)
    rw [e] at this
    exact r.lt_irrefl _ this
  · obtain ⟨zs, g, _, e⟩ := h.gd x hx
    rw [e] at hd
    exact (some_of (gd_dvs g hd)).2.1
  · obtain ⟨zs, g, _, e⟩ := h.gd x hx
    rw [e] at hd
    have := (some_of (gd_dvs g hd)).2.2
    unfold fstI
    rw [List.findIdx?_eq_none_iff]
    intro y hy
    exact Bool.eq_false_iff.mpr (fun k => List.any_eq_false.mp this _ (mem y hy) k)
theorem ch_sm {r : Rk} {hi : Nat} {us : List Dv} {c : Ch} (hl : LdOk r hi us) (hn : us.length ≤ 12) (hh : hi ≤ 20) (h : ChW r us us.length c) : ChSm c := by
  have ld : c.map (·.1) = us := by rw [h.ld, List.take_length]
  have mem : ∀ x ∈ c, x.1 ∈ us := fun x hx => by
    rw [← ld]
    exact List.mem_map_of_mem hx
  refine ⟨fun x hx => ?_, fun x hx => ?_, by rw [← List.length_map (f := fun x : Dv × Po => x.1), ld]; omega⟩
  · have := (hl.of _ (mem x hx)).1
    exact ⟨this.i, this.j⟩
  · obtain ⟨h1, h2⟩ := hl.of _ (mem x hx)
    have := h1.i
    have := h1.j
    exact ⟨by omega, by omega⟩
def spCh (K : PySem.W.Frag) (T : List (Addr × Str)) : Sp := fun vs H Q _ => ∃ (B : Hp) (d : Addr) (n : Nat) (r : Rk) (vr : V) (hi : Nat), vs = [.ref d, vr, .int (hi : Nat)] ∧ Rk.Ok r ∧ hi ≤ 20 ∧ (RkP K r).P vr B ∧ Kx T d n B H ∧ n ≤ 2 ^ 36 ∧
  ∀ (v : V) (c : Ch) (B' H' : Hp), ChOk r c → ChSm c → LdOk r hi (c.map (·.1)) → GX d B H B' H' → Kx T d (n + 600) B' H' → (chP K c).P v B' → Q v H'
section
variable {P : Program} {w : World} {K : PySem.W.Frag} {mg : Str → Option Value} {base : Heap} {T : List (Addr × Str)}

/-- _law_chain -/
abbrev s_Lchain : Stmt := topS 75
abbrev N_Lchain : List Str := ["_law_state", "_law_ranking_here", "_law_high", "_law_found", "_law_leaders_here", "_law_leader", "_law_some", "_law_one", "_law_terms", "_law_turn"]
theorem sc_Lchain : FnScope N_Lchain ["_law_state", "_law_ranking_here", "_law_high"] (defScope s_Lchain) := ⟨rfl, rfl, rfl, by decide +kernel, rfl, by decide +kernel, by decide +kernel⟩
theorem ok_Lchain {f : Addr} {fd : FuncData} (F : Fun K "_law_chain" "_law_chain" s_Lchain f fd) {f_Lleaders : Addr} {d_Lleaders : FuncData} (c_Lleaders : Cal P w K mg base "_law_leaders" 6 ["_law_state", "_law_ranking_here", "_law_high"] (spLd K T) f_Lleaders d_Lleaders) {f_Lall : Addr} {d_Lall : FuncData} (c_Lall : Cal P w K mg base "_law_all" 6 ["_law_ranking_here", "_law_high"] (spT T (RallT K)) f_Lall d_Lall) {f_Lkey : Addr} {d_Lkey : FuncData} (c_Lkey : Cal P w K mg base "_law_key" 1 ["_law_ranking_here", "_law_derivative"] (spP (Rlk K)) f_Lkey d_Lkey) {f_Lis_principal : Addr} {d_Lis_principal : FuncData} (c_Lis_principal : Cal P w K mg base "_law_is_principal" 1 ["_law_leaders_here", "_law_derivative"] (spP (Rlp K)) f_Lis_principal d_Lis_principal) {f_Ldigit : Addr} {d_Ldigit : FuncData} (c_Ldigit : Cal P w K mg base "_law_digit" 2 ["_law_state", "_law_many"] spDigit f_Ldigit d_Ldigit) (n_len : mg "len" = none) (n_range : mg "range" = none) (n_tuple : mg "tuple" = none) (n_sorted : mg "sorted" = none)  :
    FnOk P w K mg base CX0 7 f fd ["_law_state", "_law_ranking_here", "_law_high"] (spCh K T) := by
  refine F.ok sc_Lchain (fun vs H Q E h => by obtain ⟨B, d, n, r, vr, hi, rfl, _⟩ := h; rfl) (fun cdv A outer s H vs Q E hr h => ?_)
  obtain ⟨B, d, n, r, vr, hi, rfl, hok, hhi, hR, k, hn, q⟩ := h
  have hu := hu_of hr
  refine ⟨_, (pss_cons (ps_asg (pe_tup (pa_cons (pe_lst pa_nil) (pa_cons (pe_call c_Lleaders.G (hr.mono (by decide)) (by rfl) c_Lleaders.m c_Lleaders.k c_Lleaders.b .nil pass0 (pa_cons (pv 0) (pa_cons (pv 1) (pa_cons (pv 2) pa_nil)))) pa_nil))) (pg_tup (by rfl) (pgs_cons (pg_name (i := 3) sc_Lchain.nd rfl (by first | exact .inl rfl | exact .inr rfl)) (pgs_cons (pg_name (i := 4) sc_Lchain.nd rfl (by first | exact .inl rfl | exact .inr rfl)) pgs_nil))))
    (pss_cons (ps_for PassesOwn.never rfl (pi_list (pv 4)) (pg_name (i := 5) sc_Lchain.nd rfl (by first | exact .inl rfl | exact .inr rfl))
      (pss_cons (ps_setLc (i := 6) (tt := tTest (tOp (rLtT K) (tCall (spP (Rlk K)) [] E0 (tCons (tVar 1) (tCons (tVar 7) tNil))) (tCall (spP (Rlk K)) [] E0 (tCons (tVar 1) (tCons (tVar 5) tNil))))) (own := [("_law_one", 7)]) rfl sc_Lchain.nd rfl rfl (sw_true rfl rfl rfl (by decide +kernel)) (pi_list (pe_call c_Lall.G (hr.mono (by decide)) (by rfl) c_Lall.m c_Lall.k c_Lall.b .nil pass0 (pa_cons (pv 1) (pa_cons pe_int pa_nil)))) (blkOk_by (N := N_Lchain) (sc := defScope s_Lchain) (by decide +kernel)) (fun _ _ _ _ _ => (pg_name (i := 7) sc_Lchain.nd rfl (Or.inl rfl))) (fun _ _ _ _ _ => (pts_one (pt_cmpR (show OpR _ (compareOp .Lt) (rLtT K) from op_ltT (by have h := hr.un; show (A.deeper _).units < cLine; omega)) (pe_call c_Lkey.G (hr.mono (by decide)) (by rfl) c_Lkey.m c_Lkey.k c_Lkey.b .nil pass0 (pa_cons (pv 1) (pa_cons (pv 7) pa_nil))) (pe_call c_Lkey.G (hr.mono (by decide)) (by rfl) c_Lkey.m c_Lkey.k c_Lkey.b .nil pass0 (pa_cons (pv 1) (pa_cons (pv 5) pa_nil))) (nomark _)))) (fun _ _ _ _ _ => (pv 7)))
    (pss_cons (ps_setLc (i := 6) (own := [("_law_one", 7)]) rfl sc_Lchain.nd rfl rfl (sw_true rfl rfl rfl (by decide +kernel)) (pi_list (pv 6)) (blkOk_by (N := N_Lchain) (sc := defScope s_Lchain) (by decide +kernel)) (fun _ _ _ _ _ => (pg_name (i := 7) sc_Lchain.nd rfl (Or.inl rfl))) (fun _ _ _ _ _ => (pts_one (pt_not (pt_val (pe_call c_Lis_principal.G (hr.mono (by decide)) (by rfl) c_Lis_principal.m c_Lis_principal.k c_Lis_principal.b .nil pass0 (pa_cons (pv 4) (pa_cons (pv 7) pa_nil))))))) (fun _ _ _ _ _ => (pv 7)))
    (pss_cons (ps_set (i := 8) sc_Lchain.nd rfl (by first | exact .inl rfl | exact .inr rfl) pe_dnewN)
    (pss_cons (ps_for PassesOwn.never rfl (pi_range1 (by rfl) n_range (pa_cons (pe_ifExp (pt_cmpR (op_neD hr.units) (pv 6) (pe_lst pa_nil) (nomark _)) (pe_call c_Ldigit.G (hr.mono (by decide)) (by rfl) c_Ldigit.m c_Ldigit.k c_Ldigit.b .nil pass0 (pa_cons (pv 0) (pa_cons pe_int pa_nil))) pe_int) pa_nil)) (pg_name (i := 9) sc_Lchain.nd rfl (by first | exact .inl rfl | exact .inr rfl))
      (pss_one (ps_dputN (by have h := hr.un; show (A.deeper _).units + 9 < cLine; omega) (pv 8) (pe_tup (pa_cons (pe_tup (pa_cons (pe_ix ix_list (pv 6) (pe_call c_Ldigit.G (hr.mono (by decide)) (by rfl) c_Ldigit.m c_Ldigit.k c_Ldigit.b .nil pass0 (pa_cons (pv 0) (pa_cons (pe_callB call_len_seq (by rfl) n_len (by decide +kernel) (pa_cons (pv 6) pa_nil)) pa_nil))) (fun _ _ => rfl)) (pa_cons pe_int pa_nil))) pa_nil)) (pe_ix ix_list (pe_lst (pa_cons (pe_tup (pa_cons pe_int (pa_cons pe_int pa_nil))) (pa_cons (pe_tup (pa_cons (pe_un un_neg pe_int) (pa_cons pe_int pa_nil))) (pa_cons (pe_tup (pa_cons pe_int (pa_cons pe_int pa_nil))) pa_nil)))) (pe_call c_Ldigit.G (hr.mono (by decide)) (by rfl) c_Ldigit.m c_Ldigit.k c_Ldigit.b .nil pass0 (pa_cons (pv 0) (pa_cons pe_int pa_nil))) (fun _ _ => rfl)) rfl)))
    (pss_cons (ps_if (pt_cmpR op_eq (pe_call c_Ldigit.G (hr.mono (by decide)) (by rfl) c_Ldigit.m c_Ldigit.k c_Ldigit.b .nil pass0 (pa_cons (pv 0) (pa_cons pe_int pa_nil))) pe_int (nomark _)) (pss_one (ps_dputN (by have h := hr.un; show (A.deeper _).units + 9 < cLine; omega) (pv 8) (pe_tup pa_nil) (pe_tup (pa_cons pe_int (pa_cons pe_int pa_nil))) rfl)) pss_nil)
    (pss_one (ps_expr (pe_bm PySem.F.plainAttrs_list PySem.F.slot_list_append PySem.F.type_list_append mt_append (pv 3) (pa_cons (pe_tup (pa_cons (pv 5) (pa_cons (pe_callTy call_tuple_of (by rfl) n_tuple (by decide +kernel) (pa_cons (pe_callB (cr_sortItN hr) (by rfl) n_sorted (by decide +kernel) (pa_cons (pe_itemsN (pv 8)) pa_nil)) pa_nil)) pa_nil))) pa_nil))))))))))
    (pss_one (ps_ret (pe_callTy call_tuple_of (by rfl) n_tuple (by decide +kernel) (pa_cons (pv 3) pa_nil)))))), ?_⟩
  refine ⟨sz_of (by show 0 ≤ 100000; decide), fun l hl => ?_⟩
  have A0 := AccX.new k hl
  refine ⟨_, rfl, _, rfl, _, rfl, B, d, n, r, vr, hi, rfl, hok, hhi, hR, A0.k, by omega, fun v4 us B2 H2' hLd hl2 g2' k2' hv4 => ⟨by show 2 ≤ sizeLine; decide, fun pt hpt => ⟨pt, _, rfl, st_of upd_same, rfl, _, _, rfl, _, _, rfl, rfl, ?_⟩⟩⟩
  have k2 := k2'.ex (Ex.new (o := .tup [.ref l, v4]) hpt)
  have g2 := g2'.trans (GX.ex (B := B2) (Ex.new (o := .tup [.ref l, v4]) hpt))
  generalize upd H2' pt (.tup [.ref l, v4]) = H2 at k2 g2 ⊢
  have A2 := A0.step g2 k2
  dsimp only
  refine ps_forS (B := B2) A2.k.e (src_lq (K := K) (ps := us.map DvP) (p_var rfl (lq_ls hv4))) fun B3 H3 g3 => ?_
  have A3 := A2.step (GX.gr g3) (k2.gr g3)
  refine ⟨fun i σ H' => ∃ C c x5 x6 x8 x9, AccX T d l B H (n + 120 + 40 * i) (c.map (lkP K)) C H' ∧ Ex B3 C ∧ ChW r us i c ∧ σ = [some (.ref d), some vr, some (.int (hi : Nat)), some (.ref l), some v4, x5, x6, none, x8, x9],
    ⟨B3, [], none, none, none, none, A3, Ex.refl _, ⟨by simp, fun x h => absurd h List.not_mem_nil⟩, rfl⟩, fun i σ H' _ h => ?_, fun i v5 σ H' hi' pv px => ?_, fun σ H' pv => ?_⟩
  · obtain ⟨C, c, x5, x6, x8, x9, A, e, _⟩ := h
    exact e.trans A.k.e
  · rw [List.length_map] at hi'
    rw [getD_map hi'] at px
    obtain ⟨C, c, x5, x6, x8, x9, A, eC, hW, rfl⟩ := pv
    dsimp only
    have hRC := (RkP K r).m (g2.b.trans (g3.b.trans eC)) hR
    have p5 := (DvP us[i]).m eC px
    have p4 := (LsP (us.map DvP)).m (g3.b.trans eC) hv4
    have ou := (hLd.of us[i] (List.getElem_mem hi')).1
    -- some
    refine b_seq (b_asg (lc_bind ?_))
    refine t_call A.k.kn (q_cons (p_var rfl hRC) (q_cons p_c q_nil)) ⟨r, 3, hok, by decide, rfl, rfl⟩ fun va B6 H6 g6 hva => ?_
    have A6 := A.step (GX.gt g6) (A.k.gt g6)
    have hR6 := (RkP K r).m g6.b hRC
    have p56 := (DvP us[i]).m g6.b p5
    have la : (r.sort (r.all 3)).length ≤ 507 := by
      rw [(r.sort_perm _).length_eq, ← Rk.rowsT_all]
      exact r.rowsT_len (o := 3) (m := r.ns.length) (by decide) hok.le
    have lc := p_lcS (tt := tTest (tOp (rLtT K) (tCall (spP (Rlk K)) [] E0 (tCons (tVar 1) (tCons (tVar 7) tNil))) (tCall (spP (Rlk K)) [] E0 (tCons (tVar 1) (tCons (tVar 5) tNil))))) (te := tVar 7) (g := gName 7) (vs := [7]) (σ := [some (.ref d), some vr, some (.int (hi : Nat)), some (.ref l), some v4, some v5, x6, none, x8, x9]) (src_lq (K := K) (te := tC va) (p_k (lq_ls hva))) (by rw [List.length_map]; omega) (fun j => decide (r.lt ((r.sort (r.all 3)).getD j us[i]) us[i])) (fun j => DvP ((r.sort (r.all 3)).getD j us[i])) fun j v7 B7 hj e pv => by
      rw [List.length_map] at hj
      have pv : (((r.sort (r.all 3)).map DvP).getD j (IsV .non)).P v7 B7 := pv
      rw [getD_map hj] at pv
      have z : (r.sort (r.all 3)).getD j us[i] = (r.sort (r.all 3))[j] := by
        rw [List.getD_eq_getElem?_getD, List.getElem?_eq_getElem hj]
        rfl
      rw [z]
      have oj : (r.sort (r.all 3))[j].Of r := Rk.mem_all ((r.sort_perm _).mem_iff.mp (List.getElem_mem hj))
      refine ⟨[some (.ref d), some vr, some (.int (hi : Nat)), some (.ref l), some v4, some v5, x6, some v7, x8, x9], rfl, fun H2 Q e q => q, et_is (et_test (ev_ltT (K := K) (ns := r.key (r.sort (r.all 3))[j]) (ms := r.key us[i]) (p_callP (ps := [RkP K r, DvP (r.sort (r.all 3))[j]]) (q_cons (p_var rfl ((RkP K r).m e hR6)) (q_cons (p_var rfl pv) q_nil)) ⟨r, _, hok, oj, rfl, rfl⟩) (p_callP (ps := [RkP K r, DvP us[i]]) (q_cons (p_var rfl ((RkP K r).m e hR6)) (q_cons (p_var rfl ((DvP us[i]).m e p56)) q_nil)) ⟨r, us[i], hok, ou, rfl, rfl⟩))) ?_, fun _ => p_var rfl pv⟩
      exact lexD r _ _
    rw [List.length_map, range_filter (fun v : Dv => decide (r.lt v us[i])) DvP us[i] (r.sort (r.all 3))] at lc
    refine lc H6 g6.c _ fun v6 B8 H8 g8 hv6 => ?_
    have A8 := A6.step (GX.gr g8) (A6.k.gr g8)
    dsimp only [gName, List.set_cons_succ, List.set_cons_zero]
    -- some that are free
    have e08 := g6.b.trans g8.b
    have p48 := (LsP (us.map DvP)).m e08 p4
    generalize hs1 : ((r.sort (r.all 3)).filter fun v => decide (r.lt v us[i])) = s1 at hv6
    have ls1 : s1.length ≤ 507 := by
      rw [← hs1]
      exact Nat.le_trans (List.length_filter_le _ _) la
    refine b_seq (b_asg ?_)
    have lc2 := p_lcS (tt := tNot (tB (tCall (spP (Rlp K)) [] E0 (tCons (tVar 4) (tCons (tVar 7) tNil))))) (te := tVar 7) (g := gName 7) (vs := [7]) (σ := [some (.ref d), some vr, some (.int (hi : Nat)), some (.ref l), some v4, some v5, some v6, none, x8, x9]) (src_lq (K := K) (te := tVar 6) (p_var rfl (lq_ls hv6))) (by rw [List.length_map]; omega) (fun j => !(us.any fun x => wayB x (s1.getD j us[i]))) (fun j => DvP (s1.getD j us[i])) fun j v7 B9 hj e pv => by
      rw [List.length_map] at hj
      have pv : ((s1.map DvP).getD j (IsV .non)).P v7 B9 := pv
      rw [getD_map hj] at pv
      have z : s1.getD j us[i] = s1[j] := by
        rw [List.getD_eq_getElem?_getD, List.getElem?_eq_getElem hj]
        rfl
      rw [z]
      exact ⟨[some (.ref d), some vr, some (.int (hi : Nat)), some (.ref l), some v4, some v5, some v6, some v7, x8, x9], rfl, fun H2 Q e q => q, et_not (et_B (ev_p (p_callP (ps := [LqP K (us.map DvP), DvP s1[j]]) (q_cons (p_var rfl (lq_ls ((LsP _).m e p48))) (q_cons (p_var rfl pv) q_nil)) ⟨us, s1[j], by omega, rfl, rfl⟩))), fun _ => p_var rfl pv⟩
    rw [List.length_map, range_filter (fun v : Dv => !(us.any fun x => wayB x v)) DvP us[i] s1] at lc2
    refine lc2 H8 g8.c _ fun v6b B9 H9 g9 hv6b => ?_
    have A9 := A8.step (GX.gr g9) (A8.k.gr g9)
    dsimp only [gName, List.set_cons_succ, List.set_cons_zero]
    have hs2 : (s1.filter fun v => !(us.any fun x => wayB x v)) = someOf r us us[i] := by
      rw [← hs1]
      rfl
    rw [hs2] at hv6b
    have ls2 : (someOf r us us[i]).length ≤ 507 := by
      rw [← hs2]
      exact Nat.le_trans (List.length_filter_le _ _) ls1
    have p59 := (DvP us[i]).m (e08.trans g9.b) p5
    have e09 := e08.trans g9.b
    clear lc lc2 hva hv6 A6 A8 hs1 hs2
    -- terms
    refine b_seq (b_asg ?_)
    intro t ht
    have D0 := DcX.new (P := P) (w := w) (K := K) A9.k ht
    dsimp only [gName, List.set_cons_succ, List.set_cons_zero]
    have p6 : ∀ {C' : Hp}, Ex B9 C' → (LsP ((someOf r us us[i]).map DvP)).P v6b C' := fun e => (LsP _).m e hv6b
    refine b_seq (b_rest (R := fun σ' H' => ∃ C' zs x9, DcX P w K T d t B9 H9 (n + 120 + 40 * i + 24) zs C' H' ∧ Gd3 r us us[i] zs ∧ zs.length ≤ 2 ∧ σ' = [some (.ref d), some vr, some (.int (hi : Nat)), some (.ref l), some v4, some v5, some v6b, none, some (.ref t), x9]) (fun D' hD' => ?_) (fun σ' H' pv => ?_))
    · refine b_forD (b_ifI (B := B9) (b := !(someOf r us us[i]).isEmpty) (R := fun v H' => ∃ m : Int, v = .int m ∧ 0 ≤ m ∧ m < 3 ∧ (0 < m → someOf r us us[i] ≠ []) ∧ DcX P w K T d t B9 H9 (n + 120 + 40 * i + 4) [] B9 H') ?_ D0.e (fun hb H10 e10 Q' q' => ?_) (fun hb H10 e10 Q' q' => ?_) fun v H' hv => ?_)
      · have s4 : ∀ {σ : L2.St}, σ[6]? = some (some v6b) → Ev (tOp (rNeD K) (tVar 6) (tLst tNil)) σ B9 (.bl (!(someOf r us us[i]).isEmpty)) := by
          intro σ s
          have sh : SeqAt.shaped (.list ((someOf r us us[i]).map Dv.D)) = true := sh_list fun u hu => Gd.shp_dv hok (some_of hu).1
          have := ev_neD (K := K) (d := .list ((someOf r us us[i]).map Dv.D)) (e := .list []) (ls_dv (p_var s hv6b)) (ed_lst (K := K) (ds := []) q_nil (by decide)) sh rfl
          rw [eqv_nil, List.isEmpty_map] at this
          exact this
        exact et_test (s4 rfl)
      · refine (D0.ex e10).digit rfl ev_c (by decide) (by decide) (by omega) fun m H11 m0 m1 D11 S11 => ?_
        exact q' _ _ ⟨m, rfl, m0, m1, (fun _ z => by rw [z] at hb; cases hb), D11⟩
      · exact q' _ _ ⟨0, rfl, by decide, by decide, fun z => absurd z (by decide), (D0.ex e10).le (by omega)⟩
      · obtain ⟨m, rfl, m0, m1, hne, D11⟩ := hv
        refine ⟨m, rfl, by omega, by omega, for_range (lo := 0) (n := m.toNat) (fun j σ H' => ∃ C' zs x9, DcX P w K T d t B9 H9 (n + 120 + 40 * i + 4 + 8 * j) zs C' H' ∧ Gd3 r us us[i] zs ∧ zs.length ≤ j ∧ σ = [some (.ref d), some vr, some (.int (hi : Nat)), some (.ref l), some v4, some v5, some v6b, none, some (.ref t), x9]) ⟨B9, [], x9, D11, Gd3.nil _ _ _, Nat.le_refl _, rfl⟩ (fun j σ H12 hj pv => ?_) (fun σ H12 pv => ?_)⟩
        · obtain ⟨C', zs, x9, DD, hG, hz, rfl⟩ := pv
          have hne := hne (by omega)
          have hlen : 0 < (someOf r us us[i]).length := List.length_pos_iff.mpr hne
          -- the fraction
          dsimp only [gName, List.set_cons_succ, List.set_cons_zero, sNPut]
          refine b_op ?_
          have q1 : EvPs _ [some (.ref d), some vr, some (.int (hi : Nat)), some (.ref l), some v4, some v5, some v6b, none, some (.ref t), some (.int (0 + (j : Nat)))] C' (fr3.map (frP K)) := q_cons (p_tup (K := K) (ps := [IsV (.int 1), IsV (.int 1)]) (q_cons p_c (q_cons p_c q_nil)) (by show 2 ≤ 100000; decide)) (q_cons (p_tup (K := K) (ps := [IsV (.int (-2)), IsV (.int 1)]) (q_cons (p_neg p_c) (q_cons p_c q_nil)) (by show 2 ≤ 100000; decide)) (q_cons (p_tup (K := K) (ps := [IsV (.int 1), IsV (.int 2)]) (q_cons p_c (q_cons p_c q_nil)) (by show 2 ≤ 100000; decide)) q_nil))
          refine p_lst q1 (by rw [List.length_map]; decide) H12 DD.e _ fun vf B13 H13 g13 hvf => ?_
          obtain ⟨pf, xf, rfl, hpf, alf⟩ := hvf
          refine (DD.gr g13).digit rfl ev_c (by decide) (by decide) (by omega) fun f H14 f0 f1 D14 S14 => ?_
          obtain ⟨jf, prf, wf, hjf, rfl, hprf, hatf, hwf⟩ := pick alf f0 (by exact f1)
          refine ⟨pf, xf, _, wf, rfl, rfl, sq_of (D14.e _ _ hpf), hatf, ?_⟩
          rw [List.getElem?_map] at hprf
          obtain ⟨fr, hfr, rfl⟩ := Option.map_eq_some_iff.mp hprf
          have hfo := fr3_ok fr (List.mem_of_getElem? hfr)
          -- d
          refine ⟨_, rfl, ?_⟩
          -- the monomial
          have eC' : Ex B9 B13 := DD.g.b.trans g13.b
          refine ⟨_, rfl, D14.digit (z := ((someOf r us us[i]).map DvP).length) rfl (ev_lenQ (p_var rfl (lq_ls (p6 eC')))) (by rw [List.length_map]; omega) (by rw [List.length_map]; omega) (by omega) fun a H15 a0 a1 D15 S15 => ?_⟩
          obtain ⟨pl, xl, rfl, hpl, all⟩ := p6 eC'
          obtain ⟨ja, pra, wa, hja, rfl, hpra, hata, hwa⟩ := pick all a0 (by exact a1)
          refine ⟨pl, xl, _, wa, rfl, rfl, sq_of (D15.e _ _ hpl), hata, ?_⟩
          rw [List.getElem?_map] at hpra
          obtain ⟨u, hu, rfl⟩ := Option.map_eq_some_iff.mp hpra
          have hum := List.mem_of_getElem? hu
          refine ⟨by show 2 ≤ sizeLine; decide, fun p1 hp1 => ⟨by show 1 ≤ sizeLine; decide, fun p2 hp2 => ?_⟩⟩
          have n1 := Gr.new (B := B13) (.tup [wa, .int 1]) D15.e hp1
          have D16 := D15.gr n1
          have n2 := Gr.new (B := upd B13 p1 (.tup [wa, .int 1])) (.tup [.ref p1]) D16.e hp2
          have D17 := D16.gr n2
          have hm : (moP K [(u, 1)]).P (.ref p2) (upd (upd B13 p1 (.tup [wa, .int 1])) p2 (.tup [.ref p1])) := ⟨p2, _, rfl, st_of upd_same, ⟨p1, [wa, .int 1], rfl, st_of (n2.b _ _ upd_same), (DvP u).m (n1.b.trans n2.b) hwa, rfl, trivial⟩, trivial⟩
          obtain ⟨xs, hxs, km⟩ := D17.at_
          have lz := km.len
          refine ⟨t, p2, xs, nk (moD [(u, 1)]), rfl, rfl, hxs, km.ok D17.e, key_mo ((moP K _).m D17.e hm), by omega, ?_⟩
          have D18 := D17.put km hm ((frP K fr).m (n1.b.trans n2.b) hwf)
          have pl := putZ_len (zs := zs) (m := [(u, 1)]) (f := fr)
          exact ⟨_, _, _, D18.le (by omega), hG.put (.inr ⟨u, hum, rfl⟩) hfo, by omega, rfl⟩
        · obtain ⟨C', zs, x9, DD, hG, hz, rfl⟩ := pv
          exact hD' _ _ ⟨C', zs, x9, DD.le (by omega), hG, by omega, rfl⟩
    · obtain ⟨C', zs, x9', DD, hG, hz, rfl⟩ := pv
      dsimp only
      -- if digit == 0: terms[()] = (3, 1)
      refine b_seq (b_rest (R := fun σ' H' => ∃ C' zs, DcX P w K T d t B9 H9 (n + 120 + 40 * i + 28) zs C' H' ∧ Gd3 r us us[i] zs ∧ zs.length ≤ 3 ∧ σ' = [some (.ref d), some vr, some (.int (hi : Nat)), some (.ref l), some v4, some v5, some v6b, none, some (.ref t), x9']) (fun D' hD' => ?_) (fun σ' H' pv => ?_))
      · refine DD.digit rfl ev_c (by decide) (by decide) (by omega) fun a H10 a0 a1 D10 S10 => ?_
        refine ⟨rfl, _, rfl, ?_⟩
        have hd : decide (V.int a = V.int 0) = decide (a = 0) := by simp
        dsimp only
        rw [hd]
        by_cases hz0 : a = 0
        · rw [decide_eq_true hz0]
          refine iteT ?_
          refine ⟨by show 2 ≤ sizeLine; decide, fun p1 hp1 => ⟨_, rfl, by show 0 ≤ sizeLine; decide, fun p2 hp2 => ?_⟩⟩
          have n1 := Gr.new (B := C') (.tup [.int 3, .int 1]) D10.e hp1
          have D11 := D10.gr n1
          have n2 := Gr.new (B := upd C' p1 (.tup [.int 3, .int 1])) (.tup []) D11.e hp2
          have D12 := D11.gr n2
          have hm : (moP K []).P (.ref p2) (upd (upd C' p1 (.tup [.int 3, .int 1])) p2 (.tup [])) := ⟨p2, _, rfl, st_of upd_same, trivial⟩
          have hf : (frP K (3, 1)).P (.ref p1) (upd (upd C' p1 (.tup [.int 3, .int 1])) p2 (.tup [])) := ⟨p1, _, rfl, st_of (n2.b _ _ upd_same), rfl, rfl, trivial⟩
          obtain ⟨xs, hxs, km⟩ := D12.at_
          have lz := km.len
          refine ⟨t, p2, xs, nk (moD []), rfl, rfl, hxs, km.ok D12.e, key_mo ((moP K _).m D12.e hm), by omega, ?_⟩
          have pl := putZ_len (zs := zs) (m := []) (f := (3, 1))
          exact hD' _ _ ⟨_, _, (D12.put km hm hf).le (by omega), hG.put (.inl rfl) ⟨⟨by decide, by decide⟩, by decide⟩, by omega, rfl⟩
        · rw [decide_eq_false hz0]
          refine iteF ?_
          exact hD' _ _ ⟨C', zs, D10, hG, by omega, rfl⟩
      · obtain ⟨C'', zs, DD, hG, hz, rfl⟩ := pv
        dsimp only
        -- found.append((leader, tuple(sorted(terms.items()))))
        obtain ⟨kO, gO⟩ := DD.out
        have AO := A9.step gO kO
        obtain ⟨xs, hxl, al⟩ := AO.at_
        refine ⟨.ref l, rfl, .inl ⟨rfl, xs, sq_of hxl⟩, v5, rfl, ?_⟩
        refine DD.sorted rfl fun vp B10 H10 g10 hvp => ?_
        refine ⟨by show 2 ≤ sizeLine; decide, fun p1 hp1 => ?_⟩
        have A10 := AO.step (GX.gr g10) (kO.gr g10)
        have n1 := Gr.new (B := B10) (.tup [v5, vp]) g10.c hp1
        have A11 := A10.step (GX.gr n1) (A10.k.gr n1)
        obtain ⟨xs', hxl', al'⟩ := A11.at_
        have lx := al'.len
        have lW : c.length ≤ 12 := by
          have := congrArg List.length hW.ld
          rw [List.length_map, List.length_take] at this
          omega
        rw [List.length_map] at lx
        refine ⟨l, xs', .ref p1, rfl, rfl, hxl', sz_lt (by omega), ?_⟩
        have hp : (lkP K (us[i], srtT zs)).P (.ref p1) (upd B10 p1 (.tup [v5, vp])) := ⟨p1, [v5, vp], rfl, st_of upd_same, (DvP us[i]).m ((gO.b.trans g10.b).trans n1.b) p59, (poP K _).m n1.b hvp, trivial⟩
        have A12 := A11.app hxl' hp
        refine ⟨_, c ++ [(us[i], srtT zs)], _, _, _, _, ⟨A12.k.le (by omega), A12.g, by rw [List.map_append]; exact A12.at_, A12.z, A12.nd⟩, ((eC.trans e09).trans (gO.b.trans g10.b)).trans n1.b, ⟨?_, fun x hx => ?_⟩, rfl⟩
        · rw [List.map_append, hW.ld, List.take_add_one, List.getElem?_eq_getElem hi']
          rfl
        · rcases List.mem_append.mp hx with hx | hx
          · exact hW.gd x hx
          · rw [List.mem_singleton.mp hx]
            exact ⟨zs, hG, hz, rfl⟩
  · obtain ⟨C, c, x5, x6, x8, x9, A, eC, hW, rfl⟩ := pv
    rw [List.length_map] at hW A
    obtain ⟨B', gF, kF, hP⟩ := A.fin hl
    dsimp only
    refine p_tupOf (K := K) (p_lq (p_var rfl hP)) H' kF.e _ fun v B6 H6 g6 hp => ?_
    have e1 := ch_ok hLd hl2 hW
    have hld : c.map (·.1) = us := by rw [hW.ld, List.take_length]
    exact q v c B6 H6 e1 (ch_sm hLd hl2 hhi hW) (by rw [hld]; exact hLd) (gF.trans (GX.gr g6)) ((kF.gr g6).le (by omega)) hp

end
end K12
namespace K12
set_option autoImplicit false
open PySem PySem.W L2 Evl My Nd
/-! ### cones: which derivatives they have -/
theorem has_iff (c : Cn) (u : Dv) : hasB c u = true ↔ c.1.n = u.n ∧ (c.1.i ≤ u.i ∧ (c.1.i = u.i ∨ (Str.ofString "x") ∈ c.2)) ∧ (c.1.j ≤ u.j ∧ (c.1.j = u.j ∨ (Str.ofString "y") ∈ c.2)) := by
  have m : ∀ (lo hi : Int) (x : Str), meetB c (u, []) lo hi x = true ↔ lo ≤ hi ∧ (lo = hi ∨ x ∈ c.2) := by
    intro lo hi x
    unfold meetB
    by_cases h : hi < lo
    · rw [if_pos h]
      simp
      omega
    · rw [if_neg h]
      simp
      omega
  unfold hasB shareB
  rw [Bool.and_eq_true, Bool.and_eq_true, decide_eq_true_iff, m, m]
theorem has_name {c : Cn} {u : Dv} (h : hasB c u = true) : c.1.n = u.n := ((has_iff c u).mp h).1
theorem one_flat {α β : Type} {f : α → List β} {x : α} : ∀ {l : List α}, l.Nodup → x ∈ l → (∀ y ∈ l, y ≠ x → f y = []) → l.flatMap f = f x
  | [], _, h, _ => absurd h List.not_mem_nil
  | y :: l, nd, h, k => by
    rw [List.flatMap_cons]
    obtain ⟨n1, n2⟩ := List.nodup_cons.mp nd
    by_cases e : y = x
    · subst e
      have : l.flatMap f = [] := by
        rw [List.flatMap_eq_nil_iff]
        intro z hz
        exact k z (List.mem_cons_of_mem _ hz) fun e => n1 (e ▸ hz)
      rw [this, List.append_nil]
    · rw [k y List.mem_cons_self e, List.nil_append]
      rcases List.mem_cons.mp h with h | h
      · exact absurd h.symm e
      · exact one_flat n2 h fun z hz => k z (List.mem_cons_of_mem _ hz)
theorem no_flat {α β : Type} {f : α → List β} {l : List α} (k : ∀ y ∈ l, f y = []) : l.flatMap f = [] := List.flatMap_eq_nil_iff.mpr k
/-- what holds of all cones of a name -/
structure CnIn (r : Rk) (n : Str) (c : Cn) : Prop where
  n : c.1.n = n
  i : 0 ≤ c.1.i
  j : 0 ≤ c.1.j
  w : c.2 ∈ waysAll
  a : ∀ x ∈ c.2, x ∈ r.axs
  y : c.1.j = 0 ∨ (Str.ofString "y") ∈ r.axs
theorem ways_all (r : Rk) : waysOf r ∈ waysAll := by
  have : ∀ a : Fin 3, (xy.filter fun x => decide (x ∈ axsOf a)) ∈ waysAll := by decide +kernel
  exact this r.ax
theorem ways_axs (r : Rk) : ∀ x ∈ waysOf r, x ∈ r.axs := fun x hx => of_decide_eq_true (List.mem_filter.mp hx).2
theorem x_axs (r : Rk) : (Str.ofString "x") ∈ r.axs := by
  have : ∀ a : Fin 3, (Str.ofString "x") ∈ axsOf a := by decide +kernel
  exact this r.ax
theorem ways_two {r : Rk} (h : (Str.ofString "y") ∈ r.axs) : waysOf r = (["x", "y"] : List Str) := by
  have : ∀ a : Fin 3, (Str.ofString "y") ∈ axsOf a → (xy.filter fun x => decide (x ∈ axsOf a)) = (["x", "y"] : List Str) := by decide +kernel
  exact this r.ax h
theorem ways_one {r : Rk} (h : (Str.ofString "y") ∉ r.axs) : waysOf r = (["x"] : List Str) := by
  have : ∀ a : Fin 3, (Str.ofString "y") ∉ axsOf a → (xy.filter fun x => decide (x ∈ axsOf a)) = (["x"] : List Str) := by decide +kernel
  exact this r.ax h
theorem fwD_all (last : Int) (k : Nat) : fwD last k ∈ waysAll := by
  unfold fwD
  split <;> decide +kernel
theorem pwy_all (last : Int) (k : Nat) : pwy last k ∈ waysAll := by
  unfold pwy
  split <;> decide +kernel
theorem y_all : (["y"] : List Str) ∈ waysAll := by decide +kernel
theorem x_all : (["x"] : List Str) ∈ waysAll := by decide +kernel
theorem no_all : ([] : List Str) ∈ waysAll := by decide +kernel
theorem fwD_x {last : Int} {k : Nat} {x : Str} (h : x ∈ fwD last k) : x = "x" := by
  unfold fwD at h
  split at h
  · simpa using h
  · simp at h
theorem pwy_xy {last : Int} {k : Nat} {x : Str} (h : x ∈ pwy last k) : x = "x" ∨ x = "y" := by
  unfold pwy at h
  split at h
  · simpa using h
  · right
    simpa using h
theorem ends_0 {pl : Pl} (h : ∀ p ∈ pl, 0 ≤ p.1 ∧ 0 ≤ p.2) {k : Nat} {e : Int} {es : List Int} (he : endsOf pl k = e :: es) : 0 ≤ minI e es := by
  have hm : minI e es ∈ endsOf pl k := by rw [he]; exact minI_mem es e
  unfold endsOf at hm
  obtain ⟨p, hp, z⟩ := List.mem_map.mp hm
  rw [← z]
  exact (h p (List.mem_filter.mp hp).1).2
theorem pl_0 {c : Ch} (h : ChSm c) (n : Str) : ∀ p ∈ placesOf c n, 0 ≤ p.1 ∧ 0 ≤ p.2 := fun p hp => by
  unfold placesOf at hp
  obtain ⟨x, hx, rfl⟩ := List.mem_map.mp hp
  exact h.ge x (List.mem_filter.mp hx).1
theorem col_in {r : Rk} {pl : Pl} {n : Str} {last : Int} {k : Nat} (hy : (Str.ofString "y") ∈ r.axs) (h : ∀ p ∈ pl, 0 ≤ p.1 ∧ 0 ≤ p.2) : ∀ c, c ∈ (colOf n pl last k).1 ∨ c ∈ (colOf n pl last k).2 → CnIn r n c := by
  have k0 : (0 : Int) ≤ (k : Nat) := Int.natCast_nonneg k
  intro c hc
  unfold colOf at hc
  split at hc
  · rcases hc with hc | hc
    · rw [List.mem_singleton.mp hc]
      exact ⟨rfl, k0, Int.le_refl 0, y_all, fun x hx => by rw [List.mem_singleton.mp hx]; exact hy, .inr hy⟩
    · exact absurd hc List.not_mem_nil
  · rename_i e es he
    have m0 := ends_0 h he
    rcases hc with hc | hc
    · obtain ⟨j, _, rfl⟩ := List.mem_map.mp hc
      exact ⟨rfl, k0, Int.natCast_nonneg j, fwD_all _ _, fun x hx => by rw [fwD_x hx]; exact x_axs r, .inr hy⟩
    · rw [List.mem_singleton.mp hc]
      exact ⟨rfl, k0, m0, pwy_all _ _, fun x hx => by rcases pwy_xy hx with e | e <;> rw [e]; exact x_axs r; exact hy, .inr hy⟩
theorem by_in {r : Rk} {c : Ch} (h : ChSm c) (n : Str) : ∀ x ∈ colsBy r c n, ∀ o, o ∈ x.1 ∨ o ∈ x.2 → CnIn r n o := by
  have hp := pl_0 h n
  intro x hx o ho
  unfold colsBy at hx
  split at hx
  · rw [List.mem_singleton.mp hx] at ho
    rcases ho with ho | ho
    · rw [List.mem_singleton.mp ho]
      exact ⟨rfl, Int.le_refl 0, Int.le_refl 0, ways_all r, ways_axs r, .inl rfl⟩
    · exact absurd ho List.not_mem_nil
  · rename_i p pl e
    split at hx
    · rename_i hy
      unfold colsOf at hx
      obtain ⟨k, _, rfl⟩ := List.mem_map.mp hx
      rw [e] at hp
      exact col_in hy hp o ho
    · have p0 := hp p (by rw [e]; exact List.mem_cons_self)
      rw [List.mem_singleton.mp hx] at ho
      rcases ho with ho | ho
      · obtain ⟨j, _, rfl⟩ := List.mem_map.mp ho
        exact ⟨rfl, Int.natCast_nonneg j, Int.le_refl 0, no_all, fun x hx => absurd hx List.not_mem_nil, .inl rfl⟩
      · rw [List.mem_singleton.mp ho]
        exact ⟨rfl, p0.1, Int.le_refl 0, x_all, fun x hx => by rw [List.mem_singleton.mp hx]; exact x_axs r, .inl rfl⟩
theorem free_at {r : Rk} {c : Ch} {o : Cn} (h : o ∈ freeAll r c) : ∃ n ∈ r.ns, ∃ x ∈ colsBy r c n, o ∈ x.1 := by
  unfold freeAll colsAll at h
  obtain ⟨x, hx, ho⟩ := List.mem_flatMap.mp h
  obtain ⟨n, hn, hx⟩ := List.mem_flatMap.mp hx
  exact ⟨n, hn, x, hx, ho⟩
theorem prin_at {r : Rk} {c : Ch} {o : Cn} (h : o ∈ prinAll r c) : ∃ n ∈ r.ns, ∃ x ∈ colsBy r c n, o ∈ x.2 := by
  unfold prinAll colsAll at h
  obtain ⟨x, hx, ho⟩ := List.mem_flatMap.mp h
  obtain ⟨n, hn, hx⟩ := List.mem_flatMap.mp hx
  exact ⟨n, hn, x, hx, ho⟩
theorem CnIn.ok {r : Rk} {n : Str} {c : Cn} (h : CnIn r n c) (hn : n ∈ r.ns) : CnOk r c := ⟨⟨h.n ▸ hn, h.i, h.j, h.y⟩, h.w, h.a⟩
theorem free_ok {r : Rk} {c : Ch} (h : ChSm c) : ∀ o ∈ freeAll r c, CnOk r o := fun o ho => by
  obtain ⟨n, hn, x, hx, ho⟩ := free_at ho
  exact (by_in h n x hx o (.inl ho)).ok hn
theorem prin_ok {r : Rk} {c : Ch} (h : ChSm c) : ∀ o ∈ prinAll r c, CnOk r o := fun o ho => by
  obtain ⟨n, hn, x, hx, ho⟩ := prin_at ho
  exact (by_in h n x hx o (.inr ho)).ok hn
/-! ### each derivative is had by just one -/
/-- whether a derivative is derived of a leader -/
def bndB (c : Ch) (u : Dv) : Bool := (c.map (·.1)).any fun v => wayB v u
theorem bnd_pl (c : Ch) (u : Dv) : bndB c u = (placesOf c u.n).any fun p => decide (p.1 ≤ u.i) && decide (p.2 ≤ u.j) := by
  unfold bndB placesOf
  rw [List.any_map, List.any_map, List.any_filter, Bool.eq_iff_iff, List.any_eq_true, List.any_eq_true]
  constructor
  · rintro ⟨x, hx, h⟩
    exact ⟨x, hx, h⟩
  · rintro ⟨x, hx, h⟩
    exact ⟨x, hx, h⟩
theorem ends_any (pl : Pl) (k : Nat) (j : Int) : (∃ p ∈ pl, p.1 ≤ (k : Int) ∧ p.2 ≤ j) ↔ ∃ e ∈ endsOf pl k, e ≤ j := by
  unfold endsOf
  constructor
  · rintro ⟨p, hp, h1, h2⟩
    exact ⟨p.2, List.mem_map_of_mem (List.mem_filter.mpr ⟨hp, decide_eq_true h1⟩), h2⟩
  · rintro ⟨e, he, h⟩
    obtain ⟨p, hp, rfl⟩ := List.mem_map.mp he
    obtain ⟨h1, h2⟩ := List.mem_filter.mp hp
    exact ⟨p, h1, of_decide_eq_true h2, h⟩
theorem min_any (e : Int) (es : List Int) (j : Int) : (∃ x ∈ e :: es, x ≤ j) ↔ minI e es ≤ j := by
  constructor
  · rintro ⟨x, hx, h⟩
    obtain ⟨h1, h2⟩ := minI_le es e
    rcases List.mem_cons.mp hx with rfl | hx
    · omega
    · have := h2 x hx
      omega
  · intro h
    exact ⟨_, minI_mem es e, h⟩
theorem str_xy : (Str.ofString "y") ≠ (Str.ofString "x") := by decide +kernel
theorem y_fwD (last : Int) (k : Nat) : (Str.ofString "y") ∉ fwD last k := fun h => str_xy (fwD_x h)
theorem x_fwD (last : Int) (k : Nat) : (Str.ofString "x") ∈ fwD last k ↔ (k : Int) = last := by
  unfold fwD
  split
  · rename_i h
    exact ⟨fun _ => h, fun _ => List.mem_singleton.mpr rfl⟩
  · rename_i h
    exact ⟨fun z => absurd z List.not_mem_nil, fun z => absurd z h⟩
theorem y_pwy (last : Int) (k : Nat) : (Str.ofString "y") ∈ pwy last k := by
  unfold pwy
  split <;> simp [Str.ofString]
theorem x_pwy (last : Int) (k : Nat) : (Str.ofString "x") ∈ pwy last k ↔ (k : Int) = last := by
  unfold pwy
  split
  · rename_i h
    exact ⟨fun _ => h, fun _ => List.mem_cons_self⟩
  · rename_i h
    exact ⟨fun z => absurd (List.mem_singleton.mp z) str_xy.symm, fun z => absurd z h⟩
theorem x_y : (Str.ofString "x") ∉ (["y"] : List Str) := fun h => str_xy.symm (List.mem_singleton.mp h)
/-- the column that a derivative can be in -/
theorem col_out {pl : Pl} {n : Str} {last : Int} {k : Nat} {u : Dv} (hk : (k : Int) ≤ last) (hl : (∃ p ∈ pl, p.1 = last)) (h : ¬ ((k : Int) = u.i ∨ ((k : Int) = last ∧ last ≤ u.i))) :
    ((colOf n pl last k).1.filter fun o => hasB o u) = [] ∧ ((colOf n pl last k).2.filter fun o => hasB o u) = [] := by
  unfold colOf
  split
  · rename_i he
    refine ⟨?_, rfl⟩
    rw [List.filter_eq_nil_iff]
    intro o ho
    rw [List.mem_singleton.mp ho, has_iff]
    rintro ⟨_, ⟨h1, h2⟩, _⟩
    rcases h2 with h2 | h2
    · exact h (.inl h2)
    · exact x_y h2
  · refine ⟨?_, ?_⟩
    · rw [List.filter_eq_nil_iff]
      intro o ho
      obtain ⟨j, _, rfl⟩ := List.mem_map.mp ho
      rw [has_iff]
      rintro ⟨_, ⟨h1, h2⟩, _⟩
      have h1 : (k : Int) ≤ u.i := h1
      rcases h2 with h2 | h2
      · exact h (.inl h2)
      · have := (x_fwD last k).mp h2
        exact h (.inr ⟨this, by omega⟩)
    · rw [List.filter_eq_nil_iff]
      intro o ho
      rw [List.mem_singleton.mp ho, has_iff]
      rintro ⟨_, ⟨h1, h2⟩, _⟩
      have h1 : (k : Int) ≤ u.i := h1
      rcases h2 with h2 | h2
      · exact h (.inl h2)
      · have := (x_pwy last k).mp h2
        exact h (.inr ⟨this, by omega⟩)
theorem col_one {pl : Pl} {last : Int} {k : Nat} {u : Dv} (hk : (k : Int) ≤ last) (hp : ∀ p ∈ pl, 0 ≤ p.1 ∧ 0 ≤ p.2) (hl : ∀ p ∈ pl, p.1 ≤ last) (hi : ∃ p ∈ pl, p.1 = last) (hj : 0 ≤ u.j) (h : (k : Int) = u.i ∨ ((k : Int) = last ∧ last ≤ u.i)) :
    ((colOf u.n pl last k).1.filter fun o => hasB o u).length = (if (pl.any fun p => decide (p.1 ≤ u.i) && decide (p.2 ≤ u.j)) = true then 0 else 1) ∧ ((colOf u.n pl last k).2.filter fun o => hasB o u).length = (if (pl.any fun p => decide (p.1 ≤ u.i) && decide (p.2 ≤ u.j)) = true then 1 else 0) := by
  have hb : (pl.any fun p => decide (p.1 ≤ u.i) && decide (p.2 ≤ u.j)) = true ↔ ∃ p ∈ pl, p.1 ≤ (k : Int) ∧ p.2 ≤ u.j := by
    rw [List.any_eq_true]
    constructor
    · rintro ⟨p, hp, h1⟩
      simp only [Bool.and_eq_true, decide_eq_true_eq] at h1
      have := hl p hp
      exact ⟨p, hp, by omega, h1.2⟩
    · rintro ⟨p, hp, h1, h2⟩
      refine ⟨p, hp, ?_⟩
      simp only [Bool.and_eq_true, decide_eq_true_eq]
      exact ⟨by omega, h2⟩
  rw [ends_any] at hb
  unfold colOf
  split
  · rename_i he
    have nb : ¬ (pl.any fun p => decide (p.1 ≤ u.i) && decide (p.2 ≤ u.j)) = true := fun z => by
      obtain ⟨e, h1, _⟩ := hb.mp z
      rw [he] at h1
      exact absurd h1 List.not_mem_nil
    rw [if_neg nb, if_neg nb]
    refine ⟨?_, rfl⟩
    have kl : (k : Int) ≠ last := fun z => by
      obtain ⟨p, hp, e⟩ := hi
      have : p.2 ∈ endsOf pl k := by
        unfold endsOf
        exact List.mem_map_of_mem (List.mem_filter.mpr ⟨hp, decide_eq_true (by omega)⟩)
      rw [he] at this
      exact absurd this List.not_mem_nil
    have ke : (k : Int) = u.i := h.resolve_right fun z => kl z.1
    have : hasB (⟨u.n, (k : Int), 0⟩, ["y"]) u = true := (has_iff _ _).mpr ⟨rfl, ⟨Int.le_of_eq ke, .inl ke⟩, hj, .inr (List.mem_singleton.mpr rfl)⟩
    show (List.filter (fun o => hasB o u) [(⟨u.n, (k : Int), 0⟩, ["y"])]).length = 1
    rw [List.filter_cons_of_pos (p := fun o => hasB o u) this]
    rfl
  · rename_i e es he
    rw [he, min_any] at hb
    have m0 := ends_0 hp he
    have kx : (k : Int) ≤ u.i ∧ ((k : Int) = u.i ∨ (k : Int) = last) := by omega
    have hpr : hasB (⟨u.n, (k : Int), minI e es⟩, pwy last k) u = true ↔ minI e es ≤ u.j := by
      rw [has_iff]
      exact ⟨fun z => z.2.2.1, fun z => ⟨rfl, ⟨kx.1, kx.2.imp id (x_pwy last k).mpr⟩, z, .inr (y_pwy last k)⟩⟩
    have hfr : ∀ j : Nat, hasB (⟨u.n, (k : Int), (j : Nat)⟩, fwD last k) u = decide ((j : Int) = u.j) := fun j => by
      rw [Bool.eq_iff_iff, has_iff, decide_eq_true_iff]
      constructor
      · rintro ⟨_, _, h1, h2⟩
        rcases h2 with h2 | h2
        · exact h2
        · exact absurd h2 (y_fwD last k)
      · intro z
        exact ⟨rfl, ⟨kx.1, kx.2.imp id (x_fwD last k).mpr⟩, by show (j : Int) ≤ u.j; omega, .inl z⟩
    have cnt : ∀ m : Nat, (((List.range m).map fun j => ((⟨u.n, (k : Int), (j : Nat)⟩ : Dv), fwD last k)).filter fun o => hasB o u).length = if u.j < m then 1 else 0 := by
      intro m
      rw [List.filter_map, List.length_map]
      have : ((fun o : Cn => hasB o u) ∘ fun j : Nat => ((⟨u.n, (k : Int), (j : Nat)⟩ : Dv), fwD last k)) = fun j : Nat => decide ((j : Int) = u.j) := funext fun j => hfr j
      rw [this]
      induction m with
      | zero =>
        rw [if_neg (by simp; omega)]
        rfl
      | succ m ih =>
        rw [List.range_succ, List.filter_append, List.length_append, ih]
        by_cases e : (m : Int) = u.j
        · rw [List.filter_cons_of_pos (by simpa using e), if_neg (by omega), if_pos (by omega)]
          rfl
        · rw [List.filter_cons_of_neg (by simpa using e)]
          by_cases e2 : u.j < (m : Int)
          · rw [if_pos e2, if_pos (by omega)]
            rfl
          · rw [if_neg e2, if_neg (by omega)]
            rfl
    by_cases z : minI e es ≤ u.j
    · rw [if_pos (hb.mpr z), if_pos (hb.mpr z)]
      refine ⟨?_, ?_⟩
      · rw [cnt, if_neg (by omega)]
      · rw [List.filter_cons_of_pos (p := fun o => hasB o u) (hpr.mpr z)]
        rfl
    · rw [if_neg (fun k => z (hb.mp k)), if_neg (fun k => z (hb.mp k))]
      refine ⟨?_, ?_⟩
      · rw [cnt, if_pos (by omega)]
      · rw [List.filter_cons_of_neg (p := fun o => hasB o u) (fun k => z (hpr.mp k))]
        rfl
theorem last_le {pl : Pl} : ∀ p ∈ pl, p.1 ≤ lastOf pl := fun p hp => by
  cases pl with
  | nil => exact absurd hp List.not_mem_nil
  | cons q pl =>
    obtain ⟨h1, h2⟩ := maxI_ge (pl.map (·.1)) q.1
    rcases List.mem_cons.mp hp with rfl | hp
    · exact h1
    · exact h2 _ (List.mem_map_of_mem hp)
theorem cols_one {pl : Pl} {u : Dv} (hne : pl ≠ []) (hp : ∀ p ∈ pl, 0 ≤ p.1 ∧ 0 ≤ p.2) (hi0 : 0 ≤ u.i) (hj : 0 ≤ u.j) :
    (((colsOf u.n pl).flatMap (·.1)).filter fun o => hasB o u).length = (if (pl.any fun p => decide (p.1 ≤ u.i) && decide (p.2 ≤ u.j)) = true then 0 else 1) ∧ (((colsOf u.n pl).flatMap (·.2)).filter fun o => hasB o u).length = (if (pl.any fun p => decide (p.1 ≤ u.i) && decide (p.2 ≤ u.j)) = true then 1 else 0) := by
  have hi := last_in hne
  have l0 : 0 ≤ lastOf pl := by
    obtain ⟨p, h1, h2⟩ := hi
    have := (hp p h1).1
    omega
  obtain ⟨k, hk, hk2, hk3⟩ : ∃ k : Nat, (k : Int) ≤ lastOf pl ∧ ((k : Int) = u.i ∨ ((k : Int) = lastOf pl ∧ lastOf pl ≤ u.i)) ∧ ∀ j : Nat, (j : Int) ≤ lastOf pl → ((j : Int) = u.i ∨ ((j : Int) = lastOf pl ∧ lastOf pl ≤ u.i)) → j = k := by
    by_cases h : u.i ≤ lastOf pl
    · exact ⟨u.i.toNat, by omega, .inl (by omega), fun j h1 h2 => by omega⟩
    · exact ⟨(lastOf pl).toNat, by omega, .inr ⟨by omega, by omega⟩, fun j h1 h2 => by omega⟩
  unfold colsOf
  rw [List.flatMap_map, List.flatMap_map, List.filter_flatMap, List.filter_flatMap]
  have km : k ∈ List.range ((lastOf pl).toNat + 1) := List.mem_range.mpr (by omega)
  have out : ∀ j ∈ List.range ((lastOf pl).toNat + 1), j ≠ k → ((colOf u.n pl (lastOf pl) j).1.filter fun o => hasB o u) = [] ∧ ((colOf u.n pl (lastOf pl) j).2.filter fun o => hasB o u) = [] := fun j hj hne => by
    have hj := List.mem_range.mp hj
    exact col_out (by omega) hi fun z => hne (hk3 j (by omega) z)
  rw [one_flat (f := fun a => List.filter (fun o => hasB o u) (colOf u.n pl (lastOf pl) a).1) List.nodup_range km fun j hj hne => (out j hj hne).1, one_flat (f := fun a => List.filter (fun o => hasB o u) (colOf u.n pl (lastOf pl) a).2) List.nodup_range km fun j hj hne => (out j hj hne).2]
  exact col_one hk hp last_le hi hj hk2
theorem by_one {r : Rk} {hi : Nat} {c : Ch} {u : Dv} (hc : ChSm c) (hl : LdOk r hi (c.map (·.1))) (hu : u.Of r) :
    (((colsBy r c u.n).flatMap (·.1)).filter fun o => hasB o u).length = (if bndB c u = true then 0 else 1) ∧ (((colsBy r c u.n).flatMap (·.2)).filter fun o => hasB o u).length = (if bndB c u = true then 1 else 0) := by
  rw [bnd_pl]
  have hp := pl_0 hc u.n
  have hi := hu.i
  have hj := hu.j
  unfold colsBy
  split
  · rename_i e
    rw [e]
    have : hasB (⟨u.n, 0, 0⟩, waysOf r) u = true := (has_iff _ _).mpr ⟨rfl, ⟨hi, .inr (List.mem_filter.mpr ⟨List.mem_cons_self, decide_eq_true (x_axs r)⟩)⟩, hj, by
      rcases hu.y with h | h
      · exact .inl h.symm
      · rw [ways_two h]
        exact .inr (List.mem_cons_of_mem _ List.mem_cons_self)⟩
    refine ⟨?_, rfl⟩
    show (List.filter (fun o => hasB o u) ([(⟨u.n, 0, 0⟩, waysOf r)] ++ [])).length = 1
    rw [List.append_nil, List.filter_cons_of_pos (p := fun o => hasB o u) this]
    rfl
  · rename_i p pl e
    split
    · rw [e] at hp ⊢
      exact cols_one (fun z => nomatch z) hp hi hj
    · rename_i hy
      have uj : u.j = 0 := hu.y.elim id fun z => absurd z hy
      -- one axis: just one leader of the name
      have one : ∀ q ∈ placesOf c u.n, q = p := by
        have at_ : ∀ q ∈ placesOf c u.n, ∃ x ∈ c, x.1.n = u.n ∧ q = (x.1.i, x.1.j) := fun q hq => by
          unfold placesOf at hq
          obtain ⟨x, hx, rfl⟩ := List.mem_map.mp hq
          obtain ⟨h1, h2⟩ := List.mem_filter.mp hx
          exact ⟨x, h1, of_decide_eq_true h2, rfl⟩
        have z0 : ∀ x ∈ c, x.1.j = 0 := fun x hx => ((hl.of x.1 (List.mem_map_of_mem hx)).1.y).elim id fun z => absurd z hy
        intro q hq
        obtain ⟨x, hx, xn, rfl⟩ := at_ q hq
        obtain ⟨y, hy', yn, hp'⟩ := at_ p (by rw [e]; exact List.mem_cons_self)
        have jx := z0 x hx
        have jy := z0 y hy'
        have same : x.1 = y.1 := by
          by_cases h : x.1.i ≤ y.1.i
          · exact hl.ap _ (List.mem_map_of_mem hx) _ (List.mem_map_of_mem hy') (by simp [wayB, xn, yn, h, jx, jy])
          · exact (hl.ap _ (List.mem_map_of_mem hy') _ (List.mem_map_of_mem hx) (by simp [wayB, xn, yn, jx, jy]; omega)).symm
        rw [hp', same]
      have p0 := hp p (by rw [e]; exact List.mem_cons_self)
      have pj : p.2 = 0 := by
        have : p ∈ placesOf c u.n := by rw [e]; exact List.mem_cons_self
        unfold placesOf at this
        obtain ⟨x, hx, rfl⟩ := List.mem_map.mp this
        exact ((hl.of x.1 (List.mem_map_of_mem (List.mem_filter.mp hx).1)).1.y).elim id fun z => absurd z hy
      have hb : ((placesOf c u.n).any fun q => decide (q.1 ≤ u.i) && decide (q.2 ≤ u.j)) = true ↔ p.1 ≤ u.i := by
        rw [List.any_eq_true]
        constructor
        · rintro ⟨q, hq, h⟩
          rw [one q hq] at h
          simp only [Bool.and_eq_true, decide_eq_true_eq] at h
          exact h.1
        · intro h
          refine ⟨p, by rw [e]; exact List.mem_cons_self, ?_⟩
          simp only [Bool.and_eq_true, decide_eq_true_eq]
          exact ⟨h, by omega⟩
      have hfr : ∀ j : Nat, hasB (⟨u.n, (j : Nat), 0⟩, []) u = decide ((j : Int) = u.i) := fun j => by
        rw [Bool.eq_iff_iff, has_iff, decide_eq_true_iff]
        constructor
        · rintro ⟨_, ⟨h1, h2⟩, _⟩
          rcases h2 with h2 | h2
          · exact h2
          · exact absurd h2 List.not_mem_nil
        · intro z
          exact ⟨rfl, ⟨by show (j : Int) ≤ u.i; omega, .inl z⟩, hj, .inl uj.symm⟩
      have cnt : ∀ m : Nat, (((List.range m).map fun j => ((⟨u.n, (j : Nat), 0⟩ : Dv), ([] : List Str))).filter fun o => hasB o u).length = if u.i < m then 1 else 0 := by
        intro m
        rw [List.filter_map, List.length_map]
        have : ((fun o : Cn => hasB o u) ∘ fun j : Nat => ((⟨u.n, (j : Nat), 0⟩ : Dv), ([] : List Str))) = fun j : Nat => decide ((j : Int) = u.i) := funext fun j => hfr j
        rw [this]
        induction m with
        | zero =>
          rw [if_neg (by simp; omega)]
          rfl
        | succ m ih =>
          rw [List.range_succ, List.filter_append, List.length_append, ih]
          by_cases e : (m : Int) = u.i
          · rw [List.filter_cons_of_pos (by simpa using e), if_neg (by omega), if_pos (by omega)]
            rfl
          · rw [List.filter_cons_of_neg (by simpa using e)]
            by_cases e2 : u.i < (m : Int)
            · rw [if_pos e2, if_pos (by omega)]
              rfl
            · rw [if_neg e2, if_neg (by omega)]
              rfl
      have hpr : hasB (⟨u.n, p.1, 0⟩, ["x"]) u = true ↔ p.1 ≤ u.i := by
        rw [has_iff]
        exact ⟨fun z => z.2.1.1, fun z => ⟨rfl, ⟨z, .inr (List.mem_singleton.mpr rfl)⟩, hj, .inl uj.symm⟩⟩
      rw [List.flatMap_cons, List.flatMap_nil, List.append_nil, List.flatMap_cons, List.flatMap_nil, List.append_nil]
      by_cases z : p.1 ≤ u.i
      · rw [if_pos (hb.mpr z), if_pos (hb.mpr z)]
        refine ⟨?_, ?_⟩
        · rw [cnt, if_neg (by omega)]
        · rw [List.filter_cons_of_pos (p := fun o => hasB o u) (hpr.mpr z)]
          rfl
      · rw [if_neg (fun k => z (hb.mp k)), if_neg (fun k => z (hb.mp k))]
        refine ⟨?_, ?_⟩
        · rw [cnt, if_pos (by omega)]
        · rw [List.filter_cons_of_neg (p := fun o => hasB o u) (fun k => z (hpr.mp k))]
          rfl
theorem just_one {r : Rk} {hi : Nat} {c : Ch} {u : Dv} (hr : r.Ok) (hc : ChSm c) (hl : LdOk r hi (c.map (·.1))) (hu : u.Of r) :
    ((freeAll r c).filter fun o => hasB o u).length = (if bndB c u = true then 0 else 1) ∧ ((prinAll r c).filter fun o => hasB o u).length = (if bndB c u = true then 1 else 0) := by
  unfold freeAll prinAll colsAll
  rw [List.flatMap_assoc, List.flatMap_assoc, List.filter_flatMap, List.filter_flatMap]
  have out : ∀ n ∈ r.ns, n ≠ u.n → (((colsBy r c n).flatMap (·.1)).filter fun o => hasB o u) = [] ∧ (((colsBy r c n).flatMap (·.2)).filter fun o => hasB o u) = [] := fun n _ hne => by
    refine ⟨?_, ?_⟩
    · rw [List.filter_eq_nil_iff]
      intro o ho z
      obtain ⟨x, hx, ho⟩ := List.mem_flatMap.mp ho
      exact hne ((by_in hc n x hx o (.inl ho)).n.symm.trans (has_name z))
    · rw [List.filter_eq_nil_iff]
      intro o ho z
      obtain ⟨x, hx, ho⟩ := List.mem_flatMap.mp ho
      exact hne ((by_in hc n x hx o (.inr ho)).n.symm.trans (has_name z))
  rw [one_flat (f := fun n => List.filter (fun o => hasB o u) ((colsBy r c n).flatMap (·.1))) hr.nd hu.n fun n hn hne => (out n hn hne).1, one_flat (f := fun n => List.filter (fun o => hasB o u) ((colsBy r c n).flatMap (·.2))) hr.nd hu.n fun n hn hne => (out n hn hne).2]
  exact by_one hc hl hu
theorem fst_bnd (c : Ch) (u : Dv) : decide (fstI c u = none) = !bndB c u := by
  unfold fstI bndB
  rw [Bool.eq_iff_iff, decide_eq_true_iff, List.findIdx?_eq_none_iff, List.any_map, Bool.not_eq_true', List.any_eq_false]
  constructor
  · intro h x hx z
    have := h x hx
    rw [show wayB x.1 u = true from z] at this
    cases this
  · intro h x hx
    exact Bool.eq_false_iff.mpr (h x hx)
end K12
namespace K12
set_option autoImplicit false
open PySem PySem.W L2 Evl My Nd LamX NdefX
def plL (ls : List Dv) : Pl := ls.map fun u => (u.i, u.j)
def topD (pl : Pl) (k : Nat) : List Int := match endsOf pl k with
  | [] => []
  | e :: es => [minI e es]
def Rtop (K : PySem.W.Frag) : List Pr → Pr → Prop := fun ps p => ∃ (ls : List Dv) (k : Nat), ls.length ≤ 1000 ∧ ps = [LqP K (ls.map DvP), IsV (.int (k : Nat))] ∧ p = IsD K (.list ((topD (plL ls) k).map .int))
def wlL (L : Int) (k : Nat) : List Str := if (k : Int) < L then ["y"] else ["x", "y"]
def lwL (L : Int) (k : Nat) : List Str := if (k : Int) < L then [] else ["x"]
def colL (n : Str) (pl : Pl) (L : Int) (k : Nat) : List Cn × List Cn := match endsOf pl k with
  | [] => ([(⟨n, k, 0⟩, wlL L k)], [])
  | e :: es => ((List.range (minI e es).toNat).map fun j => (⟨n, k, (j : Nat)⟩, lwL L k), [(⟨n, k, minI e es⟩, wlL L k)])
def lastL (pl : Pl) : Int := maxI 0 (pl.map (·.1))
def colsL (n : Str) (pl : Pl) : List (List Cn × List Cn) := (List.range ((lastL pl).toNat + 1)).map (colL n pl (lastL pl))
def Rcolm (K : PySem.W.Frag) : List Pr → Pr → Prop := fun ps p => ∃ (n : Str) (ls : List Dv), ls.length ≤ 1000 ∧ (∀ u ∈ ls, 0 ≤ u.i ∧ 0 ≤ u.j ∧ u.i ≤ 100 ∧ u.j ≤ 100) ∧ ps = [IsV (.str n), LqP K (ls.map DvP)] ∧
  p = TuP K [LsP (((colsL n (plL ls)).flatMap (·.1)).map (cnP K)), LsP (((colsL n (plL ls)).flatMap (·.2)).map (cnP K))]
def Rcns (K : PySem.W.Frag) : List Pr → Pr → Prop := fun ps p => ∃ (r : Rk) (hi : Nat) (c : Ch), r.Ok ∧ ChSm c ∧ LdOk r hi (c.map (·.1)) ∧ ps = [RkP K r, chP K c] ∧ p = TuP K [TuP K ((freeAll r c).map (cnP K)), TuP K ((prinAll r c).map (cnP K))]
theorem lastL_0 (pl : Pl) : 0 ≤ lastL pl := by
  unfold lastL
  exact (maxI_ge (pl.map fun p => p.1) 0).1
theorem lastL_le {pl : Pl} {m : Int} (h0 : 0 ≤ m) (h : ∀ p ∈ pl, p.1 ≤ m) : lastL pl ≤ m := by
  rcases List.mem_cons.mp (maxI_mem (pl.map (·.1)) 0) with e | e
  · unfold lastL
    omega
  · obtain ⟨p, hp, e⟩ := List.mem_map.mp e
    have := h p hp
    unfold lastL
    omega
theorem lastL_eq {pl : Pl} (hne : pl ≠ []) (h : ∀ p ∈ pl, 0 ≤ p.1 ∧ 0 ≤ p.2) : lastL pl = lastOf pl := by
  have h1 : lastL pl ≤ lastOf pl := by
    obtain ⟨p, hp, e⟩ := last_in hne
    exact lastL_le (by have := (h p hp).1; omega) last_le
  obtain ⟨p, hp, e⟩ := last_in hne
  have h2 := (maxI_ge (pl.map (·.1)) 0).2 p.1 (List.mem_map_of_mem hp)
  unfold lastL at *
  omega
theorem colL_eq {n : Str} {pl : Pl} (hne : pl ≠ []) (h : ∀ p ∈ pl, 0 ≤ p.1 ∧ 0 ≤ p.2) : colsL n pl = colsOf n pl := by
  unfold colsL colsOf
  rw [lastL_eq hne h]
  refine List.map_congr_left fun k hk => ?_
  have hk := List.mem_range.mp hk
  have l0 : 0 ≤ lastOf pl := by
    have := lastL_0 pl
    rw [lastL_eq hne h] at this
    exact this
  have lw : lwL (lastOf pl) k = fwD (lastOf pl) k := by
    unfold lwL fwD
    by_cases e : (k : Int) = lastOf pl
    · rw [if_neg (by omega), if_pos e]
    · rw [if_pos (by omega), if_neg e]
  have ww : wlL (lastOf pl) k = pwy (lastOf pl) k := by
    unfold wlL pwy
    by_cases e : (k : Int) = lastOf pl
    · rw [if_neg (by omega), if_pos e]
    · rw [if_pos (by omega), if_neg e]
  cases he : endsOf pl k with
  | nil =>
    have ne : (k : Int) ≠ lastOf pl := fun z => by
      obtain ⟨p, hp, e⟩ := last_in hne
      have : p.2 ∈ endsOf pl k := by
        unfold endsOf
        exact List.mem_map_of_mem (List.mem_filter.mpr ⟨hp, decide_eq_true (by omega)⟩)
      rw [he] at this
      exact absurd this List.not_mem_nil
    have : wlL (lastOf pl) k = (["y"] : List Str) := by
      unfold wlL
      rw [if_pos (by omega)]
    unfold colL colOf
    rw [he, this]
  | cons e es =>
    unfold colL colOf
    rw [he]
    show (_, _) = (_, _)
    rw [lw, ww]
theorem by_two {r : Rk} {c : Ch} {n : Str} (h : ChSm c) (hy : (Str.ofString "y") ∈ r.axs) : colsL n (placesOf c n) = colsBy r c n := by
  have hp := pl_0 h n
  unfold colsBy
  split
  · rename_i e
    rw [e]
    show [colL n [] 0 0] = _
    unfold colL endsOf wlL
    rw [ways_two hy]
    rfl
  · rename_i p pl e
    rw [if_pos hy, ← e]
    exact colL_eq (by rw [e]; exact fun z => nomatch z) hp
theorem pl_places (c : Ch) (n : Str) : plL ((c.filter fun x => decide (x.1.n = n)).map (·.1)) = placesOf c n := by
  unfold plL placesOf
  rw [List.map_map]
  rfl
theorem colL_len {n : Str} {pl : Pl} {L : Int} {k : Nat} (h : ∀ p ∈ pl, 0 ≤ p.1 ∧ 0 ≤ p.2 ∧ p.1 ≤ 100 ∧ p.2 ≤ 100) : (colL n pl L k).1.length ≤ 100 ∧ (colL n pl L k).2.length ≤ 1 := by
  unfold colL
  split
  · exact ⟨by show 1 ≤ 100; omega, by show 0 ≤ 1; omega⟩
  · rename_i e es he
    have hm : minI e es ∈ endsOf pl k := by rw [he]; exact minI_mem es e
    unfold endsOf at hm
    obtain ⟨p, hp, z⟩ := List.mem_map.mp hm
    have := h p (List.mem_filter.mp hp).1
    refine ⟨?_, by show 1 ≤ 1; omega⟩
    show (List.map _ _).length ≤ 100
    rw [List.length_map, List.length_range]
    omega
theorem flat_take {α β : Type} (f : α → List β) {l : List α} {i : Nat} (h : i < l.length) : (l.take (i + 1)).flatMap f = (l.take i).flatMap f ++ f l[i] := by
  rw [List.take_add_one, List.getElem?_eq_getElem h, List.flatMap_append]
  show _ ++ List.flatMap f [l[i]] = _
  rw [List.flatMap_cons, List.flatMap_nil, List.append_nil]
section
variable {P : Program} {w : World} {K : PySem.W.Frag} {mg : Str → Option Value} {base : Heap}
theorem ends_filter (ls : List Dv) (k : Nat) : ((ls.filter fun u => decide (u.i ≤ (k : Int))).map (·.j)) = endsOf (plL ls) k := by
  unfold endsOf plL
  rw [List.filter_map, List.map_map]
  rfl
theorem ed_wl {σ : L2.St} {B : Hp} {i j : Nat} {L : Int} {k : Nat} (hi : σ[i]? = some (some (.int (k : Nat)))) (hj : σ[j]? = some (some (.int L))) : EvP (tIf (tTest (tOp (rI0 fun i j => .bl (decide (i < j))) (tVar i) (tVar j))) (tTup (tCons (tC (.str "y")) tNil)) (tTup (tCons (tC (.str "x")) (tCons (tC (.str "y")) tNil)))) σ B (IsD K (.tuple ((wlL L k).map .str))) := by
  refine ed_if (b := decide ((k : Int) < L)) (et_test (ev_op (ev_var hi) (ev_var hj) rv_I0)) (fun hb => ?_) fun hb => ?_
  · unfold wlL
    rw [if_pos (of_decide_eq_true hb)]
    exact ed_tup (K := K) (ds := [.str "y"]) (q_cons (ed_st ev_c) q_nil) (by show 1 ≤ 100000; decide)
  · unfold wlL
    rw [if_neg (of_decide_eq_false hb)]
    exact ed_tup (K := K) (ds := [.str "x", .str "y"]) (q_cons (ed_st ev_c) (q_cons (ed_st ev_c) q_nil)) (by show 2 ≤ 100000; decide)
theorem ed_lw {σ : L2.St} {B : Hp} {i j : Nat} {L : Int} {k : Nat} (hi : σ[i]? = some (some (.int (k : Nat)))) (hj : σ[j]? = some (some (.int L))) : EvP (tIf (tTest (tOp (rI0 fun i j => .bl (decide (i < j))) (tVar i) (tVar j))) (tTup tNil) (tTup (tCons (tC (.str "x")) tNil))) σ B (IsD K (.tuple ((lwL L k).map .str))) := by
  refine ed_if (b := decide ((k : Int) < L)) (et_test (ev_op (ev_var hi) (ev_var hj) rv_I0)) (fun hb => ?_) fun hb => ?_
  · unfold lwL
    rw [if_pos (of_decide_eq_true hb)]
    exact ed_tup (K := K) (ds := []) q_nil (by show 0 ≤ 100000; decide)
  · unfold lwL
    rw [if_neg (of_decide_eq_false hb)]
    exact ed_tup (K := K) (ds := [.str "x"]) (q_cons (ed_st ev_c) q_nil) (by show 1 ≤ 100000; decide)

/-- _law_top -/
abbrev s_Ltop : Stmt := topS 76
abbrev N_Ltop : List Str := ["_law_leaders_here", "_law_column", "_law_some", "_law_name", "_law_i", "_law_j"]
theorem sc_Ltop : FnScope N_Ltop ["_law_leaders_here", "_law_column"] (defScope s_Ltop) := ⟨rfl, rfl, rfl, by decide +kernel, rfl, by decide +kernel, by decide +kernel⟩
theorem ok_Ltop {f : Addr} {fd : FuncData} (F : Fun K "_law_top" "_law_top" s_Ltop f fd)  (n_min : mg "min" = none)  :
    FnOk P w K mg base CX0 1 f fd ["_law_leaders_here", "_law_column"] (spP (Rtop K)) := by
  refine F.ok sc_Ltop (spP_len (by rintro _ _ ⟨ls, k, _, rfl, rfl⟩; rfl)) (fun cdv A outer s H vs Q E hr h => ?_)
  obtain ⟨B, ps, p, eB, hv, ⟨ls, k, hl, rfl, rfl⟩, q⟩ := h
  obtain ⟨v0, v1, rfl, h0, h1⟩ := all2 hv
  obtain rfl : v1 = .int (k : Nat) := h1
  have hu := hu_of hr
  refine ⟨_, (pss_cons (ps_setLc (i := 2) (own := [("_law_name", 3), ("_law_i", 4), ("_law_j", 5)]) (g := (gTup K 3 (gCons (gName 3) (gCons (gName 4) (gCons (gName 5) gNil))))) rfl sc_Ltop.nd rfl rfl (sw_true rfl rfl rfl (by decide +kernel)) (pi_list (pv 0)) (blkOk_by (N := N_Ltop) (sc := defScope s_Ltop) (by decide +kernel)) (fun _ _ _ _ _ => (pg_tup (by rfl) (pgs_cons (pg_name (i := 3) sc_Ltop.nd rfl (Or.inl rfl)) (pgs_cons (pg_name (i := 4) sc_Ltop.nd rfl (Or.inl rfl)) (pgs_cons (pg_name (i := 5) sc_Ltop.nd rfl (Or.inl rfl)) pgs_nil))))) (fun _ _ _ _ _ => (pts_one (pt_cmpR op_le (pv 4) (pv 1) (nomark _)))) (fun _ _ _ _ _ => (pv 5)))
    (pss_one (ps_ret (pe_ifExp (pt_cmpR (op_neD hr.units) (pv 2) (pe_lst pa_nil) (nomark _)) (pe_lst (pa_cons (pe_callB (cr_min rfl) (by rfl) n_min (by decide +kernel) (pa_cons (pv 2) pa_nil)) pa_nil)) (pe_lst pa_nil))))), ?_⟩
  have base := p_lcS (tt := tTest (tOp (rI0 fun i j => .bl (decide (i ≤ j))) (tVar 4) (tVar 1))) (te := tVar 5) (g := gTup K 3 (gCons (gName 3) (gCons (gName 4) (gCons (gName 5) gNil)))) (vs := [3, 4, 5]) (σ := [some v0, some (.int (k : Nat)), none, none, none, none]) (src_lq (K := K) (te := tVar 0) (p_var rfl h0)) (by rw [List.length_map]; omega) (fun j => decide ((ls.getD j ⟨"", 0, 0⟩).i ≤ (k : Int))) (fun j => IsD K (.int (ls.getD j ⟨"", 0, 0⟩).j)) fun j v4 B3 hj e pv => by
    rw [List.length_map] at hj
    have pv : ((ls.map DvP).getD j (IsV .non)).P v4 B3 := pv
    rw [getD_map hj] at pv
    have z : ls.getD j ⟨"", 0, 0⟩ = ls[j] := by
      rw [List.getD_eq_getElem?_getD, List.getElem?_eq_getElem hj]
      rfl
    rw [z]
    obtain ⟨a, rfl, ha⟩ := pv
    exact ⟨[some v0, some (.int (k : Nat)), none, some (.str ls[j].n), some (.int ls[j].i), some (.int ls[j].j)], rfl, fun H2 Q e q => ⟨a, _, rfl, st_of (e _ _ ha), rfl, _, _, rfl, _, _, rfl, _, _, rfl, rfl, q⟩, et_test (ev_op (ev_var rfl) (ev_var rfl) rv_I0), fun _ => ed_in (ev_var rfl)⟩
  rw [List.length_map, range_filter (fun u : Dv => decide (u.i ≤ (k : Int))) (fun u => IsD K (.int u.j)) ⟨"", 0, 0⟩ ls] at base
  have lst : EvP _ _ B (IsD K (.list ((endsOf (plL ls) k).map .int))) := d_lst (K := K) (by
    rw [← ends_filter, List.map_map, List.map_map]
    exact base)
  refine ps_asgN (fun x => [some v0, some (.int (k : Nat)), some x, none, none, none]) eB lst (fun x B2 H2 g2 hx => ?_) (fun _ => rfl)
  dsimp only
  refine My.ps_ret g2.c (ed_if (b := !(endsOf (plL ls) k).isEmpty) (et_is (et_test (ev_neD (K := K) (d := .list ((endsOf (plL ls) k).map .int)) (e := .list []) (p_var rfl hx) (ed_lst (K := K) (ds := []) q_nil (by decide)) (sh_ints _) rfl)) (by rw [eqv_nil, List.isEmpty_map])) (fun hb => ?_) fun hb => ?_) fun v B5 H5 g5 hp => q v B5 H5 (g2.trans g5) hp
  · unfold topD
    cases he : endsOf (plL ls) k with
    | nil =>
      rw [he] at hb
      cases hb
    | cons e es =>
      rw [he] at hx
      exact ed_lst (K := K) (ds := [.int (minI e es)]) (q_cons (ed_in (ev_min (K := K) (x := e) (xs := es) (p_var rfl hx))) q_nil) (by show 1 ≤ 100000; decide)
  · unfold topD
    cases he : endsOf (plL ls) k with
    | nil => exact ed_lst (K := K) (ds := []) q_nil (by decide)
    | cons e es =>
      rw [he] at hb
      cases hb

/-- _law_columns -/
abbrev s_Lcolumns : Stmt := topS 77
abbrev N_Lcolumns : List Str := ["_law_name", "_law_leaders_here", "_law_last", "_law_free", "_law_principal", "_law_own", "_law_i", "_law_j", "_law_column", "_law_ways", "_law_tops", "_law_low_ways"]
theorem sc_Lcolumns : FnScope N_Lcolumns ["_law_name", "_law_leaders_here"] (defScope s_Lcolumns) := ⟨rfl, rfl, rfl, by decide +kernel, rfl, by decide +kernel, by decide +kernel⟩
theorem ok_Lcolumns {f : Addr} {fd : FuncData} (F : Fun K "_law_columns" "_law_columns" s_Lcolumns f fd) {f_Ltop : Addr} {d_Ltop : FuncData} (c_Ltop : Cal P w K mg base "_law_top" 1 ["_law_leaders_here", "_law_column"] (spP (Rtop K)) f_Ltop d_Ltop) (n_max : mg "max" = none) (n_range : mg "range" = none)  :
    FnOk P w K mg base CX0 2 f fd ["_law_name", "_law_leaders_here"] (spP (Rcolm K)) := by
  refine F.ok sc_Lcolumns (spP_len (by rintro _ _ ⟨n, ls, _, _, rfl, rfl⟩; rfl)) (fun cdv A outer s H vs Q E hr h => ?_)
  obtain ⟨B, ps, p, eB, hv, ⟨n, ls, hl, hb, rfl, rfl⟩, q⟩ := h
  obtain ⟨v0, v1, rfl, h0, h1⟩ := all2 hv
  obtain rfl : v0 = .str n := h0
  have hu := hu_of hr
  refine ⟨_, (pss_cons (ps_par3 (i := 2) (j := 3) (l := 4) rfl sc_Lcolumns.nd rfl rfl rfl (by decide) (by decide) (by decide) rfl rfl rfl (pa_cons (pe_callB (cr_max rfl) (by rfl) n_max (by decide +kernel) (pa_cons (pe_op op_cat (pe_lst (pa_cons pe_int pa_nil)) (pe_lc (own := [("_law_own", 5), ("_law_i", 6), ("_law_j", 7)]) (g := (gTup K 3 (gCons (gName 5) (gCons (gName 6) (gCons (gName 7) gNil))))) rfl sc_Lcolumns.nd (pi_list (pv 1)) (blkOk_by (N := N_Lcolumns) (sc := defScope s_Lcolumns) (by decide +kernel)) (fun _ _ _ _ _ => (pg_tup (by rfl) (pgs_cons (pg_name (i := 5) sc_Lcolumns.nd rfl (Or.inl rfl)) (pgs_cons (pg_name (i := 6) sc_Lcolumns.nd rfl (Or.inl rfl)) (pgs_cons (pg_name (i := 7) sc_Lcolumns.nd rfl (Or.inl rfl)) pgs_nil))))) (fun _ _ _ _ _ => pts_nil) (fun _ _ _ _ _ => (pv 6)))) pa_nil)) (pa_cons (pe_lst pa_nil) (pa_cons (pe_lst pa_nil) pa_nil))) (by rfl))
    (pss_cons (ps_for PassesOwn.never rfl (pi_range1 (by rfl) n_range (pa_cons (pe_op op_add (pv 2) pe_int) pa_nil)) (pg_name (i := 8) sc_Lcolumns.nd rfl (by first | exact .inl rfl | exact .inr rfl))
      (pss_cons (ps_par (i := 9) (j := 10) rfl sc_Lcolumns.nd rfl rfl (by decide) rfl rfl (pa_cons (pe_ifExp (pt_cmpR op_lt (pv 8) (pv 2) (nomark _)) (pe_tup (pa_cons pe_str pa_nil)) (pe_tup (pa_cons pe_str (pa_cons pe_str pa_nil)))) (pa_cons (pe_call c_Ltop.G (hr.mono (by decide)) (by rfl) c_Ltop.m c_Ltop.k c_Ltop.b .nil pass0 (pa_cons (pv 1) (pa_cons (pv 8) pa_nil))) pa_nil)) (by rfl))
    (pss_one (ps_if (pt_cmpR (op_eqD hr.units) (pv 10) (pe_lst pa_nil) (nomark _)) (pss_one (ps_expr (pe_bm PySem.F.plainAttrs_list PySem.F.slot_list_append PySem.F.type_list_append mt_append (pv 3) (pa_cons (pe_tup (pa_cons (pe_tup (pa_cons (pv 0) (pa_cons (pv 8) (pa_cons pe_int pa_nil)))) (pa_cons (pv 9) pa_nil))) pa_nil)))) (pss_cons (ps_set (i := 11) sc_Lcolumns.nd rfl (by first | exact .inl rfl | exact .inr rfl) (pe_ifExp (pt_cmpR op_lt (pv 8) (pv 2) (nomark _)) (pe_tup pa_nil) (pe_tup (pa_cons pe_str pa_nil))))
    (pss_cons (ps_set (i := 3) sc_Lcolumns.nd rfl (by first | exact .inl rfl | exact .inr rfl) (pe_op op_cat (pv 3) (pe_lc (own := [("_law_j", 7)]) rfl sc_Lcolumns.nd (pi_range1 (by rfl) n_range (pa_cons (pe_ix ix_list (pv 10) pe_int (fun _ _ => rfl)) pa_nil)) (blkOk_by (N := N_Lcolumns) (sc := defScope s_Lcolumns) (by decide +kernel)) (fun _ _ _ _ _ => (pg_name (i := 7) sc_Lcolumns.nd rfl (Or.inl rfl))) (fun _ _ _ _ _ => pts_nil) (fun _ _ _ _ _ => (pe_tup (pa_cons (pe_tup (pa_cons (pv 0) (pa_cons (pv 8) (pa_cons (pv 7) pa_nil)))) (pa_cons (pv 11) pa_nil)))))))
    (pss_one (ps_expr (pe_bm PySem.F.plainAttrs_list PySem.F.slot_list_append PySem.F.type_list_append mt_append (pv 4) (pa_cons (pe_tup (pa_cons (pe_tup (pa_cons (pv 0) (pa_cons (pv 8) (pa_cons (pe_ix ix_list (pv 10) pe_int (fun _ _ => rfl)) pa_nil)))) (pa_cons (pv 9) pa_nil))) pa_nil))))))))))
    (pss_one (ps_ret (pe_tup (pa_cons (pv 3) (pa_cons (pv 4) pa_nil))))))), ?_⟩
  have p0 : ∀ p ∈ plL ls, 0 ≤ p.1 ∧ 0 ≤ p.2 ∧ p.1 ≤ 100 ∧ p.2 ≤ 100 := fun p hp => by
    obtain ⟨u, hu, rfl⟩ := List.mem_map.mp hp
    exact hb u hu
  have L0 := lastL_0 (plL ls)
  have L1 := lastL_le (pl := plL ls) (m := 100) (by decide) fun p hp => (p0 p hp).2.2.1
  have mx : Ev (tCB (rMax K) (tCons (tOp rCat (tLst (tCons (tC (.int 0)) tNil)) (tLc (iList K (tVar 1)) (gTup K 3 (gCons (gName 5) (gCons (gName 6) (gCons (gName 7) gNil)))) tYes (tVar 6) [5, 6, 7])) tNil)) [some (.str n), some v1, none, none, none, none, none, none, none, none, none, none] B (.int (lastL (plL ls))) := by
    have base := p_lcP (te := tVar 6) (g := gTup K 3 (gCons (gName 5) (gCons (gName 6) (gCons (gName 7) gNil)))) (vs := [5, 6, 7]) (σ := [some (.str n), some v1, none, none, none, none, none, none, none, none, none, none]) (src_lq (K := K) (te := tVar 1) (p_var rfl h1)) (by rw [List.length_map]; omega) (fun j => IsD K (.int (ls.getD j ⟨"", 0, 0⟩).i)) fun j v4 B3 hj e pv => by
      rw [List.length_map] at hj
      have pv : ((ls.map DvP).getD j (IsV .non)).P v4 B3 := pv
      rw [getD_map hj] at pv
      have z : ls.getD j ⟨"", 0, 0⟩ = ls[j] := by
        rw [List.getD_eq_getElem?_getD, List.getElem?_eq_getElem hj]
        rfl
      rw [z]
      obtain ⟨a, rfl, ha⟩ := pv
      exact ⟨[some (.str n), some v1, none, none, none, some (.str ls[j].n), some (.int ls[j].i), some (.int ls[j].j), none, none, none, none], rfl, fun H2 Q e q => ⟨a, _, rfl, st_of (e _ _ ha), rfl, _, _, rfl, _, _, rfl, _, _, rfl, rfl, q⟩, ed_in (ev_var rfl)⟩
    rw [List.length_map, range_map (fun u : Dv => IsD K (.int u.i)) ⟨"", 0, 0⟩ ls] at base
    have both := p_cat (ps := [IsD K (.int 0)]) (p_lst (t := tCons (tC (.int 0)) tNil) (q_cons (ed_in ev_c) q_nil) (by show 1 ≤ 100000; decide)) base (by rw [List.length_map]; show 1 + _ ≤ 100000; omega)
    refine ev_max (K := K) (x := 0) (xs := (plL ls).map (·.1)) (d_lst (K := K) ?_)
    have e : (((0 :: (plL ls).map (·.1)) : List Int).map PyData.int).map (IsD K) = [IsD K (.int 0)] ++ ls.map fun u => IsD K (.int u.i) := by
      rw [List.map_cons, List.map_cons]
      unfold plL
      rw [List.map_map, List.map_map, List.map_map]
      rfl
    rw [e]
    exact both
  generalize hL : lastL (plL ls) = L at *
  refine mx H eB _ fun H1 e1 => ?_
  refine ⟨sz_of (by show 0 ≤ 100000; decide), fun a ha => ⟨sz_of (by show 0 ≤ 100000; decide), fun b hb' => ⟨_, _, _, rfl, ?_⟩⟩⟩
  have A0 := A2.new (B := B) (H := H1) (eB.trans e1) ha hb'
  dsimp only
  have hn : L + 1 = ((L.toNat + 1 : Nat) : Int) := by omega
  refine ps_forS (B := B) A0.ex (src_rng (j := L.toNat + 1) (q_cons (p_ev (ev_is (ev_op (ev_var rfl) ev_c rv_I0) (by rw [← hn]))) q_nil) (by omega)) fun B3 H3 g3 => ?_
  have A3 := A0.step g3
  refine ⟨fun i σ H' => ∃ C a x7 x8 x9 x10 x11, A2 B H1 a b (((((List.range i).map (colL n (plL ls) L)).flatMap (·.1))).map (cnP K)) (((((List.range i).map (colL n (plL ls) L)).flatMap (·.2))).map (cnP K)) C H' ∧ Ex B3 C ∧ H1 a = none ∧ σ = [some (.str n), some v1, some (.int L), some (.ref a), some (.ref b), none, none, x7, x8, x9, x10, x11],
    ⟨B3, a, none, none, none, none, none, A3, Ex.refl _, ha, rfl⟩, fun i σ H' _ h => ?_, fun i v σ H' hi pv px => ?_, fun σ H' pv => ?_⟩
  · obtain ⟨C, a, x7, x8, x9, x10, x11, A, e, _⟩ := h
    exact e.trans A.ex
  · obtain rfl : v = .int (i : Int) := px
    obtain ⟨C, a, x7, x8, x9, x10, x11, A, eC, za, rfl⟩ := pv
    dsimp only
    have h1C := (LqP K (ls.map DvP)).m (g3.b.trans eC) h1
    have fl1 := flat_len2 (f := fun x : List Cn × List Cn => x.1) (m := 100) (l := (List.range i).map (colL n (plL ls) L)) fun x hx => by
      obtain ⟨k, _, rfl⟩ := List.mem_map.mp hx
      exact (colL_len p0).1
    have fl2 := flat_len2 (f := fun x : List Cn × List Cn => x.2) (m := 1) (l := (List.range i).map (colL n (plL ls) L)) fun x hx => by
      obtain ⟨k, _, rfl⟩ := List.mem_map.mp hx
      exact (colL_len p0).2
    rw [List.length_map, List.length_range] at fl1 fl2
    have i100 : i * 100 ≤ 100 * 100 := Nat.mul_le_mul_right _ (by omega)
    have s1 : ∀ f : (List Cn × List Cn) → List Cn, ((((List.range (i + 1)).map (colL n (plL ls) L)).flatMap f)).map (cnP K) = ((((List.range i).map (colL n (plL ls) L)).flatMap f)).map (cnP K) ++ (f (colL n (plL ls) L i)).map (cnP K) := fun f => by
      rw [List.range_succ, List.map_append, List.flatMap_append, List.map_append]
      congr 2
      show List.flatMap f [colL n (plL ls) L i] = _
      rw [List.flatMap_cons, List.flatMap_nil, List.append_nil]
    refine b_seq (ps_parN A.ex (q_cons (ed_wl (K := K) rfl rfl) (q_cons (p_callP (ps := [LqP K (ls.map DvP), IsV (.int (i : Nat))]) (q_cons (p_var rfl h1C) (q_cons (p_varV rfl) q_nil)) ⟨ls, i, hl, rfl, rfl⟩) q_nil)) fun x9 x10 B6 H6 g6 hx9 hx10 => ?_)
    have A6 := A.step g6
    dsimp only
    have tst : EvT (tTest (tOp (rEqD K) (tVar 10) (tLst tNil))) [some (.str n), some v1, some (.int L), some (.ref a), some (.ref b), none, none, x7, some (.int (i : Nat)), some x9, some x10, x11] B6 ((topD (plL ls) i).isEmpty) := et_is (et_test (ev_eqD (K := K) (d := .list ((topD (plL ls) i).map .int)) (e := .list []) (p_var rfl hx10) (ed_lst (K := K) (ds := []) q_nil (by decide)) (sh_ints _) rfl)) (by rw [eqv_nil, List.isEmpty_map])
    have tup2 : ∀ (u : Dv) (ways : List Str) (σ : L2.St) (B' : Hp) (t1 t2 : TE), EvP t1 σ B' (DvP u) → EvP t2 σ B' (IsD K (.tuple (ways.map .str))) → EvP (tTup (tCons t1 (tCons t2 tNil))) σ B' (cnP K (u, ways)) := fun u ways σ B' t1 t2 h1 h2 => p_tup (K := K) (ps := [DvP u, IsD K (.tuple (ways.map .str))]) (q_cons h1 (q_cons h2 q_nil)) (by show 2 ≤ 100000; decide)
    cases he : endsOf (plL ls) i with
    | nil =>
      have tz : topD (plL ls) i = [] := by
        unfold topD
        rw [he]
      have cz : colL n (plL ls) L i = ([(⟨n, i, 0⟩, wlL L i)], []) := by
        unfold colL
        rw [he]
      rw [tz] at tst
      refine My.ps_ifT A6.ex tst fun H7 e7 => ?_
      have A7 := A6.wide e7
      obtain ⟨xs, hxs, al⟩ := A7.fa
      refine ⟨_, rfl, .inl ⟨rfl, xs, sq_of hxs⟩, ?_⟩
      refine tup2 ⟨n, i, 0⟩ (wlL L i) _ B6 _ _ (p_dv (u := ⟨n, i, 0⟩) rfl rfl rfl (q_cons (p_varV rfl) (q_cons (p_varV rfl) (q_cons p_c q_nil)))) (p_var rfl hx9) H7 A7.ex _ fun v B8 H8 g8 hv8 => ?_
      have A8 := A7.step g8
      obtain ⟨xs', hxs', al'⟩ := A8.fa
      have lx := al'.len
      rw [List.length_map] at lx
      refine ⟨_, xs', v, rfl, rfl, hxs', sz_lt (by omega), ?_⟩
      refine ⟨B8, a, _, _, _, _, _, ?_, eC.trans (g6.b.trans g8.b), za, rfl⟩
      rw [s1, s1, cz]
      show A2 B H1 a b (_ ++ [cnP K (⟨n, i, 0⟩, wlL L i)]) (_ ++ []) _ _
      rw [List.append_nil]
      exact A8.app1 hxs' hv8
    | cons e es =>
      have tz : topD (plL ls) i = [minI e es] := by
        unfold topD
        rw [he]
      have cz : colL n (plL ls) L i = ((List.range (minI e es).toNat).map fun j => (⟨n, i, (j : Nat)⟩, lwL L i), [(⟨n, i, minI e es⟩, wlL L i)]) := by
        unfold colL
        rw [he]
      have m0 : 0 ≤ minI e es := ends_0 (fun p hp => ⟨(p0 p hp).1, (p0 p hp).2.1⟩) he
      have cl := (colL_len (n := n) (L := L) (k := i) p0).1
      rw [cz] at cl
      rw [List.length_map, List.length_range] at cl
      rw [tz] at tst hx10
      refine ps_ifF A6.ex tst fun H7 e7 => ?_
      have A7 := A6.wide e7
      refine b_seq (ps_asgN (fun x => [some (.str n), some v1, some (.int L), some (.ref a), some (.ref b), none, none, x7, some (.int (i : Nat)), some x9, some x10, some x]) A7.ex (ed_lw (K := K) rfl rfl) (fun x B8 H8 g8 hx8 => ?_) (fun _ => rfl))
      have A8 := A7.step g8
      dsimp only
      have h10 := dp_m g8.b hx10
      have top : ∀ (σ : L2.St) (B' : Hp), σ[10]? = some (some x10) → Ex B8 B' → Ev (tOp (rIxL K) (tVar 10) (tC (.int 0))) σ B' (.int (minI e es)) := fun σ B' s ee => ev_in (K := K) (ed_ixL (ds := [.int (minI e es)]) (p_var s (dp_m ee h10)) ev_c rfl)
      -- free + [..]
      refine b_seq (b_asg (b_op ?_))
      refine ⟨_, rfl, ?_⟩
      have lc := p_lcP (te := tTup (tCons (tTup (tCons (tVar 0) (tCons (tVar 8) (tCons (tVar 7) tNil)))) (tCons (tVar 11) tNil))) (g := gName 7) (vs := [7]) (σ := [some (.str n), some v1, some (.int L), some (.ref a), some (.ref b), none, none, x7, some (.int (i : Nat)), some x9, some x10, some x]) (B := B8) (src_rng (j := (minI e es).toNat) (t := tCons (tOp (rIxL K) (tVar 10) (tC (.int 0))) tNil) (q_cons (p_ev (ev_is (top _ B8 rfl (Ex.refl _)) (by rw [Int.toNat_of_nonneg m0]))) q_nil) (by omega)) (by omega) (fun j => cnP K (⟨n, i, (j : Nat)⟩, lwL L i)) fun j v B5 hj e5 pv => by
        obtain rfl : v = .int (j : Int) := pv
        exact ⟨[some (.str n), some v1, some (.int L), some (.ref a), some (.ref b), none, none, some (.int (j : Nat)), some (.int (i : Nat)), some x9, some x10, some x], rfl, fun H2 Q e q => q, tup2 ⟨n, i, (j : Nat)⟩ (lwL L i) _ B5 _ _ (p_dv (u := ⟨n, i, (j : Nat)⟩) rfl rfl rfl (q_cons (p_varV rfl) (q_cons (p_varV rfl) (q_cons (p_varV rfl) q_nil)))) (p_var rfl (dp_m e5 hx8))⟩
      refine lc H8 A8.ex _ fun vz B9 H9 g9 hz => ?_
      have A9 := A8.step g9
      obtain ⟨xs, hxs, al⟩ := A9.fa
      obtain ⟨z, zs, rfl, hzs, az⟩ := hz
      have lx := al.len
      have lz := az.len
      rw [List.length_map] at lx lz
      rw [List.length_range] at lz
      refine ⟨_, z, xs, zs, rfl, rfl, hxs, g9.c _ _ hzs, sz_of (by omega), fun rr hrr => ?_⟩
      have A10 := A9.set1 hrr (al.app az)
      have er : Ex H9 (upd H9 rr (.lst (xs ++ zs))) := Ex.new hrr
      have zr : H1 rr = none := fresh_back ((A9.g.a.trans wo_ex).trans wo_ex) hrr
      dsimp only [gName, List.set_cons_succ, List.set_cons_zero]
      -- principal.append
      obtain ⟨ys, hys, ay⟩ := A10.fb
      refine ⟨_, rfl, .inl ⟨rfl, ys, sq_of hys⟩, ?_⟩
      refine tup2 ⟨n, i, minI e es⟩ (wlL L i) _ B9 _ _ (p_dv (u := ⟨n, i, minI e es⟩) rfl rfl rfl (q_cons (p_varV rfl) (q_cons (p_varV rfl) (q_cons (p_ev (top _ B9 rfl g9.b)) q_nil)))) (p_var rfl (dp_m (g8.b.trans g9.b) hx9)) _ A10.ex _ fun v B11 H11 g11 hv11 => ?_
      have A11 := A10.step g11
      obtain ⟨ys', hys', ay'⟩ := A11.fb
      have ly := ay'.len
      rw [List.length_map] at ly
      refine ⟨_, ys', v, rfl, rfl, hys', sz_lt (by omega), ?_⟩
      refine ⟨B11, rr, _, _, _, _, _, ?_, eC.trans (g6.b.trans (g8.b.trans (g9.b.trans g11.b))), zr, rfl⟩
      rw [s1, s1, cz]
      have A12 := A11.app2 hys' hv11
      rw [List.map_map]
      exact A12
  · obtain ⟨C, a, x7, x8, x9, x10, x11, A, eC, za, rfl⟩ := pv
    have zb : H1 b = none := fresh_back (Ex.new (o := .lst []) ha) hb'
    obtain ⟨C', gF, hf, hp⟩ := A.fin za zb
    dsimp only
    have e : (List.range (L.toNat + 1)).map (colL n (plL ls) L) = colsL n (plL ls) := by
      unfold colsL
      rw [hL]
    rw [e] at hf hp
    exact p_tup (K := K) (q_cons (p_var rfl hf) (q_cons (p_var rfl hp) q_nil)) (by show 2 ≤ 100000; decide) H' gF.c _ fun v B6 H6 g6 hp6 => q v B6 H6 ((Gr.wide eB e1).trans (gF.trans g6)) hp6

end
end K12
namespace K12
set_option autoImplicit false
open PySem PySem.W L2 Evl My Nd LamX NdefX
theorem two_y (r : Rk) : (r.axs.length = 2) ↔ (Str.ofString "y") ∈ r.axs := ax2 r
theorem rCat_use {a z r0 : Addr} : True := trivial
section
variable {P : Program} {w : World} {K : PySem.W.Frag} {mg : Str → Option Value} {base : Heap}

/-- _law_cones -/
abbrev s_Lcones : Stmt := topS 78
abbrev N_Lcones : List Str := ["_law_ranking_here", "_law_chain_here", "_law_free", "_law_principal", "_law_name", "_law_leaders_here", "_law_leader", "_law_side", "_law_own", "_law_far", "_law_i"]
theorem sc_Lcones : FnScope N_Lcones ["_law_ranking_here", "_law_chain_here"] (defScope s_Lcones) := ⟨rfl, rfl, rfl, by decide +kernel, rfl, by decide +kernel, by decide +kernel⟩
theorem ok_Lcones {f : Addr} {fd : FuncData} (F : Fun K "_law_cones" "_law_cones" s_Lcones f fd) {f_Lcolumns : Addr} {d_Lcolumns : FuncData} (c_Lcolumns : Cal P w K mg base "_law_columns" 2 ["_law_name", "_law_leaders_here"] (spP (Rcolm K)) f_Lcolumns d_Lcolumns) (n_len : mg "len" = none) (n_range : mg "range" = none) (n_tuple : mg "tuple" = none)  :
    FnOk P w K mg base CX0 3 f fd ["_law_ranking_here", "_law_chain_here"] (spP (Rcns K)) := by
  refine F.ok sc_Lcones (spP_len (by rintro _ _ ⟨r, hi, c, _, _, _, rfl, rfl⟩; rfl)) (fun cdv A outer s H vs Q E hr h => ?_)
  obtain ⟨B, ps, p, eB, hv, ⟨r, hi, c, hok, hs, hl, rfl, rfl⟩, q⟩ := h
  obtain ⟨v0, v1, rfl, h0, h1⟩ := all2 hv
  have hu := hu_of hr
  refine ⟨_, (pss_cons (ps_par (i := 2) (j := 3) rfl sc_Lcones.nd rfl rfl (by decide) rfl rfl (pa_cons (pe_lst pa_nil) (pa_cons (pe_lst pa_nil) pa_nil)) (by rfl))
    (pss_cons (ps_for PassesOwn.never rfl (pi_tup (pe_ix ix_tup (pv 0) pe_int (fun _ _ => rfl))) (pg_name (i := 4) sc_Lcones.nd rfl (by first | exact .inl rfl | exact .inr rfl))
      (pss_cons (ps_setLc (i := 5) (tt := tTest (tOp rEq (tOp (rIxT K) (tVar 6) (tC (.int 0))) (tVar 4))) (own := [("_law_leader", 6), ("_law_side", 7)]) (g := (gTup K 2 (gCons (gName 6) (gCons (gName 7) gNil)))) rfl sc_Lcones.nd rfl rfl (sw_true rfl rfl rfl (by decide +kernel)) (pi_tup (pv 1)) (blkOk_by (N := N_Lcones) (sc := defScope s_Lcones) (by decide +kernel)) (fun _ _ _ _ _ => (pg_tup (by rfl) (pgs_cons (pg_name (i := 6) sc_Lcones.nd rfl (Or.inl rfl)) (pgs_cons (pg_name (i := 7) sc_Lcones.nd rfl (Or.inl rfl)) pgs_nil)))) (fun _ _ _ _ _ => (pts_one (pt_cmpR op_eq (pe_ix ix_tup (pv 6) pe_int (fun _ _ => rfl)) (pv 4) (nomark _)))) (fun _ _ _ _ _ => (pv 6)))
    (pss_one (ps_if (pt_cmpR op_eq (pe_callB call_len_seq (by rfl) n_len (by decide +kernel) (pa_cons (pe_ix ix_tup (pv 0) pe_int (fun _ _ => rfl)) pa_nil)) pe_int (nomark _)) (pss_cons (ps_asg (pe_call c_Lcolumns.G (hr.mono (by decide)) (by rfl) c_Lcolumns.m c_Lcolumns.k c_Lcolumns.b .nil pass0 (pa_cons (pv 4) (pa_cons (pv 5) pa_nil))) (pg_tup (by rfl) (pgs_cons (pg_name (i := 8) sc_Lcones.nd rfl (by first | exact .inl rfl | exact .inr rfl)) (pgs_cons (pg_name (i := 9) sc_Lcones.nd rfl (by first | exact .inl rfl | exact .inr rfl)) pgs_nil))))
    (pss_one (ps_par (i := 2) (j := 3) rfl sc_Lcones.nd rfl rfl (by decide) rfl rfl (pa_cons (pe_op op_cat (pv 2) (pv 8)) (pa_cons (pe_op op_cat (pv 3) (pv 9)) pa_nil)) (by rfl)))) (pss_one (ps_if (pt_cmpR (op_eqD hr.units) (pv 5) (pe_lst pa_nil) (nomark _)) (pss_one (ps_expr (pe_bm PySem.F.plainAttrs_list PySem.F.slot_list_append PySem.F.type_list_append mt_append (pv 2) (pa_cons (pe_tup (pa_cons (pe_tup (pa_cons (pv 4) (pa_cons pe_int (pa_cons pe_int pa_nil)))) (pa_cons (pe_tup (pa_cons pe_str pa_nil)) pa_nil))) pa_nil)))) (pss_cons (ps_set (i := 2) sc_Lcones.nd rfl (by first | exact .inl rfl | exact .inr rfl) (pe_op op_cat (pv 2) (pe_lc (own := [("_law_i", 10)]) rfl sc_Lcones.nd (pi_range1 (by rfl) n_range (pa_cons (pe_ix ix_tup (pe_ix ix_list (pv 5) pe_int (fun _ _ => rfl)) pe_int (fun _ _ => rfl)) pa_nil)) (blkOk_by (N := N_Lcones) (sc := defScope s_Lcones) (by decide +kernel)) (fun _ _ _ _ _ => (pg_name (i := 10) sc_Lcones.nd rfl (Or.inl rfl))) (fun _ _ _ _ _ => pts_nil) (fun _ _ _ _ _ => (pe_tup (pa_cons (pe_tup (pa_cons (pv 4) (pa_cons (pv 10) (pa_cons pe_int pa_nil)))) (pa_cons (pe_tup pa_nil) pa_nil)))))))
    (pss_one (ps_expr (pe_bm PySem.F.plainAttrs_list PySem.F.slot_list_append PySem.F.type_list_append mt_append (pv 3) (pa_cons (pe_tup (pa_cons (pe_ix ix_list (pv 5) pe_int (fun _ _ => rfl)) (pa_cons (pe_tup (pa_cons pe_str pa_nil)) pa_nil))) pa_nil)))))))))))
    (pss_one (ps_ret (pe_tup (pa_cons (pe_callTy call_tuple_of (by rfl) n_tuple (by decide +kernel) (pa_cons (pv 2) pa_nil)) (pa_cons (pe_callTy call_tuple_of (by rfl) n_tuple (by decide +kernel) (pa_cons (pv 3) pa_nil)) pa_nil))))))), ?_⟩
  refine ⟨sz_of (by show 0 ≤ 100000; decide), fun a ha => ⟨sz_of (by show 0 ≤ 100000; decide), fun b hb' => ⟨_, _, rfl, ?_⟩⟩⟩
  have A0 := A2.new (B := B) (H := H) eB ha hb'
  have zb : H b = none := fresh_back (Ex.new (o := .lst []) ha) hb'
  dsimp only
  have hcl := hs.len
  refine ps_forS (B := B) A0.ex (src_tup (ed_nm (p_rk1 (p_var rfl h0)))) fun B3 H3 g3 => ?_
  have A3 := A0.step g3
  have fr : freeAll r c = r.ns.flatMap fun n => (colsBy r c n).flatMap (·.1) := by
    unfold freeAll colsAll
    rw [List.flatMap_assoc]
  have pr : prinAll r c = r.ns.flatMap fun n => (colsBy r c n).flatMap (·.2) := by
    unfold prinAll colsAll
    rw [List.flatMap_assoc]
  have lf := free_len hok hs
  have lp := prin_len hok hs
  have part : ∀ (f : Str → List Cn) (i : Nat), ((r.ns.take i).flatMap f).length ≤ (r.ns.flatMap f).length := fun f i => by
    have e : r.ns = r.ns.take i ++ r.ns.drop i := (List.take_append_drop i r.ns).symm
    have e2 : (r.ns.flatMap f).length = ((r.ns.take i).flatMap f).length + ((r.ns.drop i).flatMap f).length := by
      rw [← List.length_append, ← List.flatMap_append, List.take_append_drop]
    omega
  refine ⟨fun i σ H' => ∃ C a b x5 x8 x9, A2 B H a b (((r.ns.take i).flatMap fun n => (colsBy r c n).flatMap (·.1)).map (cnP K)) (((r.ns.take i).flatMap fun n => (colsBy r c n).flatMap (·.2)).map (cnP K)) C H' ∧ Ex B3 C ∧ H a = none ∧ H b = none ∧ ∃ x4, σ = [some v0, some v1, some (.ref a), some (.ref b), x4, x5, none, none, x8, x9, none],
    ⟨B3, a, b, none, none, none, A3, Ex.refl _, ha, zb, none, rfl⟩, fun i σ H' _ h => ?_, fun i v σ H' hi pv px => ?_, fun σ H' pv => ?_⟩
  · obtain ⟨C, a, b, x5, x8, x9, A, e, _⟩ := h
    exact e.trans A.ex
  · rw [List.length_map] at hi
    have hv : v = .str r.ns[i] := by
      have px : Dp K B3 v ((r.ns.map PyData.str).getD i .none) := px
      rw [List.getD_eq_getElem?_getD, List.getElem?_map, List.getElem?_eq_getElem hi] at px
      cases px
      rfl
    subst hv
    obtain ⟨C, a, b, x5, x8, x9, A, eC, za, zb, x4, rfl⟩ := pv
    dsimp only
    have s1 : ∀ f : (List Cn × List Cn) → List Cn, (((r.ns.take (i + 1)).flatMap fun n => (colsBy r c n).flatMap f).map (cnP K)) = (((r.ns.take i).flatMap fun n => (colsBy r c n).flatMap f).map (cnP K)) ++ ((colsBy r c r.ns[i]).flatMap f).map (cnP K) := fun f => by
      rw [flat_take (fun n => (colsBy r c n).flatMap f) hi, List.map_append]
    have b1 : ((r.ns.take (i + 1)).flatMap fun n => (colsBy r c n).flatMap (·.1)).length ≤ 30300 := by
      have := part (fun n => (colsBy r c n).flatMap (·.1)) (i + 1)
      rw [← fr] at this
      omega
    have b2 : ((r.ns.take (i + 1)).flatMap fun n => (colsBy r c n).flatMap (·.2)).length ≤ 303 := by
      have := part (fun n => (colsBy r c n).flatMap (·.2)) (i + 1)
      rw [← pr] at this
      omega
    rw [flat_take (fun n => (colsBy r c n).flatMap (·.1)) hi, List.length_append] at b1
    rw [flat_take (fun n => (colsBy r c n).flatMap (·.2)) hi, List.length_append] at b2
    generalize hn : r.ns[i] = nm at *
    have h1C := (chP K c).m (g3.b.trans eC) h1
    have h0C := (RkP K r).m (g3.b.trans eC) h0
    -- the leaders of the name
    have lc := p_lcS (tt := tTest (tOp rEq (tOp (rIxT K) (tVar 6) (tC (.int 0))) (tVar 4))) (te := tVar 6) (g := gTup K 2 (gCons (gName 6) (gCons (gName 7) gNil))) (vs := [6, 7]) (σ := [some v0, some v1, some (.ref a), some (.ref b), some (.str nm), x5, none, none, x8, x9, none]) (src_tu (K := K) (te := tVar 1) (p_var rfl h1C)) (by rw [List.length_map]; omega) (fun j => decide ((c.getD j (⟨"", 0, 0⟩, [])).1.n = nm)) (fun j => DvP (c.getD j (⟨"", 0, 0⟩, [])).1) fun j v4 B1 hj e pv => by
      rw [List.length_map] at hj
      have pv : ((c.map (lkP K)).getD j (IsV .non)).P v4 B1 := pv
      rw [getD_map hj] at pv
      obtain ⟨p3, ys, rfl, hp3, al⟩ := pv
      obtain ⟨y1, y2, rfl, m1, m2⟩ := all2 al
      have z : c.getD j (⟨"", 0, 0⟩, []) = c[j] := by
        rw [List.getD_eq_getElem?_getD, List.getElem?_eq_getElem hj]
        rfl
      rw [z]
      exact ⟨[some v0, some v1, some (.ref a), some (.ref b), some (.str nm), x5, some y1, some y2, x8, x9, none], rfl, fun H2 Q e q => ⟨p3, _, rfl, ex_t e hp3, rfl, _, _, rfl, _, _, rfl, rfl, q⟩, et_is (et_test (ev_op (ev_st (ed_ixT (ed_dv (p_var rfl m1)) ev_c rfl)) (ev_var rfl) (rv_eq rfl))) (by simp), fun _ => p_var rfl m1⟩
    rw [List.length_map, range_filter (fun x : Dv × Po => decide (x.1.n = nm)) (fun x => DvP x.1) (⟨"", 0, 0⟩, []) c] at lc
    have lls : ((c.filter fun x => decide (x.1.n = nm)).map fun x => DvP x.1) = ((c.filter fun x => decide (x.1.n = nm)).map (·.1)).map DvP := by
      rw [List.map_map]
      rfl
    rw [lls] at lc
    generalize hls : (c.filter fun x => decide (x.1.n = nm)).map (·.1) = ls at lc lls
    have hpl : plL ls = placesOf c nm := by rw [← hls]; exact pl_places c nm
    have lsm : ∀ u ∈ ls, ∃ x ∈ c, x.1 = u ∧ u.n = nm := fun u hu => by
      rw [← hls] at hu
      obtain ⟨x, hx, rfl⟩ := List.mem_map.mp hu
      obtain ⟨h1, h2⟩ := List.mem_filter.mp hx
      exact ⟨x, h1, rfl, of_decide_eq_true h2⟩
    have lsl : ls.length ≤ 1000 := by
      rw [← hls, List.length_map]
      exact Nat.le_trans (List.length_filter_le _ _) hcl
    have lsb : ∀ u ∈ ls, 0 ≤ u.i ∧ 0 ≤ u.j ∧ u.i ≤ 100 ∧ u.j ≤ 100 := fun u hu => by
      obtain ⟨x, hx, rfl, _⟩ := lsm u hu
      have h1 := hs.ge x hx
      have h2 := hs.le x hx
      exact ⟨h1.1, h1.2, h2.1, h2.2⟩
    refine b_seq (b_asg ?_)
    refine lc H' A.ex _ fun v5 B6 H6 g6 hv5 => ?_
    have A6 := A.step g6
    dsimp only [gName, List.set_cons_succ, List.set_cons_zero]
    have h0D := (RkP K r).m g6.b h0C
    have e6 := eC.trans g6.b
    have tst := ev_two (i := 0) (σ := [some v0, some v1, some (.ref a), some (.ref b), some (.str nm), some v5, none, none, x8, x9, none]) (r := r) rfl h0D
    by_cases hy : (Str.ofString "y") ∈ r.axs
    · rw [decide_eq_true ((two_y r).mpr hy)] at tst
      refine My.ps_ifT A6.ex tst fun H7 e7 => ?_
      have A7 := A6.wide e7
      refine b_seq (b_asg ?_)
      refine p_callP (ps := [IsV (.str nm), LqP K (ls.map DvP)]) (R := Rcolm K) (p := TuP K [LsP (((colsL nm (plL ls)).flatMap (·.1)).map (cnP K)), LsP (((colsL nm (plL ls)).flatMap (·.2)).map (cnP K))]) (q_cons (p_varV rfl) (q_cons (p_var rfl (lq_ls hv5)) q_nil)) ⟨nm, ls, lsl, lsb, rfl, rfl⟩ H7 A7.ex _ fun vt B8 H8 g8 hvt => ?_
      have A8 := A7.step g8
      obtain ⟨t, ts, rfl, ht, at_⟩ := hvt
      obtain ⟨w1, w2, rfl, m1, m2⟩ := all2 at_
      refine ⟨t, _, rfl, ex_t g8.c ht, rfl, _, _, rfl, _, _, rfl, rfl, ?_⟩
      rw [hpl, by_two hs hy] at m1 m2
      obtain ⟨z1, zs1, rfl, hz1, az1⟩ := m1
      obtain ⟨z2, zs2, rfl, hz2, az2⟩ := m2
      dsimp only [gName, List.set_cons_succ, List.set_cons_zero]
      obtain ⟨xs, hxs, al⟩ := A8.fa
      obtain ⟨ys, hys, ay⟩ := A8.fb
      have l1 := al.len
      have l2 := ay.len
      have l3 := az1.len
      have l4 := az2.len
      rw [List.length_map] at l1 l2 l3 l4
      refine ⟨_, rfl, _, rfl, a, z1, xs, zs1, rfl, rfl, hxs, g8.c _ _ hz1, sz_of (by omega), fun r1 hr1 => ?_⟩
      have A9 := A8.set1 hr1 (al.app az1)
      have e9 : Ex H8 (upd H8 r1 (.lst (xs ++ zs1))) := Ex.new hr1
      refine ⟨_, rfl, _, rfl, b, z2, ys, zs2, rfl, rfl, e9 _ _ hys, e9 _ _ (g8.c _ _ hz2), sz_of (by omega), fun r2 hr2 => ?_⟩
      have A10 := A9.set2 hr2 (ay.app az2)
      have zr1 : H r1 = none := fresh_back ((A8.g.a.trans wo_ex).trans wo_ex) hr1
      have zr2 : H r2 = none := fresh_back (((A8.g.a.trans wo_ex).trans wo_ex).trans e9) hr2
      refine ⟨_, _, rfl, B8, r1, r2, _, _, _, ?_, e6.trans g8.b, zr1, zr2, _, rfl⟩
      rw [s1, s1]
      exact A10
    · rw [decide_eq_false (fun z => hy ((two_y r).mp z))] at tst
      refine ps_ifF A6.ex tst fun H7 e7 => ?_
      have A7 := A6.wide e7
      have shl : SeqAt.shaped (.list (ls.map Dv.D)) = true := sh_list fun u hu => by
        obtain ⟨x, hx, rfl, _⟩ := lsm u hu
        exact Gd.shp_dv hok (hl.of x.1 (List.mem_map_of_mem hx)).1
      have tst2 : EvT (tTest (tOp (rEqD K) (tVar 5) (tLst tNil))) [some v0, some v1, some (.ref a), some (.ref b), some (.str nm), some v5, none, none, x8, x9, none] B6 (ls.isEmpty) := et_is (et_test (ev_eqD (K := K) (d := .list (ls.map Dv.D)) (e := .list []) (ls_dv (p_var rfl hv5)) (ed_lst (K := K) (ds := []) q_nil (by decide)) shl rfl)) (by rw [eqv_nil, List.isEmpty_map])
      have tup2 : ∀ (u : Dv) (ways : List Str) (σ : L2.St) (B' : Hp) (t1 t2 : TE), EvP t1 σ B' (DvP u) → EvP t2 σ B' (IsD K (.tuple (ways.map .str))) → EvP (tTup (tCons t1 (tCons t2 tNil))) σ B' (cnP K (u, ways)) := fun u ways σ B' t1 t2 h1 h2 => p_tup (K := K) (ps := [DvP u, IsD K (.tuple (ways.map .str))]) (q_cons h1 (q_cons h2 q_nil)) (by show 2 ≤ 100000; decide)
      have xw : ∀ (σ : L2.St) (B' : Hp), EvP (tTup (tCons (tC (.str "x")) tNil)) σ B' (IsD K (.tuple ((["x"] : List Str).map .str))) := fun σ B' => ed_tup (K := K) (ds := [.str "x"]) (q_cons (ed_st ev_c) q_nil) (by show 1 ≤ 100000; decide)
      cases hc : ls with
      | nil =>
        rw [hc] at tst2 hpl
        have cb : colsBy r c nm = [([((⟨nm, 0, 0⟩ : Dv), (["x"] : List Str))], ([] : List Cn))] := by
          unfold colsBy
          rw [← hpl]
          show [([((⟨nm, 0, 0⟩ : Dv), waysOf r)], ([] : List Cn))] = _
          rw [ways_one hy]
        refine My.ps_ifT A7.ex tst2 fun H8 e8 => ?_
        have A8 := A7.wide e8
        obtain ⟨xs, hxs, al⟩ := A8.fa
        refine ⟨_, rfl, .inl ⟨rfl, xs, sq_of hxs⟩, ?_⟩
        refine tup2 ⟨nm, 0, 0⟩ ["x"] _ B6 _ _ (p_dv (u := ⟨nm, 0, 0⟩) rfl rfl rfl (q_cons (p_varV rfl) (q_cons p_c (q_cons p_c q_nil)))) (xw _ _) H8 A8.ex _ fun v B9 H9 g9 hv9 => ?_
        have A9 := A8.step g9
        obtain ⟨xs', hxs', al'⟩ := A9.fa
        have lx := al'.len
        rw [List.length_map] at lx
        refine ⟨_, xs', v, rfl, rfl, hxs', sz_lt (by omega), ?_⟩
        refine ⟨B9, a, b, _, _, _, ?_, e6.trans g9.b, za, zb, _, rfl⟩
        rw [s1, s1, cb]
        show A2 B H a b (_ ++ [cnP K (⟨nm, 0, 0⟩, ["x"])]) (_ ++ []) _ _
        rw [List.append_nil]
        exact A9.app1 hxs' hv9
      | cons u0 us =>
        rw [hc] at tst2
        have hu0 : u0 ∈ ls := by rw [hc]; exact List.mem_cons_self
        obtain ⟨x0, hx0, ex0, n0⟩ := lsm u0 hu0
        have j0 : u0.j = 0 := by
          have := (hl.of x0.1 (List.mem_map_of_mem hx0)).1.y
          rw [ex0] at this
          exact this.elim id fun z => absurd z hy
        have bu := lsb u0 hu0
        have hpl2 : placesOf c nm = (u0.i, u0.j) :: us.map fun u => (u.i, u.j) := by
          rw [← hpl, hc]
          rfl
        have cb : colsBy r c nm = [((List.range u0.i.toNat).map fun j => ((⟨nm, (j : Nat), 0⟩ : Dv), ([] : List Str)), [((⟨nm, u0.i, 0⟩ : Dv), (["x"] : List Str))])] := by
          unfold colsBy
          rw [hpl2]
          exact if_neg hy
        have ud : u0 = ⟨nm, u0.i, 0⟩ := by
          cases u0
          simp_all
        rw [cb] at b1 b2
        rw [List.flatMap_cons, List.flatMap_nil, List.append_nil, List.length_map, List.length_range] at b1
        refine ps_ifF A7.ex tst2 fun H8 e8 => ?_
        have A8 := A7.wide e8
        have hv5' : (LsP ((u0 :: us).map DvP)).P v5 B6 := by rw [← hc]; exact hv5
        have fst : ∀ (σ : L2.St) (B' : Hp), σ[5]? = some (some v5) → Ex B6 B' → EvP (tOp (rIxL K) (tVar 5) (tC (.int 0))) σ B' (DvP u0) := fun σ B' s ee => p_ix (K := K) (ps := (u0 :: us).map DvP) (p := DvP u0) (p_var s (lq_ls ((LsP _).m ee hv5'))) p_c (by exact atI_nat (j := 0) rfl)
        -- free + [..]
        refine b_seq (b_asg (b_op ?_))
        refine ⟨_, rfl, ?_⟩
        have lc := p_lcP (te := tTup (tCons (tTup (tCons (tVar 4) (tCons (tVar 10) (tCons (tC (.int 0)) tNil)))) (tCons (tTup tNil) tNil))) (g := gName 10) (vs := [10]) (σ := [some v0, some v1, some (.ref a), some (.ref b), some (.str nm), some v5, none, none, x8, x9, none]) (B := B6) (src_rng (j := u0.i.toNat) (t := tCons (tOp (rIxT K) (tOp (rIxL K) (tVar 5) (tC (.int 0))) (tC (.int 1))) tNil) (q_cons (p_ev (ev_is (ev_in (K := K) (ed_ixT (ed_dv (fst _ B6 rfl (Ex.refl _))) ev_c rfl)) (by rw [Int.toNat_of_nonneg bu.1]))) q_nil) (by omega)) (by omega) (fun j => cnP K (⟨nm, (j : Nat), 0⟩, [])) fun j v B5 hj e5 pv => by
          obtain rfl : v = .int (j : Int) := pv
          exact ⟨[some v0, some v1, some (.ref a), some (.ref b), some (.str nm), some v5, none, none, x8, x9, some (.int (j : Nat))], rfl, fun H2 Q e q => q, tup2 ⟨nm, (j : Nat), 0⟩ [] _ B5 _ _ (p_dv (u := ⟨nm, (j : Nat), 0⟩) rfl rfl rfl (q_cons (p_varV rfl) (q_cons (p_varV rfl) (q_cons p_c q_nil)))) (ed_tup (K := K) (ds := []) q_nil (by show 0 ≤ 100000; decide))⟩
        refine lc H8 A8.ex _ fun vz B9 H9 g9 hz => ?_
        have A9 := A8.step g9
        obtain ⟨xs, hxs, al⟩ := A9.fa
        obtain ⟨z, zs, rfl, hzs, az⟩ := hz
        have lx := al.len
        have lz := az.len
        rw [List.length_map] at lx lz
        rw [List.length_range] at lz
        refine ⟨_, z, xs, zs, rfl, rfl, hxs, g9.c _ _ hzs, sz_of (by omega), fun rr hrr => ?_⟩
        have A10 := A9.set1 hrr (al.app az)
        have zr : H rr = none := fresh_back ((A9.g.a.trans wo_ex).trans wo_ex) hrr
        dsimp only [gName, List.set_cons_succ, List.set_cons_zero]
        -- principal.append
        obtain ⟨ys, hys, ay⟩ := A10.fb
        refine ⟨_, rfl, .inl ⟨rfl, ys, sq_of hys⟩, ?_⟩
        refine tup2 u0 ["x"] _ B9 _ _ (fst _ B9 rfl g9.b) (xw _ _) _ A10.ex _ fun v B11 H11 g11 hv11 => ?_
        have A11 := A10.step g11
        obtain ⟨ys', hys', ay'⟩ := A11.fb
        have ly := ay'.len
        rw [List.length_map] at ly
        refine ⟨_, ys', v, rfl, rfl, hys', sz_lt (by omega), ?_⟩
        refine ⟨B11, rr, b, _, _, _, ?_, e6.trans (g9.b.trans g11.b), zr, zb, _, rfl⟩
        rw [s1, s1, cb]
        rw [ud] at hv11
        have A12 := A11.app2 hys' hv11
        rw [List.flatMap_cons, List.flatMap_nil, List.append_nil, List.flatMap_cons, List.flatMap_nil, List.append_nil, List.map_map]
        exact A12
  · obtain ⟨C, a, b, x5, x8, x9, A, eC, za, zb, x4, rfl⟩ := pv
    rw [List.length_map, List.take_length, ← fr, ← pr] at A
    obtain ⟨C', gF, hf, hp⟩ := A.fin za zb
    dsimp only
    exact p_tup (K := K) (q_cons (p_tupOf (K := K) (p_lq (p_var rfl hf))) (q_cons (p_tupOf (K := K) (p_lq (p_var rfl hp))) q_nil)) (by show 2 ≤ 100000; decide) H' gF.c _ fun v B6 H6 g6 hp6 => q v B6 H6 (gF.trans g6) hp6

end
end K12
namespace K12
set_option autoImplicit false
open PySem PySem.W L2 Evl My Nd LamX NdefX
def Rpart (K : PySem.W.Frag) : List Pr → Pr → Prop := fun ps p => ∃ (r : Rk) (hi : Nat) (c : Ch), r.Ok ∧ ChOk r c ∧ ChSm c ∧ LdOk r hi (c.map (·.1)) ∧ ps = [RkP K r, chP K c, TuP K [TuP K ((freeAll r c).map (cnP K)), TuP K ((prinAll r c).map (cnP K))]] ∧ p = IsV (.bl true)
section
variable {te ta tb : TE} {tt : TT} {t : TS} {g : TG} {σ : L2.St} {B H : Hp} {K : PySem.W.Frag} {D : Ends} {b : Bool} {ps qs : List Pr}
theorem for_bind (h : te σ H fun v H2 => tFor (iList K (tC v)) g t D σ H2) : tFor (iList K te) g t D σ H := h
theorem ev_int1 (h : Ev te σ B (.bl b)) : Ev (tCB (fun xs H Q => (∃ i, xs = [.int i] ∧ Q (.int i) H) ∨ ∃ k, xs = [.bl k] ∧ Q (.int (if k then 1 else 0)) H) (tCons te tNil)) σ B (.int (if b then 1 else 0)) := fun H1 e Q q => h H1 e _ fun H2 e2 => .inr ⟨b, rfl, q H2 e2⟩
theorem p_catA (ha : EvP ta σ B (TuP K ps)) (hb : EvP tb σ B (TuP K qs)) (hl : ps.length + qs.length ≤ 100000) : EvP (tOp (rCatA K) ta tb) σ B (TuP K (ps ++ qs)) := fun H1 e Q k =>
  ha H1 e _ fun v B2 H2 g x => hb H2 (g.b.trans g.c) _ fun w B3 H3 g3 x3 => by
    obtain ⟨p, xs, rfl, hp, hx⟩ := x
    obtain ⟨q, ys, rfl, hq, hy⟩ := x3
    have l1 := hx.len
    have l2 := hy.len
    have gj := g.join g3
    have hx' := hx.m (both_l (B := B2) (C := B3))
    have hy' := hy.m (both_r (g.c.trans g3.a) g3.c)
    refine ⟨p, q, xs, ys, rfl, rfl, ex_t (g.c.trans g3.a) hp, ex_t g3.c hq, sz_of (by omega), fun e0 => ?_, fun _ e0 => ?_, fun _ _ r hr => ?_⟩
    · subst e0
      have : ps = [] := List.length_eq_zero_iff.mp l1.symm
      subst this
      exact k _ _ _ gj ⟨q, ys, rfl, ex_t (both_r (g.c.trans g3.a) g3.c) hq, hy'⟩
    · subst e0
      have : qs = [] := List.length_eq_zero_iff.mp l2.symm
      subst this
      refine k _ _ _ gj ?_
      rw [List.append_nil]
      exact ⟨p, xs, rfl, ex_t both_l hp, hx'⟩
    · have en : Ex (both B2 B3) (upd (both B2 B3) r (.tup (xs ++ ys))) := Ex.new (fresh_back gj.c hr)
      exact k _ _ _ (gj.trans (Gr.new _ gj.c hr)) ⟨r, xs ++ ys, rfl, st_of upd_same, (hx'.m en).app (hy'.m en)⟩
theorem show_bl (b : Bool) : (PyData.bool b).showable = true ∧ (PyData.bool b).depth ≤ 60 ∧ (PyData.bool b).shown.length ≤ 1000000 := by
  cases b <;> exact ⟨by simp [PyData.showable], by simp [PyData.depth], by simp [PyData.shown]; decide +kernel⟩
end
section
variable {P : Program} {w : World} {K : PySem.W.Frag} {mg : Str → Option Value} {base : Heap} {T : List (Addr × Str)}

/-- _law_parts_right -/
abbrev s_Lparts_right : Stmt := topS 79
abbrev N_Lparts_right : List Str := ["_law_ranking_here", "_law_chain_here", "_law_told", "_law_leaders_here", "_law_leader", "_law_side", "_law_free", "_law_principal", "_law_one", "_law_has", "_law_cone", "_law_cones_here", "_law_is_bound"]
theorem sc_Lparts_right : FnScope N_Lparts_right ["_law_ranking_here", "_law_chain_here", "_law_told"] (defScope s_Lparts_right) := ⟨rfl, rfl, rfl, by decide +kernel, rfl, by decide +kernel, by decide +kernel⟩
theorem ok_Lparts_right {f : Addr} {fd : FuncData} (F : Fun K "_law_parts_right" "_law_parts_right" s_Lparts_right f fd) {f_Lall : Addr} {d_Lall : FuncData} (c_Lall : Cal P w K mg base "_law_all" 6 ["_law_ranking_here", "_law_high"] (spT T (RallT K)) f_Lall d_Lall) {f_cone_has : Addr} {d_cone_has : FuncData} (c_cone_has : Cal P w K mg base "cone_has" 6 ["ranking", "cone", "derivative"] (spP (Rchas K)) f_cone_has d_cone_has) {f_Lis_principal : Addr} {d_Lis_principal : FuncData} (c_Lis_principal : Cal P w K mg base "_law_is_principal" 1 ["_law_leaders_here", "_law_derivative"] (spP (Rlp K)) f_Lis_principal d_Lis_principal) {f_is_free : Addr} {d_is_free : FuncData} (c_is_free : Cal P w K mg base "is_free" 12 ["ranking", "chain", "derivative"] (spP (Rif K)) f_is_free d_is_free) (n_len : mg "len" = none) (n_int : mg "int" = none) (n_repr : mg "repr" = none)  :
    Gd.FnG P w K mg base 13 f fd ["_law_ranking_here", "_law_chain_here", "_law_told"] (spT T (Rpart K)) := by
  refine Gd.okG F sc_Lparts_right (spT_len (by rintro _ _ ⟨r, hi, c, _, _, _, _, rfl, rfl⟩; rfl)) (fun cdv A outer s H vs Q E hr hG h => ?_)
  obtain ⟨B, ps, p, kn, hv, ⟨r, hi, c, hok, hco, hs, hl, rfl, rfl⟩, q⟩ := h
  obtain ⟨v0, v1, v2, rfl, h0, h1, h2⟩ := all3 hv
  have hu := hu_of hr
  refine ⟨_, (pss_cons (ps_setLc (i := 3) (own := [("_law_leader", 4), ("_law_side", 5)]) (g := (gTup K 2 (gCons (gName 4) (gCons (gName 5) gNil)))) rfl sc_Lparts_right.nd rfl rfl (sw_true rfl rfl rfl (by decide +kernel)) (pi_tup (pv 1)) (blkOk_by (N := N_Lparts_right) (sc := defScope s_Lparts_right) (by decide +kernel)) (fun _ _ _ _ _ => (pg_tup (by rfl) (pgs_cons (pg_name (i := 4) sc_Lparts_right.nd rfl (Or.inl rfl)) (pgs_cons (pg_name (i := 5) sc_Lparts_right.nd rfl (Or.inl rfl)) pgs_nil)))) (fun _ _ _ _ _ => pts_nil) (fun _ _ _ _ _ => (pv 4)))
    (pss_cons (ps_asg (pv 2) (pg_tup (by rfl) (pgs_cons (pg_name (i := 6) sc_Lparts_right.nd rfl (by first | exact .inl rfl | exact .inr rfl)) (pgs_cons (pg_name (i := 7) sc_Lparts_right.nd rfl (by first | exact .inl rfl | exact .inr rfl)) pgs_nil))))
    (pss_cons (ps_for PassesOwn.never rfl (pi_list (pe_call c_Lall.G (hr.mono (by decide)) (by rfl) c_Lall.m c_Lall.k c_Lall.b .nil pass0 (pa_cons (pv 0) (pa_cons pe_int pa_nil)))) (pg_name (i := 8) sc_Lparts_right.nd rfl (by first | exact .inl rfl | exact .inr rfl))
      (pss_cons (ps_setLc (i := 9) (te := tCB (rLenS K) (tCons (tLc (iTup K (tVar 11)) (gName 10) (tTest (tOp rIsT (tCall (spP (Rchas K)) [] E0 (tCons (tVar 0) (tCons (tVar 10) (tCons (tVar 8) tNil)))) (tC (.bl true)))) (tC (.int 1)) [10]) tNil)) (own := [("_law_cones_here", 11)]) rfl sc_Lparts_right.nd rfl rfl (sw_true rfl rfl rfl (by decide +kernel)) (pi_tup (pe_tup (pa_cons (pv 6) (pa_cons (pv 7) pa_nil)))) (blkOk_by (N := N_Lparts_right) (sc := defScope s_Lparts_right) (by decide +kernel)) (fun _ _ _ _ _ => (pg_name (i := 11) sc_Lparts_right.nd rfl (Or.inl rfl))) (fun _ _ _ _ _ => pts_nil) (fun _ _ _ _ _ => (pe_callB (id := "len") call_len_seq (by rfl) n_len (by decide +kernel) (pa_cons (pe_lc (own := [("_law_cone", 10)]) rfl sc_Lparts_right.nd (pi_tup (pv 11)) (blkOk_by (by rfl)) (fun _ _ _ _ _ => (pg_name (i := 10) sc_Lparts_right.nd rfl (Or.inl rfl))) (fun _ _ _ _ _ => (pts_one (pt_cmpR op_isT (pe_call c_cone_has.G (hr.mono (by decide)) (by rfl) c_cone_has.m c_cone_has.k c_cone_has.b .nil pass0 (pa_cons (pv 0) (pa_cons (pv 10) (pa_cons (pv 8) pa_nil)))) pe_bl (nomark _)))) (fun _ _ _ _ _ => pe_int)) pa_nil))))
    (pss_cons (ps_set (i := 12) sc_Lparts_right.nd rfl (by first | exact .inl rfl | exact .inr rfl) (pe_call c_Lis_principal.G (hr.mono (by decide)) (by rfl) c_Lis_principal.m c_Lis_principal.k c_Lis_principal.b .nil pass0 (pa_cons (pv 3) (pa_cons (pv 8) pa_nil))))
    (pss_one (ps_if (PW.pt (pw_or (pt_cmpR (op_neD hr.units) (pv 9) (pe_lst (pa_cons (pe_callTy call_int1 (by rfl) n_int (by decide +kernel) (pa_cons (pe_not (pv 12)) pa_nil)) (pa_cons (pe_callTy call_int1 (by rfl) n_int (by decide +kernel) (pa_cons (pv 12) pa_nil)) pa_nil))) (nomark _)) (pw_or1 (pt_cmpR op_ne (pe_callB (Gd.call_reprG hG hr.units) (by rfl) n_repr (by decide +kernel) (pa_cons (pe_call c_is_free.G (hr.mono (by decide)) (by rfl) c_is_free.m c_is_free.k c_is_free.b .nil pass0 (pa_cons (pv 0) (pa_cons (pv 1) (pa_cons (pv 8) pa_nil)))) pa_nil)) (pe_callB (Gd.call_reprG hG hr.units) (by rfl) n_repr (by decide +kernel) (pa_cons (pe_not (pv 12)) pa_nil)) (nomark _))))) (pss_one (ps_ret pe_bl)) pss_nil)))))
    (pss_one (ps_ret pe_bl))))), ?_⟩
  have hcl := hs.len
  have k0 := kn
  -- leaders
  have lc := p_lcP (te := tVar 4) (g := gTup K 2 (gCons (gName 4) (gCons (gName 5) gNil))) (vs := [4, 5]) (σ := [some v0, some v1, some v2, none, none, none, none, none, none, none, none, none, none]) (src_tu (K := K) (te := tVar 1) (p_var rfl h1)) (by rw [List.length_map]; omega) (fun j => DvP (c.getD j (⟨"", 0, 0⟩, [])).1) fun j v4 B1 hj e pv => by
    rw [List.length_map] at hj
    have pv : ((c.map (lkP K)).getD j (IsV .non)).P v4 B1 := pv
    rw [getD_map hj] at pv
    obtain ⟨p3, ys, rfl, hp3, al⟩ := pv
    obtain ⟨y1, y2, rfl, m1, m2⟩ := all2 al
    have z : c.getD j (⟨"", 0, 0⟩, []) = c[j] := by
      rw [List.getD_eq_getElem?_getD, List.getElem?_eq_getElem hj]
      rfl
    rw [z]
    exact ⟨[some v0, some v1, some v2, none, some y1, some y2, none, none, none, none, none, none, none], rfl, fun H2 Q e q => ⟨p3, _, rfl, ex_t e hp3, rfl, _, _, rfl, _, _, rfl, rfl, q⟩, p_var rfl m1⟩
  rw [List.length_map, range_map (fun x : Dv × Po => DvP x.1) (⟨"", 0, 0⟩, []) c] at lc
  have lls : (c.map fun x => DvP x.1) = (c.map (·.1)).map DvP := by
    rw [List.map_map]
    rfl
  rw [lls] at lc
  refine b_seq (ps_asgN (fun x => [some v0, some v1, some v2, some x, none, none, none, none, none, none, none, none, none]) kn.e lc (fun v3 B1 H1 g1 hv3 => ?_) (fun _ => rfl))
  dsimp only
  refine b_seq (ps_un2 (K := K) g1.c (p_var rfl ((TuP K _).m g1.b h2)) fun v6 v7 B2 H2 g2 n6 n7 => ?_)
  dsimp only
  have g12 := g1.trans g2
  have k2 := kn.gr g12
  -- the loop
  refine b_seq (for_bind ?_)
  refine t_call k2 (q_cons (p_var rfl ((RkP K r).m g12.b h0)) (q_cons p_c q_nil)) ⟨r, 5, hok, by decide, rfl, rfl⟩ fun va B3 H3 g3 hva => ?_
  have g03 := (GT.gr (T := T) g12).trans g3
  have la : (r.sort (r.all 5)).length ≤ 507 := by
    rw [(r.sort_perm _).length_eq, ← Rk.rowsT_all]
    exact r.rowsT_len (o := 5) (m := r.ns.length) (by decide) hok.le
  refine ps_forS (B := B3) g3.c (src_lq (K := K) (te := tC va) (p_k (lq_ls hva))) fun B4 H4 g4 => ?_
  refine ⟨fun i σ H' => ∃ C, Gr B4 H4 C H' ∧ ∃ x8 x9 x12, σ = [some v0, some v1, some v2, some v3, none, none, some v6, some v7, x8, x9, none, none, x12], ⟨B4, Gr.refl g4.c, none, none, none, rfl⟩, fun i σ H' _ h => ?_, fun i v8 σ H' hi' pv px => ?_, fun σ H' pv => ?_⟩
  · obtain ⟨C, g, _⟩ := h
    exact g.b.trans g.c
  · rw [List.length_map] at hi'
    rw [getD_map hi'] at px
    obtain ⟨C, g, x8, x9, x12, rfl⟩ := pv
    dsimp only
    have eC := g03.b.trans (g4.b.trans g.b)
    have e2C := g3.b.trans (g4.b.trans g.b)
    have h0C := (RkP K r).m eC h0
    have h1C := (chP K c).m eC h1
    have n6C := (TuP K _).m e2C n6
    have n7C := (TuP K _).m e2C n7
    have h3C := (LsP ((c.map (·.1)).map DvP)).m (g2.b.trans e2C) hv3
    have puC := px
    have puC := (DvP (r.sort (r.all 5))[i]).m g.b px
    have ou : (r.sort (r.all 5))[i].Of r := Rk.mem_all ((r.sort_perm _).mem_iff.mp (List.getElem_mem hi'))
    generalize (r.sort (r.all 5))[i] = u at puC ou
    obtain ⟨cn1, cn2⟩ := just_one hok hs hl ou
    let L : Nat → List Cn := fun j => if j = 0 then freeAll r c else prinAll r c
    have Lok : ∀ j, ∀ o ∈ L j, CnOk r o := fun j o ho => by
      have ho : o ∈ (if j = 0 then freeAll r c else prinAll r c) := ho
      split at ho
      · exact free_ok hs o ho
      · exact prin_ok hs o ho
    have Llen : ∀ j, (L j).length ≤ 30300 := fun j => by
      show (if j = 0 then freeAll r c else prinAll r c).length ≤ 30300
      split
      · exact free_len hok hs
      · exact Nat.le_trans (prin_len hok hs) (by decide)
    have hasC := p_lcA (K := K) (te := tCB (rLenS K) (tCons (tLc (iTup K (tVar 11)) (gName 10) (tTest (tOp rIsT (tCall (spP (Rchas K)) [] E0 (tCons (tVar 0) (tCons (tVar 10) (tCons (tVar 8) tNil)))) (tC (.bl true)))) (tC (.int 1)) [10]) tNil)) (g := gName 11) (vs := [11]) (σ := [some v0, some v1, some v2, some v3, none, none, some v6, some v7, some v8, x9, none, none, x12])
      (src_tu (K := K) (te := tTup (tCons (tVar 6) (tCons (tVar 7) tNil))) (p_tup (K := K) (ps := [TuP K ((freeAll r c).map (cnP K)), TuP K ((prinAll r c).map (cnP K))]) (q_cons (p_var rfl n6C) (q_cons (p_var rfl n7C) q_nil)) (by show 2 ≤ 100000; decide))) (by show 2 ≤ 100000; decide) (fun j => .int ((((L j).filter fun o => hasB o u).length : Nat) : Int)) fun j v11 B5 hj e5 pv => by
        have hj : j < 2 := hj
        have pv : (TuP K ((L j).map (cnP K))).P v11 B5 := by
          match j, hj, pv with
          | 0, _, pv => exact pv
          | 1, _, pv => exact pv
        refine ⟨[some v0, some v1, some v2, some v3, none, none, some v6, some v7, some v8, x9, none, some v11, x12], rfl, fun H2 Q e q => q, ed_in ?_⟩
        have Lj := Llen j
        have inn := p_lcS (tt := tTest (tOp rIsT (tCall (spP (Rchas K)) [] E0 (tCons (tVar 0) (tCons (tVar 10) (tCons (tVar 8) tNil)))) (tC (.bl true)))) (te := tC (.int 1)) (g := gName 10) (vs := [10]) (σ := [some v0, some v1, some v2, some v3, none, none, some v6, some v7, some v8, x9, none, some v11, x12]) (src_tu (K := K) (te := tVar 11) (p_var rfl pv)) (by rw [List.length_map]; omega) (fun a => hasB ((L j).getD a (u, [])) u) (fun _ => IsV (.int 1)) fun a v10 B6 ha e6 pa => by
          rw [List.length_map] at ha
          have pa : (((L j).map (cnP K)).getD a (IsV .non)).P v10 B6 := pa
          rw [getD_map ha] at pa
          have z : (L j).getD a (u, []) = (L j)[a] := by
            rw [List.getD_eq_getElem?_getD, List.getElem?_eq_getElem ha]
            rfl
          rw [z]
          exact ⟨[some v0, some v1, some v2, some v3, none, none, some v6, some v7, some v8, x9, some v10, some v11, x12], rfl, fun H2 Q e q => q, et_is (et_test (ev_isT (ev_p (p_callP (ps := [RkP K r, cnP K (L j)[a], DvP u]) (q_cons (p_var rfl ((RkP K r).m (e5.trans e6) h0C)) (q_cons (p_var rfl pa) (q_cons (p_var rfl ((DvP u).m (e5.trans e6) puC)) q_nil))) ⟨r, (L j)[a], u, hok, Lok j _ (List.getElem_mem ha), ou, rfl, rfl⟩)) ev_c)) (by simp), fun _ => p_c⟩
        rw [List.length_map, range_filter (fun o : Cn => hasB o u) (fun _ => IsV (.int 1)) (u, []) (L j)] at inn
        exact ev_is (ev_lenQ (K := K) (p_lq inn)) (by rw [List.length_map])
    refine b_seq (ps_asgN (fun x => [some v0, some v1, some v2, some v3, none, none, some v6, some v7, some v8, some x, none, none, x12]) g.c hasC (fun v9 B5 H5 g5 hv9 => ?_) (fun _ => rfl))
    dsimp only
    refine b_seq (ps_asgN (fun x => [some v0, some v1, some v2, some v3, none, none, some v6, some v7, some v8, some v9, none, none, some x]) g5.c (p_callP (ps := [LqP K ((c.map (·.1)).map DvP), DvP u]) (p := IsV (.bl (bndB c u))) (q_cons (p_var rfl (lq_ls ((LsP _).m g5.b h3C))) (q_cons (p_var rfl ((DvP u).m g5.b puC)) q_nil)) ⟨c.map (·.1), u, by rw [List.length_map]; omega, rfl, rfl⟩) (fun x B6 H6 g6 hx => ?_) (fun _ => rfl))
    obtain rfl : x = .bl (bndB c u) := hx
    dsimp only
    have hv9' : Dp K B6 v9 (.list [.int ((((freeAll r c).filter fun o => hasB o u).length : Nat) : Int), .int ((((prinAll r c).filter fun o => hasB o u).length : Nat) : Int)]) := dp_m g6.b hv9
    rw [cn1, cn2] at hv9'
    refine ps_ifN g6.c (et_is (et_or (a := false) (b := false) (et_is (et_test (ev_neD (K := K) (d := .list [.int (((if bndB c u = true then 0 else 1 : Nat)) : Int), .int (((if bndB c u = true then 1 else 0 : Nat)) : Int)]) (e := .list [.int (if (!bndB c u) = true then 1 else 0), .int (if bndB c u = true then 1 else 0)]) (p_var rfl hv9') (ed_lst (K := K) (ds := [.int (if (!bndB c u) = true then 1 else 0), .int (if bndB c u = true then 1 else 0)]) (q_cons (ed_in (ev_int1 (ev_notV (ev_var rfl)))) (q_cons (ed_in (ev_int1 (ev_var rfl))) q_nil)) (by show 2 ≤ 100000; decide)) (sh_ints [_, _]) (sh_ints [_, _]))) (by cases bndB c u <;> simp [PyData.eqv, PyData.eqvAll])) fun _ =>
      et_is (et_test (ev_op (Gd.ev_repr (K := K) (d := .bool (decide (fstI c u = none))) (ed_bl (ev_p (p_callP (ps := [RkP K r, chP K c, DvP u]) (q_cons (p_var rfl ((RkP K r).m (g5.b.trans g6.b) h0C)) (q_cons (p_var rfl ((chP K c).m (g5.b.trans g6.b) h1C)) (q_cons (p_var rfl ((DvP u).m (g5.b.trans g6.b) puC)) q_nil))) ⟨r, c, u, hok, hco, ou, rfl, rfl⟩))) (show_bl _).1 (show_bl _).2.1 (show_bl _).2.2) (Gd.ev_repr (K := K) (d := .bool (!bndB c u)) (ed_bl (ev_notV (ev_var rfl))) (show_bl _).1 (show_bl _).2.1 (show_bl _).2.2) (rv_ne rfl))) (by rw [fst_bnd]; simp)) rfl) fun H7 e7 => ?_
    exact ⟨B6, g.trans (g5.trans (g6.trans (Gr.wide g6.c e7))), _, _, _, rfl⟩
  · obtain ⟨C, g, x8, x9, x12, rfl⟩ := pv
    dsimp only
    exact My.ps_ret g.c (p_c (v := .bl true)) fun v B5 H5 g5 hp => q v B5 H5 (g03.trans (GT.gr (g4.trans (g.trans g5)))) hp

end
end K12
namespace K12
set_option autoImplicit false
open PySem PySem.W L2 Evl My Nd LamX NdefX
section
variable {te ta tb : TE} {c1 c2 : TT} {t u : TS} {σ : L2.St} {B H : Hp} {D : Ends} {Q : VK} {x : Str}
theorem b_ifOr (h : EvT c1 σ B false) (e : Ex B H) (k : ∀ H1, Ex H H1 → tIfS c2 t u D σ H1) : tIfS (tOr c1 c2) t u D σ H := h H e _ fun H1 e1 => by
  show (if (false = true) then _ else _)
  rw [if_neg Bool.false_ne_true]
  exact k H1 e1
theorem b_ifNot (h : te σ H fun v H1 => ∃ b, v = .bl b ∧ (if (!b) = true then t D σ H1 else u D σ H1)) : tIfS (tNot (tB te)) t u D σ H := h
theorem b_ifNe (h : ta σ H fun v H1 => tb σ H1 fun w H2 => scal v w = true ∧ ∃ k, V.bl (!decide (v = w)) = V.bl k ∧ (if k = true then t D σ H2 else u D σ H2)) : tIfS (tTest (tOp rNe ta tb)) t u D σ H := h
theorem b_repr {K : PySem.W.Frag} (h : te σ H fun v H1 => ∃ d, Dp K H1 v d ∧ d.showable = true ∧ d.depth ≤ 60 ∧ d.shown.length ≤ 1000000 ∧ Q (.str d.shown) H1) (mono : ∀ (R S : VK), (∀ v H1, R v H1 → S v H1) → te σ H R → te σ H S) : tCB (Gd.rRepr K) (tCons te tNil) σ H Q := by
  refine mono _ _ (fun v H1 hv => ?_) h
  obtain ⟨d, h1, h2, h3, h4, h5⟩ := hv
  exact ⟨v, d, rfl, h1, h2, h3, h4, h5⟩
end
/-! ### how long the texts are -/
structure ChB (m : Nat) (c : Ch) : Prop where
  ge : ∀ x ∈ c, 0 ≤ x.1.i ∧ 0 ≤ x.1.j
  le : ∀ x ∈ c, x.1.i ≤ m ∧ x.1.j ≤ m
theorem pl_b {m : Nat} {c : Ch} (h : ChB m c) {n : Str} {p : Int × Int} (hp : p ∈ placesOf c n) : 0 ≤ p.1 ∧ 0 ≤ p.2 ∧ p.1 ≤ m ∧ p.2 ≤ m := by
  unfold placesOf at hp
  obtain ⟨x, hx, rfl⟩ := List.mem_map.mp hp
  have h1 := h.ge x (List.mem_filter.mp hx).1
  have h2 := h.le x (List.mem_filter.mp hx).1
  exact ⟨h1.1, h1.2, h2.1, h2.2⟩
theorem col_b {m : Nat} {c : Ch} (h : ChB m c) (n : Str) {last : Int} {k : Nat} (hk : (k : Int) ≤ m) : (colOf n (placesOf c n) last k).1.length ≤ m + 1 ∧ (colOf n (placesOf c n) last k).2.length ≤ 1 ∧ ∀ o, o ∈ (colOf n (placesOf c n) last k).1 ∨ o ∈ (colOf n (placesOf c n) last k).2 → o.1.i ≤ m ∧ o.1.j ≤ m := by
  have m0 : (0 : Int) ≤ (m : Nat) := Int.natCast_nonneg m
  unfold colOf
  split
  · refine ⟨by show 1 ≤ m + 1; omega, by show 0 ≤ 1; omega, fun o ho => ?_⟩
    rcases ho with ho | ho
    · rw [List.mem_singleton.mp ho]
      exact ⟨hk, m0⟩
    · exact absurd ho List.not_mem_nil
  · rename_i e es he
    have hm : minI e es ∈ endsOf (placesOf c n) k := by rw [he]; exact minI_mem es e
    unfold endsOf at hm
    obtain ⟨p, hp, z⟩ := List.mem_map.mp hm
    have := pl_b h (List.mem_filter.mp hp).1
    refine ⟨?_, by show 1 ≤ 1; omega, fun o ho => ?_⟩
    · show (List.map _ _).length ≤ m + 1
      rw [List.length_map, List.length_range]
      omega
    · rcases ho with ho | ho
      · obtain ⟨j, hj, rfl⟩ := List.mem_map.mp ho
        have hj := List.mem_range.mp hj
        exact ⟨hk, by show (j : Int) ≤ m; omega⟩
      · rw [List.mem_singleton.mp ho]
        exact ⟨hk, by show minI e es ≤ m; omega⟩
theorem by_b {m : Nat} {r : Rk} {c : Ch} (h : ChB m c) (n : Str) : (colsBy r c n).length ≤ m + 1 ∧ ∀ x ∈ colsBy r c n, x.1.length ≤ m + 1 ∧ x.2.length ≤ 1 ∧ ∀ o, o ∈ x.1 ∨ o ∈ x.2 → o.1.i ≤ m ∧ o.1.j ≤ m := by
  have m0 : (0 : Int) ≤ (m : Nat) := Int.natCast_nonneg m
  have hp : ∀ p ∈ placesOf c n, 0 ≤ p.1 ∧ 0 ≤ p.2 ∧ p.1 ≤ m ∧ p.2 ≤ m := fun p hp => pl_b h hp
  have hl : placesOf c n ≠ [] → lastOf (placesOf c n) ≤ m := fun hne => by
    obtain ⟨p, hp', e⟩ := last_in hne
    have := hp p hp'
    omega
  have hc := fun k hk => col_b h n (last := lastOf (placesOf c n)) (k := k) hk
  unfold colsBy
  split
  · refine ⟨by show 1 ≤ m + 1; omega, fun x hx => ?_⟩
    rw [List.mem_singleton.mp hx]
    refine ⟨by show 1 ≤ m + 1; omega, by show 0 ≤ 1; omega, fun o ho => ?_⟩
    rcases ho with ho | ho
    · rw [List.mem_singleton.mp ho]
      exact ⟨m0, m0⟩
    · exact absurd ho List.not_mem_nil
  · rename_i p pl e
    have pm := hp p (by rw [e]; exact List.mem_cons_self)
    rw [e] at hc hl
    split
    · have hl := hl (fun z => nomatch z)
      unfold colsOf
      refine ⟨by rw [List.length_map, List.length_range]; omega, fun x hx => ?_⟩
      obtain ⟨k, hk, rfl⟩ := List.mem_map.mp hx
      have hk := List.mem_range.mp hk
      exact hc k (by omega)
    · refine ⟨by show 1 ≤ m + 1; omega, fun x hx => ?_⟩
      rw [List.mem_singleton.mp hx]
      refine ⟨?_, by show 1 ≤ 1; omega, fun o ho => ?_⟩
      · show (List.map _ _).length ≤ m + 1
        rw [List.length_map, List.length_range]
        omega
      · rcases ho with ho | ho
        · obtain ⟨j, hj, rfl⟩ := List.mem_map.mp ho
          have hj := List.mem_range.mp hj
          exact ⟨by show (j : Int) ≤ m; omega, m0⟩
        · rw [List.mem_singleton.mp ho]
          exact ⟨pm.2.2.1, m0⟩
theorem cones_b {m : Nat} {r : Rk} {c : Ch} (hr : r.Ok) (h : ChB m c) : (freeAll r c).length ≤ 3 * ((m + 1) * (m + 1)) ∧ (prinAll r c).length ≤ 3 * ((m + 1) * 1) ∧ ∀ o, o ∈ freeAll r c ∨ o ∈ prinAll r c → o.1.i ≤ m ∧ o.1.j ≤ m := by
  have hl := hr.le
  have l1 := flat_len2 (f := colsBy r c) (m := m + 1) (l := r.ns) fun n _ => (by_b h n).1
  have l2 : (colsAll r c).length ≤ 3 * (m + 1) := Nat.le_trans l1 (Nat.mul_le_mul_right _ hl)
  have at_ : ∀ x ∈ colsAll r c, x.1.length ≤ m + 1 ∧ x.2.length ≤ 1 ∧ ∀ o, o ∈ x.1 ∨ o ∈ x.2 → o.1.i ≤ m ∧ o.1.j ≤ m := fun x hx => by
    unfold colsAll at hx
    obtain ⟨n, _, hx⟩ := List.mem_flatMap.mp hx
    exact (by_b h n).2 x hx
  have f1 := flat_len2 (f := fun x : List Cn × List Cn => x.1) (m := m + 1) (l := colsAll r c) fun x hx => (at_ x hx).1
  have f2 := flat_len2 (f := fun x : List Cn × List Cn => x.2) (m := 1) (l := colsAll r c) fun x hx => (at_ x hx).2.1
  refine ⟨?_, ?_, fun o ho => ?_⟩
  · rw [← Nat.mul_assoc]
    exact Nat.le_trans f1 (Nat.mul_le_mul_right _ l2)
  · rw [← Nat.mul_assoc]
    exact Nat.le_trans f2 (Nat.mul_le_mul_right _ l2)
  · rcases ho with ho | ho
    · unfold freeAll at ho
      obtain ⟨x, hx, ho⟩ := List.mem_flatMap.mp ho
      exact (at_ x hx).2.2 o (.inl ho)
    · unfold prinAll at ho
      obtain ⟨x, hx, ho⟩ := List.mem_flatMap.mp ho
      exact (at_ x hx).2.2 o (.inr ho)
/-- data that repr is reckoned of -/
structure Shw (d : PyData) (n : Nat) (k : Nat) : Prop where
  s : d.showable = true
  l : d.shown.length ≤ n
  d : d.depth ≤ k
theorem depthAll_le {k : Nat} : ∀ {ds : List PyData}, (∀ d ∈ ds, d.depth ≤ k) → PyData.depthAll ds ≤ k
  | [], _ => by simp [PyData.depthAll]
  | d :: ds, h => by
    simp only [PyData.depthAll]
    have := h d List.mem_cons_self
    have := depthAll_le (k := k) (ds := ds) fun e he => h e (List.mem_cons_of_mem _ he)
    omega
theorem shw_tup {ds : List PyData} {n k : Nat} (h : ∀ d ∈ ds, Shw d n k) : Shw (.tuple ds) (ds.length * (n + 2) + 3) (k + 1) := by
  refine ⟨?_, Gd.shown_tup fun d hd => (h d hd).l, ?_⟩
  · simp only [PyData.showable]
    exact PySem.Spec.showableAll_of fun d hd => (h d hd).s
  · have := depthAll_le (k := k) fun d hd => (h d hd).d
    simp only [PyData.depth]
    omega
theorem shw_dv {r : Rk} {u : Dv} (hr : r.Ok) (h : u.Of r) (hi : u.i ≤ 20) (hj : u.j ≤ 20) : Shw u.D 300 1 := by
  obtain ⟨h1, h2⟩ := Gd.show_dv hr h hi hj
  exact ⟨h2, h1, by rw [deep_dv]; exact Nat.le_refl _⟩
theorem nm_xy : ∀ l ∈ waysAll, ∀ x ∈ l, My.IsNm x := by
  unfold My.IsNm
  decide +kernel
theorem shw_cn {r : Rk} {o : Cn} (hr : r.Ok) (h : CnOk r o) (hi : o.1.i ≤ 20) (hj : o.1.j ≤ 20) : Shw (cnD o) 607 2 := by
  have hw := ways_len o.2 h.ways
  have h1 : Shw (.tuple (o.2.map .str)) 300 1 := by
    have := shw_tup (ds := o.2.map .str) (n := 82) (k := 0) fun d hd => by
      obtain ⟨x, hx, rfl⟩ := List.mem_map.mp hd
      exact ⟨by simp [PyData.showable], Gd.shown_nm (nm_xy o.2 h.ways x hx), by simp [PyData.depth]⟩
    rw [List.length_map] at this
    have l2 : o.2.length * (82 + 2) ≤ 2 * (82 + 2) := Nat.mul_le_mul_right _ hw
    exact ⟨this.s, by have := this.l; omega, this.d⟩
  have := shw_tup (ds := [o.1.D, .tuple (o.2.map .str)]) (n := 300) (k := 1) fun d hd => by
    simp only [List.mem_cons, List.not_mem_nil, or_false] at hd
    rcases hd with rfl | rfl
    · exact shw_dv hr h.of hi hj
    · exact h1
  exact this
def toldD (r : Rk) (c : Ch) : PyData := .tuple [.tuple ((freeAll r c).map cnD), .tuple ((prinAll r c).map cnD)]
theorem to_told {K : PySem.W.Frag} (r : Rk) (c : Ch) : To K (TuP K [TuP K ((freeAll r c).map (cnP K)), TuP K ((prinAll r c).map (cnP K))]) (toldD r c) := to_tup (.cons (to_tup (toAll_map (freeAll r c) fun o => to_cn o)) (.cons (to_tup (toAll_map (prinAll r c) fun o => to_cn o)) .nil))
theorem shw_told {r : Rk} {c : Ch} (hr : r.Ok) (hs : ChSm c) (h : ChB 6 c) : Shw (toldD r c) 1000000 60 := by
  obtain ⟨h1, h2, h3⟩ := cones_b hr h
  have f1 := shw_tup (ds := (freeAll r c).map cnD) (n := 607) (k := 2) fun d hd => by
    obtain ⟨o, ho, rfl⟩ := List.mem_map.mp hd
    have := h3 o (.inl ho)
    exact shw_cn hr (free_ok hs o ho) (by omega) (by omega)
  have f2 := shw_tup (ds := (prinAll r c).map cnD) (n := 607) (k := 2) fun d hd => by
    obtain ⟨o, ho, rfl⟩ := List.mem_map.mp hd
    have := h3 o (.inr ho)
    exact shw_cn hr (prin_ok hs o ho) (by omega) (by omega)
  rw [List.length_map] at f1 f2
  have f3 := shw_tup (ds := [.tuple ((freeAll r c).map cnD), .tuple ((prinAll r c).map cnD)]) (n := 100000) (k := 3) fun d hd => by
    simp only [List.mem_cons, List.not_mem_nil, or_false] at hd
    rcases hd with rfl | rfl
    · exact ⟨f1.s, by have := f1.l; omega, f1.d⟩
    · exact ⟨f2.s, by have := f2.l; omega, f2.d⟩
  exact ⟨f3.s, by have := f3.l; simp only [List.length_cons, List.length_nil] at this; exact Nat.le_trans this (by decide), by have := f3.d; exact Nat.le_trans this (by decide)⟩
def dueD (us vs : List Dv) : PyData := .tuple [.tuple (us.map Dv.D), .tuple (vs.map Dv.D)]
theorem to_due {K : PySem.W.Frag} (us vs : List Dv) : To K (TuP K [TuP K (us.map DvP), TuP K (vs.map DvP)]) (dueD us vs) := to_tup (.cons (to_tup (toAll_map us fun u => to_dv u)) (.cons (to_tup (toAll_map vs fun u => to_dv u)) .nil))
theorem shw_due {r : Rk} {us vs : List Dv} (hr : r.Ok) (hu : ∀ u ∈ us, u.Of r ∧ u.i ≤ 20 ∧ u.j ≤ 20) (hv : ∀ u ∈ vs, u.Of r ∧ u.i ≤ 20 ∧ u.j ≤ 20) (lu : us.length ≤ 600) (lv : vs.length ≤ 600) : Shw (dueD us vs) 1000000 60 := by
  have f : ∀ us : List Dv, (∀ u ∈ us, u.Of r ∧ u.i ≤ 20 ∧ u.j ≤ 20) → us.length ≤ 600 → Shw (.tuple (us.map Dv.D)) 200000 2 := fun us h l => by
    have := shw_tup (ds := us.map Dv.D) (n := 300) (k := 1) fun d hd => by
      obtain ⟨u, hu, rfl⟩ := List.mem_map.mp hd
      exact shw_dv hr (h u hu).1 (h u hu).2.1 (h u hu).2.2
    rw [List.length_map] at this
    have l2 : us.length * (300 + 2) ≤ 600 * (300 + 2) := Nat.mul_le_mul_right _ l
    exact ⟨this.s, by have := this.l; omega, this.d⟩
  have f3 := shw_tup (ds := [.tuple (us.map Dv.D), .tuple (vs.map Dv.D)]) (n := 200000) (k := 2) fun d hd => by
    simp only [List.mem_cons, List.not_mem_nil, or_false] at hd
    rcases hd with rfl | rfl
    · exact f us hu lu
    · exact f vs hv lv
  exact ⟨f3.s, by have := f3.l; simp only [List.length_cons, List.length_nil] at this; exact Nat.le_trans this (by decide), by have := f3.d; exact Nat.le_trans this (by decide)⟩
theorem all_low {r : Rk} {o : Nat} {u : Dv} (h : u ∈ r.all o) : u.i ≤ o ∧ u.j ≤ o := by
  unfold Rk.all at h
  obtain ⟨n, _, h⟩ := List.mem_flatMap.mp h
  unfold Rk.rowsN at h
  obtain ⟨i, hi, h⟩ := List.mem_flatMap.mp h
  have hi := List.mem_range.mp hi
  obtain ⟨_, h2, _, h4⟩ := Rk.mem_row h
  have : r.most o i ≤ o := by
    unfold Rk.most
    split <;> omega
  omega
def spLaw (K : PySem.W.Frag) (T : List (Addr × Str)) : Sp := fun vs H Q _ => ∃ (a : Addr) (ns : List Int), vs = [.ref a] ∧ SqL K H a (ns.map V.int) ∧ ns.length ≤ 63 ∧ Tabs T H ∧ ∀ H', Q (.bl true) H'
section
variable {P : Program} {w : World} {K : PySem.W.Frag} {mg : Str → Option Value} {base : Heap} {T : List (Addr × Str)}

/-- law -/
abbrev s_law : Stmt := topS 80
abbrev N_law : List Str := ["_law_script", "_law_k", "_law_cell", "_law_state", "_law_turn", "_law_ranking_here", "_law_chain_here", "_law_told", "_law_cone", "_law_most", "_law_leaders_here", "_law_leader", "_law_side", "_law_some", "_law_due", "_law_one"]
theorem sc_law : FnScope N_law ["_law_script"] (defScope s_law) := ⟨rfl, rfl, rfl, by decide +kernel, rfl, by decide +kernel, by decide +kernel⟩
theorem ok_law {f : Addr} {fd : FuncData} (F : Fun K "law" "law" s_law f fd) {f_Ldraw : Addr} {d_Ldraw : FuncData} (c_Ldraw : Cal P w K mg base "_law_draw" 1 ["_law_cell", "_law_k"] spDraw f_Ldraw d_Ldraw) {f_Lranking : Addr} {d_Lranking : FuncData} (c_Lranking : Cal P w K mg base "_law_ranking" 3 ["_law_state"] (spRkL K T) f_Lranking d_Lranking) {f_Lchain : Addr} {d_Lchain : FuncData} (c_Lchain : Cal P w K mg base "_law_chain" 7 ["_law_state", "_law_ranking_here", "_law_high"] (spCh K T) f_Lchain d_Lchain) {f_free_cones : Addr} {d_free_cones : FuncData} (c_free_cones : Cal P w K mg base "free_cones" 12 ["ranking", "chain"] (spP (Rfree K freeAll)) f_free_cones d_free_cones) {f_principal_cones : Addr} {d_principal_cones : FuncData} (c_principal_cones : Cal P w K mg base "principal_cones" 12 ["ranking", "chain"] (spP (Rfree K prinAll)) f_principal_cones d_principal_cones) {f_Lcones : Addr} {d_Lcones : FuncData} (c_Lcones : Cal P w K mg base "_law_cones" 3 ["_law_ranking_here", "_law_chain_here"] (spP (Rcns K)) f_Lcones d_Lcones) {f_is_cone : Addr} {d_is_cone : FuncData} (c_is_cone : Cal P w K mg base "is_cone" 6 ["ranking", "thing"] (spP (Rcf K)) f_is_cone d_is_cone) {f_Ldigit : Addr} {d_Ldigit : FuncData} (c_Ldigit : Cal P w K mg base "_law_digit" 2 ["_law_state", "_law_many"] spDigit f_Ldigit d_Ldigit) {f_Lall : Addr} {d_Lall : FuncData} (c_Lall : Cal P w K mg base "_law_all" 6 ["_law_ranking_here", "_law_high"] (spT T (RallT K)) f_Lall d_Lall) {f_Lis_principal : Addr} {d_Lis_principal : FuncData} (c_Lis_principal : Cal P w K mg base "_law_is_principal" 1 ["_law_leaders_here", "_law_derivative"] (spP (Rlp K)) f_Lis_principal d_Lis_principal) {f_free_to : Addr} {d_free_to : FuncData} (c_free_to : Cal P w K mg base "free_to" 12 ["ranking", "chain", "order"] (spT T (RfT K true)) f_free_to d_free_to) {f_principal_to : Addr} {d_principal_to : FuncData} (c_principal_to : Cal P w K mg base "principal_to" 12 ["ranking", "chain", "order"] (spT T (RfT K false)) f_principal_to d_principal_to) (n_enumerate : mg "enumerate" = none) (n_sum : mg "sum" = none) (n_range : mg "range" = none) (n_repr : mg "repr" = none) (n_tuple : mg "tuple" = none) {f_Lparts_right : Addr} {d_Lparts_right : FuncData} (c_Lparts_right : Gd.CalG P w K mg base "_law_parts_right" 13 ["_law_ranking_here", "_law_chain_here", "_law_told"] (spT T (Rpart K)) f_Lparts_right d_Lparts_right) :
    Gd.FnG P w K mg base 14 f fd ["_law_script"] (spLaw K T) := by
  refine Gd.okG F sc_law (fun vs H Q E h => by obtain ⟨a, ns, rfl, _⟩ := h; rfl) (fun cdv A outer s H vs Q E hr hG h => ?_)
  obtain ⟨a, ns, rfl, hS, hlen, hT, q⟩ := h
  have hu := hu_of hr
  refine ⟨_, (pss_cons (ps_for PassesOwn.never rfl (pi_enum (by rfl) n_enumerate (pa_cons (pe_op op_cat (pe_slice sl_list (pv 0) po_none (po_some pe_int)) (pe_lst (pa_cons (pe_callB (cr_sum rfl) (by rfl) n_sum (by decide +kernel) (pa_cons (pv 0) pa_nil)) pa_nil))) pa_nil)) (pg_tup (by rfl) (pgs_cons (pg_name (i := 1) sc_law.nd rfl (by first | exact .inl rfl | exact .inr rfl)) (pgs_cons (pg_name (i := 2) sc_law.nd rfl (by first | exact .inl rfl | exact .inr rfl)) pgs_nil)))
      (pss_cons (ps_set (i := 3) sc_law.nd rfl (by first | exact .inl rfl | exact .inr rfl) (pe_call c_Ldraw.G (hr.mono (by decide)) (by rfl) c_Ldraw.m c_Ldraw.k c_Ldraw.b .nil pass0 (pa_cons (pv 2) (pa_cons (pv 1) pa_nil))))
    (pss_one (ps_for PassesOwn.never rfl (pi_range1 (by rfl) n_range (pa_cons pe_int pa_nil)) (pg_name (i := 4) sc_law.nd rfl (by first | exact .inl rfl | exact .inr rfl))
      (pss_cons (ps_set (i := 5) sc_law.nd rfl (by first | exact .inl rfl | exact .inr rfl) (pe_call c_Lranking.G (hr.mono (by decide)) (by rfl) c_Lranking.m c_Lranking.k c_Lranking.b .nil pass0 (pa_cons (pv 3) pa_nil)))
    (pss_cons (ps_set (i := 6) sc_law.nd rfl (by first | exact .inl rfl | exact .inr rfl) (pe_call c_Lchain.G (hr.mono (by decide)) (by rfl) c_Lchain.m c_Lchain.k c_Lchain.b .nil pass0 (pa_cons (pv 3) (pa_cons (pv 5) (pa_cons pe_int pa_nil)))))
    (pss_cons (ps_set (i := 7) sc_law.nd rfl (by first | exact .inl rfl | exact .inr rfl) (pe_tup (pa_cons (pe_call c_free_cones.G (hr.mono (by decide)) (by rfl) c_free_cones.m c_free_cones.k c_free_cones.b .nil pass0 (pa_cons (pv 5) (pa_cons (pv 6) pa_nil))) (pa_cons (pe_call c_principal_cones.G (hr.mono (by decide)) (by rfl) c_principal_cones.m c_principal_cones.k c_principal_cones.b .nil pass0 (pa_cons (pv 5) (pa_cons (pv 6) pa_nil))) pa_nil))))
    (pss_cons (ps_if (PW.pt (pw_or (pt_cmpR op_ne (pe_callB (Gd.call_reprG hG hr.units) (by rfl) n_repr (by decide +kernel) (pa_cons (pv 7) pa_nil)) (pe_callB (Gd.call_reprG hG hr.units) (by rfl) n_repr (by decide +kernel) (pa_cons (pe_call c_Lcones.G (hr.mono (by decide)) (by rfl) c_Lcones.m c_Lcones.k c_Lcones.b .nil pass0 (pa_cons (pv 5) (pa_cons (pv 6) pa_nil))) pa_nil)) (nomark _)) (pw_or1 (pt_not (pt_val (Gd.pe_callG c_Lparts_right.G (hr.mono (by decide)) hG (by rfl) c_Lparts_right.m c_Lparts_right.k c_Lparts_right.b .nil pass0 (pa_cons (pv 5) (pa_cons (pv 6) (pa_cons (pv 7) pa_nil))))))))) (pss_one (ps_ret pe_bl)) pss_nil)
    (pss_cons (ps_if (pt_cmpR (op_neD hr.units) (pe_lc (own := [("_law_cone", 8)]) rfl sc_law.nd (pi_tup (pe_op op_catA (pe_ix ix_tup (pv 7) pe_int (fun _ _ => rfl)) (pe_ix ix_tup (pv 7) pe_int (fun _ _ => rfl)))) (blkOk_by (N := N_law) (sc := defScope s_law) (by decide +kernel)) (fun _ _ _ _ _ => (pg_name (i := 8) sc_law.nd rfl (Or.inl rfl))) (fun _ _ _ _ _ => (pts_one (pt_cmpR op_notT (pe_call c_is_cone.G (hr.mono (by decide)) (by rfl) c_is_cone.m c_is_cone.k c_is_cone.b .nil pass0 (pa_cons (pv 5) (pa_cons (pv 8) pa_nil))) pe_bl (nomark _)))) (fun _ _ _ _ _ => pe_int)) (pe_lst pa_nil) (nomark _)) (pss_one (ps_ret pe_bl)) pss_nil)
    (pss_cons (ps_asg (pe_tup (pa_cons (pe_call c_Ldigit.G (hr.mono (by decide)) (by rfl) c_Ldigit.m c_Ldigit.k c_Ldigit.b .nil pass0 (pa_cons (pv 3) (pa_cons pe_int pa_nil))) (pa_cons (pe_lc (own := [("_law_leader", 11), ("_law_side", 12)]) (g := (gTup K 2 (gCons (gName 11) (gCons (gName 12) gNil)))) rfl sc_law.nd (pi_tup (pv 6)) (blkOk_by (N := N_law) (sc := defScope s_law) (by decide +kernel)) (fun _ _ _ _ _ => (pg_tup (by rfl) (pgs_cons (pg_name (i := 11) sc_law.nd rfl (Or.inl rfl)) (pgs_cons (pg_name (i := 12) sc_law.nd rfl (Or.inl rfl)) pgs_nil)))) (fun _ _ _ _ _ => pts_nil) (fun _ _ _ _ _ => (pv 11))) pa_nil))) (pg_tup (by rfl) (pgs_cons (pg_name (i := 9) sc_law.nd rfl (by first | exact .inl rfl | exact .inr rfl)) (pgs_cons (pg_name (i := 10) sc_law.nd rfl (by first | exact .inl rfl | exact .inr rfl)) pgs_nil))))
    (pss_cons (ps_set (i := 13) sc_law.nd rfl (by first | exact .inl rfl | exact .inr rfl) (pe_call c_Lall.G (hr.mono (by decide)) (by rfl) c_Lall.m c_Lall.k c_Lall.b .nil pass0 (pa_cons (pv 5) (pa_cons (pv 9) pa_nil))))
    (pss_cons (ps_set (i := 14) sc_law.nd rfl (by first | exact .inl rfl | exact .inr rfl) (pe_tup (pa_cons (pe_callTy call_tuple_of (by rfl) n_tuple (by decide +kernel) (pa_cons (pe_lc (own := [("_law_one", 15)]) rfl sc_law.nd (pi_list (pv 13)) (blkOk_by (N := N_law) (sc := defScope s_law) (by decide +kernel)) (fun _ _ _ _ _ => (pg_name (i := 15) sc_law.nd rfl (Or.inl rfl))) (fun _ _ _ _ _ => (pts_one (pt_not (pt_val (pe_call c_Lis_principal.G (hr.mono (by decide)) (by rfl) c_Lis_principal.m c_Lis_principal.k c_Lis_principal.b .nil pass0 (pa_cons (pv 10) (pa_cons (pv 15) pa_nil))))))) (fun _ _ _ _ _ => (pv 15))) pa_nil)) (pa_cons (pe_callTy call_tuple_of (by rfl) n_tuple (by decide +kernel) (pa_cons (pe_lc (own := [("_law_one", 15)]) rfl sc_law.nd (pi_list (pv 13)) (blkOk_by (N := N_law) (sc := defScope s_law) (by decide +kernel)) (fun _ _ _ _ _ => (pg_name (i := 15) sc_law.nd rfl (Or.inl rfl))) (fun _ _ _ _ _ => (pts_one (pt_val (pe_call c_Lis_principal.G (hr.mono (by decide)) (by rfl) c_Lis_principal.m c_Lis_principal.k c_Lis_principal.b .nil pass0 (pa_cons (pv 10) (pa_cons (pv 15) pa_nil)))))) (fun _ _ _ _ _ => (pv 15))) pa_nil)) pa_nil))))
    (pss_one (ps_if (pt_cmpR op_ne (pe_callB (Gd.call_reprG hG hr.units) (by rfl) n_repr (by decide +kernel) (pa_cons (pe_tup (pa_cons (pe_call c_free_to.G (hr.mono (by decide)) (by rfl) c_free_to.m c_free_to.k c_free_to.b .nil pass0 (pa_cons (pv 5) (pa_cons (pv 6) (pa_cons (pv 9) pa_nil)))) (pa_cons (pe_call c_principal_to.G (hr.mono (by decide)) (by rfl) c_principal_to.m c_principal_to.k c_principal_to.b .nil pass0 (pa_cons (pv 5) (pa_cons (pv 6) (pa_cons (pv 9) pa_nil)))) pa_nil))) pa_nil)) (pe_callB (Gd.call_reprG hG hr.units) (by rfl) n_repr (by decide +kernel) (pa_cons (pv 14) pa_nil)) (nomark _)) (pss_one (ps_ret pe_bl)) pss_nil))))))))))))))
    (pss_one (ps_ret pe_bl))), ?_⟩
  walk_at "go"
  refine ⟨a, _, rfl, hS, fun p1 hp1 => ?_⟩
  walk_at "go"
  refine ⟨a, ns, rfl, (Same.seq (My.new hp1) hS), ?_⟩
  refine ⟨by show 1 ≤ sizeLine; decide, fun p2 hp2 => ?_⟩
  have n12 : p1 ≠ p2 := ne_of_none upd_same hp2
  refine ⟨p1, p2, _, _, rfl, rfl, by rw [upd_ne n12]; exact upd_same, upd_same, ?_, fun p3 hp3 => ?_⟩
  · have := My.cutTo (ns.map V.int) 4
    rw [show (4 : Int) = ((4 : Nat) : Int) from rfl, this, List.length_take]
    exact sz_of (by simp only [List.length_singleton]; omega)
  rw [show (4 : Int) = ((4 : Nat) : Int) from rfl, My.cutTo, ← List.map_take, show [V.int ns.sum] = [ns.sum].map V.int from rfl, ← List.map_append] at *
  have hT3 := ((hT.ext (Ex.new hp1)).ext (Ex.new hp2)).ext (Ex.new (o := .lst ((ns.take 4 ++ [ns.sum]).map V.int)) hp3)
  generalize hcs : ns.take 4 ++ [ns.sum] = cs at hT3
  have hcl : cs.length ≤ 5 := by
    rw [← hcs, List.length_append, List.length_take]
    simp only [List.length_singleton]
    omega
  refine ⟨p3, cs.map V.int, rfl, sq_of upd_same, for_it (walk_enum (K := K) (a := p3) (xs := cs.map V.int)) (fun i σ H' => Tabs T H' ∧ H' p3 = some (.lst (cs.map V.int)) ∧ ∃ x1 x2 x3 x4 x5 x6 x7 x9 x10 x13 x14 : Option V, σ = [some (.ref a), x1, x2, x3, x4, x5, x6, x7, none, x9, x10, none, none, x13, x14, none])
    ⟨hT3, upd_same, none, none, none, none, none, none, none, none, none, none, none, rfl⟩ (fun i σ H' _ h => sq_of h.2.1) ?_ ?_⟩
  rotate_left
  · rintro σ H1 _
    exact q H1
  rintro i v σ H1 H2 hi ⟨t1, h3, x1, x2, x3, x4, x5, x6, x7, x9, x10, x13, x14, rfl⟩ ⟨t, x, y, rfl, ht, rfl, hx, hy⟩
  obtain rfl := Option.some.inj hx
  rw [List.length_map] at hi
  obtain ⟨z, rfl⟩ : ∃ z : Int, y = V.int z := by
    have hy' : (cs.map V.int)[i]? = some y := hy
    rw [List.getElem?_map, List.getElem?_eq_getElem hi] at hy'
    exact ⟨_, (Option.some.inj hy').symm⟩
  have h3' : upd H1 t (HO.tup [V.int (i : Nat), V.int z]) p3 = some (.lst (cs.map V.int)) := by
    rw [upd_ne (ne_of_none h3 ht)]
    exact h3
  have T2 : Tabs T (upd H1 t (HO.tup [V.int (i : Nat), V.int z])) := t1.ext (Ex.new ht)
  refine ⟨t, _, rfl, st_of upd_same, rfl, _, _, rfl, _, _, rfl, rfl, ?_⟩
  generalize upd H1 t (HO.tup [V.int (i : Nat), V.int z]) = H2 at h3' T2 ⊢
  walk_at "go"
  refine ⟨z, (i : Nat), rfl, by omega, by omega, fun d Hd hd0 hDS S => ?_⟩
  have hd3 := S _ _ h3'
  have nd3 : p3 ≠ d := ne_of_none h3' hd0
  have Td : Tabs T Hd := T2.ext S
  have k0 : Kx T d 1000000 (fun b => if b = p3 then some (.lst (cs.map V.int)) else none) Hd := by
    refine ⟨fun b o e => ?_, fun b ps e => ?_, Td, if_neg nd3.symm, hDS⟩
    · have e : (if b = p3 then some (HO.lst (cs.map V.int)) else none) = some o := e
      by_cases n : b = p3
      · rw [if_pos n] at e
        rw [n, hd3]
        exact e
      · rw [if_neg n] at e
        cases e
    · have e : (if b = p3 then some (HO.lst (cs.map V.int)) else none) = some (.tbl ps) := e
      by_cases n : b = p3
      · rw [if_pos n] at e
        cases e
      · rw [if_neg n] at e
        cases e
  have at3 : (fun b => if b = p3 then some (HO.lst (cs.map V.int)) else none) p3 = some (.lst (cs.map V.int)) := if_pos rfl
  generalize (fun b => if b = p3 then some (HO.lst (cs.map V.int)) else none) = B0 at k0 at3
  dsimp only
  refine b_forD ⟨2, rfl, by decide, by decide, for_range (lo := 0) (n := 2) (fun j σ H' => ∃ C, Kx T d (1000000 + 1000 * j) C H' ∧ Ex B0 C ∧ ∃ x4 x5 x6 x7 x9 x10 x13 x14, σ = [some (.ref a), some (.int i), some (.int z), some (.ref d), x4, x5, x6, x7, none, x9, x10, none, none, x13, x14, none]) ⟨B0, k0, Ex.refl _, x4, x5, x6, x7, x9, x10, x13, x14, rfl⟩ (fun j σ H' hj pv => ?_) (fun σ H' pv => ?_)⟩
  rotate_left
  · obtain ⟨C, k, e, x4, x5, x6, x7, x9, x10, x13, x14, rfl⟩ := pv
    exact ⟨k.t, k.e _ _ (e _ _ at3), _, _, _, _, _, _, _, _, _, _, _, rfl⟩
  obtain ⟨C, kC, eC, x4, x5, x6, x7, x9, x10, x13, x14, rfl⟩ := pv
  dsimp only [gName, List.set_cons_succ, List.set_cons_zero]
  -- ranking, chain
  refine b_seq (b_asg ?_)
  refine ⟨.ref d, rfl, C, d, _, rfl, kC, by omega, fun vr r B1 H1 hok g1 k1 hR => ?_⟩
  dsimp only [gName, List.set_cons_succ, List.set_cons_zero]
  refine b_seq (b_asg ?_)
  refine ⟨.ref d, rfl, vr, rfl, B1, d, _, r, vr, 6, rfl, hok, by decide, hR, k1, by omega, fun vc c B2 H2 hco hs hl g2 k2 hC => ?_⟩
  dsimp only [gName, List.set_cons_succ, List.set_cons_zero]
  have hR2 := (RkP K r).m g2.b hR
  have hB : ChB 6 c := ⟨hs.ge, fun x hx => by
    obtain ⟨h1, h2⟩ := hl.of x.1 (List.mem_map_of_mem hx)
    have := h1.i
    have := h1.j
    exact ⟨by omega, by omega⟩⟩
  -- told
  refine b_seq (ps_asgN (fun x => [some (.ref a), some (.int i), some (.int z), some (.ref d), some (.int (0 + (j : Nat))), some vr, some vc, some x, none, x9, x10, none, none, x13, x14, none]) k2.e (p_tup (K := K) (ps := [TuP K ((freeAll r c).map (cnP K)), TuP K ((prinAll r c).map (cnP K))]) (q_cons (p_callP (ps := [RkP K r, chP K c]) (q_cons (p_var rfl hR2) (q_cons (p_var rfl hC) q_nil)) ⟨r, c, hok, hco, hs, rfl, rfl⟩) (q_cons (p_callP (ps := [RkP K r, chP K c]) (q_cons (p_var rfl hR2) (q_cons (p_var rfl hC) q_nil)) ⟨r, c, hok, hco, hs, rfl, rfl⟩) q_nil)) (by show 2 ≤ 100000; decide)) (fun vt B3 H3 g3 hvt => ?_) (fun _ => rfl))
  dsimp only
  have k3 := k2.gr g3
  have hR3 := (RkP K r).m g3.b hR2
  have hC3 := (chP K c).m g3.b hC
  have sw := shw_told hok hs hB
  -- if repr(told) != repr(cones) or not parts_right
  refine b_seq (b_ifOr (B := B3) (et_is (et_test (ev_op (Gd.ev_repr (K := K) (d := toldD r c) (p_to (p_var rfl hvt) (to_told r c)) sw.s sw.d sw.l) (Gd.ev_repr (K := K) (d := toldD r c) (p_to (p_callP (ps := [RkP K r, chP K c]) (q_cons (p_var rfl hR3) (q_cons (p_var rfl hC3) q_nil)) ⟨r, 6, c, hok, hs, hl, rfl, rfl⟩) (to_told r c)) sw.s sw.d sw.l) (rv_ne rfl))) (by simp)) k3.e fun H4 e4 => b_ifNot ?_)
  have k4 := k3.ex e4
  refine t_call k4.kn (q_cons (p_var rfl hR3) (q_cons (p_var rfl hC3) (q_cons (p_var rfl hvt) q_nil))) ⟨r, 6, c, hok, hco, hs, hl, rfl, rfl⟩ fun vb B5 H5 g5 hvb => ?_
  obtain rfl : vb = .bl true := hvb
  refine ⟨true, rfl, ?_⟩
  rw [show (!true) = false from rfl]
  refine iteF ?_
  have k5 := k4.gt g5
  have hR5 := (RkP K r).m g5.b hR3
  have hC5 := (chP K c).m g5.b hC3
  have ht5 := (TuP K _).m g5.b hvt
  -- each is a cone
  have lc1 := p_lcS (tt := tTest (tOp rNotT (tCall (spP (Rcf K)) [] E0 (tCons (tVar 5) (tCons (tVar 8) tNil))) (tC (.bl true)))) (te := tC (.int 1)) (g := gName 8) (vs := [8]) (σ := [some (.ref a), some (.int i), some (.int z), some (.ref d), some (.int (0 + (j : Nat))), some vr, some vc, some vt, none, x9, x10, none, none, x13, x14, none]) (B := B5)
    (src_tu (K := K) (te := tOp (rCatA K) (tOp (rIxT K) (tVar 7) (tC (.int 0))) (tOp (rIxT K) (tVar 7) (tC (.int 1)))) (p_catA (ps := (freeAll r c).map (cnP K)) (qs := (prinAll r c).map (cnP K)) (p_ixT (K := K) (ps := [TuP K ((freeAll r c).map (cnP K)), TuP K ((prinAll r c).map (cnP K))]) (p_var rfl ht5) p_c rfl) (p_ixT (K := K) (ps := [TuP K ((freeAll r c).map (cnP K)), TuP K ((prinAll r c).map (cnP K))]) (p_var rfl ht5) p_c rfl) (by
      rw [List.length_map, List.length_map]
      have := free_len hok hs
      have := prin_len hok hs
      omega))) (by
      rw [List.length_append, List.length_map, List.length_map]
      have := free_len hok hs
      have := prin_len hok hs
      omega) (fun _ => false) (fun _ => IsD K (.int 1)) fun k v8 B6 hk e pv => by
        rw [← List.map_append, List.length_map] at hk
        have pv : (((freeAll r c).map (cnP K) ++ (prinAll r c).map (cnP K)).getD k (IsV .non)).P v8 B6 := pv
        rw [← List.map_append, getD_map hk] at pv
        have ho : CnOk r (freeAll r c ++ prinAll r c)[k] := by
          rcases List.mem_append.mp (List.getElem_mem hk) with h | h
          · exact free_ok hs _ h
          · exact prin_ok hs _ h
        exact ⟨[some (.ref a), some (.int i), some (.int z), some (.ref d), some (.int (0 + (j : Nat))), some vr, some vc, some vt, some v8, x9, x10, none, none, x13, x14, none], rfl, fun H2 Q e q => q, et_is (et_test (ev_notTr (ev_p (p_callP (ps := [RkP K r, cnP K (freeAll r c ++ prinAll r c)[k]]) (q_cons (p_var rfl ((RkP K r).m e hR5)) (q_cons (p_var rfl pv) q_nil)) ⟨r, _, hok, ho, rfl, rfl⟩)) ev_c)) rfl, fun z => nomatch z⟩
  rw [List.filter_eq_nil_iff.mpr (fun _ _ => Bool.false_ne_true)] at lc1
  have l1 : EvP _ _ B5 (IsD K (.list [])) := d_lst (K := K) lc1
  refine b_seq (ps_ifN k5.e (et_is (et_test (ev_neD (K := K) l1 (ed_lst (K := K) (ds := []) q_nil (by decide)) rfl rfl)) (by rw [eqv_nil]; rfl)) fun H6 e6 => ?_)
  dsimp only
  have k6 := k5.ex e6
  -- most, leaders
  refine b_seq (b_asg (b_tup (b_cons ?_)))
  refine x_digit k6 rfl ev_c (by decide) (by decide) (by omega) fun m H7 m0 m1 k7 g7 => ?_
  obtain ⟨m, rfl⟩ : ∃ n : Nat, m = (n : Int) := ⟨m.toNat, by omega⟩
  have hcl2 := hs.len
  have lc2 := p_lcP (te := tVar 11) (g := gTup K 2 (gCons (gName 11) (gCons (gName 12) gNil))) (vs := [11, 12]) (σ := [some (.ref a), some (.int i), some (.int z), some (.ref d), some (.int (0 + (j : Nat))), some vr, some vc, some vt, none, x9, x10, none, none, x13, x14, none]) (src_tu (K := K) (te := tVar 6) (p_var rfl hC5)) (by rw [List.length_map]; omega) (fun k => DvP (c.getD k (⟨"", 0, 0⟩, [])).1) fun k v4 B6 hk e pv => by
    rw [List.length_map] at hk
    have pv : ((c.map (lkP K)).getD k (IsV .non)).P v4 B6 := pv
    rw [getD_map hk] at pv
    obtain ⟨p3, ys, rfl, hp3, al⟩ := pv
    obtain ⟨y1, y2, rfl, m1, m2⟩ := all2 al
    have zz : c.getD k (⟨"", 0, 0⟩, []) = c[k] := by
      rw [List.getD_eq_getElem?_getD, List.getElem?_eq_getElem hk]
      rfl
    rw [zz]
    exact ⟨[some (.ref a), some (.int i), some (.int z), some (.ref d), some (.int (0 + (j : Nat))), some vr, some vc, some vt, none, x9, x10, some y1, some y2, x13, x14, none], rfl, fun H2 Q e q => ⟨p3, _, rfl, ex_t e hp3, rfl, _, _, rfl, _, _, rfl, rfl, q⟩, p_var rfl m1⟩
  rw [List.length_map, range_map (fun x : Dv × Po => DvP x.1) (⟨"", 0, 0⟩, []) c] at lc2
  have lls : (c.map fun x => DvP x.1) = (c.map (·.1)).map DvP := by
    rw [List.map_map]
    rfl
  rw [lls] at lc2
  refine lc2 H7 k7.e _ fun vl B8 H8 g8 hvl => ⟨by show 2 ≤ sizeLine; decide, fun pt hpt => ⟨pt, _, rfl, st_of upd_same, rfl, _, _, rfl, _, _, rfl, rfl, ?_⟩⟩
  have k8 := (k7.gr g8).ex (Ex.new (o := .tup [.int (m : Nat), vl]) hpt)
  generalize upd H8 pt (.tup [.int (m : Nat), vl]) = H8' at k8 ⊢
  dsimp only [gName, List.set_cons_succ, List.set_cons_zero]
  have hR8 := (RkP K r).m g8.b hR5
  have hC8 := (chP K c).m g8.b hC5
  -- some
  refine b_seq (b_asg ?_)
  refine t_call k8.kn (q_cons (p_var rfl hR8) (q_cons (p_varV rfl) q_nil)) ⟨r, m, hok, by omega, rfl, rfl⟩ fun va B9 H9 g9 hva => ?_
  dsimp only [gName, List.set_cons_succ, List.set_cons_zero]
  have k9 := k8.gt g9
  have hR9 := (RkP K r).m g9.b hR8
  have hC9 := (chP K c).m g9.b hC8
  have hl9 := (LsP ((c.map (·.1)).map DvP)).m g9.b hvl
  have la : (r.sort (r.all m)).length ≤ 507 := by
    rw [(r.sort_perm _).length_eq, ← Rk.rowsT_all]
    exact r.rowsT_len (o := m) (m := r.ns.length) (by omega) hok.le
  have part : ∀ (tt : TT) (b : Bool), (∀ (x : V) (k : Nat) (B' : Hp), Ex B9 B' → (DvP ((r.sort (r.all m)).getD k ⟨"", 0, 0⟩)).P x B' → EvT tt [some (.ref a), some (.int i), some (.int z), some (.ref d), some (.int (0 + (j : Nat))), some vr, some vc, some vt, none, some (.int (m : Nat)), some vl, none, none, some va, x14, some x] B' (!bndB c ((r.sort (r.all m)).getD k ⟨"", 0, 0⟩) == b)) →
      EvP (tLc (iList K (tVar 13)) (gName 15) tt (tVar 15) [15]) [some (.ref a), some (.int i), some (.int z), some (.ref d), some (.int (0 + (j : Nat))), some vr, some vc, some vt, none, some (.int (m : Nat)), some vl, none, none, some va, x14, none] B9 (LsP ((Rk.some r c m b).map DvP)) := fun tt b htt => by
    have := p_lcS (tt := tt) (te := tVar 15) (g := gName 15) (vs := [15]) (σ := [some (.ref a), some (.int i), some (.int z), some (.ref d), some (.int (0 + (j : Nat))), some vr, some vc, some vt, none, some (.int (m : Nat)), some vl, none, none, some va, x14, none]) (src_lq (K := K) (te := tVar 13) (p_var rfl (lq_ls hva))) (by rw [List.length_map]; omega) (fun k => !bndB c ((r.sort (r.all m)).getD k ⟨"", 0, 0⟩) == b) (fun k => DvP ((r.sort (r.all m)).getD k ⟨"", 0, 0⟩)) fun k v15 B6 hk e pv => by
      rw [List.length_map] at hk
      have pv : (((r.sort (r.all m)).map DvP).getD k (IsV .non)).P v15 B6 := pv
      rw [getD_map hk] at pv
      have zz : (r.sort (r.all m)).getD k ⟨"", 0, 0⟩ = (r.sort (r.all m))[k] := by
        rw [List.getD_eq_getElem?_getD, List.getElem?_eq_getElem hk]
        rfl
      rw [← zz] at pv
      exact ⟨[some (.ref a), some (.int i), some (.int z), some (.ref d), some (.int (0 + (j : Nat))), some vr, some vc, some vt, none, some (.int (m : Nat)), some vl, none, none, some va, x14, some v15], rfl, fun H2 Q e q => q, htt v15 k B6 e pv, fun _ => p_var rfl pv⟩
    rw [List.length_map, range_filter (fun u : Dv => !bndB c u == b) DvP ⟨"", 0, 0⟩ (r.sort (r.all m))] at this
    have e : (fun u : Dv => !bndB c u == b) = fun u => decide (fstI c u = none) == b := funext fun u => by rw [fst_bnd]; cases bndB c u <;> cases b <;> rfl
    rw [e] at this
    exact this
  have isp : ∀ (x : V) (k : Nat) (B' : Hp), Ex B9 B' → (DvP ((r.sort (r.all m)).getD k ⟨"", 0, 0⟩)).P x B' → EvT (tB (tCall (spP (Rlp K)) [] E0 (tCons (tVar 10) (tCons (tVar 15) tNil)))) [some (.ref a), some (.int i), some (.int z), some (.ref d), some (.int (0 + (j : Nat))), some vr, some vc, some vt, none, some (.int (m : Nat)), some vl, none, none, some va, x14, some x] B' (bndB c ((r.sort (r.all m)).getD k ⟨"", 0, 0⟩)) := fun x k B' e px => et_B (ev_p (p_callP (R := Rlp K) (ps := [LqP K ((c.map (·.1)).map DvP), DvP ((r.sort (r.all m)).getD k ⟨"", 0, 0⟩)]) (p := IsV (.bl (bndB c ((r.sort (r.all m)).getD k ⟨"", 0, 0⟩)))) (q_cons (p_var rfl (lq_ls ((LsP _).m e hl9))) (q_cons (p_var rfl px) q_nil)) ⟨c.map (·.1), _, by rw [List.length_map]; omega, rfl, rfl⟩))
  -- due
  refine b_seq (ps_asgN (fun x => [some (.ref a), some (.int i), some (.int z), some (.ref d), some (.int (0 + (j : Nat))), some vr, some vc, some vt, none, some (.int (m : Nat)), some vl, none, none, some va, some x, none]) k9.e (p_tup (K := K) (ps := [TuP K ((Rk.some r c m true).map DvP), TuP K ((Rk.some r c m false).map DvP)]) (q_cons (p_tupOf (K := K) (p_lq (part (tNot (tB (tCall (spP (Rlp K)) [] E0 (tCons (tVar 10) (tCons (tVar 15) tNil))))) true fun x k B' e px => et_is (et_not (isp x k B' e px)) (by simp)))) (q_cons (p_tupOf (K := K) (p_lq (part (tB (tCall (spP (Rlp K)) [] E0 (tCons (tVar 10) (tCons (tVar 15) tNil)))) false fun x k B' e px => et_is (isp x k B' e px) (by simp)))) q_nil)) (by show 2 ≤ 100000; decide)) (fun vd B10 H10 g10 hvd => ?_) (fun _ => rfl))
  dsimp only
  have k10 := k9.gr g10
  have hR10 := (RkP K r).m g10.b hR9
  have hC10 := (chP K c).m g10.b hC9
  have sm : ∀ b, (∀ u ∈ Rk.some r c m b, u.Of r ∧ u.i ≤ 20 ∧ u.j ≤ 20) ∧ (Rk.some r c m b).length ≤ 600 := fun b => by
    refine ⟨fun u hu => ?_, ?_⟩
    · have h1 := (r.sort_perm _).mem_iff.mp (List.mem_filter.mp hu).1
      have h2 := all_low h1
      exact ⟨Rk.mem_all h1, by omega, by omega⟩
    · unfold Rk.some
      exact Nat.le_trans (List.length_filter_le _ _) (by omega)
  have sd := shw_due hok (sm true).1 (sm false).1 (sm true).2 (sm false).2
  -- if repr((free_to, principal_to)) != repr(due)
  refine b_ifNe ?_
  refine t_call k10.kn (q_cons (p_var rfl hR10) (q_cons (p_var rfl hC10) (q_cons (p_varV rfl) q_nil))) ⟨r, c, m, hok, hco, by omega, rfl, rfl⟩ fun w1 B11 H11 g11 hw1 => ?_
  have k11 := k10.gt g11
  refine t_call k11.kn (q_cons (p_var rfl ((RkP K r).m g11.b hR10)) (q_cons (p_var rfl ((chP K c).m g11.b hC10)) (q_cons (p_varV rfl) q_nil))) ⟨r, c, m, hok, hco, by omega, rfl, rfl⟩ fun w2 B12 H12 g12 hw2 => ?_
  have k12 := k11.gt g12
  refine ⟨by show 2 ≤ sizeLine; decide, fun p7 hp7 => ?_⟩
  have k13 := k12.ex (Ex.new (o := .tup [w1, w2]) hp7)
  have e13 : Ex B12 (upd H12 p7 (.tup [w1, w2])) := k13.e
  have dp1 : Dp K (upd H12 p7 (.tup [w1, w2])) (.ref p7) (dueD (Rk.some r c m true) (Rk.some r c m false)) := to_due _ _ _ _ ⟨p7, [w1, w2], rfl, st_of upd_same, (TuP K _).m (g12.b.trans e13) hw1, (TuP K _).m e13 hw2, trivial⟩
  have dp2 : Dp K (upd H12 p7 (.tup [w1, w2])) vd (dueD (Rk.some r c m true) (Rk.some r c m false)) := to_due _ _ _ _ ((TuP K _).m ((g11.b.trans g12.b).trans e13) hvd)
  refine ⟨.ref p7, _, rfl, dp1, sd.s, sd.d, sd.l, vd, rfl, vd, _, rfl, dp2, sd.s, sd.d, sd.l, rfl, false, by simp, ?_⟩
  refine iteF ?_
  exact ⟨B12, k13.le (by omega), (((((((eC.trans g1.b).trans g2.b).trans g3.b).trans g5.b).trans g8.b).trans g9.b).trans g10.b).trans (g11.b.trans g12.b), _, _, _, _, _, _, _, _, rfl⟩

end
end K12
namespace K12
open PySem PySem.W L2 Evl My LamX Nd
set_option autoImplicit false
theorem dp_strK {K : PySem.W.Frag} {a : Addr} {od : Option Addr} {its : Array Value} {n : Nat} {sl : Array (Option Value)} {xs : List Str} (l : K.lookup a = some ⟨.type "tuple", od, .seq its n, sl⟩) (h : Vals (xs.map V.str) its.toList) (hz : xs.length ≤ 1000 := by decide) (H : Hp) : Dp K H (.ref a) (.tuple (xs.map .str)) :=
  .tup (.inr ⟨_, its, n, l, rfl, rfl, small (by have := h.length; rw [List.length_map] at this; simp at this; omega), h⟩) (dps_of_strs xs)

theorem all_mk {l : PySem.W.OpenLaw} {w : World} {K : PySem.W.Frag} {h : Heap} {mg : Str → Option Value} {fa c1 c2 c3 tb1 tb2 tb3 aA aS aL aW aBP q1 q2 q3 q4 q5 q6 q7 f0 f1 f2 f3 f4 f5 f6 f7 f8 f9 f10 f11 f12 f13 f14 f15 f16 f17 f18 f19 f20 f21 f22 f23 f24 f25 f26 f27 f28 f29 f30 f31 f32 f33 f34 f35 f36 f37 f38 f39 f40 f41 f42 f43 f44 f45 f46 f47 f48 f49 f50 f51 f52 f53 f54 f55 f56 f57 : Addr} (X : K.In h) (G : h.Ns mainGlobals mg) (hfa : mg "law" = some (.ref fa)) (hT1 : h.get? tb1 = some (PySem.W.tabObj #[])) (hT2 : h.get? tb2 = some (PySem.W.tabObj #[])) (hT3 : h.get? tb3 = some (PySem.W.tabObj #[]))
    {od0 an0 od1 an1 od2 an2 od3 an3 od4 an4 od5 an5 od6 an6 od7 an7 od8 an8 od9 an9 od10 an10 od11 an11 od12 an12 od13 an13 od14 an14 od15 an15 od16 an16 od17 an17 od18 an18 od19 an19 od20 an20 od21 an21 od22 an22 od23 an23 od24 an24 od25 an25 od26 an26 od27 an27 od28 an28 od29 an29 od30 an30 od31 an31 od32 an32 od33 an33 od34 an34 od35 an35 od36 an36 od37 an37 od38 an38 od39 an39 od40 an40 od41 an41 od42 an42 od43 an43 od44 an44 od45 an45 od46 an46 od47 an47 od48 an48 od49 an49 od50 an50 od51 an51 od52 an52 od53 an53 od54 an54 od55 an55 od56 an56 od57 an57 dA0 dA1 dA2 dA3 dA4 dA5 dA6 dA7 dA8 dA9 dA10 : Option Addr} {sl0 sl1 sl2 sl3 sl4 sl5 sl6 sl7 sl8 sl9 sl10 sl11 sl12 sl13 sl14 sl15 sl16 sl17 sl18 sl19 sl20 sl21 sl22 sl23 sl24 sl25 sl26 sl27 sl28 sl29 sl30 sl31 sl32 sl33 sl34 sl35 sl36 sl37 sl38 sl39 sl40 sl41 sl42 sl43 sl44 sl45 sl46 sl47 sl48 sl49 sl50 sl51 sl52 sl53 sl54 sl55 sl56 sl57 sA0 sA1 sA2 sA3 sA4 sA5 sA6 sA7 sA8 sA9 sA10 : Array (Option Value)} {oc0 kV0 dc0 pm0 cd0 ct0 oc1 kV1 dc1 pm1 cd1 ct1 oc2 kV2 dc2 pm2 cd2 ct2 oc3 kV3 dc3 pm3 cd3 ct3 oc4 kV4 dc4 pm4 cd4 ct4 oc5 kV5 dc5 pm5 cd5 ct5 oc6 kV6 dc6 pm6 cd6 ct6 oc7 kV7 dc7 pm7 cd7 ct7 oc8 kV8 dc8 pm8 cd8 ct8 oc9 kV9 dc9 pm9 cd9 ct9 oc10 kV10 dc10 pm10 cd10 ct10 oc11 kV11 dc11 pm11 cd11 ct11 oc12 kV12 dc12 pm12 cd12 ct12 oc13 kV13 dc13 pm13 cd13 ct13 oc14 kV14 dc14 pm14 cd14 ct14 oc15 kV15 dc15 pm15 cd15 ct15 oc16 kV16 dc16 pm16 cd16 ct16 oc17 kV17 dc17 pm17 cd17 ct17 oc18 kV18 dc18 pm18 cd18 ct18 oc19 kV19 dc19 pm19 cd19 ct19 oc20 kV20 dc20 pm20 ct20 oc21 kV21 dc21 pm21 cd21 ct21 oc22 kV22 dc22 pm22 cd22 ct22 oc23 kV23 dc23 pm23 cd23 ct23 oc24 kV24 dc24 pm24 cd24 ct24 oc25 kV25 dc25 pm25 cd25 ct25 oc26 kV26 dc26 pm26 cd26 ct26 oc27 kV27 dc27 pm27 cd27 ct27 oc28 kV28 dc28 pm28 cd28 ct28 oc29 kV29 dc29 pm29 cd29 ct29 oc30 kV30 dc30 pm30 cd30 ct30 oc31 kV31 dc31 pm31 cd31 ct31 oc32 kV32 dc32 pm32 cd32 ct32 oc33 kV33 dc33 pm33 cd33 ct33 oc34 kV34 dc34 pm34 cd34 ct34 oc35 kV35 dc35 pm35 cd35 ct35 oc36 kV36 dc36 pm36 cd36 ct36 oc37 kV37 dc37 pm37 cd37 ct37 oc38 kV38 dc38 pm38 cd38 ct38 oc39 kV39 dc39 pm39 cd39 ct39 oc40 kV40 dc40 pm40 cd40 ct40 oc41 kV41 dc41 pm41 cd41 ct41 oc42 kV42 dc42 pm42 cd42 ct42 oc43 kV43 dc43 pm43 cd43 ct43 oc44 kV44 dc44 pm44 cd44 ct44 oc45 kV45 dc45 pm45 cd45 ct45 oc46 kV46 dc46 pm46 cd46 ct46 oc47 kV47 dc47 pm47 cd47 ct47 oc48 kV48 dc48 pm48 cd48 ct48 oc49 kV49 dc49 pm49 ct49 oc50 kV50 dc50 pm50 cd50 ct50 oc51 kV51 dc51 pm51 ct51 oc52 kV52 dc52 pm52 cd52 ct52 oc53 kV53 dc53 pm53 cd53 ct53 oc54 kV54 dc54 pm54 cd54 ct54 oc55 kV55 dc55 pm55 cd55 ct55 oc56 kV56 dc56 pm56 cd56 ct56 oc57 kV57 dc57 pm57 cd57 ct57 : Value} {nA0 nA1 nA2 nA3 nA4 nA5 nA6 nA7 nA8 nA9 nA10 : Nat} {tk1 tk2 tk3 tk4 tk5 tk6 tk7 tk8 tk9 tk10 tk11 tk12 tk13 tk14 tk15 tk16 tk17 : Nat}
    (a0 : PySem.W.nsIn K mainGlobals "is_whole" = some (some (.ref f0)))
    (l0 : K.lookup f0 = some ⟨oc0, od0, .func (PySem.W.fnOf "is_whole" "is_whole" (defArgs s_is_whole) (defBody s_is_whole) (defScope s_is_whole) .none kV0 dc0 pm0 an0 cd0 ct0), sl0⟩)
    (e0 : PySem.W.codeIn K cd0 "is_whole" = true)
    (k0 : PySem.W.keepIn K (.ref f0) = true)
    (a1 : PySem.W.nsIn K mainGlobals "is_among" = some (some (.ref f1)))
    (l1 : K.lookup f1 = some ⟨oc1, od1, .func (PySem.W.fnOf "is_among" "is_among" (defArgs s_is_among) (defBody s_is_among) (defScope s_is_among) .none kV1 dc1 pm1 an1 cd1 ct1), sl1⟩)
    (e1 : PySem.W.codeIn K cd1 "is_among" = true)
    (k1 : PySem.W.keepIn K (.ref f1) = true)
    (a2 : PySem.W.nsIn K mainGlobals "is_name" = some (some (.ref f2)))
    (l2 : K.lookup f2 = some ⟨oc2, od2, .func (PySem.W.fnOf "is_name" "is_name" (defArgs s_is_name) (defBody s_is_name) (defScope s_is_name) .none kV2 dc2 pm2 an2 cd2 ct2), sl2⟩)
    (e2 : PySem.W.codeIn K cd2 "is_name" = true)
    (k2 : PySem.W.keepIn K (.ref f2) = true)
    (a3 : PySem.W.nsIn K mainGlobals "is_axis" = some (some (.ref f3)))
    (l3 : K.lookup f3 = some ⟨oc3, od3, .func (PySem.W.fnOf "is_axis" "is_axis" (defArgs s_is_axis) (defBody s_is_axis) (defScope s_is_axis) .none kV3 dc3 pm3 an3 cd3 ct3), sl3⟩)
    (e3 : PySem.W.codeIn K cd3 "is_axis" = true)
    (k3 : PySem.W.keepIn K (.ref f3) = true)
    (a4 : PySem.W.nsIn K mainGlobals "is_fraction" = some (some (.ref f4)))
    (l4 : K.lookup f4 = some ⟨oc4, od4, .func (PySem.W.fnOf "is_fraction" "is_fraction" (defArgs s_is_fraction) (defBody s_is_fraction) (defScope s_is_fraction) .none kV4 dc4 pm4 an4 cd4 ct4), sl4⟩)
    (e4 : PySem.W.codeIn K cd4 "is_fraction" = true)
    (k4 : PySem.W.keepIn K (.ref f4) = true)
    (a5 : PySem.W.nsIn K mainGlobals "is_derivative" = some (some (.ref f5)))
    (l5 : K.lookup f5 = some ⟨oc5, od5, .func (PySem.W.fnOf "is_derivative" "is_derivative" (defArgs s_is_derivative) (defBody s_is_derivative) (defScope s_is_derivative) .none kV5 dc5 pm5 an5 cd5 ct5), sl5⟩)
    (e5 : PySem.W.codeIn K cd5 "is_derivative" = true)
    (k5 : PySem.W.keepIn K (.ref f5) = true)
    (a6 : PySem.W.nsIn K mainGlobals "_is_powered" = some (some (.ref f6)))
    (l6 : K.lookup f6 = some ⟨oc6, od6, .func (PySem.W.fnOf "_is_powered" "_is_powered" (defArgs s__is_powered) (defBody s__is_powered) (defScope s__is_powered) .none kV6 dc6 pm6 an6 cd6 ct6), sl6⟩)
    (e6 : PySem.W.codeIn K cd6 "_is_powered" = true)
    (k6 : PySem.W.keepIn K (.ref f6) = true)
    (a7 : PySem.W.nsIn K mainGlobals "is_monomial" = some (some (.ref f7)))
    (l7 : K.lookup f7 = some ⟨oc7, od7, .func (PySem.W.fnOf "is_monomial" "is_monomial" (defArgs s_is_monomial) (defBody s_is_monomial) (defScope s_is_monomial) .none kV7 dc7 pm7 an7 cd7 ct7), sl7⟩)
    (e7 : PySem.W.codeIn K cd7 "is_monomial" = true)
    (k7 : PySem.W.keepIn K (.ref f7) = true)
    (a8 : PySem.W.nsIn K mainGlobals "_is_term" = some (some (.ref f8)))
    (l8 : K.lookup f8 = some ⟨oc8, od8, .func (PySem.W.fnOf "_is_term" "_is_term" (defArgs s__is_term) (defBody s__is_term) (defScope s__is_term) .none kV8 dc8 pm8 an8 cd8 ct8), sl8⟩)
    (e8 : PySem.W.codeIn K cd8 "_is_term" = true)
    (k8 : PySem.W.keepIn K (.ref f8) = true)
    (a9 : PySem.W.nsIn K mainGlobals "need_polynomial" = some (some (.ref f9)))
    (l9 : K.lookup f9 = some ⟨oc9, od9, .func (PySem.W.fnOf "need_polynomial" "need_polynomial" (defArgs s_need_polynomial) (defBody s_need_polynomial) (defScope s_need_polynomial) .none kV9 dc9 pm9 an9 cd9 ct9), sl9⟩)
    (e9 : PySem.W.codeIn K cd9 "need_polynomial" = true)
    (k9 : PySem.W.keepIn K (.ref f9) = true)
    (a10 : PySem.W.nsIn K mainGlobals "is_polynomial" = some (some (.ref f10)))
    (l10 : K.lookup f10 = some ⟨oc10, od10, .func (PySem.W.fnOf "is_polynomial" "is_polynomial" (defArgs s_is_polynomial) (defBody s_is_polynomial) (defScope s_is_polynomial) .none kV10 dc10 pm10 an10 cd10 ct10), sl10⟩)
    (e10 : PySem.W.codeIn K cd10 "is_polynomial" = true)
    (k10 : PySem.W.keepIn K (.ref f10) = true)
    (a11 : PySem.W.nsIn K mainGlobals "derivatives_in" = some (some (.ref f11)))
    (l11 : K.lookup f11 = some ⟨oc11, od11, .func (PySem.W.fnOf "derivatives_in" "derivatives_in" (defArgs s_derivatives_in) (defBody s_derivatives_in) (defScope s_derivatives_in) .none kV11 dc11 pm11 an11 cd11 ct11), sl11⟩)
    (e11 : PySem.W.codeIn K cd11 "derivatives_in" = true)
    (k11 : PySem.W.keepIn K (.ref f11) = true)
    (a12 : PySem.W.nsIn K mainGlobals "_are_names" = some (some (.ref f12)))
    (l12 : K.lookup f12 = some ⟨oc12, od12, .func (PySem.W.fnOf "_are_names" "_are_names" (defArgs s__are_names) (defBody s__are_names) (defScope s__are_names) .none kV12 dc12 pm12 an12 cd12 ct12), sl12⟩)
    (e12 : PySem.W.codeIn K cd12 "_are_names" = true)
    (k12 : PySem.W.keepIn K (.ref f12) = true)
    (a13 : PySem.W.nsIn K mainGlobals "_are_axes" = some (some (.ref f13)))
    (l13 : K.lookup f13 = some ⟨oc13, od13, .func (PySem.W.fnOf "_are_axes" "_are_axes" (defArgs s__are_axes) (defBody s__are_axes) (defScope s__are_axes) .none kV13 dc13 pm13 an13 cd13 ct13), sl13⟩)
    (e13 : PySem.W.codeIn K cd13 "_are_axes" = true)
    (k13 : PySem.W.keepIn K (.ref f13) = true)
    (a14 : PySem.W.nsIn K mainGlobals "need_ranking" = some (some (.ref f14)))
    (l14 : K.lookup f14 = some ⟨oc14, od14, .func (PySem.W.fnOf "need_ranking" "need_ranking" (defArgs s_need_ranking) (defBody s_need_ranking) (defScope s_need_ranking) .none kV14 dc14 pm14 an14 cd14 ct14), sl14⟩)
    (e14 : PySem.W.codeIn K cd14 "need_ranking" = true)
    (k14 : PySem.W.keepIn K (.ref f14) = true)
    (a15 : PySem.W.nsIn K mainGlobals "_stands_there" = some (some (.ref f15)))
    (l15 : K.lookup f15 = some ⟨oc15, od15, .func (PySem.W.fnOf "_stands_there" "_stands_there" (defArgs s__stands_there) (defBody s__stands_there) (defScope s__stands_there) .none kV15 dc15 pm15 an15 cd15 ct15), sl15⟩)
    (e15 : PySem.W.codeIn K cd15 "_stands_there" = true)
    (k15 : PySem.W.keepIn K (.ref f15) = true)
    (a16 : PySem.W.nsIn K mainGlobals "derivative_fits" = some (some (.ref f16)))
    (l16 : K.lookup f16 = some ⟨oc16, od16, .func (PySem.W.fnOf "derivative_fits" "derivative_fits" (defArgs s_derivative_fits) (defBody s_derivative_fits) (defScope s_derivative_fits) .none kV16 dc16 pm16 an16 cd16 ct16), sl16⟩)
    (e16 : PySem.W.codeIn K cd16 "derivative_fits" = true)
    (k16 : PySem.W.keepIn K (.ref f16) = true)
    (a17 : PySem.W.nsIn K mainGlobals "polynomial_fits" = some (some (.ref f17)))
    (l17 : K.lookup f17 = some ⟨oc17, od17, .func (PySem.W.fnOf "polynomial_fits" "polynomial_fits" (defArgs s_polynomial_fits) (defBody s_polynomial_fits) (defScope s_polynomial_fits) .none kV17 dc17 pm17 an17 cd17 ct17), sl17⟩)
    (e17 : PySem.W.codeIn K cd17 "polynomial_fits" = true)
    (k17 : PySem.W.keepIn K (.ref f17) = true)
    (a18 : PySem.W.nsIn K mainGlobals "need_derivative" = some (some (.ref f18)))
    (l18 : K.lookup f18 = some ⟨oc18, od18, .func (PySem.W.fnOf "need_derivative" "need_derivative" (defArgs s_need_derivative) (defBody s_need_derivative) (defScope s_need_derivative) .none kV18 dc18 pm18 an18 cd18 ct18), sl18⟩)
    (e18 : PySem.W.codeIn K cd18 "need_derivative" = true)
    (k18 : PySem.W.keepIn K (.ref f18) = true)
    (a19 : PySem.W.nsIn K mainGlobals "rank_key" = some (some (.ref f19)))
    (l19 : K.lookup f19 = some ⟨oc19, od19, .func (PySem.W.fnOf "rank_key" "rank_key" (defArgs s_rank_key) (defBody s_rank_key) (defScope s_rank_key) .none kV19 dc19 pm19 an19 cd19 ct19), sl19⟩)
    (e19 : PySem.W.codeIn K cd19 "rank_key" = true)
    (k19 : PySem.W.keepIn K (.ref f19) = true)
    (a20 : PySem.W.nsIn K mainGlobals "rising" = some (some (.ref f20)))
    (l20 : K.lookup f20 = some ⟨oc20, od20, .func (PySem.W.fnOf "rising" "rising" (defArgs s_rising) (defBody s_rising) (defScope s_rising) .none kV20 dc20 pm20 an20 (.ref c1) ct20), sl20⟩)
    (e20 : PySem.W.codeIn K (.ref c1) "rising" = true)
    (k20 : PySem.W.keepIn K (.ref f20) = true)
    (a21 : PySem.W.nsIn K mainGlobals "all_to" = some (some (.ref f21)))
    (l21 : K.lookup f21 = some ⟨oc21, od21, .func (PySem.W.fnOf "all_to" "all_to" (defArgs s_all_to) (defBody s_all_to) (defScope s_all_to) .none kV21 dc21 pm21 an21 cd21 ct21), sl21⟩)
    (e21 : PySem.W.codeIn K cd21 "all_to" = true)
    (k21 : PySem.W.keepIn K (.ref f21) = true)
    (a22 : PySem.W.nsIn K mainGlobals "way_to" = some (some (.ref f22)))
    (l22 : K.lookup f22 = some ⟨oc22, od22, .func (PySem.W.fnOf "way_to" "way_to" (defArgs s_way_to) (defBody s_way_to) (defScope s_way_to) .none kV22 dc22 pm22 an22 cd22 ct22), sl22⟩)
    (e22 : PySem.W.codeIn K cd22 "way_to" = true)
    (k22 : PySem.W.keepIn K (.ref f22) = true)
    (a23 : PySem.W.nsIn K mainGlobals "is_pair" = some (some (.ref f23)))
    (l23 : K.lookup f23 = some ⟨oc23, od23, .func (PySem.W.fnOf "is_pair" "is_pair" (defArgs s_is_pair) (defBody s_is_pair) (defScope s_is_pair) .none kV23 dc23 pm23 an23 cd23 ct23), sl23⟩)
    (e23 : PySem.W.codeIn K cd23 "is_pair" = true)
    (k23 : PySem.W.keepIn K (.ref f23) = true)
    (a24 : PySem.W.nsIn K mainGlobals "_refuse_first" = some (some (.ref f24)))
    (l24 : K.lookup f24 = some ⟨oc24, od24, .func (PySem.W.fnOf "_refuse_first" "_refuse_first" (defArgs s__refuse_first) (defBody s__refuse_first) (defScope s__refuse_first) .none kV24 dc24 pm24 an24 cd24 ct24), sl24⟩)
    (e24 : PySem.W.codeIn K cd24 "_refuse_first" = true)
    (k24 : PySem.W.keepIn K (.ref f24) = true)
    (a25 : PySem.W.nsIn K mainGlobals "_is_derived_of" = some (some (.ref f25)))
    (l25 : K.lookup f25 = some ⟨oc25, od25, .func (PySem.W.fnOf "_is_derived_of" "_is_derived_of" (defArgs s__is_derived_of) (defBody s__is_derived_of) (defScope s__is_derived_of) .none kV25 dc25 pm25 an25 cd25 ct25), sl25⟩)
    (e25 : PySem.W.codeIn K cd25 "_is_derived_of" = true)
    (k25 : PySem.W.keepIn K (.ref f25) = true)
    (a26 : PySem.W.nsIn K mainGlobals "_is_below" = some (some (.ref f26)))
    (l26 : K.lookup f26 = some ⟨oc26, od26, .func (PySem.W.fnOf "_is_below" "_is_below" (defArgs s__is_below) (defBody s__is_below) (defScope s__is_below) .none kV26 dc26 pm26 an26 cd26 ct26), sl26⟩)
    (e26 : PySem.W.codeIn K cd26 "_is_below" = true)
    (k26 : PySem.W.keepIn K (.ref f26) = true)
    (a27 : PySem.W.nsIn K mainGlobals "first_by" = some (some (.ref f27)))
    (l27 : K.lookup f27 = some ⟨oc27, od27, .func (PySem.W.fnOf "first_by" "first_by" (defArgs s_first_by) (defBody s_first_by) (defScope s_first_by) .none kV27 dc27 pm27 an27 cd27 ct27), sl27⟩)
    (e27 : PySem.W.codeIn K cd27 "first_by" = true)
    (k27 : PySem.W.keepIn K (.ref f27) = true)
    (a28 : PySem.W.nsIn K mainGlobals "_is_free_of" = some (some (.ref f28)))
    (l28 : K.lookup f28 = some ⟨oc28, od28, .func (PySem.W.fnOf "_is_free_of" "_is_free_of" (defArgs s__is_free_of) (defBody s__is_free_of) (defScope s__is_free_of) .none kV28 dc28 pm28 an28 cd28 ct28), sl28⟩)
    (e28 : PySem.W.codeIn K cd28 "_is_free_of" = true)
    (k28 : PySem.W.keepIn K (.ref f28) = true)
    (a29 : PySem.W.nsIn K mainGlobals "need_chain" = some (some (.ref f29)))
    (l29 : K.lookup f29 = some ⟨oc29, od29, .func (PySem.W.fnOf "need_chain" "need_chain" (defArgs s_need_chain) (defBody s_need_chain) (defScope s_need_chain) .none kV29 dc29 pm29 an29 cd29 ct29), sl29⟩)
    (e29 : PySem.W.codeIn K cd29 "need_chain" = true)
    (k29 : PySem.W.keepIn K (.ref f29) = true)
    (a30 : PySem.W.nsIn K mainGlobals "_all_ways" = some (some (.ref f30)))
    (l30 : K.lookup f30 = some ⟨oc30, od30, .func (PySem.W.fnOf "_all_ways" "_all_ways" (defArgs s__all_ways) (defBody s__all_ways) (defScope s__all_ways) .none kV30 dc30 pm30 an30 cd30 ct30), sl30⟩)
    (e30 : PySem.W.codeIn K cd30 "_all_ways" = true)
    (k30 : PySem.W.keepIn K (.ref f30) = true)
    (a31 : PySem.W.nsIn K mainGlobals "_columns_of" = some (some (.ref f31)))
    (l31 : K.lookup f31 = some ⟨oc31, od31, .func (PySem.W.fnOf "_columns_of" "_columns_of" (defArgs s__columns_of) (defBody s__columns_of) (defScope s__columns_of) .none kV31 dc31 pm31 an31 cd31 ct31), sl31⟩)
    (e31 : PySem.W.codeIn K cd31 "_columns_of" = true)
    (k31 : PySem.W.keepIn K (.ref f31) = true)
    (a32 : PySem.W.nsIn K mainGlobals "_columns" = some (some (.ref f32)))
    (l32 : K.lookup f32 = some ⟨oc32, od32, .func (PySem.W.fnOf "_columns" "_columns" (defArgs s__columns) (defBody s__columns) (defScope s__columns) .none kV32 dc32 pm32 an32 cd32 ct32), sl32⟩)
    (e32 : PySem.W.codeIn K cd32 "_columns" = true)
    (k32 : PySem.W.keepIn K (.ref f32) = true)
    (a33 : PySem.W.nsIn K mainGlobals "free_cones" = some (some (.ref f33)))
    (l33 : K.lookup f33 = some ⟨oc33, od33, .func (PySem.W.fnOf "free_cones" "free_cones" (defArgs s_free_cones) (defBody s_free_cones) (defScope s_free_cones) .none kV33 dc33 pm33 an33 cd33 ct33), sl33⟩)
    (e33 : PySem.W.codeIn K cd33 "free_cones" = true)
    (k33 : PySem.W.keepIn K (.ref f33) = true)
    (a34 : PySem.W.nsIn K mainGlobals "principal_cones" = some (some (.ref f34)))
    (l34 : K.lookup f34 = some ⟨oc34, od34, .func (PySem.W.fnOf "principal_cones" "principal_cones" (defArgs s_principal_cones) (defBody s_principal_cones) (defScope s_principal_cones) .none kV34 dc34 pm34 an34 cd34 ct34), sl34⟩)
    (e34 : PySem.W.codeIn K cd34 "principal_cones" = true)
    (k34 : PySem.W.keepIn K (.ref f34) = true)
    (a35 : PySem.W.nsIn K mainGlobals "cone_fits" = some (some (.ref f35)))
    (l35 : K.lookup f35 = some ⟨oc35, od35, .func (PySem.W.fnOf "cone_fits" "cone_fits" (defArgs s_cone_fits) (defBody s_cone_fits) (defScope s_cone_fits) .none kV35 dc35 pm35 an35 cd35 ct35), sl35⟩)
    (e35 : PySem.W.codeIn K cd35 "cone_fits" = true)
    (k35 : PySem.W.keepIn K (.ref f35) = true)
    (a36 : PySem.W.nsIn K mainGlobals "is_cone" = some (some (.ref f36)))
    (l36 : K.lookup f36 = some ⟨oc36, od36, .func (PySem.W.fnOf "is_cone" "is_cone" (defArgs s_is_cone) (defBody s_is_cone) (defScope s_is_cone) .none kV36 dc36 pm36 an36 cd36 ct36), sl36⟩)
    (e36 : PySem.W.codeIn K cd36 "is_cone" = true)
    (k36 : PySem.W.keepIn K (.ref f36) = true)
    (a37 : PySem.W.nsIn K mainGlobals "_meet" = some (some (.ref f37)))
    (l37 : K.lookup f37 = some ⟨oc37, od37, .func (PySem.W.fnOf "_meet" "_meet" (defArgs s__meet) (defBody s__meet) (defScope s__meet) .none kV37 dc37 pm37 an37 cd37 ct37), sl37⟩)
    (e37 : PySem.W.codeIn K cd37 "_meet" = true)
    (k37 : PySem.W.keepIn K (.ref f37) = true)
    (a38 : PySem.W.nsIn K mainGlobals "_share_one" = some (some (.ref f38)))
    (l38 : K.lookup f38 = some ⟨oc38, od38, .func (PySem.W.fnOf "_share_one" "_share_one" (defArgs s__share_one) (defBody s__share_one) (defScope s__share_one) .none kV38 dc38 pm38 an38 cd38 ct38), sl38⟩)
    (e38 : PySem.W.codeIn K cd38 "_share_one" = true)
    (k38 : PySem.W.keepIn K (.ref f38) = true)
    (a39 : PySem.W.nsIn K mainGlobals "holds" = some (some (.ref f39)))
    (l39 : K.lookup f39 = some ⟨oc39, od39, .func (PySem.W.fnOf "holds" "holds" (defArgs s_holds) (defBody s_holds) (defScope s_holds) .none kV39 dc39 pm39 an39 cd39 ct39), sl39⟩)
    (e39 : PySem.W.codeIn K cd39 "holds" = true)
    (k39 : PySem.W.keepIn K (.ref f39) = true)
    (a40 : PySem.W.nsIn K mainGlobals "cone_has" = some (some (.ref f40)))
    (l40 : K.lookup f40 = some ⟨oc40, od40, .func (PySem.W.fnOf "cone_has" "cone_has" (defArgs s_cone_has) (defBody s_cone_has) (defScope s_cone_has) .none kV40 dc40 pm40 an40 cd40 ct40), sl40⟩)
    (e40 : PySem.W.codeIn K cd40 "cone_has" = true)
    (k40 : PySem.W.keepIn K (.ref f40) = true)
    (a41 : PySem.W.nsIn K mainGlobals "is_free" = some (some (.ref f41)))
    (l41 : K.lookup f41 = some ⟨oc41, od41, .func (PySem.W.fnOf "is_free" "is_free" (defArgs s_is_free) (defBody s_is_free) (defScope s_is_free) .none kV41 dc41 pm41 an41 cd41 ct41), sl41⟩)
    (e41 : PySem.W.codeIn K cd41 "is_free" = true)
    (k41 : PySem.W.keepIn K (.ref f41) = true)
    (a42 : PySem.W.nsIn K mainGlobals "free_to" = some (some (.ref f42)))
    (l42 : K.lookup f42 = some ⟨oc42, od42, .func (PySem.W.fnOf "free_to" "free_to" (defArgs s_free_to) (defBody s_free_to) (defScope s_free_to) .none kV42 dc42 pm42 an42 cd42 ct42), sl42⟩)
    (e42 : PySem.W.codeIn K cd42 "free_to" = true)
    (k42 : PySem.W.keepIn K (.ref f42) = true)
    (a43 : PySem.W.nsIn K mainGlobals "principal_to" = some (some (.ref f43)))
    (l43 : K.lookup f43 = some ⟨oc43, od43, .func (PySem.W.fnOf "principal_to" "principal_to" (defArgs s_principal_to) (defBody s_principal_to) (defScope s_principal_to) .none kV43 dc43 pm43 an43 cd43 ct43), sl43⟩)
    (e43 : PySem.W.codeIn K cd43 "principal_to" = true)
    (k43 : PySem.W.keepIn K (.ref f43) = true)
    (a44 : PySem.W.nsIn K mainGlobals "_law_mixed" = some (some (.ref f44)))
    (l44 : K.lookup f44 = some ⟨oc44, od44, .func (PySem.W.fnOf "_law_mixed" "_law_mixed" (defArgs s_Lmixed) (defBody s_Lmixed) (defScope s_Lmixed) .none kV44 dc44 pm44 an44 cd44 ct44), sl44⟩)
    (e44 : PySem.W.codeIn K cd44 "_law_mixed" = true)
    (k44 : PySem.W.keepIn K (.ref f44) = true)
    (a45 : PySem.W.nsIn K mainGlobals "_law_draw" = some (some (.ref f45)))
    (l45 : K.lookup f45 = some ⟨oc45, od45, .func (PySem.W.fnOf "_law_draw" "_law_draw" (defArgs s_Ldraw) (defBody s_Ldraw) (defScope s_Ldraw) .none kV45 dc45 pm45 an45 cd45 ct45), sl45⟩)
    (e45 : PySem.W.codeIn K cd45 "_law_draw" = true)
    (k45 : PySem.W.keepIn K (.ref f45) = true)
    (a46 : PySem.W.nsIn K mainGlobals "_law_digit" = some (some (.ref f46)))
    (l46 : K.lookup f46 = some ⟨oc46, od46, .func (PySem.W.fnOf "_law_digit" "_law_digit" (defArgs s_Ldigit) (defBody s_Ldigit) (defScope s_Ldigit) .none kV46 dc46 pm46 an46 cd46 ct46), sl46⟩)
    (e46 : PySem.W.codeIn K cd46 "_law_digit" = true)
    (k46 : PySem.W.keepIn K (.ref f46) = true)
    (a47 : PySem.W.nsIn K mainGlobals "_law_ranking" = some (some (.ref f47)))
    (l47 : K.lookup f47 = some ⟨oc47, od47, .func (PySem.W.fnOf "_law_ranking" "_law_ranking" (defArgs s_Lranking) (defBody s_Lranking) (defScope s_Lranking) .none kV47 dc47 pm47 an47 cd47 ct47), sl47⟩)
    (e47 : PySem.W.codeIn K cd47 "_law_ranking" = true)
    (k47 : PySem.W.keepIn K (.ref f47) = true)
    (a48 : PySem.W.nsIn K mainGlobals "_law_key" = some (some (.ref f48)))
    (l48 : K.lookup f48 = some ⟨oc48, od48, .func (PySem.W.fnOf "_law_key" "_law_key" (defArgs s_Lkey) (defBody s_Lkey) (defScope s_Lkey) .none kV48 dc48 pm48 an48 cd48 ct48), sl48⟩)
    (e48 : PySem.W.codeIn K cd48 "_law_key" = true)
    (k48 : PySem.W.keepIn K (.ref f48) = true)
    (a49 : PySem.W.nsIn K mainGlobals "_law_all" = some (some (.ref f49)))
    (l49 : K.lookup f49 = some ⟨oc49, od49, .func (PySem.W.fnOf "_law_all" "_law_all" (defArgs s_Lall) (defBody s_Lall) (defScope s_Lall) .none kV49 dc49 pm49 an49 (.ref c2) ct49), sl49⟩)
    (e49 : PySem.W.codeIn K (.ref c2) "_law_all" = true)
    (k49 : PySem.W.keepIn K (.ref f49) = true)
    (a50 : PySem.W.nsIn K mainGlobals "_law_is_principal" = some (some (.ref f50)))
    (l50 : K.lookup f50 = some ⟨oc50, od50, .func (PySem.W.fnOf "_law_is_principal" "_law_is_principal" (defArgs s_Lis_principal) (defBody s_Lis_principal) (defScope s_Lis_principal) .none kV50 dc50 pm50 an50 cd50 ct50), sl50⟩)
    (e50 : PySem.W.codeIn K cd50 "_law_is_principal" = true)
    (k50 : PySem.W.keepIn K (.ref f50) = true)
    (a51 : PySem.W.nsIn K mainGlobals "_law_leaders" = some (some (.ref f51)))
    (l51 : K.lookup f51 = some ⟨oc51, od51, .func (PySem.W.fnOf "_law_leaders" "_law_leaders" (defArgs s_Lleaders) (defBody s_Lleaders) (defScope s_Lleaders) .none kV51 dc51 pm51 an51 (.ref c3) ct51), sl51⟩)
    (e51 : PySem.W.codeIn K (.ref c3) "_law_leaders" = true)
    (k51 : PySem.W.keepIn K (.ref f51) = true)
    (a52 : PySem.W.nsIn K mainGlobals "_law_chain" = some (some (.ref f52)))
    (l52 : K.lookup f52 = some ⟨oc52, od52, .func (PySem.W.fnOf "_law_chain" "_law_chain" (defArgs s_Lchain) (defBody s_Lchain) (defScope s_Lchain) .none kV52 dc52 pm52 an52 cd52 ct52), sl52⟩)
    (e52 : PySem.W.codeIn K cd52 "_law_chain" = true)
    (k52 : PySem.W.keepIn K (.ref f52) = true)
    (a53 : PySem.W.nsIn K mainGlobals "_law_top" = some (some (.ref f53)))
    (l53 : K.lookup f53 = some ⟨oc53, od53, .func (PySem.W.fnOf "_law_top" "_law_top" (defArgs s_Ltop) (defBody s_Ltop) (defScope s_Ltop) .none kV53 dc53 pm53 an53 cd53 ct53), sl53⟩)
    (e53 : PySem.W.codeIn K cd53 "_law_top" = true)
    (k53 : PySem.W.keepIn K (.ref f53) = true)
    (a54 : PySem.W.nsIn K mainGlobals "_law_columns" = some (some (.ref f54)))
    (l54 : K.lookup f54 = some ⟨oc54, od54, .func (PySem.W.fnOf "_law_columns" "_law_columns" (defArgs s_Lcolumns) (defBody s_Lcolumns) (defScope s_Lcolumns) .none kV54 dc54 pm54 an54 cd54 ct54), sl54⟩)
    (e54 : PySem.W.codeIn K cd54 "_law_columns" = true)
    (k54 : PySem.W.keepIn K (.ref f54) = true)
    (a55 : PySem.W.nsIn K mainGlobals "_law_cones" = some (some (.ref f55)))
    (l55 : K.lookup f55 = some ⟨oc55, od55, .func (PySem.W.fnOf "_law_cones" "_law_cones" (defArgs s_Lcones) (defBody s_Lcones) (defScope s_Lcones) .none kV55 dc55 pm55 an55 cd55 ct55), sl55⟩)
    (e55 : PySem.W.codeIn K cd55 "_law_cones" = true)
    (k55 : PySem.W.keepIn K (.ref f55) = true)
    (a56 : PySem.W.nsIn K mainGlobals "_law_parts_right" = some (some (.ref f56)))
    (l56 : K.lookup f56 = some ⟨oc56, od56, .func (PySem.W.fnOf "_law_parts_right" "_law_parts_right" (defArgs s_Lparts_right) (defBody s_Lparts_right) (defScope s_Lparts_right) .none kV56 dc56 pm56 an56 cd56 ct56), sl56⟩)
    (e56 : PySem.W.codeIn K cd56 "_law_parts_right" = true)
    (k56 : PySem.W.keepIn K (.ref f56) = true)
    (a57 : PySem.W.nsIn K mainGlobals "law" = some (some (.ref f57)))
    (l57 : K.lookup f57 = some ⟨oc57, od57, .func (PySem.W.fnOf "law" "law" (defArgs s_law) (defBody s_law) (defScope s_law) .none kV57 dc57 pm57 an57 cd57 ct57), sl57⟩)
    (e57 : PySem.W.codeIn K cd57 "law" = true)
    (k57 : PySem.W.keepIn K (.ref f57) = true)
    (n_all : PySem.W.nsIn K mainGlobals "all" = some none)
    (n_any : PySem.W.nsIn K mainGlobals "any" = some none)
    (n_bool : PySem.W.nsIn K mainGlobals "bool" = some none)
    (n_enumerate : PySem.W.nsIn K mainGlobals "enumerate" = some none)
    (n_int : PySem.W.nsIn K mainGlobals "int" = some none)
    (n_isinstance : PySem.W.nsIn K mainGlobals "isinstance" = some none)
    (n_len : PySem.W.nsIn K mainGlobals "len" = some none)
    (n_list : PySem.W.nsIn K mainGlobals "list" = some none)
    (n_max : PySem.W.nsIn K mainGlobals "max" = some none)
    (n_min : PySem.W.nsIn K mainGlobals "min" = some none)
    (n_range : PySem.W.nsIn K mainGlobals "range" = some none)
    (n_repr : PySem.W.nsIn K mainGlobals "repr" = some none)
    (n_set : PySem.W.nsIn K mainGlobals "set" = some none)
    (n_sorted : PySem.W.nsIn K mainGlobals "sorted" = some none)
    (n_str : PySem.W.nsIn K mainGlobals "str" = some none)
    (n_sum : PySem.W.nsIn K mainGlobals "sum" = some none)
    (n_tuple : PySem.W.nsIn K mainGlobals "tuple" = some none)
    (gML : PySem.W.nsIn K mainGlobals "MOST_LETTERS" = some (some (.int 8 tk1)))
    (gLE : PySem.W.nsIn K mainGlobals "LETTERS" = some (some (.str "abcdefghijklmnopqrstuvwxyz" tk2)))
    (gMN : PySem.W.nsIn K mainGlobals "MOST_NAMES" = some (some (.int 3 tk3)))
    (gMO : PySem.W.nsIn K mainGlobals "MOST_ORDER" = some (some (.int 12 tk4)))
    (gGC : PySem.W.nsIn K mainGlobals "gcd" = some (some (.builtin "math.gcd")))
    (gBP : PySem.W.nsIn K mainGlobals "BadPolynomial" = some (some (.ref aBP)))
    (gAX : PySem.W.nsIn K mainGlobals "AXES" = some (some (.ref aA)))
    (vAX : K.lookup aA = some ⟨.type "tuple", dA0, .seq #[.str "x" tk5, .str "y" tk6] nA0, sA0⟩)
    (gSO : PySem.W.nsIn K mainGlobals "SORTS" = some (some (.ref aS)))
    (vSO : K.lookup aS = some ⟨.type "tuple", dA1, .seq #[.str "total" tk7, .str "names" tk8] nA1, sA1⟩)
    (gAL : PySem.W.nsIn K mainGlobals "AXES_ALL" = some (some (.ref aL)))
    (vAL : K.lookup aL = some ⟨.type "tuple", dA2, .seq #[.ref q1, .ref q2, .ref q3] nA2, sA2⟩)
    (vb1 : K.lookup q1 = some ⟨.type "tuple", dA3, .seq #[.str "x" tk9] nA3, sA3⟩)
    (vb2 : K.lookup q2 = some ⟨.type "tuple", dA4, .seq #[.str "x" tk10, .str "y" tk11] nA4, sA4⟩)
    (vb3 : K.lookup q3 = some ⟨.type "tuple", dA5, .seq #[.str "y" tk12, .str "x" tk13] nA5, sA5⟩)
    (gWA : PySem.W.nsIn K mainGlobals "WAYS_ALL" = some (some (.ref aW)))
    (vWA : K.lookup aW = some ⟨.type "tuple", dA6, .seq #[.ref q4, .ref q5, .ref q6, .ref q7] nA6, sA6⟩)
    (vc4 : K.lookup q4 = some ⟨.type "tuple", dA7, .seq #[] nA7, sA7⟩)
    (vc5 : K.lookup q5 = some ⟨.type "tuple", dA8, .seq #[.str "x" tk14] nA8, sA8⟩)
    (vc6 : K.lookup q6 = some ⟨.type "tuple", dA9, .seq #[.str "y" tk15] nA9, sA9⟩)
    (vc7 : K.lookup q7 = some ⟨.type "tuple", dA10, .seq #[.str "x" tk16, .str "y" tk17] nA10, sA10⟩)
    (hcd1 : PySem.W.codeHdIn K c1 tb1 = true)
    (htn1 : K.lookup tb1 = none)
    (hcd2 : PySem.W.codeHdIn K c2 tb2 = true)
    (htn2 : K.lookup tb2 = none)
    (hcd3 : PySem.W.codeHdIn K c3 tb3 = true)
    (htn3 : K.lookup tb3 = none)
    (h12 : decide (tb1 ≠ tb2) = true)
    (h13 : decide (tb1 ≠ tb3) = true)
    (h23 : decide (tb2 ≠ tb3) = true)
    : Gd.LawAtG l w K 14 63 "_law_script" mg fa h := by
  have e := hfa.symm.trans (PySem.W.mg_of X G a57)
  cases e
  have F0 := fun_mk (st := s_is_whole) l0 e0 k0
  have b0 := F0.binds (ps := ["thing"]) fun _ _ _ _ _ _ us hl => match us, hl with | [_], _ => rfl
  have F1 := fun_mk (st := s_is_among) l1 e1 k1
  have b1 := F1.binds (ps := ["thing", "least", "most"]) fun _ _ _ _ _ _ us hl => match us, hl with | [_, _, _], _ => rfl
  have F2 := fun_mk (st := s_is_name) l2 e2 k2
  have b2 := F2.binds (ps := ["thing"]) fun _ _ _ _ _ _ us hl => match us, hl with | [_], _ => rfl
  have F3 := fun_mk (st := s_is_axis) l3 e3 k3
  have b3 := F3.binds (ps := ["thing"]) fun _ _ _ _ _ _ us hl => match us, hl with | [_], _ => rfl
  have F4 := fun_mk (st := s_is_fraction) l4 e4 k4
  have b4 := F4.binds (ps := ["thing"]) fun _ _ _ _ _ _ us hl => match us, hl with | [_], _ => rfl
  have F5 := fun_mk (st := s_is_derivative) l5 e5 k5
  have b5 := F5.binds (ps := ["thing"]) fun _ _ _ _ _ _ us hl => match us, hl with | [_], _ => rfl
  have F6 := fun_mk (st := s__is_powered) l6 e6 k6
  have b6 := F6.binds (ps := ["thing"]) fun _ _ _ _ _ _ us hl => match us, hl with | [_], _ => rfl
  have F7 := fun_mk (st := s_is_monomial) l7 e7 k7
  have b7 := F7.binds (ps := ["thing"]) fun _ _ _ _ _ _ us hl => match us, hl with | [_], _ => rfl
  have F8 := fun_mk (st := s__is_term) l8 e8 k8
  have b8 := F8.binds (ps := ["thing"]) fun _ _ _ _ _ _ us hl => match us, hl with | [_], _ => rfl
  have F9 := fun_mk (st := s_need_polynomial) l9 e9 k9
  have b9 := F9.binds (ps := ["thing"]) fun _ _ _ _ _ _ us hl => match us, hl with | [_], _ => rfl
  have F10 := fun_mk (st := s_is_polynomial) l10 e10 k10
  have b10 := F10.binds (ps := ["thing"]) fun _ _ _ _ _ _ us hl => match us, hl with | [_], _ => rfl
  have F11 := fun_mk (st := s_derivatives_in) l11 e11 k11
  have b11 := F11.binds (ps := ["one"]) fun _ _ _ _ _ _ us hl => match us, hl with | [_], _ => rfl
  have F12 := fun_mk (st := s__are_names) l12 e12 k12
  have b12 := F12.binds (ps := ["thing"]) fun _ _ _ _ _ _ us hl => match us, hl with | [_], _ => rfl
  have F13 := fun_mk (st := s__are_axes) l13 e13 k13
  have b13 := F13.binds (ps := ["thing"]) fun _ _ _ _ _ _ us hl => match us, hl with | [_], _ => rfl
  have F14 := fun_mk (st := s_need_ranking) l14 e14 k14
  have b14 := F14.binds (ps := ["ranking"]) fun _ _ _ _ _ _ us hl => match us, hl with | [_], _ => rfl
  have F15 := fun_mk (st := s__stands_there) l15 e15 k15
  have b15 := F15.binds (ps := ["ranking", "derivative"]) fun _ _ _ _ _ _ us hl => match us, hl with | [_, _], _ => rfl
  have F16 := fun_mk (st := s_derivative_fits) l16 e16 k16
  have b16 := F16.binds (ps := ["ranking", "thing"]) fun _ _ _ _ _ _ us hl => match us, hl with | [_, _], _ => rfl
  have F17 := fun_mk (st := s_polynomial_fits) l17 e17 k17
  have b17 := F17.binds (ps := ["ranking", "thing"]) fun _ _ _ _ _ _ us hl => match us, hl with | [_, _], _ => rfl
  have F18 := fun_mk (st := s_need_derivative) l18 e18 k18
  have b18 := F18.binds (ps := ["ranking", "thing"]) fun _ _ _ _ _ _ us hl => match us, hl with | [_, _], _ => rfl
  have F19 := fun_mk (st := s_rank_key) l19 e19 k19
  have b19 := F19.binds (ps := ["ranking", "derivative"]) fun _ _ _ _ _ _ us hl => match us, hl with | [_, _], _ => rfl
  have F20 : Nd.FunC K "rising" "rising" s_rising c1 f20 _ := ⟨⟨oc20, od20, kV20, dc20, pm20, an20, ct20, sl20, rfl, l20, e20⟩⟩
  have b20 := (fun_mk (st := s_rising) l20 e20 k20).binds (ps := ["ranking", "derivatives"]) fun _ _ _ _ _ _ us hl => match us, hl with | [_, _], _ => rfl
  have F21 := fun_mk (st := s_all_to) l21 e21 k21
  have b21 := F21.binds (ps := ["ranking", "order"]) fun _ _ _ _ _ _ us hl => match us, hl with | [_, _], _ => rfl
  have F22 := fun_mk (st := s_way_to) l22 e22 k22
  have b22 := F22.binds (ps := ["one", "other"]) fun _ _ _ _ _ _ us hl => match us, hl with | [_, _], _ => rfl
  have F23 := fun_mk (st := s_is_pair) l23 e23 k23
  have b23 := F23.binds (ps := ["ranking", "thing"]) fun _ _ _ _ _ _ us hl => match us, hl with | [_, _], _ => rfl
  have F24 := fun_mk (st := s__refuse_first) l24 e24 k24
  have b24 := F24.binds (ps := ["word", "fits"]) fun _ _ _ _ _ _ us hl => match us, hl with | [_, _], _ => rfl
  have F25 := fun_mk (st := s__is_derived_of) l25 e25 k25
  have b25 := F25.binds (ps := ["leader", "others"]) fun _ _ _ _ _ _ us hl => match us, hl with | [_, _], _ => rfl
  have F26 := fun_mk (st := s__is_below) l26 e26 k26
  have b26 := F26.binds (ps := ["ranking", "polynomial", "key"]) fun _ _ _ _ _ _ us hl => match us, hl with | [_, _, _], _ => rfl
  have F27 := fun_mk (st := s_first_by) l27 e27 k27
  have b27 := F27.binds (ps := ["chain", "derivative"]) fun _ _ _ _ _ _ us hl => match us, hl with | [_, _], _ => rfl
  have F28 := fun_mk (st := s__is_free_of) l28 e28 k28
  have b28 := F28.binds (ps := ["chain", "polynomial"]) fun _ _ _ _ _ _ us hl => match us, hl with | [_, _], _ => rfl
  have F29 := fun_mk (st := s_need_chain) l29 e29 k29
  have b29 := F29.binds (ps := ["ranking", "chain"]) fun _ _ _ _ _ _ us hl => match us, hl with | [_, _], _ => rfl
  have F30 := fun_mk (st := s__all_ways) l30 e30 k30
  have b30 := F30.binds (ps := ["axes"]) fun _ _ _ _ _ _ us hl => match us, hl with | [_], _ => rfl
  have F31 := fun_mk (st := s__columns_of) l31 e31 k31
  have b31 := F31.binds (ps := ["name", "places"]) fun _ _ _ _ _ _ us hl => match us, hl with | [_, _], _ => rfl
  have F32 := fun_mk (st := s__columns) l32 e32 k32
  have b32 := F32.binds (ps := ["ranking", "chain"]) fun _ _ _ _ _ _ us hl => match us, hl with | [_, _], _ => rfl
  have F33 := fun_mk (st := s_free_cones) l33 e33 k33
  have b33 := F33.binds (ps := ["ranking", "chain"]) fun _ _ _ _ _ _ us hl => match us, hl with | [_, _], _ => rfl
  have F34 := fun_mk (st := s_principal_cones) l34 e34 k34
  have b34 := F34.binds (ps := ["ranking", "chain"]) fun _ _ _ _ _ _ us hl => match us, hl with | [_, _], _ => rfl
  have F35 := fun_mk (st := s_cone_fits) l35 e35 k35
  have b35 := F35.binds (ps := ["ranking", "thing"]) fun _ _ _ _ _ _ us hl => match us, hl with | [_, _], _ => rfl
  have F36 := fun_mk (st := s_is_cone) l36 e36 k36
  have b36 := F36.binds (ps := ["ranking", "thing"]) fun _ _ _ _ _ _ us hl => match us, hl with | [_, _], _ => rfl
  have F37 := fun_mk (st := s__meet) l37 e37 k37
  have b37 := F37.binds (ps := ["one", "other", "place", "axis"]) fun _ _ _ _ _ _ us hl => match us, hl with | [_, _, _, _], _ => rfl
  have F38 := fun_mk (st := s__share_one) l38 e38 k38
  have b38 := F38.binds (ps := ["one", "other"]) fun _ _ _ _ _ _ us hl => match us, hl with | [_, _], _ => rfl
  have F39 := fun_mk (st := s_holds) l39 e39 k39
  have b39 := F39.binds (ps := ["cone", "derivative"]) fun _ _ _ _ _ _ us hl => match us, hl with | [_, _], _ => rfl
  have F40 := fun_mk (st := s_cone_has) l40 e40 k40
  have b40 := F40.binds (ps := ["ranking", "cone", "derivative"]) fun _ _ _ _ _ _ us hl => match us, hl with | [_, _, _], _ => rfl
  have F41 := fun_mk (st := s_is_free) l41 e41 k41
  have b41 := F41.binds (ps := ["ranking", "chain", "derivative"]) fun _ _ _ _ _ _ us hl => match us, hl with | [_, _, _], _ => rfl
  have F42 := fun_mk (st := s_free_to) l42 e42 k42
  have b42 := F42.binds (ps := ["ranking", "chain", "order"]) fun _ _ _ _ _ _ us hl => match us, hl with | [_, _, _], _ => rfl
  have F43 := fun_mk (st := s_principal_to) l43 e43 k43
  have b43 := F43.binds (ps := ["ranking", "chain", "order"]) fun _ _ _ _ _ _ us hl => match us, hl with | [_, _, _], _ => rfl
  have F44 := fun_mk (st := s_Lmixed) l44 e44 k44
  have b44 := F44.binds (ps := ["_law_cell", "_law_k"]) fun _ _ _ _ _ _ us hl => match us, hl with | [_, _], _ => rfl
  have F45 := fun_mk (st := s_Ldraw) l45 e45 k45
  have b45 := F45.binds (ps := ["_law_cell", "_law_k"]) fun _ _ _ _ _ _ us hl => match us, hl with | [_, _], _ => rfl
  have F46 := fun_mk (st := s_Ldigit) l46 e46 k46
  have b46 := F46.binds (ps := ["_law_state", "_law_many"]) fun _ _ _ _ _ _ us hl => match us, hl with | [_, _], _ => rfl
  have F47 := fun_mk (st := s_Lranking) l47 e47 k47
  have b47 := F47.binds (ps := ["_law_state"]) fun _ _ _ _ _ _ us hl => match us, hl with | [_], _ => rfl
  have F48 := fun_mk (st := s_Lkey) l48 e48 k48
  have b48 := F48.binds (ps := ["_law_ranking_here", "_law_derivative"]) fun _ _ _ _ _ _ us hl => match us, hl with | [_, _], _ => rfl
  have F49 : Nd.FunC K "_law_all" "_law_all" s_Lall c2 f49 _ := ⟨⟨oc49, od49, kV49, dc49, pm49, an49, ct49, sl49, rfl, l49, e49⟩⟩
  have b49 := (fun_mk (st := s_Lall) l49 e49 k49).binds (ps := ["_law_ranking_here", "_law_high"]) fun _ _ _ _ _ _ us hl => match us, hl with | [_, _], _ => rfl
  have F50 := fun_mk (st := s_Lis_principal) l50 e50 k50
  have b50 := F50.binds (ps := ["_law_leaders_here", "_law_derivative"]) fun _ _ _ _ _ _ us hl => match us, hl with | [_, _], _ => rfl
  have F51 : Nd.FunC K "_law_leaders" "_law_leaders" s_Lleaders c3 f51 _ := ⟨⟨oc51, od51, kV51, dc51, pm51, an51, ct51, sl51, rfl, l51, e51⟩⟩
  have b51 := (fun_mk (st := s_Lleaders) l51 e51 k51).binds (ps := ["_law_state", "_law_ranking_here", "_law_high"]) fun _ _ _ _ _ _ us hl => match us, hl with | [_, _, _], _ => rfl
  have F52 := fun_mk (st := s_Lchain) l52 e52 k52
  have b52 := F52.binds (ps := ["_law_state", "_law_ranking_here", "_law_high"]) fun _ _ _ _ _ _ us hl => match us, hl with | [_, _, _], _ => rfl
  have F53 := fun_mk (st := s_Ltop) l53 e53 k53
  have b53 := F53.binds (ps := ["_law_leaders_here", "_law_column"]) fun _ _ _ _ _ _ us hl => match us, hl with | [_, _], _ => rfl
  have F54 := fun_mk (st := s_Lcolumns) l54 e54 k54
  have b54 := F54.binds (ps := ["_law_name", "_law_leaders_here"]) fun _ _ _ _ _ _ us hl => match us, hl with | [_, _], _ => rfl
  have F55 := fun_mk (st := s_Lcones) l55 e55 k55
  have b55 := F55.binds (ps := ["_law_ranking_here", "_law_chain_here"]) fun _ _ _ _ _ _ us hl => match us, hl with | [_, _], _ => rfl
  have F56 := fun_mk (st := s_Lparts_right) l56 e56 k56
  have b56 := F56.binds (ps := ["_law_ranking_here", "_law_chain_here", "_law_told"]) fun _ _ _ _ _ _ us hl => match us, hl with | [_, _, _], _ => rfl
  have F57 := fun_mk (st := s_law) l57 e57 k57
  have m_all := PySem.W.mg_none_of X G n_all
  have m_any := PySem.W.mg_none_of X G n_any
  have m_bool := PySem.W.mg_none_of X G n_bool
  have m_enumerate := PySem.W.mg_none_of X G n_enumerate
  have m_int := PySem.W.mg_none_of X G n_int
  have m_isinstance := PySem.W.mg_none_of X G n_isinstance
  have m_len := PySem.W.mg_none_of X G n_len
  have m_list := PySem.W.mg_none_of X G n_list
  have m_max := PySem.W.mg_none_of X G n_max
  have m_min := PySem.W.mg_none_of X G n_min
  have m_range := PySem.W.mg_none_of X G n_range
  have m_repr := PySem.W.mg_none_of X G n_repr
  have m_set := PySem.W.mg_none_of X G n_set
  have m_sorted := PySem.W.mg_none_of X G n_sorted
  have m_str := PySem.W.mg_none_of X G n_str
  have m_sum := PySem.W.mg_none_of X G n_sum
  have m_tuple := PySem.W.mg_none_of X G n_tuple
  have vA := dp_strK (xs := ["x", "y"]) vAX (.cons ⟨_, rfl⟩ (.cons ⟨_, rfl⟩ .nil))
  have vS := dp_strK (xs := ["total", "names"]) vSO (.cons ⟨_, rfl⟩ (.cons ⟨_, rfl⟩ .nil))
  have v1 := dp_strK (xs := ["x"]) vb1 (.cons ⟨_, rfl⟩ .nil)
  have v2 := dp_strK (xs := ["x", "y"]) vb2 (.cons ⟨_, rfl⟩ (.cons ⟨_, rfl⟩ .nil))
  have v3 := dp_strK (xs := ["y", "x"]) vb3 (.cons ⟨_, rfl⟩ (.cons ⟨_, rfl⟩ .nil))
  have vL : ∀ H, Dp K H (.ref aL) (.tuple [PyData.tuple [.str "x"], .tuple [.str "x", .str "y"], .tuple [.str "y", .str "x"]]) := fun H =>
    .tup (xs := [V.ref q1, V.ref q2, V.ref q3]) (.inr ⟨_, _, nA2, vAL, rfl, rfl, (show 3 ≤ sizeLine by decide), .cons rfl (.cons rfl (.cons rfl .nil))⟩) (.cons (v1 H) (.cons (v2 H) (.cons (v3 H) .nil)))
  have v4 := dp_strK (xs := []) vc4 .nil
  have v5 := dp_strK (xs := ["x"]) vc5 (.cons ⟨_, rfl⟩ .nil)
  have v6 := dp_strK (xs := ["y"]) vc6 (.cons ⟨_, rfl⟩ .nil)
  have v7 := dp_strK (xs := ["x", "y"]) vc7 (.cons ⟨_, rfl⟩ (.cons ⟨_, rfl⟩ .nil))
  have vW : ∀ H, Dp K H (.ref aW) (.tuple waysD) := fun H =>
    .tup (xs := [V.ref q4, V.ref q5, V.ref q6, V.ref q7]) (.inr ⟨_, _, nA6, vWA, rfl, rfl, (show 4 ≤ sizeLine by decide), .cons rfl (.cons rfl (.cons rfl (.cons rfl .nil)))⟩) (.cons (v4 H) (.cons (v5 H) (.cons (v6 H) (.cons (v7 H) .nil))))
  have d12 : tb1 ≠ tb2 := of_decide_eq_true h12
  have d13 : tb1 ≠ tb3 := of_decide_eq_true h13
  have d23 : tb2 ≠ tb3 := of_decide_eq_true h23

  let TT : List (Addr × Str) := [(tb1, "rising.<locals>.<lambda>"), (tb2, "_law_all.<locals>.<lambda>"), (tb3, "_law_leaders.<locals>.<lambda>")]
  have O1 : Nd.TO TT tb1 "rising.<locals>.<lambda>" := ⟨List.mem_cons_self, fun p hp e => by
    rcases List.mem_cons.mp hp with rfl | hp
    · rfl
    · rcases List.mem_cons.mp hp with rfl | hp
      · exact absurd e.symm d12
      · rw [List.mem_singleton.mp hp] at e
        exact absurd e.symm d13⟩
  have O2 : Nd.TO TT tb2 "_law_all.<locals>.<lambda>" := ⟨List.mem_cons_of_mem _ List.mem_cons_self, fun p hp e => by
    rcases List.mem_cons.mp hp with rfl | hp
    · exact absurd e d12
    · rcases List.mem_cons.mp hp with rfl | hp
      · rfl
      · rw [List.mem_singleton.mp hp] at e
        exact absurd e.symm d23⟩
  have O3 : Nd.TO TT tb3 "_law_leaders.<locals>.<lambda>" := ⟨List.mem_cons_of_mem _ (List.mem_cons_of_mem _ List.mem_cons_self), fun p hp e => by
    rcases List.mem_cons.mp hp with rfl | hp
    · exact absurd e d13
    · rcases List.mem_cons.mp hp with rfl | hp
      · exact absurd e d23
      · rw [List.mem_singleton.mp hp]⟩
  refine ⟨PySem.W.fnOf "law" "law" (defArgs s_law) (defBody s_law) (defScope s_law) .none kV57 dc57 pm57 an57 cd57 ct57, [(c1, tb1), (c2, tb2), (c3, tb3)], spLaw K TT, fun p hp => ?_, fun p hp => ?_, fun p hp => ?_, fun s v => .of_eq rfl, fun H a ns hl _ hT hS => ⟨a, ns, rfl, hS, hl, fun p hp => ?_, fun _ => rfl⟩, fun base hKb hNb hTB => ?_⟩
  · rcases List.mem_cons.mp hp with rfl | hp
    · exact hT1
    · rcases List.mem_cons.mp hp with rfl | hp
      · exact hT2
      · rw [List.mem_singleton.mp hp]; exact hT3
  · rcases List.mem_cons.mp hp with rfl | hp
    · exact htn1
    · rcases List.mem_cons.mp hp with rfl | hp
      · exact htn2
      · rw [List.mem_singleton.mp hp]; exact htn3
  · rcases List.mem_cons.mp hp with rfl | hp
    · exact PySem.W.codeHd_of_K X hcd1
    · rcases List.mem_cons.mp hp with rfl | hp
      · exact PySem.W.codeHd_of_K X hcd2
      · rw [List.mem_singleton.mp hp]; exact PySem.W.codeHd_of_K X hcd3
  · rcases List.mem_cons.mp hp with rfl | hp
    · exact TabS.nil (hT (c1, tb1) List.mem_cons_self)
    · rcases List.mem_cons.mp hp with rfl | hp
      · exact TabS.nil (hT (c2, tb2) (List.mem_cons_of_mem _ List.mem_cons_self))
      · rw [List.mem_singleton.mp hp]; exact TabS.nil (hT (c3, tb3) (List.mem_cons_of_mem _ (List.mem_cons_of_mem _ List.mem_cons_self)))
  have TB1 := hTB (c1, tb1) List.mem_cons_self
  have TB2 := hTB (c2, tb2) (List.mem_cons_of_mem _ List.mem_cons_self)
  have TB3 := hTB (c3, tb3) (List.mem_cons_of_mem _ (List.mem_cons_of_mem _ List.mem_cons_self))
  have C0 : Cal l.prog w K mg base "is_whole" 2 ["thing"] (spP Rwhole) f0 _ := ⟨ok_is_whole F0 m_isinstance m_int m_bool, PySem.W.mg_of X G a0, k0, b0⟩
  have C1 : Cal l.prog w K mg base "is_among" 3 ["thing", "least", "most"] (spP Ramong) f1 _ := ⟨ok_is_among F1 C0, PySem.W.mg_of X G a1, k1, b1⟩
  have C2 : Cal l.prog w K mg base "is_name" 2 ["thing"] (spP Rname) f2 _ := ⟨ok_is_name F2 m_isinstance m_str m_len m_all (PySem.W.mg_of X G gML) (PySem.W.mg_of X G gLE), PySem.W.mg_of X G a2, k2, b2⟩
  have C3 : Cal l.prog w K mg base "is_axis" 1 ["thing"] (spP Raxis) f3 _ := ⟨ok_is_axis F3 m_isinstance m_str (PySem.W.mg_of X G gAX) vA, PySem.W.mg_of X G a3, k3, b3⟩
  have C4 : Cal l.prog w K mg base "is_fraction" 3 ["thing"] (spP (Rfr K)) f4 _ := ⟨ok_is_fraction F4 C0 m_isinstance m_tuple m_len (PySem.W.mg_of X G gGC), PySem.W.mg_of X G a4, k4, b4⟩
  have C5 : Cal l.prog w K mg base "is_derivative" 3 ["thing"] (spP (Rdv (IsV (.bl true)))) f5 _ := ⟨ok_is_derivative F5 C2 C0 m_isinstance m_tuple m_len, PySem.W.mg_of X G a5, k5, b5⟩
  have C6 : Cal l.prog w K mg base "_is_powered" 4 ["thing"] (spP (Rpw K)) f6 _ := ⟨ok__is_powered F6 C5 C0 m_isinstance m_tuple m_len, PySem.W.mg_of X G a6, k6, b6⟩
  have C7 : Cal l.prog w K mg base "is_monomial" 5 ["thing"] (spP (Rmo K)) f7 _ := ⟨ok_is_monomial F7 C6 m_isinstance m_tuple, PySem.W.mg_of X G a7, k7, b7⟩
  have C8 : Cal l.prog w K mg base "_is_term" 6 ["thing"] (spP (Rtm K)) f8 _ := ⟨ok__is_term F8 C7 C4 m_isinstance m_tuple m_len, PySem.W.mg_of X G a8, k8, b8⟩
  have C9 : Cal l.prog w K mg base "need_polynomial" 7 ["thing"] (spP (Rpo K (IsV .non))) f9 _ := ⟨ok_need_polynomial F9 C8 m_isinstance m_tuple m_enumerate, PySem.W.mg_of X G a9, k9, b9⟩
  have C10 : Cal l.prog w K mg base "is_polynomial" 8 ["thing"] (spP (Rpo K (IsV (.bl true)))) f10 _ := ⟨ok_is_polynomial F10 C9 (PySem.W.mg_of X G gBP), PySem.W.mg_of X G a10, k10, b10⟩
  have C11 : Cal l.prog w K mg base "derivatives_in" 1 ["one"] (spP (Rdin K)) f11 _ := ⟨ok_derivatives_in F11 m_tuple m_sorted, PySem.W.mg_of X G a11, k11, b11⟩
  have C12 : Cal l.prog w K mg base "_are_names" 3 ["thing"] (spP (RnamesA K)) f12 _ := ⟨ok__are_names F12 C2 m_isinstance m_tuple m_len m_all m_set (PySem.W.mg_of X G gMN), PySem.W.mg_of X G a12, k12, b12⟩
  have C13 : Cal l.prog w K mg base "_are_axes" 2 ["thing"] (spP (RaxesA K)) f13 _ := ⟨ok__are_axes F13 C3 m_isinstance m_tuple m_all (PySem.W.mg_of X G gAL) vL, PySem.W.mg_of X G a13, k13, b13⟩
  have C14 : Cal l.prog w K mg base "need_ranking" 4 ["ranking"] (spP (Rrk K (IsV .non))) f14 _ := ⟨ok_need_ranking F14 C12 C13 m_isinstance m_tuple m_len m_str (PySem.W.mg_of X G gSO) vS, PySem.W.mg_of X G a14, k14, b14⟩
  have C15 : Cal l.prog w K mg base "_stands_there" 1 ["ranking", "derivative"] (spP (Rrd K fun _ _ => IsV (.bl true))) f15 _ := ⟨ok__stands_there F15 , PySem.W.mg_of X G a15, k15, b15⟩
  have C16 : Cal l.prog w K mg base "derivative_fits" 4 ["ranking", "thing"] (spP (Rrd K fun _ _ => IsV (.bl true))) f16 _ := ⟨ok_derivative_fits F16 C5 C15, PySem.W.mg_of X G a16, k16, b16⟩
  have C17 : Cal l.prog w K mg base "polynomial_fits" 9 ["ranking", "thing"] (spP (Rpf K)) f17 _ := ⟨ok_polynomial_fits F17 C10 C11 C15 m_all, PySem.W.mg_of X G a17, k17, b17⟩
  have C18 : Cal l.prog w K mg base "need_derivative" 5 ["ranking", "thing"] (spP (Rrd K fun _ _ => IsV .non)) f18 _ := ⟨ok_need_derivative F18 C16, PySem.W.mg_of X G a18, k18, b18⟩
  have C19 : Cal l.prog w K mg base "rank_key" 1 ["ranking", "derivative"] (spP (Rrd K fun r u => IsD K (.tuple ((r.key u).map .int)))) f19 _ := ⟨ok_rank_key F19 , PySem.W.mg_of X G a19, k19, b19⟩
  have C20 : Cal l.prog w K mg base "rising" 5 ["ranking", "derivatives"] (spT TT (Rris K)) f20 _ := ⟨ok_rising F20 C19 m_sorted TB1 O1, PySem.W.mg_of X G a20, k20, b20⟩
  have C21 : Cal l.prog w K mg base "all_to" 6 ["ranking", "order"] (spT TT (RallT K)) f21 _ := ⟨ok_all_to F21 C14 C1 C20 m_range (PySem.W.mg_of X G gMO), PySem.W.mg_of X G a21, k21, b21⟩
  have C22 : Cal l.prog w K mg base "way_to" 1 ["one", "other"] (spP (Rway K)) f22 _ := ⟨ok_way_to F22 , PySem.W.mg_of X G a22, k22, b22⟩
  have C23 : Cal l.prog w K mg base "is_pair" 10 ["ranking", "thing"] (spP (Rpr K)) f23 _ := ⟨ok_is_pair F23 C16 C17 m_isinstance m_tuple m_len, PySem.W.mg_of X G a23, k23, b23⟩
  have C24 : Cal l.prog w K mg base "_refuse_first" 1 ["word", "fits"] (spP (Rref K)) f24 _ := ⟨ok__refuse_first F24 m_enumerate, PySem.W.mg_of X G a24, k24, b24⟩
  have C25 : Cal l.prog w K mg base "_is_derived_of" 2 ["leader", "others"] (spP (Rdo K)) f25 _ := ⟨ok__is_derived_of F25 C22 m_any, PySem.W.mg_of X G a25, k25, b25⟩
  have C26 : Cal l.prog w K mg base "_is_below" 2 ["ranking", "polynomial", "key"] (spP (Rbl K)) f26 _ := ⟨ok__is_below F26 C11 C19 m_all, PySem.W.mg_of X G a26, k26, b26⟩
  have C27 : Cal l.prog w K mg base "first_by" 2 ["chain", "derivative"] (spP (Rfst K)) f27 _ := ⟨ok_first_by F27 C22 m_enumerate, PySem.W.mg_of X G a27, k27, b27⟩
  have C28 : Cal l.prog w K mg base "_is_free_of" 3 ["chain", "polynomial"] (spP (Rfo K)) f28 _ := ⟨ok__is_free_of F28 C11 C27 m_all, PySem.W.mg_of X G a28, k28, b28⟩
  have C29 : Cal l.prog w K mg base "need_chain" 11 ["ranking", "chain"] (spP (Rch K)) f29 _ := ⟨ok_need_chain F29 C14 C23 C24 C19 C25 C26 C28 m_isinstance m_tuple m_list m_range m_len, PySem.W.mg_of X G a29, k29, b29⟩
  have C30 : Cal l.prog w K mg base "_all_ways" 1 ["axes"] (spP (Raw K)) f30 _ := ⟨ok__all_ways F30 m_tuple (PySem.W.mg_of X G gAX) vA, PySem.W.mg_of X G a30, k30, b30⟩
  have C31 : Cal l.prog w K mg base "_columns_of" 1 ["name", "places"] (spP (Rcol K)) f31 _ := ⟨ok__columns_of F31 m_max m_min m_range, PySem.W.mg_of X G a31, k31, b31⟩
  have C32 : Cal l.prog w K mg base "_columns" 2 ["ranking", "chain"] (spP (Rcs K)) f32 _ := ⟨ok__columns F32 C30 C31 m_range, PySem.W.mg_of X G a32, k32, b32⟩
  have C33 : Cal l.prog w K mg base "free_cones" 12 ["ranking", "chain"] (spP (Rfree K freeAll)) f33 _ := ⟨ok_free_cones F33 C29 C32 m_tuple, PySem.W.mg_of X G a33, k33, b33⟩
  have C34 : Cal l.prog w K mg base "principal_cones" 12 ["ranking", "chain"] (spP (Rfree K prinAll)) f34 _ := ⟨ok_principal_cones F34 C29 C32 m_tuple, PySem.W.mg_of X G a34, k34, b34⟩
  have C35 : Cal l.prog w K mg base "cone_fits" 5 ["ranking", "thing"] (spP (Rcf K)) f35 _ := ⟨ok_cone_fits F35 C16 C3 m_isinstance m_tuple m_len m_all (PySem.W.mg_of X G gWA) vW, PySem.W.mg_of X G a35, k35, b35⟩
  have C36 : Cal l.prog w K mg base "is_cone" 6 ["ranking", "thing"] (spP (Rcf K)) f36 _ := ⟨ok_is_cone F36 C14 C35, PySem.W.mg_of X G a36, k36, b36⟩
  have C37 : Cal l.prog w K mg base "_meet" 1 ["one", "other", "place", "axis"] (spP (Rmeet K)) f37 _ := ⟨ok__meet F37 , PySem.W.mg_of X G a37, k37, b37⟩
  have C38 : Cal l.prog w K mg base "_share_one" 2 ["one", "other"] (spP (Rshare K)) f38 _ := ⟨ok__share_one F38 C37, PySem.W.mg_of X G a38, k38, b38⟩
  have C39 : Cal l.prog w K mg base "holds" 3 ["cone", "derivative"] (spP (Rholds K)) f39 _ := ⟨ok_holds F39 C38, PySem.W.mg_of X G a39, k39, b39⟩
  have C40 : Cal l.prog w K mg base "cone_has" 6 ["ranking", "cone", "derivative"] (spP (Rchas K)) f40 _ := ⟨ok_cone_has F40 C14 C35 C18 C39, PySem.W.mg_of X G a40, k40, b40⟩
  have C41 : Cal l.prog w K mg base "is_free" 12 ["ranking", "chain", "derivative"] (spP (Rif K)) f41 _ := ⟨ok_is_free F41 C29 C18 C27, PySem.W.mg_of X G a41, k41, b41⟩
  have C42 : Cal l.prog w K mg base "free_to" 12 ["ranking", "chain", "order"] (spT TT (RfT K true)) f42 _ := ⟨ok_free_to F42 C29 C21 C27 m_tuple, PySem.W.mg_of X G a42, k42, b42⟩
  have C43 : Cal l.prog w K mg base "principal_to" 12 ["ranking", "chain", "order"] (spT TT (RfT K false)) f43 _ := ⟨ok_principal_to F43 C29 C21 C27 m_tuple, PySem.W.mg_of X G a43, k43, b43⟩
  have gM := ok_Lmixed (P := l.prog) (w := w) (mg := mg) (base := base) F44
  have C45 : Cal l.prog w K mg base "_law_draw" 1 ["_law_cell", "_law_k"] spDraw f45 _ := ⟨ok_Ldraw F45, PySem.W.mg_of X G a45, k45, b45⟩
  have C46 : Cal l.prog w K mg base "_law_digit" 2 ["_law_state", "_law_many"] spDigit f46 _ := ⟨ok_Ldigit F46 gM m_range (PySem.W.mg_of X G a44) k44 b44, PySem.W.mg_of X G a46, k46, b46⟩
  have C47 : Cal l.prog w K mg base "_law_ranking" 3 ["_law_state"] (spRkL K TT) f47 _ := ⟨ok_Lranking F47 C46, PySem.W.mg_of X G a47, k47, b47⟩
  have C48 : Cal l.prog w K mg base "_law_key" 1 ["_law_ranking_here", "_law_derivative"] (spP (Rlk K)) f48 _ := ⟨ok_Lkey F48 , PySem.W.mg_of X G a48, k48, b48⟩
  have C49 : Cal l.prog w K mg base "_law_all" 6 ["_law_ranking_here", "_law_high"] (spT TT (RallT K)) f49 _ := ⟨ok_Lall F49 C48 m_len m_range m_sorted TB2 O2, PySem.W.mg_of X G a49, k49, b49⟩
  have C50 : Cal l.prog w K mg base "_law_is_principal" 1 ["_law_leaders_here", "_law_derivative"] (spP (Rlp K)) f50 _ := ⟨ok_Lis_principal F50 , PySem.W.mg_of X G a50, k50, b50⟩
  have C51 : Cal l.prog w K mg base "_law_leaders" 6 ["_law_state", "_law_ranking_here", "_law_high"] (spLd K TT) f51 _ := ⟨ok_Lleaders F51 C48 C46 C50 m_len m_range m_sorted TB3 O3, PySem.W.mg_of X G a51, k51, b51⟩
  have C52 : Cal l.prog w K mg base "_law_chain" 7 ["_law_state", "_law_ranking_here", "_law_high"] (spCh K TT) f52 _ := ⟨ok_Lchain F52 C51 C49 C48 C50 C46 m_len m_range m_tuple m_sorted, PySem.W.mg_of X G a52, k52, b52⟩
  have C53 : Cal l.prog w K mg base "_law_top" 1 ["_law_leaders_here", "_law_column"] (spP (Rtop K)) f53 _ := ⟨ok_Ltop F53 m_min, PySem.W.mg_of X G a53, k53, b53⟩
  have C54 : Cal l.prog w K mg base "_law_columns" 2 ["_law_name", "_law_leaders_here"] (spP (Rcolm K)) f54 _ := ⟨ok_Lcolumns F54 C53 m_max m_range, PySem.W.mg_of X G a54, k54, b54⟩
  have C55 : Cal l.prog w K mg base "_law_cones" 3 ["_law_ranking_here", "_law_chain_here"] (spP (Rcns K)) f55 _ := ⟨ok_Lcones F55 C54 m_len m_range m_tuple, PySem.W.mg_of X G a55, k55, b55⟩
  have C56 : Gd.CalG l.prog w K mg base "_law_parts_right" 13 ["_law_ranking_here", "_law_chain_here", "_law_told"] (spT TT (Rpart K)) f56 _ := ⟨ok_Lparts_right F56 C49 C40 C50 C41 m_len m_int m_repr, PySem.W.mg_of X G a56, k56, b56⟩
  exact ok_law F57 C45 C47 C52 C33 C34 C55 C36 C46 C49 C50 C42 C43 m_enumerate m_sum m_range m_repr m_tuple C56
theorem walk {l : PySem.W.OpenLaw} {q : Program} {loose : List Str} {XP : (Str → Option Value) → Heap → Prop} {YP : World → Heap → Prop} {d : DefRec} {K : Params → PySem.W.Frag} (hn : l.most = some 63) (hdf : d.params.defaults = [])
    (hY : ∀ (w : World) (h : Heap), YP w h → (K w.params).In h)
    (F : ∀ (w : World) (mg : Str → Option Value) (fa : Addr) (h : Heap), YP w h → (K w.params).In h → h.Ns mainGlobals mg → mg d.name = some (.ref fa) → Gd.LawAtG l w (K w.params) 14 63 "_law_script" mg fa h) :
    PySem.W.WalkO q loose XP YP l.row.toRowW d [] (fun f vs => PySem.call f vs) :=
  Gd.walkG hn (by decide) hdf ⟨rfl, by decide, by decide⟩ hY F
end K12
open PySem PySem.W PyProof.Rows
set_option maxRecDepth 100000 in
set_option maxHeartbeats 0 in
theorem PySem.Challenge.cw_rankedchains_k40_cones_by_columns_holds : PySem.Challenge.rw_rankedchains_k40_cones_by_columns.Holds := by
  w_on; o_law; k_head; (case hw => w_witness2)
  k_fill
  refine K12.walk (l := PySem.Challenge.rw_rankedchains_k40_cones_by_columns) rfl rfl (fun w h Y => PySem.W.km_in_of Y) ?F
  case F =>
    intro w mg fa h Y KX G hmg
    have hT8 := PySem.W.km_tabs_of Y
    refine' K12.all_mk KX G hmg (hT8 _ (List.mem_cons_of_mem _ (List.mem_cons_of_mem _ List.mem_cons_self))) (hT8 _ (List.mem_cons_of_mem _ List.mem_cons_self)) (hT8 _ List.mem_cons_self) ?a0 ?l0 ?e0 ?k0 ?a1 ?l1 ?e1 ?k1 ?a2 ?l2 ?e2 ?k2 ?a3 ?l3 ?e3 ?k3 ?a4 ?l4 ?e4 ?k4 ?a5 ?l5 ?e5 ?k5 ?a6 ?l6 ?e6 ?k6 ?a7 ?l7 ?e7 ?k7 ?a8 ?l8 ?e8 ?k8 ?a9 ?l9 ?e9 ?k9 ?a10 ?l10 ?e10 ?k10 ?a11 ?l11 ?e11 ?k11 ?a12 ?l12 ?e12 ?k12 ?a13 ?l13 ?e13 ?k13 ?a14 ?l14 ?e14 ?k14 ?a15 ?l15 ?e15 ?k15 ?a16 ?l16 ?e16 ?k16 ?a17 ?l17 ?e17 ?k17 ?a18 ?l18 ?e18 ?k18 ?a19 ?l19 ?e19 ?k19 ?a20 ?l20 ?e20 ?k20 ?a21 ?l21 ?e21 ?k21 ?a22 ?l22 ?e22 ?k22 ?a23 ?l23 ?e23 ?k23 ?a24 ?l24 ?e24 ?k24 ?a25 ?l25 ?e25 ?k25 ?a26 ?l26 ?e26 ?k26 ?a27 ?l27 ?e27 ?k27 ?a28 ?l28 ?e28 ?k28 ?a29 ?l29 ?e29 ?k29 ?a30 ?l30 ?e30 ?k30 ?a31 ?l31 ?e31 ?k31 ?a32 ?l32 ?e32 ?k32 ?a33 ?l33 ?e33 ?k33 ?a34 ?l34 ?e34 ?k34 ?a35 ?l35 ?e35 ?k35 ?a36 ?l36 ?e36 ?k36 ?a37 ?l37 ?e37 ?k37 ?a38 ?l38 ?e38 ?k38 ?a39 ?l39 ?e39 ?k39 ?a40 ?l40 ?e40 ?k40 ?a41 ?l41 ?e41 ?k41 ?a42 ?l42 ?e42 ?k42 ?a43 ?l43 ?e43 ?k43 ?a44 ?l44 ?e44 ?k44 ?a45 ?l45 ?e45 ?k45 ?a46 ?l46 ?e46 ?k46 ?a47 ?l47 ?e47 ?k47 ?a48 ?l48 ?e48 ?k48 ?a49 ?l49 ?e49 ?k49 ?a50 ?l50 ?e50 ?k50 ?a51 ?l51 ?e51 ?k51 ?a52 ?l52 ?e52 ?k52 ?a53 ?l53 ?e53 ?k53 ?a54 ?l54 ?e54 ?k54 ?a55 ?l55 ?e55 ?k55 ?a56 ?l56 ?e56 ?k56 ?a57 ?l57 ?e57 ?k57 ?n_all ?n_any ?n_bool ?n_enumerate ?n_int ?n_isinstance ?n_len ?n_list ?n_max ?n_min ?n_range ?n_repr ?n_set ?n_sorted ?n_str ?n_sum ?n_tuple ?gML ?gLE ?gMN ?gMO ?gGC ?gBP ?gAX ?vAX ?gSO ?vSO ?gAL ?vAL ?vb1 ?vb2 ?vb3 ?gWA ?vWA ?vc4 ?vc5 ?vc6 ?vc7 ?hcd1 ?htn1 ?hcd2 ?htn2 ?hcd3 ?htn3 ?h12 ?h13 ?h23
    (case a0 => k_is)
    (case l0 => k_is)
    (case e0 => k_is)
    (case k0 => k_is)
    (case a1 => k_is)
    (case l1 => k_is)
    (case e1 => k_is)
    (case k1 => k_is)
    (case a2 => k_is)
    (case l2 => k_is)
    (case e2 => k_is)
    (case k2 => k_is)
    (case a3 => k_is)
    (case l3 => k_is)
    (case e3 => k_is)
    (case k3 => k_is)
    (case a4 => k_is)
    (case l4 => k_is)
    (case e4 => k_is)
    (case k4 => k_is)
    (case a5 => k_is)
    (case l5 => k_is)
    (case e5 => k_is)
    (case k5 => k_is)
    (case a6 => k_is)
    (case l6 => k_is)
    (case e6 => k_is)
    (case k6 => k_is)
    (case a7 => k_is)
    (case l7 => k_is)
    (case e7 => k_is)
    (case k7 => k_is)
    (case a8 => k_is)
    (case l8 => k_is)
    (case e8 => k_is)
    (case k8 => k_is)
    (case a9 => k_is)
    (case l9 => k_is)
    (case e9 => k_is)
    (case k9 => k_is)
    (case a10 => k_is)
    (case l10 => k_is)
    (case e10 => k_is)
    (case k10 => k_is)
    (case a11 => k_is)
    (case l11 => k_is)
    (case e11 => k_is)
    (case k11 => k_is)
    (case a12 => k_is)
    (case l12 => k_is)
    (case e12 => k_is)
    (case k12 => k_is)
    (case a13 => k_is)
    (case l13 => k_is)
    (case e13 => k_is)
    (case k13 => k_is)
    (case a14 => k_is)
    (case l14 => k_is)
    (case e14 => k_is)
    (case k14 => k_is)
    (case a15 => k_is)
    (case l15 => k_is)
    (case e15 => k_is)
    (case k15 => k_is)
    (case a16 => k_is)
    (case l16 => k_is)
    (case e16 => k_is)
    (case k16 => k_is)
    (case a17 => k_is)
    (case l17 => k_is)
    (case e17 => k_is)
    (case k17 => k_is)
    (case a18 => k_is)
    (case l18 => k_is)
    (case e18 => k_is)
    (case k18 => k_is)
    (case a19 => k_is)
    (case l19 => k_is)
    (case e19 => k_is)
    (case k19 => k_is)
    (case a20 => k_is)
    (case l20 => k_is)
    (case e20 => k_is)
    (case k20 => k_is)
    (case a21 => k_is)
    (case l21 => k_is)
    (case e21 => k_is)
    (case k21 => k_is)
    (case a22 => k_is)
    (case l22 => k_is)
    (case e22 => k_is)
    (case k22 => k_is)
    (case a23 => k_is)
    (case l23 => k_is)
    (case e23 => k_is)
    (case k23 => k_is)
    (case a24 => k_is)
    (case l24 => k_is)
    (case e24 => k_is)
    (case k24 => k_is)
    (case a25 => k_is)
    (case l25 => k_is)
    (case e25 => k_is)
    (case k25 => k_is)
    (case a26 => k_is)
    (case l26 => k_is)
    (case e26 => k_is)
    (case k26 => k_is)
    (case a27 => k_is)
    (case l27 => k_is)
    (case e27 => k_is)
    (case k27 => k_is)
    (case a28 => k_is)
    (case l28 => k_is)
    (case e28 => k_is)
    (case k28 => k_is)
    (case a29 => k_is)
    (case l29 => k_is)
    (case e29 => k_is)
    (case k29 => k_is)
    (case a30 => k_is)
    (case l30 => k_is)
    (case e30 => k_is)
    (case k30 => k_is)
    (case a31 => k_is)
    (case l31 => k_is)
    (case e31 => k_is)
    (case k31 => k_is)
    (case a32 => k_is)
    (case l32 => k_is)
    (case e32 => k_is)
    (case k32 => k_is)
    (case a33 => k_is)
    (case l33 => k_is)
    (case e33 => k_is)
    (case k33 => k_is)
    (case a34 => k_is)
    (case l34 => k_is)
    (case e34 => k_is)
    (case k34 => k_is)
    (case a35 => k_is)
    (case l35 => k_is)
    (case e35 => k_is)
    (case k35 => k_is)
    (case a36 => k_is)
    (case l36 => k_is)
    (case e36 => k_is)
    (case k36 => k_is)
    (case a37 => k_is)
    (case l37 => k_is)
    (case e37 => k_is)
    (case k37 => k_is)
    (case a38 => k_is)
    (case l38 => k_is)
    (case e38 => k_is)
    (case k38 => k_is)
    (case a39 => k_is)
    (case l39 => k_is)
    (case e39 => k_is)
    (case k39 => k_is)
    (case a40 => k_is)
    (case l40 => k_is)
    (case e40 => k_is)
    (case k40 => k_is)
    (case a41 => k_is)
    (case l41 => k_is)
    (case e41 => k_is)
    (case k41 => k_is)
    (case a42 => k_is)
    (case l42 => k_is)
    (case e42 => k_is)
    (case k42 => k_is)
    (case a43 => k_is)
    (case l43 => k_is)
    (case e43 => k_is)
    (case k43 => k_is)
    (case a44 => k_is)
    (case l44 => k_is)
    (case e44 => k_is)
    (case k44 => k_is)
    (case a45 => k_is)
    (case l45 => k_is)
    (case e45 => k_is)
    (case k45 => k_is)
    (case a46 => k_is)
    (case l46 => k_is)
    (case e46 => k_is)
    (case k46 => k_is)
    (case a47 => k_is)
    (case l47 => k_is)
    (case e47 => k_is)
    (case k47 => k_is)
    (case a48 => k_is)
    (case l48 => k_is)
    (case e48 => k_is)
    (case k48 => k_is)
    (case a49 => k_is)
    (case l49 => k_is)
    (case e49 => k_is)
    (case k49 => k_is)
    (case a50 => k_is)
    (case l50 => k_is)
    (case e50 => k_is)
    (case k50 => k_is)
    (case a51 => k_is)
    (case l51 => k_is)
    (case e51 => k_is)
    (case k51 => k_is)
    (case a52 => k_is)
    (case l52 => k_is)
    (case e52 => k_is)
    (case k52 => k_is)
    (case a53 => k_is)
    (case l53 => k_is)
    (case e53 => k_is)
    (case k53 => k_is)
    (case a54 => k_is)
    (case l54 => k_is)
    (case e54 => k_is)
    (case k54 => k_is)
    (case a55 => k_is)
    (case l55 => k_is)
    (case e55 => k_is)
    (case k55 => k_is)
    (case a56 => k_is)
    (case l56 => k_is)
    (case e56 => k_is)
    (case k56 => k_is)
    (case a57 => k_is)
    (case l57 => k_is)
    (case e57 => k_is)
    (case k57 => k_is)
    (case n_all => k_is)
    (case n_any => k_is)
    (case n_bool => k_is)
    (case n_enumerate => k_is)
    (case n_int => k_is)
    (case n_isinstance => k_is)
    (case n_len => k_is)
    (case n_list => k_is)
    (case n_max => k_is)
    (case n_min => k_is)
    (case n_range => k_is)
    (case n_repr => k_is)
    (case n_set => k_is)
    (case n_sorted => k_is)
    (case n_str => k_is)
    (case n_sum => k_is)
    (case n_tuple => k_is)
    (case gML => k_is)
    (case gLE => k_is)
    (case gMN => k_is)
    (case gMO => k_is)
    (case gGC => k_is)
    (case gBP => k_is)
    (case gAX => k_is)
    (case vAX => k_is)
    (case gSO => k_is)
    (case vSO => k_is)
    (case gAL => k_is)
    (case vAL => k_is)
    (case vb1 => k_is)
    (case vb2 => k_is)
    (case vb3 => k_is)
    (case gWA => k_is)
    (case vWA => k_is)
    (case vc4 => k_is)
    (case vc5 => k_is)
    (case vc6 => k_is)
    (case vc7 => k_is)
    (case hcd1 => kernel_rfl)
    (case htn1 => first | rfl | kernel_rfl | decide +kernel)
    (case hcd2 => kernel_rfl)
    (case htn2 => first | rfl | kernel_rfl | decide +kernel)
    (case hcd3 => kernel_rfl)
    (case htn3 => first | rfl | kernel_rfl | decide +kernel)
    (case h12 => first | rfl | kernel_rfl | decide +kernel)
    (case h13 => first | rfl | kernel_rfl | decide +kernel)
    (case h23 => first | rfl | kernel_rfl | decide +kernel)
#print axioms PySem.Challenge.cw_rankedchains_k40_cones_by_columns_holds
