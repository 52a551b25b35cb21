import PyProof.Rows.All
import Wide.All
import OpenK.AllK
import Wide.FinOn
import HandS.ForMost
import HandS.ForExc
import HandS.Walk
import HandS.Strs
import HandS.Deep
import HandS.Conv
import HandS.IsInst
import HandS.Style
import HandS.Evl
import HandS.Wide
import HandS.Set
import HandS.Nested
import HandS.EndTab
import KE.SortKeyHeap
import KE.KDictCopyH
import HandS.NoneIn
import HandS.More
import HandS.Defaults
import HandS.RaiseMore
import PyProof.ReprRoads
import PyProof.CallFns
import PyProof.ReprLen
import PyProof.StrLawsRepr
import PyProof.ReprText
import KE.KRevSl
import PySem.Challenge.RW_rankedchains_k11_ranks_told
set_option Elab.async false
set_option maxRecDepth 100000
set_option maxHeartbeats 4000000
namespace My
open PySem L2
theorem isP {p : Prop} (h : p) : p := h
theorem new {H : Hp} {p : Addr} {o : HO} (hp : H p = none) : Same H (upd H p o) := fun b u e => by
  rw [upd_ne (ne_of_none e hp)]
  exact e
theorem new2 {H : Hp} {p : Addr} {o o' : HO} (hp : H p = none) : Same H (upd (upd H p o) p o') := fun b u e => by
  rw [upd_ne (ne_of_none e hp), upd_ne (ne_of_none e hp)]
  exact e
theorem sqt {K : PySem.W.Frag} {H H' : Hp} {a : Addr} {xs : List V} (e : Same H H') (h : SqT K H a xs) : SqT K H' a xs := by
  rcases h with (h | ⟨o, h⟩) | h
  · exact .inl (.inl (e _ _ h))
  · exact .inl (.inr ⟨o, e _ _ h⟩)
  · exact .inr h
theorem lstNew {K : PySem.W.Frag} {H : Hp} {p : Addr} {xs : List V} : SqL K (upd H p (.lst xs)) p xs := .inl (.inl upd_same)
theorem tupNew {K : PySem.W.Frag} {H : Hp} {p : Addr} {xs : List V} : SqT K (upd H p (.tup xs)) p xs := .inl (.inl upd_same)
theorem atIn {α : Type} (xs : List α) (i : Int) (h0 : 0 ≤ i) (h1 : i < xs.length) : ∃ v, v ∈ xs ∧ atI xs i = some v := by
  obtain ⟨n, rfl⟩ : ∃ n : Nat, i = (n : Int) := ⟨i.toNat, by omega⟩
  have hn : n < xs.length := by omega
  exact ⟨xs[n], List.getElem_mem hn, atI_nat (List.getElem?_eq_getElem hn)⟩
theorem cutTo (xs : List V) (k : Nat) : cutV xs none (some (k : Int)) = xs.take k := by
  unfold cutV
  rw [HT.sIx_none, HT.sIx_nat, List.drop_zero, Nat.sub_zero]
  by_cases h : k ≤ xs.length
  · rw [Nat.min_eq_left h]
  · rw [Nat.min_eq_right (by omega), List.take_length, List.take_of_length_le (by omega)]
theorem small {n : Nat} (h : n ≤ 1000) : n ≤ sizeLine := Nat.le_of_lt (small1000 h)
end My
namespace My
set_option autoImplicit false
open PySem L2 Evl
/-- what is known of a value, whatever is made beside -/
structure Pr where
  P : V → Hp → Prop
  m : ∀ {v : V} {H H' : Hp}, Ex H H' → P v H → P v H'
def AllP : List Pr → List V → Hp → Prop
  | [], [], _ => True
  | p :: ps, v :: vs, H => p.P v H ∧ AllP ps vs H
  | [], _ :: _, _ => False
  | _ :: _, [], _ => False
theorem AllP.m {H H' : Hp} (e : Ex H H') : ∀ {ps : List Pr} {vs : List V}, AllP ps vs H → AllP ps vs H'
  | [], [], _ => trivial
  | _ :: _, _ :: _, h => ⟨Pr.m _ e h.1, AllP.m e h.2⟩
theorem AllP.len {H : Hp} : ∀ {ps : List Pr} {vs : List V}, AllP ps vs H → vs.length = ps.length
  | [], [], _ => rfl
  | _ :: _, _ :: _, h => congrArg Nat.succ (AllP.len h.2)
theorem AllP.app {H : Hp} : ∀ {ps qs : List Pr} {vs ws : List V}, AllP ps vs H → AllP qs ws H → AllP (ps ++ qs) (vs ++ ws) H
  | [], _, [], _, _, h => h
  | _ :: _, _, _ :: _, _, a, h => ⟨a.1, AllP.app a.2 h⟩
theorem AllP.get {H : Hp} : ∀ {ps : List Pr} {vs : List V} {i : Nat} {v : V}, AllP ps vs H → vs[i]? = some v → ∃ p, ps[i]? = some p ∧ p.P v H
  | [], [], i, v, _, h => by simp at h
  | p :: _, w :: _, 0, v, a, h => by
    obtain rfl : w = v := Option.some.inj h
    exact ⟨p, rfl, a.1⟩
  | _ :: _, _ :: _, i + 1, v, a, h => AllP.get (i := i) a.2 h
theorem AllP.at {H : Hp} : ∀ {ps : List Pr} {vs : List V} {i : Nat} {p : Pr}, AllP ps vs H → ps[i]? = some p → ∃ v, vs[i]? = some v ∧ p.P v H
  | [], [], i, v, _, h => by simp at h
  | q :: _, w :: _, 0, p, a, h => by
    obtain rfl : q = p := Option.some.inj h
    exact ⟨w, rfl, a.1⟩
  | _ :: _, _ :: _, i + 1, v, a, h => AllP.at (i := i) a.2 h
/-- without tables of code -/
def NoTab (B : Hp) : Prop := ∀ b ps, B b ≠ some (.tbl ps)
/-- from what is known, B, within the heap H, to B' within H': what is known of B' leans on nothing else that stood in H -/
structure Gr (B H B' H' : Hp) : Prop where
  a : Ex H H'
  b : Ex B B'
  c : Ex B' H'
  d : ∀ x, B x = none → H x ≠ none → B' x = none
  e : NoTab B → NoTab B'
theorem Gr.refl {B H : Hp} (e : Ex B H) : Gr B H B H := ⟨Ex.refl H, Ex.refl B, e, fun _ h _ => h, id⟩
theorem has {H H' : Hp} {x : Addr} (e : Ex H H') (h : H x ≠ none) : H' x ≠ none := by
  cases q : H x with
  | none => exact absurd q h
  | some o =>
    rw [e x o q]
    exact fun z => nomatch z
theorem Gr.trans {B H B1 H1 B2 H2 : Hp} (g : Gr B H B1 H1) (k : Gr B1 H1 B2 H2) : Gr B H B2 H2 :=
  ⟨g.a.trans k.a, g.b.trans k.b, k.c, fun x hb hh => k.d x (g.d x hb hh) (has g.a hh), fun z => k.e (g.e z)⟩
/-- nothing new is known -/
theorem Gr.wide {B H H1 : Hp} (e : Ex B H) (k : Ex H H1) : Gr B H B H1 := ⟨k, Ex.refl B, e.trans k, fun _ h _ => h, id⟩
/-- a new object -/
theorem Gr.new {B H : Hp} {r : Addr} (o : HO) (e : Ex B H) (hr : H r = none) (ho : ∀ ps, o ≠ .tbl ps := by intro _ z; cases z) : Gr B H (upd B r o) (upd H r o) :=
  ⟨Ex.new hr, Ex.new (fresh_back e hr), fun a u h => by
    by_cases q : a = r
    · subst q
      rw [upd_same] at h ⊢
      exact h
    · rw [upd_ne q] at h ⊢
      exact e a u h, fun x hb hh => by
    by_cases q : x = r
    · subst q
      exact absurd hr hh
    · rw [upd_ne q]
      exact hb, fun z b ps q => by
    by_cases n : b = r
    · subst n
      rw [upd_same] at q
      exact ho ps (Option.some.inj q)
    · rw [upd_ne n] at q
      exact z b ps q⟩
/-- two parts of one heap together -/
def both (B C : Hp) : Hp := fun b => match B b with
  | some o => some o
  | none => C b
theorem both_l {B C : Hp} : Ex B (both B C) := fun a o h => by
  unfold both
  rw [h]
theorem both_r {B C H : Hp} (e : Ex B H) (k : Ex C H) : Ex C (both B C) := fun a o h => by
  unfold both
  cases q : B a with
  | none => exact h
  | some u =>
    have h1 := e a u q
    have h2 := k a o h
    rw [h1] at h2
    exact h2
theorem both_in {B C H : Hp} (e : Ex B H) (k : Ex C H) : Ex (both B C) H := fun a o h => by
  unfold both at h
  cases q : B a with
  | none =>
    rw [q] at h
    exact k a o h
  | some u =>
    rw [q] at h
    obtain rfl : u = o := Option.some.inj h
    exact e a u q
theorem both_none {B C : Hp} {x : Addr} (h : B x = none) (k : C x = none) : both B C x = none := by
  unfold both
  rw [h]
  exact k
theorem both_nt {B C : Hp} (h : NoTab B) (k : NoTab C) : NoTab (both B C) := fun b ps q => by
  unfold both at q
  cases z : B b with
  | none =>
    rw [z] at q
    exact k b ps q
  | some o =>
    rw [z] at q
    have q : some o = some (HO.tbl ps) := q
    rw [q] at z
    exact h b ps z
/-- one behind the other, each from the same B -/
theorem Gr.join {B H B1 H1 B2 H2 : Hp} (g : Gr B H B1 H1) (k : Gr B H1 B2 H2) : Gr B H (both B1 B2) H2 :=
  ⟨g.a.trans k.a, g.b.trans both_l, both_in (g.c.trans k.a) k.c, fun x hb hh => both_none (g.d x hb hh) (k.d x hb (has g.a hh)), fun z => both_nt (g.e z) (k.e z)⟩
/-- without D -/
def wo (D : Addr) (H : Hp) : Hp := fun b => if b = D then none else H b
theorem wo_ne {D b : Addr} {H : Hp} (n : b ≠ D) : wo D H b = H b := if_neg n
theorem wo_same {D : Addr} {H : Hp} : wo D H D = none := if_pos rfl
theorem wo_some {D b : Addr} {H : Hp} {o : HO} (h : wo D H b = some o) : b ≠ D ∧ H b = some o := by
  by_cases n : b = D
  · rw [n, wo_same] at h
    exact nomatch h
  · rw [wo_ne n] at h
    exact ⟨n, h⟩
theorem wo_ex {D : Addr} {H : Hp} : Ex (wo D H) H := fun _ _ e => (wo_some e).2
theorem ex_wo {B H : Hp} {D : Addr} (e : Ex B H) (h : B D = none) : Ex B (wo D H) := fun b o k => by
  rw [wo_ne (ne_of_none k h)]
  exact e b o k
theorem wo_none {B H : Hp} {D : Addr} (e : Ex B (wo D H)) : B D = none := by
  cases q : B D with
  | none => rfl
  | some o =>
    have := e _ _ q
    rw [wo_same] at this
    exact nomatch this
theorem wo_new {H : Hp} {D : Addr} {o : HO} (h : H D = none) : wo D (upd H D o) = H := funext fun b => by
  by_cases n : b = D
  · rw [n, wo_same, h]
  · rw [wo_ne n, upd_ne n]
theorem wo_upd {H : Hp} {D : Addr} {o : HO} : wo D (upd H D o) = wo D H := funext fun b => by
  by_cases n : b = D
  · rw [n, wo_same, wo_same]
  · rw [wo_ne n, wo_ne n, upd_ne n]
theorem wo_mono {H H' : Hp} {D : Addr} (e : Ex H H') : Ex (wo D H) (wo D H') := fun b o k => by
  obtain ⟨n, q⟩ := wo_some k
  rw [wo_ne n]
  exact e b o q
/-- what a turn adds, the list at D left aside -/
theorem Gr.side {B H B1 H1 B2 H2 : Hp} {D : Addr} (g : Gr B H B1 (wo D H1)) (hD : H1 D ≠ none) (k : Gr B1 H1 B2 H2) : Gr B H B2 (wo D H2) :=
  ⟨fun b o e => by
    obtain ⟨n, q⟩ := wo_some (g.a b o e)
    rw [wo_ne n]
    exact k.a b o q, g.b.trans k.b, ex_wo k.c (k.d D (wo_none g.c) hD), fun x hb hh => k.d x (g.d x hb hh) (has wo_ex (has g.a hh)), fun z => k.e (g.e z)⟩
/-- just this value -/
def IsV (x : V) : Pr := ⟨fun v _ => v = x, fun _ h => h⟩
/-- a new list | a list | a tuple, of what -/
def LsP (ps : List Pr) : Pr := ⟨fun v H => ∃ p xs, v = .ref p ∧ H p = some (.lst xs) ∧ AllP ps xs H, fun e ⟨p, xs, a, b, c⟩ => ⟨p, xs, a, e _ _ b, c.m e⟩⟩
def LqP (K : PySem.W.Frag) (ps : List Pr) : Pr := ⟨fun v H => ∃ p xs, v = .ref p ∧ SqL K H p xs ∧ AllP ps xs H, fun e ⟨p, xs, a, b, c⟩ => ⟨p, xs, a, ex_l e b, c.m e⟩⟩
def TuP (K : PySem.W.Frag) (ps : List Pr) : Pr := ⟨fun v H => ∃ p xs, v = .ref p ∧ SqT K H p xs ∧ AllP ps xs H, fun e ⟨p, xs, a, b, c⟩ => ⟨p, xs, a, ex_t e b, c.m e⟩⟩
theorem lq_ls {K : PySem.W.Frag} {ps : List Pr} {v : V} {H : Hp} (h : (LsP ps).P v H) : (LqP K ps).P v H := by
  obtain ⟨p, xs, a, b, c⟩ := h
  exact ⟨p, xs, a, sq_of b, c⟩
mutual
theorem dp_m {K : PySem.W.Frag} {H H' : Hp} (e : Ex H H') : ∀ {d : PyData} {v : V}, Dp K H v d → Dp K H' v d
  | _, _, .non => .non
  | _, _, .bl b => .bl b
  | _, _, .int i => .int i
  | _, _, .str x => .str x
  | _, _, .lst a b => .lst (ex_l e a) (dps_m e b)
  | _, _, .tup a b => .tup (ex_t e a) (dps_m e b)
theorem dps_m {K : PySem.W.Frag} {H H' : Hp} (e : Ex H H') : ∀ {ds : List PyData} {vs : List V}, DpAll K H vs ds → DpAll K H' vs ds
  | _, _, .nil => .nil
  | _, _, .cons a b => .cons (dp_m e a) (dps_m e b)
end
/-- plain data -/
def IsD (K : PySem.W.Frag) (d : PyData) : Pr := ⟨fun v H => Dp K H v d, fun e h => dp_m e h⟩
theorem dps_of {K : PySem.W.Frag} {H : Hp} : ∀ {ds : List PyData} {vs : List V}, AllP (ds.map (IsD K)) vs H → DpAll K H vs ds
  | [], [], _ => .nil
  | _ :: _, _ :: _, h => .cons h.1 (dps_of h.2)
theorem dps_to {K : PySem.W.Frag} {H : Hp} : ∀ {ds : List PyData} {vs : List V}, DpAll K H vs ds → AllP (ds.map (IsD K)) vs H
  | [], [], _ => trivial
  | _ :: _, _ :: _, .cons a b => ⟨a, dps_to b⟩
/-- an expression gives such a value, over all that stands beside -/
def EvP (te : TE) (σ : L2.St) (B : Hp) (p : Pr) : Prop := ∀ H1, Ex B H1 → ∀ Q : VK, (∀ v B' H2, Gr B H1 B' H2 → p.P v B' → Q v H2) → te σ H1 Q
def EvPs (ta : TA) (σ : L2.St) (B : Hp) (ps : List Pr) : Prop := ∀ H1, Ex B H1 → ∀ Q : List V → Hp → Prop, (∀ vs B' H2, Gr B H1 B' H2 → AllP ps vs B' → Q vs H2) → ta σ H1 Q
section
variable {te ta tb : TE} {t tr : TA} {σ : L2.St} {B B' H : Hp} {p q : Pr} {ps qs : List Pr} {v : V} {K : PySem.W.Frag} {D : Ends}
theorem EvP.mono (e : Ex B B') (h : EvP te σ B p) : EvP te σ B' p := fun H1 a Q k => h H1 (e.trans a) Q fun v C H2 g b =>
  k v (both B' C) H2 ⟨g.a, both_l, both_in (a.trans g.a) g.c, fun x hb hh => both_none hb (g.d x (fresh_back e hb) hh), fun z => both_nt z (g.e fun b ps q => z b ps (e _ _ q))⟩ (p.m (both_r (a.trans g.a) g.c) b)
theorem EvP.imp (h : EvP te σ B p) (i : ∀ v B1, Ex B B1 → p.P v B1 → q.P v B1) : EvP te σ B q := fun H1 a _ k => h H1 a _ fun v B2 H2 g b => k v B2 H2 g (i v B2 g.b b)
theorem p_var {i : Nat} (h : σ[i]? = some (some v)) (hp : p.P v B) : EvP (tVar i) σ B p := fun H1 a _ k => ⟨v, h, k v B H1 (Gr.refl a) hp⟩
theorem p_c : EvP (tC v) σ B (IsV v) := fun H1 a _ k => k v B H1 (Gr.refl a) rfl
theorem p_ev (h : Ev te σ B v) : EvP te σ B (IsV v) := fun H1 a _ k => h H1 a _ fun H2 e => k v B H2 (Gr.wide a e) rfl
theorem ev_p (h : EvP te σ B (IsV v)) : Ev te σ B v := fun H1 a _ k => h H1 a _ fun w B2 H2 g b => by
  obtain rfl : w = v := b
  exact k H2 g.a
theorem q_nil : EvPs tNil σ B [] := fun H1 a _ k => k [] B H1 (Gr.refl a) trivial
theorem q_cons (h : EvP te σ B p) (hr : EvPs tr σ B ps) : EvPs (tCons te tr) σ B (p :: ps) := fun H1 a _ k =>
  h H1 a _ fun v B2 H2 g b => hr H2 (g.b.trans g.c) _ fun vs B3 H3 g3 b3 => k (v :: vs) (both B2 B3) H3 (g.join g3) ⟨p.m both_l b, b3.m (both_r (g.c.trans g3.a) g3.c)⟩
theorem p_lst (h : EvPs t σ B ps) (hl : ps.length ≤ 100000) : EvP (tLst t) σ B (LsP ps) := fun H1 a _ k =>
  h H1 a _ fun vs B2 H2 g b => ⟨sz_of (by rw [b.len]; exact hl), fun r hr => k _ _ _ (g.trans (Gr.new _ g.c hr)) ⟨r, vs, rfl, upd_same, b.m (Ex.new (fresh_back g.c hr))⟩⟩
theorem p_tup (h : EvPs t σ B ps) (hl : ps.length ≤ 100000) : EvP (tTup t) σ B (TuP K ps) := fun H1 a _ k =>
  h H1 a _ fun vs B2 H2 g b => ⟨sz_of (by rw [b.len]; exact hl), fun r hr => k _ _ _ (g.trans (Gr.new _ g.c hr)) ⟨r, vs, rfl, st_of upd_same, b.m (Ex.new (fresh_back g.c hr))⟩⟩
theorem p_cat (ha : EvP ta σ B (LsP ps)) (hb : EvP tb σ B (LsP qs)) (hl : ps.length + qs.length ≤ 100000) : EvP (tOp rCat ta tb) σ B (LsP (ps ++ qs)) := fun H1 a Q k =>
  ha H1 a _ fun v B2 H2 g b => hb H2 (g.b.trans g.c) _ fun w B3 H3 g3 b3 => by
    obtain ⟨p, xs, rfl, hp, hx⟩ := b
    obtain ⟨q, ys, rfl, hq, hy⟩ := b3
    have l1 := hx.len
    have l2 := hy.len
    have gj := g.join g3
    refine ⟨p, q, xs, ys, rfl, rfl, g3.a _ _ (g.c _ _ hp), g3.c _ _ hq, sz_of (by omega), fun r hr => k _ _ _ (gj.trans (Gr.new _ gj.c hr)) ⟨r, xs ++ ys, rfl, upd_same, ?_⟩⟩
    have en : Ex (both B2 B3) (upd (both B2 B3) r (.lst (xs ++ ys))) := Ex.new (fresh_back gj.c hr)
    exact (hx.m (both_l.trans en)).app (hy.m ((both_r (g.c.trans g3.a) g3.c).trans en))
/-- of data -/
theorem d_lst {ds : List PyData} (h : EvP te σ B (LsP (ds.map (IsD K)))) : EvP te σ B (IsD K (.list ds)) := h.imp fun v H1 _ b => by
  obtain ⟨r, xs, rfl, hr, hx⟩ := b
  exact .lst (sq_of hr) (dps_of hx)
theorem d_tup {ds : List PyData} (h : EvP te σ B (TuP K (ds.map (IsD K)))) : EvP te σ B (IsD K (.tuple ds)) := h.imp fun v H1 _ b => by
  obtain ⟨r, xs, rfl, hr, hx⟩ := b
  exact .tup hr (dps_of hx)
theorem d_int {i : Int} (h : EvP te σ B (IsV (.int i))) : EvP te σ B (IsD K (.int i)) := h.imp fun v H1 _ b => by
  obtain rfl : v = V.int i := b
  exact .int i
theorem d_str {x : Str} (h : EvP te σ B (IsV (.str x))) : EvP te σ B (IsD K (.str x)) := h.imp fun v H1 _ b => by
  obtain rfl : v = V.str x := b
  exact .str x
theorem d_bl {x : Bool} (h : EvP te σ B (IsV (.bl x))) : EvP te σ B (IsD K (.bool x)) := h.imp fun v H1 _ b => by
  obtain rfl : v = V.bl x := b
  exact .bl x
theorem d_non (h : EvP te σ B (IsV .non)) : EvP te σ B (IsD K .none) := h.imp fun v H1 _ b => by
  obtain rfl : v = V.non := b
  exact .non
theorem ev_eqD {d e : PyData} (ha : EvP ta σ B (IsD K d)) (hb : EvP tb σ B (IsD K e)) (hd : SeqAt.shaped d = true) (he : SeqAt.shaped e = true) : Ev (tOp (rEqD K) ta tb) σ B (.bl (PyData.eqv d e)) := fun H1 a Q k =>
  ha H1 a _ fun v B2 H2 g b => hb H2 (g.b.trans g.c) _ fun w B3 H3 g3 b3 => ⟨d, e, dp_m (g.c.trans g3.a) b, dp_m g3.c b3, hd, he, k H3 (g.a.trans g3.a)⟩
theorem ev_neD {d e : PyData} (ha : EvP ta σ B (IsD K d)) (hb : EvP tb σ B (IsD K e)) (hd : SeqAt.shaped d = true) (he : SeqAt.shaped e = true) : Ev (tOp (rNeD K) ta tb) σ B (.bl (!PyData.eqv d e)) := fun H1 a Q k =>
  ha H1 a _ fun v B2 H2 g b => hb H2 (g.b.trans g.c) _ fun w B3 H3 g3 b3 => ⟨d, e, dp_m (g.c.trans g3.a) b, dp_m g3.c b3, hd, he, k H3 (g.a.trans g3.a)⟩
theorem ps_asg {i : Nat} (a : Ex B H) (h : EvP te σ B p) (k : ∀ v B1 H1, Gr B H B1 H1 → p.P v B1 → D.nx (σ.set i (some v)) H1) : tAsg te (gName i) D σ H := h H a _ k
theorem ps_asgN {i : Nat} (σ' : V → L2.St) (a : Ex B H) (h : EvP te σ B p) (k : ∀ v B1 H1, Gr B H B1 H1 → p.P v B1 → D.nx (σ' v) H1) (e : ∀ v, σ.set i (some v) = σ' v := by intro _; rfl) : tAsg te (gName i) D σ H := h H a _ fun v B1 H1 g b => by
  have := k v B1 H1 g b
  rw [← e v] at this
  exact this
theorem ps_ret (a : Ex B H) (h : EvP te σ B p) (k : ∀ v B1 H1, Gr B H B1 H1 → p.P v B1 → D.rt v H1) : tRet te D σ H := h H a _ k
/-- a call: what the def is handed, what it tells -/
def SpOk (sp : Sp) (ps : List Pr) (p : Pr) : Prop := ∀ vs B H Q E, Ex B H → AllP ps vs B → (∀ u B' H', Gr B H B' H' → p.P u B' → Q u H') → sp vs H Q E
theorem p_call {sp : Sp} (h : EvPs t σ B ps) (hs : SpOk sp ps p) : EvP (tCall sp [] E0 t) σ B p := fun H1 a Q k =>
  h H1 a _ fun vs B2 H2 g b => by
    rw [List.append_nil]
    exact hs vs B2 H2 Q E0 g.c b fun u B3 H3 g3 c => k u B3 H3 (g.trans g3) c
/-- a comprehension over a list, some items left out -/
theorem p_lc {g : TG} {tt : TT} {vs : List Nat} (h : EvP ta σ B (LqP K ps)) (hl : ps.length ≤ 100000) (keep : Nat → Bool) (res : Nat → Pr)
    (step : ∀ i p v B1, ps[i]? = some p → Ex B B1 → p.P v B1 → ∃ σ2, wipe σ2 vs = wipe σ vs ∧ (∀ H2 Q, Ex B1 H2 → Q σ2 H2 → g v (wipe σ vs) H2 Q) ∧ EvT tt σ2 B1 (keep i) ∧ (keep i = true → EvP te σ2 B1 (res i))) :
    EvP (tLc (iList K ta) g tt te vs) σ B (LsP (((List.range ps.length).filter keep).map res)) := fun H1 a Q k =>
  h H1 a _ fun v B2 H2 gr b => by
    obtain ⟨l, xs, rfl, hx, hal⟩ := b
    have hlen := hal.len
    refine ⟨l, rfl, ⟨xs, ex_l gr.c hx⟩, fun Dd hD => ?_⟩
    refine lc_list (K := K) (a := l) (xs := xs) (fun i H3 => ∃ B3 acc, Gr B2 H2 B3 (wo Dd H3) ∧ H3 Dd = some (.lst acc) ∧ AllP (((List.range i).filter keep).map res) acc B3) ?_ ?_ ?_ ?_
    · exact ⟨B2, [], by rw [wo_new hD]; exact Gr.refl gr.c, upd_same, trivial⟩
    · rintro i H3 _ ⟨B3, acc, g3, _, _⟩
      exact ex_l (g3.b.trans (g3.c.trans wo_ex)) hx
    · rintro i x H3 hi ⟨B3, acc, g3, hDd, hacc⟩
      obtain ⟨p, hp, px⟩ := hal.get hi
      have hil : i < xs.length := (List.getElem?_eq_some_iff.mp hi).1
      have exB : Ex B3 H3 := g3.c.trans wo_ex
      have hB3 : B3 Dd = none := wo_none g3.c
      have some3 : H3 Dd ≠ none := by
        rw [hDd]
        exact fun z => nomatch z
      obtain ⟨σ2, hw, hg, ht, he⟩ := step i p x B3 hp (gr.b.trans g3.b) (p.m g3.b px)
      refine hg H3 _ exB ⟨hw, ht H3 exB _ fun H4 e4 => ?_⟩
      have e34 : Ex B3 H4 := exB.trans e4
      have hD4 := e4 _ _ hDd
      have g4 : Gr B2 H2 B3 (wo Dd H4) := g3.side some3 (Gr.wide exB e4)
      have some4 : H4 Dd ≠ none := has e4 some3
      cases hk : keep i with
      | true =>
        rw [if_pos rfl]
        refine he hk H4 e34 _ fun y B5 H5 g5 hy => ?_
        have la : acc.length ≤ i := by
          rw [hacc.len, List.length_map]
          exact Nat.le_trans (List.length_filter_le _ _) (by rw [List.length_range]; exact Nat.le_refl _)
        refine ⟨acc, g5.a _ _ hD4, sz_lt (by omega), B5, acc ++ [y], by rw [wo_upd]; exact g4.side some4 g5, upd_same, ?_⟩
        rw [List.range_succ, List.filter_append, List.map_append]
        refine (hacc.m g5.b).app ?_
        have : List.filter keep [i] = [i] := by simp [hk]
        rw [this]
        exact ⟨hy, trivial⟩
      | false =>
        rw [if_neg Bool.false_ne_true]
        refine ⟨B3, acc, g4, hD4, ?_⟩
        rw [List.range_succ, List.filter_append, List.map_append]
        have : List.filter keep [i] = [] := by simp [hk]
        rw [this, List.map_nil, List.append_nil]
        exact hacc
    · rintro H3 ⟨B3, acc, g3, hDd, hacc⟩
      have hB3 : B3 Dd = none := wo_none g3.c
      rw [hlen] at hacc
      refine k (.ref Dd) (upd B3 Dd (.lst acc)) H3 ⟨gr.a.trans (g3.a.trans wo_ex), gr.b.trans (g3.b.trans (Ex.new hB3)), fun b o e => ?_, fun x hb hh => ?_, fun z b ps q => ?_⟩ ⟨Dd, acc, rfl, upd_same, hacc.m (Ex.new hB3)⟩
      · by_cases n : b = Dd
        · subst n
          rw [upd_same] at e
          rw [hDd]
          exact e
        · rw [upd_ne n] at e
          exact g3.c.trans wo_ex _ _ e
      · have n : x ≠ Dd := fun z => by
          subst z
          exact has gr.a hh hD
        rw [upd_ne n]
        exact g3.d x (gr.d x hb hh) (has gr.a hh)
      · by_cases n : b = Dd
        · subst n
          rw [upd_same] at q
          cases q
        · rw [upd_ne n] at q
          exact g3.e (gr.e z) b ps q
end
end My
namespace My
set_option autoImplicit false
open PySem L2 Evl
/-- what is known says which data it is -/
def To (K : PySem.W.Frag) (p : Pr) (d : PyData) : Prop := ∀ v H, p.P v H → Dp K H v d
inductive ToAll (K : PySem.W.Frag) : List Pr → List PyData → Prop
  | nil : ToAll K [] []
  | cons {p : Pr} {d : PyData} {ps : List Pr} {ds : List PyData} : To K p d → ToAll K ps ds → ToAll K (p :: ps) (d :: ds)
section
variable {te ta tb : TE} {t tr : TA} {σ : L2.St} {B B' H : Hp} {p q : Pr} {ps qs : List Pr} {v : V} {K : PySem.W.Frag} {D : Ends} {d e : PyData} {ds : List PyData}
theorem to_int {i : Int} : To K (IsV (.int i)) (.int i) := fun v H h => by
  obtain rfl : v = _ := h
  exact .int i
theorem to_str {x : Str} : To K (IsV (.str x)) (.str x) := fun v H h => by
  obtain rfl : v = _ := h
  exact .str x
theorem to_bl {b : Bool} : To K (IsV (.bl b)) (.bool b) := fun v H h => by
  obtain rfl : v = _ := h
  exact .bl b
theorem to_non : To K (IsV .non) .none := fun v H h => by
  obtain rfl : v = _ := h
  exact .non
theorem to_d : To K (IsD K d) d := fun _ _ h => h
theorem toAll_all {H : Hp} : ∀ {ps : List Pr} {ds : List PyData} {vs : List V}, ToAll K ps ds → AllP ps vs H → DpAll K H vs ds
  | [], _, [], .nil, _ => .nil
  | _ :: _, _, _ :: _, .cons a b, h => .cons (a _ _ h.1) (toAll_all b h.2)
theorem to_lst (h : ToAll K ps ds) : To K (LsP ps) (.list ds) := fun v H hv => by
  obtain ⟨r, xs, rfl, hr, hx⟩ := hv
  exact .lst (sq_of hr) (toAll_all h hx)
theorem to_lq (h : ToAll K ps ds) : To K (LqP K ps) (.list ds) := fun v H hv => by
  obtain ⟨r, xs, rfl, hr, hx⟩ := hv
  exact .lst hr (toAll_all h hx)
theorem to_tup (h : ToAll K ps ds) : To K (TuP K ps) (.tuple ds) := fun v H hv => by
  obtain ⟨r, xs, rfl, hr, hx⟩ := hv
  exact .tup hr (toAll_all h hx)
theorem toAll_map {α : Type} {f : α → Pr} {g : α → PyData} (l : List α) (h : ∀ x, To K (f x) (g x)) : ToAll K (l.map f) (l.map g) := by
  induction l with
  | nil => exact .nil
  | cons x r ih => exact .cons (h x) ih
theorem p_to (h : EvP te σ B p) (k : To K p d) : EvP te σ B (IsD K d) := h.imp fun v B1 _ b => k v B1 b
theorem p_varV {i : Nat} (h : σ[i]? = some (some v)) : EvP (tVar i) σ B (IsV v) := p_var h rfl
theorem p_lq (h : EvP te σ B (LsP ps)) : EvP te σ B (LqP K ps) := h.imp fun _ _ _ b => lq_ls b
/-- an item at a written place -/
theorem p_ix {j : Int} (h : EvP ta σ B (LqP K ps)) (hj : EvP tb σ B (IsV (.int j))) (hp : atI ps j = some p) : EvP (tOp (rIxL K) ta tb) σ B p := fun H1 a Q k =>
  h H1 a _ fun v B2 H2 g b => hj H2 (g.b.trans g.c) _ fun w B3 H3 g3 b3 => by
    obtain ⟨l, xs, rfl, hx, hal⟩ := b
    obtain rfl : w = _ := b3
    have hlen := hal.len
    unfold atI at hp
    rw [← hlen] at hp
    obtain ⟨n, hn, hq⟩ := Option.bind_eq_some_iff.mp hp
    obtain ⟨z, hz, pz⟩ := hal.at hq
    have gj := g.join g3
    refine ⟨l, xs, j, z, rfl, rfl, ex_l (g.c.trans g3.a) hx, ?_, k z _ _ gj (p.m both_l pz)⟩
    unfold atI
    rw [hn]
    exact hz
theorem p_ixT {j : Int} (h : EvP ta σ B (TuP K ps)) (hj : EvP tb σ B (IsV (.int j))) (hp : atI ps j = some p) : EvP (tOp (rIxT K) ta tb) σ B p := fun H1 a Q k =>
  h H1 a _ fun v B2 H2 g b => hj H2 (g.b.trans g.c) _ fun w B3 H3 g3 b3 => by
    obtain ⟨l, xs, rfl, hx, hal⟩ := b
    obtain rfl : w = _ := b3
    have hlen := hal.len
    unfold atI at hp
    rw [← hlen] at hp
    obtain ⟨n, hn, hq⟩ := Option.bind_eq_some_iff.mp hp
    obtain ⟨z, hz, pz⟩ := hal.at hq
    have gj := g.join g3
    refine ⟨l, xs, j, z, rfl, rfl, ex_t (g.c.trans g3.a) hx, ?_, k z _ _ gj (p.m both_l pz)⟩
    unfold atI
    rw [hn]
    exact hz
theorem AllP.rep {H : Hp} {vs : List V} (h : AllP ps vs H) : ∀ n, AllP (List.replicate n ps).flatten (List.replicate n vs).flatten H
  | 0 => trivial
  | n + 1 => by
    rw [List.replicate_succ, List.replicate_succ, List.flatten_cons, List.flatten_cons]
    exact h.app (AllP.rep h n)
theorem p_rep {n : Nat} (h : EvP ta σ B (LsP ps)) (hb : EvP tb σ B (IsV (.int (n : Int)))) (hn : n ≤ 100000) (hl : ps.length * n ≤ 100000) : EvP (tOp rRep ta tb) σ B (LsP (List.replicate n ps).flatten) := fun H1 a Q k =>
  h H1 a _ fun v B2 H2 g b => hb H2 (g.b.trans g.c) _ fun w B3 H3 g3 b3 => by
    obtain ⟨l, xs, rfl, hx, hal⟩ := b
    obtain rfl : w = _ := b3
    have gj := g.join g3
    have hlen := hal.len
    refine ⟨l, (n : Int), xs, rfl, rfl, g3.a _ _ (g.c _ _ hx), by omega, by omega, sz_of (by rw [hlen]; exact hl), fun r hr => k _ _ _ (gj.trans (Gr.new _ gj.c hr)) ⟨r, _, rfl, upd_same, ?_⟩⟩
    exact (AllP.rep (hal.m both_l) n).m (Ex.new (fresh_back gj.c hr))
theorem et_yes : EvT tYes σ B true := fun H1 _ _ q => q H1 (Ex.refl H1)
theorem p_lcM {g : TG} {tt : TT} {vs : List Nat} (h : EvP ta σ B (LqP K ps)) (hl : ps.length ≤ 100000) (res : Nat → Pr)
    (step : ∀ i p v B1, ps[i]? = some p → Ex B B1 → p.P v B1 → ∃ σ2, wipe σ2 vs = wipe σ vs ∧ (∀ H2 Q, Ex B1 H2 → Q σ2 H2 → g v (wipe σ vs) H2 Q) ∧ EvT tt σ2 B1 true ∧ EvP te σ2 B1 (res i)) :
    EvP (tLc (iList K ta) g tt te vs) σ B (LsP ((List.range ps.length).map res)) := by
  have := p_lc h hl (fun _ => true) res fun i p v B1 hp e pv => by
    obtain ⟨σ2, a, b, c, d⟩ := step i p v B1 hp e pv
    exact ⟨σ2, a, b, c, fun _ => d⟩
  rw [List.filter_eq_self.mpr (fun _ _ => rfl)] at this
  exact this
/-- a test whose answer is known -/
theorem ps_ifF {t : TT} {tu tw : TS} (a : Ex B H) (h : EvT t σ B false) (k : ∀ H1, Ex H H1 → tw D σ H1) : tIfS t tu tw D σ H := h H a _ fun H1 e => by
  rw [if_neg Bool.false_ne_true]
  exact k H1 e
theorem ps_ifT {t : TT} {tu tw : TS} (a : Ex B H) (h : EvT t σ B true) (k : ∀ H1, Ex H H1 → tu D σ H1) : tIfS t tu tw D σ H := h H a _ fun H1 e => by
  rw [if_pos rfl]
  exact k H1 e
theorem et_ne {d : PyData} (ha : EvP ta σ B (IsD K d)) (hb : EvP tb σ B (IsD K d)) (hd : SeqAt.shaped d = true) : EvT (tTest (tOp (rNeD K) ta tb)) σ B false :=
  et_is (et_test (ev_neD ha hb hd hd)) (by rw [SeqAt.eqv_refl d (Bool.and_eq_true_iff.mp hd).1]; rfl)
theorem ev_notN (h : EvP ta σ B (IsV .non)) : Ev (tOp (fun x y H Q => y = V.non ∧ Q (.bl (!decide (x = V.non))) H) ta (tC .non)) σ B (.bl false) := fun H1 a Q k =>
  h H1 a _ fun v B2 H2 g b => by
    obtain rfl : v = V.non := b
    exact ⟨rfl, k H2 g.a⟩
end
end My
namespace My
set_option autoImplicit false
open PySem PySem.Spec PySem.W PyProof.Rows L2 Evl NdefX LamX
/-- an address of ours that nothing else speaks of -/
structure Fre (X : Cx) (pins : List (Addr × Obj)) (a : Addr) : Prop where
  base : X.s_0.heap.objs.size ≤ a
  loc : a ≠ X.env.locals
  cel : ∀ y c, X.env.cells.lookup y = some c → c ≠ a
  pin : ∀ p ∈ X.pn ++ pins, p.1 ≠ a
  fs : a ∉ X.fs
section
variable {X : Cx} {pins : List (Addr × Obj)} {σ : L2.St} {H : Hp} {s : Shared} {a b : Addr}
theorem Fre.of (I : Inv X pins σ H s) (h : s.heap.objs.size ≤ a) : Fre X pins a := by
  have no : ∀ c : Addr, c < s.heap.objs.size → c ≠ a := fun c hc z => by
    rw [z] at hc
    exact Nat.lt_irrefl _ (Nat.lt_of_lt_of_le hc h)
  refine ⟨Nat.le_trans I.sz h, (no _ I.lt).symm, fun y c e => ?_, fun p hp => ?_, I.nofs h⟩
  · obtain ⟨v, o, ho, _⟩ := I.cell y c e
    exact no c (Heap.lt_size ho)
  · exact no p.1 (Heap.lt_size (I.pin p hp).1)
theorem Fre.more (f : Fre X pins a) {o : Obj} (h : b ≠ a) : Fre X ((b, o) :: pins) a :=
  ⟨f.base, f.loc, f.cel, fun p hp => (List.mem_append.mp hp).elim (fun z => f.pin p (List.mem_append_left _ z)) fun z => by
    rcases List.mem_cons.mp z with rfl | z
    · exact h
    · exact f.pin p (List.mem_append_right _ z), f.fs⟩
/-- fewer pins -/
theorem unpin {p : Addr × Obj} (I : Inv X (p :: pins) σ H s) : Inv X pins σ H s := I.pins_of fun q hq => I.pin q (List.mem_append_right _ (List.mem_cons_of_mem _ hq))
theorem repin {o : Obj} (I : Inv X pins σ H s) (f : Fre X pins a) (ho : s.heap.get? a = some o) (hn : H a = none) (hd : ∀ v, o.data ≠ .cell v) : Inv X ((a, o) :: pins) σ H s := I.pins_of fun q hq => by
  rcases List.mem_cons.mp hq with rfl | hq
  · exact ⟨ho, hn, f.loc, f.fs, hd⟩
  · exact I.pin q (List.mem_append_right _ hq)
/-- two objects that are not known of, written; one may be known from now on -/
theorem free2 {h' : Heap} {t' : Nat} {ys : List V} (I : Inv X pins σ H s) (fa : Fre X pins a) (fb : Fre X pins b) (na : H a = none) (nb : H b = none)
    (k : ∀ c o, c ≠ a → c ≠ b → s.heap.get? c = some o → h'.get? c = some o) (new : ys.length ≤ sizeLine ∧ ∃ (its : List Value) (n : Nat), Vals ys its ∧ h'.get? a = some { cls := .type "list", data := .seq its.toArray n }) :
    Inv X pins σ (upd H a (.lst ys)) { s with heap := h', toks := t' } := by
  have ne : ∀ c u, H c = some u → c ≠ a := fun c u e => ne_of_none e na
  have neb : ∀ c u, H c = some u → c ≠ b := fun c u e => ne_of_none e nb
  have up : ∀ c u, H c = some u → upd H a (.lst ys) c = some u := fun c u e => by rw [upd_ne (ne c u e)]; exact e
  have out : ∀ c, c ∉ [a, b] → c ≠ a ∧ c ≠ b := fun c hc => ⟨fun z => hc (by simp [z]), fun z => hc (by simp [z])⟩
  refine I.step (g' := s.gens) (d' := s.drawn) (ch := [a, b]) (fun c hc => ?_) (fun c o _ _ hc e _ => k c o (out c hc).1 (out c hc).2 e) (fun c o _ _ hc e _ => ⟨o.slots, k c o (out c hc).1 (out c hc).2 e⟩) (fun c o hc _ n => ?_)
    (fun c o hc e => ⟨o, k c o (out c hc).1 (out c hc).2 e⟩) (fun c xs e => up _ _ e) (fun c o u e => up _ _ e) (fun c ps e => ⟨#[], by rw [up _ _ e]; simp⟩) (fun m hn => ?_) (fun c u e => ?_) I.bare
  · rcases List.mem_cons.mp hc with rfl | hc
    · exact ⟨.inr fa.base, fa.loc, fa.cel, fa.pin⟩
    · obtain rfl := List.mem_singleton.mp hc
      exact ⟨.inr fb.base, fb.loc, fb.cel, fb.pin⟩
  · rw [upd_ne (out c hc).1]
    exact n
  · obtain ⟨ob, es, ep, ho, r⟩ := hn
    exact ⟨ob, es, ep, k _ ob fa.loc.symm fb.loc.symm ho, r⟩
  · by_cases hc : c = a
    · subst hc
      rw [upd_same] at e
      cases e
      exact new
    · rw [upd_ne hc] at e
      refine (I.hok c u e).stay (fun d v hd q => ?_) (fun d q => up _ _ q) fun d xs q => up _ _ q
      rcases hd with rfl | z
      · exact k _ v (ne _ _ e) (neb _ _ e) q
      · exact k _ v (ne _ _ z) (neb _ _ z) q
/-- one pinned object, written -/
theorem pinSet {o o' : Obj} {h' : Heap} {t' : Nat} (I : Inv X ((a, o) :: pins) σ H s) (fa : Fre X pins a) (k : ∀ c o, c ≠ a → s.heap.get? c = some o → h'.get? c = some o) (ha : h'.get? a = some o') (hd : ∀ v, o'.data ≠ .cell v) :
    Inv X ((a, o') :: pins) σ H { s with heap := h', toks := t' } := by
  have na : H a = none := (I.pin (a, o) (List.mem_append_right _ List.mem_cons_self)).2.1
  have ne : ∀ c u, H c = some u → c ≠ a := fun c u e => ne_of_none e na
  have out : ∀ c, c ∉ [a] → c ≠ a := fun c hc z => hc (by simp [z])
  have J := (unpin I).step (h' := h') (H' := H) (g' := s.gens) (d' := s.drawn) (t' := t') (ch := [a]) (fun c hc => by
      obtain rfl := List.mem_singleton.mp hc
      exact ⟨.inr fa.base, fa.loc, fa.cel, fa.pin⟩) (fun c o _ _ hc e _ => k c o (out c hc) e) (fun c o _ _ hc e _ => ⟨o.slots, k c o (out c hc) e⟩) (fun c o hc _ n => n)
    (fun c o hc e => ⟨o, k c o (out c hc) e⟩) (fun c xs e => e) (fun c o u e => e) (fun c ps e => ⟨#[], by rw [e]; simp⟩) (fun m hn => by
      obtain ⟨ob, es, ep, ho, r⟩ := hn
      exact ⟨ob, es, ep, k _ ob fa.loc.symm ho, r⟩) (fun c u e => by
      refine (I.hok c u e).stay (fun d v hd q => ?_) (fun d q => q) fun d xs q => q
      rcases hd with rfl | z
      · exact k _ v (ne _ _ e) q
      · exact k _ v (ne _ _ z) q) I.bare
  exact repin J fa ha na hd
/-- a lambda of one parameter is called -/
theorem lam_call {A : Around} {F : NF} {body : Expr} {x0 : Str} {N fr : List Str} {f : Addr} {pm ctv : Value} {tb : TE} {k : Nat} {u : Value} {x : V} {js : List Nat} {Q : VK} {E' : Value → Shared → Prop}
    (I : Inv X pins σ H s) (S : NScope N [x0] fr F.scope) (hA : A.frames = some X.stack) (hr : Room (k + 1) A) (hf : s.heap.get? f = some (kla_obj F.name F.qual F.params body F.scope F.cl pm F.c ctv)) (hc : H F.c = some (CodeO F.c F.qual))
    (hbind : bindArgs (kla_fn F.name F.qual F.params body F.scope F.cl pm (.ref F.c) ctv) ⟨[u], []⟩ = pure [(x0, u)]) (cp : Caps X F.cl fr js) (r : RelV x u)
    (hbody : ∀ (s0 : Shared) (H0 : Hp), Room k (A.deeper (envF F f s0.heap.objs.size)) → PE (ncx C8.CX0 X.prog X.w X.K X.mg X.base N F f A X.stack s0 H0 C8.E0) body tb)
    (q : tb (startF N [x] (js.map (slotAt σ))) H Q) : wpAny (model X.prog X.w) A (call (.ref f) [u]) (EP X pins σ Q) E' s := by
  have e0 : Env0 X.prog X.w X.K X.mg X.base A X.stack s H := ⟨hA, I.ok.mod, I.bs, Nat.le_trans I.ok.bsz I.sz, I.stack, I.stkFree, I.hok, I.bare⟩
  have rc : codeAny (model X.prog X.w) A (.call (.ref f) ⟨[u], []⟩) (CR C8.CX0 X.stack X.prog X.w H s Q C8.E0) s := by
    refine kla_callFunE hr.depth hf rfl S.co S.gen rfl (codeO_at I.hok hc) ?_
    rw [hbind]
    refine wpAny_pure (wpAny_newFunctionEnv S.nocell (fun y hy => by
      obtain rfl := List.mem_singleton.mp hy
      exact S.par x0 List.mem_cons_self) (fun h1 hns hsb => ⟨I.nolimit.fresh _ hsb, ?_⟩) S.kind)
    show codeAny _ _ (.expr body (envF F f s.heap.objs.size)) _ _
    have kp : ∀ b o, s.heap.get? b = some o → h1.get? b = some o := fun b o e => hsb.extBut b o (Nat.ne_of_lt (Heap.lt_size e)) (Heap.get?_push_of_some _ e)
    have J : Inv (ncx C8.CX0 X.prog X.w X.K X.mg X.base N F f A X.stack s H C8.E0) [] (startF N [x] (js.map (slotAt σ))) H { s with heap := h1, toks := s.toks + [(x0, u)].length } :=
      inv_startN (us := [u]) S hr.hd e0 rfl (.cons r .nil) (cells_of I cp) hns kp
    refine kla_codeExpr (wpAny_mono ((hbody s H (hr.deeper _)).run [] _ _ H Q J q) (fun v s1 hq => ?_) fun e s1 hq => hq)
    obtain ⟨w', H', J', rv, qq⟩ := hq
    exact ⟨w', H', J'.os, J'.bare, J'.base, J'.hok, rv, qq⟩
  refine wpAny_call (codeAny_mono rc fun r s2 hq => ?_)
  cases r with
  | error e => exact (show False from hq).elim
  | ok fl =>
    cases fl with
    | ret u => exact I.after hq
    | next => exact False.elim hq
    | brk => exact False.elim hq
    | cont => exact False.elim hq
end
end My
namespace My
set_option autoImplicit false
open PySem PySem.Spec PySem.W PySem.Calls PyProof.Rows L2 Evl NdefX LamX
theorem dpAll_len {K : PySem.W.Frag} {H : Hp} : ∀ {vs : List V} {ds : List PyData}, DpAll K H vs ds → vs.length = ds.length
  | [], [], _ => rfl
  | _ :: _, _ :: _, .cons _ b => congrArg Nat.succ (dpAll_len b)
theorem dpAll_get {K : PySem.W.Frag} {H : Hp} : ∀ {vs : List V} {ds : List PyData} {i : Nat} {d : PyData}, DpAll K H vs ds → ds[i]? = some d → ∃ v, vs[i]? = some v ∧ Dp K H v d
  | [], [], i, d, _, h => by simp at h
  | v :: _, e :: _, 0, d, .cons a _, h => by
    obtain rfl : e = d := Option.some.inj h
    exact ⟨v, rfl, a⟩
  | _ :: _, _ :: _, i + 1, d, .cons _ b, h => dpAll_get (i := i) b h
theorem dpAll_app {K : PySem.W.Frag} {H : Hp} : ∀ {vs ws : List V} {ds es : List PyData}, DpAll K H vs ds → DpAll K H ws es → DpAll K H (vs ++ ws) (ds ++ es)
  | [], _, [], _, _, h => h
  | _ :: _, _, _ :: _, _, .cons a b, h => .cons a (dpAll_app b h)
theorem vals_app {vs ws : List V} {us zs : List Value} (a : Vals vs us) (b : Vals ws zs) : Vals (vs ++ ws) (us ++ zs) := by
  induction a with
  | nil => exact b
  | cons r _ ih => exact .cons r ih
/-- the items, each with its key, in order, equal ones as they stood: the items alone -/
def byKey (xs : List V) (ks : List PyData) : List V := ((xs.zip ks).mergeSort (dataLe false (·.2))).map (·.1)
theorem vals_each {h : Heap} : ∀ {xs : List V} {us : List Value} {ks : List PyData}, Vals xs us → ks.length = xs.length → EachIs (fun (u : Value) (p : V × PyData) => RelV p.1 u) us (xs.zip ks)
  | [], [], ks, _, h => by
    obtain rfl := List.length_eq_zero_iff.mp h
    exact .nil
  | _ :: _, _ :: _, [], _, h => by simp at h
  | _ :: _, _ :: _, _ :: _, .cons r t, h => .cons r (vals_each (h := ‹Heap›) t (by simpa using h))
theorem each_vals : ∀ {us : List Value} {ps : List (V × PyData)}, EachIs (fun (u : Value) (p : V × PyData) => RelV p.1 u) us ps → Vals (ps.map (·.1)) us
  | _, _, .nil => .nil
  | _, _, .cons r t => .cons r (each_vals t)
theorem zip_snd {α β : Type} : ∀ {xs : List α} {ks : List β}, ks.length = xs.length → (xs.zip ks).map (·.2) = ks
  | [], ks, h => by
    obtain rfl := List.length_eq_zero_iff.mp h
    rfl
  | _ :: _, [], h => by simp at h
  | _ :: _, k :: _, h => congrArg (k :: ·) (zip_snd (by simpa using h))
theorem dps_each {X : Cx} {pins : List (Addr × Obj)} {σ : L2.St} {H : Hp} {s : Shared} (I : Inv X pins σ H s) : ∀ {vs : List V} {us : List Value} {ds : List PyData}, Vals vs us → DpAll X.K H vs ds → EachIs (fun u d => ∃ as, Reads s.heap u d as) us ds
  | [], [], [], _, _ => .nil
  | _ :: _, _ :: _, _ :: _, .cons r t, .cons a b => .cons (Dp.reads I _ _ _ a r) (dps_each I t b)
/-- f, called for x while the heap is at least H0, gives k -/
def KeyRun (X : Cx) (σ : L2.St) (A : Around) (f : Addr) (fo : Obj) (H0 : Hp) (x : V) (k : PyData) : Prop := ∀ (pins : List (Addr × Obj)) (s : Shared) (H : Hp) (u : Value) (E : Value → Shared → Prop),
  Inv X pins σ H s → (f, fo) ∈ pins → Ex H0 H → RelV x u → wpAny (model X.prog X.w) A (call (.ref f) [u]) (EP X pins σ fun v H' => Ex H H' ∧ Dp X.K H' v k) E s
section
variable {X : Cx} {pins : List (Addr × Obj)} {σ : L2.St} {H : Hp} {s : Shared} {A : Around} {f : Addr} {fo : Obj} {xs : List V} {ks : List PyData} {E : Value → Shared → Prop}
/-- the keys are made, one behind the other, then all is sorted -/
theorem rest_inv {a kS : Addr} {vs : List Value} {e1 : Nat} {Q : VK} (I : Inv X ((kS, seqObj "list" #[] 0) :: (a, seqObj "list" #[] e1) :: pins) σ H s) (hf : (f, fo) ∈ pins) (fa : Fre X pins a) (fk : Fre X pins kS) (hka : kS ≠ a)
    (hv : Vals xs vs) (hl : ks.length = xs.length) (hZ : xs.length ≤ sizeLine) (hal : AllAlike ks) (hsk : Sortable ks) (hu : ∀ d, d ∈ ks → A.units + d.depth < cLine)
    (key : ∀ (i : Nat) (x : V) (k : PyData), xs[i]? = some x → ks[i]? = some k → KeyRun X σ A f fo H x k)
    (q : ∀ H', Ex H H' → H' a = none → Q (.ref a) (upd H' a (.lst (byKey xs ks)))) :
    wpAny (model X.prog X.w) A (ksk_rest a (.ref f) false vs.toArray e1 (.ref kS)) (fun fin s' => fin = .done (.ret .none) ∧ EP X pins σ Q (.ref a) s') E s := by
  have hvl := hv.length
  have hks : ∀ z : Value, ∀ v, (seqObj "list" #[z] 0 : Obj).data ≠ .cell v := fun z v h => nomatch h
  have one : ∀ {i : Nat} {u : Value}, vs[i]? = some u → ∃ x k, xs[i]? = some x ∧ ks[i]? = some k ∧ RelV x u := fun {i u} hu => by
    have hi : i < vs.length := (List.getElem?_eq_some_iff.mp hu).1
    have e1 : xs[i]? = some xs[i] := List.getElem?_eq_getElem (by omega)
    have e2 : ks[i]? = some ks[i] := List.getElem?_eq_getElem (by omega)
    obtain ⟨w, hw, r⟩ := hv.get e1
    rw [hu] at hw
    obtain rfl := Option.some.inj hw
    exact ⟨_, _, e1, e2, r⟩
  unfold ksk_rest
  apply wpAny_bind
  apply wpAny_rule
  first
    | rw [List.forIn_toArray]
    | (rw [← Array.forIn_toList]; simp only [List.toList_toArray])
  apply wpAny_bind
  refine ksk_fold (fun i s' => ∃ (H' : Hp) (kA : Array Value) (n : Nat) (kvs : List V), Inv X ((kS, seqObj "list" kA n) :: (a, seqObj "list" #[] e1) :: pins) σ H' s' ∧ Ex H H' ∧ Vals kvs kA.toList ∧ DpAll X.K H' kvs (ks.take i)) vs 0 s
    ⟨H, #[], 0, [], I, Ex.refl H, .nil, by rw [List.take_zero]; exact .nil⟩ ?_ ?_
  · rintro j u s1 hj ⟨H1, kA, n, kvs, I1, x1, r1, d1⟩
    simp only [Nat.zero_add] at d1 ⊢
    obtain ⟨x, k, hx, hk, rx⟩ := one hj
    have jl : j < vs.length := (List.getElem?_eq_some_iff.mp hj).1
    have kz : kA.size ≤ sizeLine := by
      have h1 := r1.length
      have h2 := dpAll_len d1
      have h3 : kA.toList.length = kA.size := by simp
      rw [List.length_take] at h2
      omega
    refine wpAny_bind (wpAny_attempt (wpAny_mono (key j x k hx hk _ s1 H1 u (fun _ _ => False) I1 (List.mem_cons_of_mem _ (List.mem_cons_of_mem _ hf)) x1 rx) (fun w s2 hw => ?_) fun _ _ z => z.elim))
    obtain ⟨v, H2, I2, rv, x2, dv⟩ := hw
    dsimp only
    have at1 := (I2.pin _ (List.mem_append_right _ List.mem_cons_self)).1
    obtain ⟨n2, at2⟩ : ∃ n2, (s2.heap.update kS (Obj.mapSeq (·.push w))).get? kS = some (seqObj "list" (kA.push w) n2) := ⟨_, get?_update_seq at1 (·.push w)⟩
    have sb := Heap.SameBut.update s2.heap kS (Obj.mapSeq (·.push w))
    refine wpAny_bind (listUpdate_at at1 rfl ?_ kz (by rw [Array.size_push]; omega))
    refine wpAny_pure ⟨rfl, H2, kA.push w, n2, kvs ++ [v], pinSet (t' := s2.toks) I2 (fk.more hka.symm) (fun c o hc e => (sb.2 c hc).trans e) at2 (fun v z => nomatch z), x1.trans x2, ?_, ?_⟩
    · have : (kA.push w).toList = kA.toList ++ [w] := by simp
      rw [this]
      exact vals_app r1 (.cons rv .nil)
    · rw [List.take_add_one, hk]
      exact dpAll_app (dps_m x2 d1) (.cons dv .nil)
  · rintro s1 ⟨H1, kA, n, kvs, I1, x1, r1, d1⟩
    have ek : ks.take (0 + vs.length) = ks := List.take_of_length_le (by omega)
    rw [ek] at d1
    have at1 := (I1.pin _ (List.mem_append_right _ List.mem_cons_self)).1
    have nk := (I1.pin _ (List.mem_append_right _ List.mem_cons_self)).2.1
    have at2 := (I1.pin _ (List.mem_append_right _ (List.mem_cons_of_mem _ List.mem_cons_self))).1
    have na := (I1.pin _ (List.mem_append_right _ (List.mem_cons_of_mem _ List.mem_cons_self))).2.1
    have ksz : kA.size = vs.length := by
      have h1 := r1.length
      have h2 := dpAll_len d1
      have h3 : kA.toList.length = kA.size := by simp
      omega
    have ev := dps_each I1 r1 d1
    obtain ⟨G, g1, g2⟩ := restrict s1.heap fun c => decide (c ≠ kS)
    have kp : KeepsBut a G s1.heap := fun c o _ e => by
      by_cases hc : c = kS
      · rw [hc, g2 kS (decide_eq_false fun z => z rfl)] at e
        cases e
      · rw [← g1 c (decide_eq_true hc)]
        exact e
    refine wpAny_bind (listItems_at at1 rfl ?_)
    refine keyH_end (κ := dataKind s1.heap ks) (h₁ := G) kp (g2 kS (decide_eq_false fun z => z rfl)) at1 at2 hka (SortsAt.data ev hal hsk hu) ksz (by omega) fun h3 tk3 c k3 n3 => ⟨rfl, ?_⟩
    have out : KeyedOut false ks vs (sortVals (dataKind s1.heap ks) false kA.toList vs) := ⟨s1.heap, kA.toList, hal, rfl, ev⟩
    have ez := zip_snd hl
    have o2 : EachIs (fun (u : Value) (p : V × PyData) => RelV p.1 u) (sortVals (dataKind s1.heap ks) false kA.toList vs) ((xs.zip ks).mergeSort (dataLe false (·.2))) :=
      keyedOut_each (·.2) (by rw [ez]; exact out) (vals_each (h := s.heap) hv hl)
    have rv := each_vals o2
    have vl : (byKey xs ks).length ≤ sizeLine := by
      show (((xs.zip ks).mergeSort (dataLe false (·.2))).map (·.1)).length ≤ _
      rw [List.length_map, List.length_mergeSort, List.length_zip]
      omega
    exact ⟨.ref a, _, free2 (b := kS) (t' := tk3) (unpin (unpin I1)) fa fk na nk (fun d o h1 h2 e => k3 d o h1 (by rw [g1 d (decide_eq_true h2)]; exact e)) ⟨vl, _, c, rv, n3⟩, rfl, q H1 x1 na⟩
/-- the list at a, nobody's yet, is sorted by keys -/
theorem tree_inv {a : Addr} {vs : List Value} {n : Nat} {Q : VK} (I : Inv X pins σ H s) (hf : (f, fo) ∈ pins) (fa : Fre X pins a) (na : H a = none) (ha : s.heap.get? a = some (seqObj "list" vs.toArray n))
    (hv : Vals xs vs) (hl : ks.length = xs.length) (hZ : xs.length ≤ sizeLine) (hal : AllAlike ks) (hsk : Sortable ks) (hu : ∀ d, d ∈ ks → A.units + d.depth < cLine)
    (key : ∀ (i : Nat) (x : V) (k : PyData), xs[i]? = some x → ks[i]? = some k → KeyRun X σ A f fo H x k)
    (q : ∀ H', Ex H H' → H' a = none → Q (.ref a) (upd H' a (.lst (byKey xs ks)))) :
    wpAny (model X.prog X.w) A (ksk_tree a (.ref f) false) (fun fin s' => fin = .done (.ret .none) ∧ EP X pins σ Q (.ref a) s') E s := by
  have hvl := hv.length
  obtain ⟨e1, a1⟩ : ∃ e1, (s.heap.update a (Obj.mapSeq fun _ => (#[] : Array Value))).get? a = some (seqObj "list" #[] e1) := ⟨_, get?_update_seq ha fun _ => #[]⟩
  have sb := Heap.SameBut.update s.heap a (Obj.mapSeq fun _ => (#[] : Array Value))
  unfold ksk_tree
  refine wpAny_bind (listItems_at ha rfl ?_)
  refine wpAny_bind (listUpdate_at ha rfl ?_ (by rw [List.size_toArray]; omega) (Nat.zero_le _))
  refine wpAny_bind (seqEpoch_at a1 rfl ?_)
  refine wpAny_bind (wpAny_newTuple ?_ (by show vs.length ≤ _; omega))
  refine wpAny_bind (wpAny_newList ?_ (Nat.zero_le _))
  apply wpAny_holding
  have I0 : Inv X ((a, seqObj "list" #[] e1) :: pins) σ H { s with heap := s.heap.update a (Obj.mapSeq fun _ => (#[] : Array Value)), toks := s.toks } :=
    pinSet (repin I fa ha na fun v z => nomatch z) fa (fun c o hc e => (sb.2 c hc).trans e) a1 fun v z => nomatch z
  have I1 := I0.kept (t' := s.toks) (h' := ((s.heap.update a (Obj.mapSeq fun _ => (#[] : Array Value))).push (seqObj "tuple" vs.toArray 0))) (fun c o e => Heap.get?_push_of_some _ e)
  have hk : Fre X ((a, seqObj "list" #[] e1) :: pins) ((s.heap.update a (Obj.mapSeq fun _ => (#[] : Array Value))).push (seqObj "tuple" vs.toArray 0)).objs.size := Fre.of I1 (Nat.le_refl _)
  have I2 := I1.kept (t' := s.toks) (h' := (((s.heap.update a (Obj.mapSeq fun _ => (#[] : Array Value))).push (seqObj "tuple" vs.toArray 0)).push (seqObj "list" #[] 0))) (fun c o e => Heap.get?_push_of_some _ e)
  have I3 := repin I2 hk (Heap.get?_push_size _ rfl) (I1.hok.fresh (Nat.le_refl _)) (fun v z => nomatch z)
  exact rest_inv I3 hf fa ⟨hk.base, hk.loc, hk.cel, fun p hp => hk.pin p ((List.mem_append.mp hp).elim (List.mem_append_left _) fun z => List.mem_append_right _ (List.mem_cons_of_mem _ z)), hk.fs⟩
    (fun z => hk.pin (a, seqObj "list" #[] e1) (List.mem_append_right _ List.mem_cons_self) z.symm) hv hl hZ hal hsk hu key q
/-- sorted(xs, key=f) of a list -/
theorem sorted_list {l : Addr} {Q : VK} (I : Inv X pins σ H s) (hf : (f, fo) ∈ pins) (hs : SqL X.K H l xs) (hl : ks.length = xs.length) (hal : AllAlike ks) (hsk : Sortable ks) (hu : ∀ d, d ∈ ks → A.units + 2 + d.depth < cLine)
    (key : ∀ (i : Nat) (x : V) (k : PyData), xs[i]? = some x → ks[i]? = some k → KeyRun X σ A.in1.in1 f fo H x k)
    (q : ∀ H' a, Ex H H' → H' a = none → Q (.ref a) (upd H' a (.lst (byKey xs ks)))) :
    wpAny (model X.prog X.w) A (call (.builtin "sorted") [.ref l] [(Str.ofString "key", .ref f)]) (EP X pins σ Q) E s := by
  obtain ⟨vs, rv, pl, hz⟩ := I.list hs
  have hvl := rv.length
  refine sorted_of_sort pl.isList (by omega) (ksk_s1 _ _) (fun _ => ksk_l1 _ _) fun E' => ?_
  rw [ksk_t1]
  have I1 := I.kept (t' := s.toks) (h' := copyHeap s.heap vs) (fun c o e => copyHeap_old e)
  exact tree_inv (s := { s with heap := copyHeap s.heap vs, toks := s.toks }) I1 hf (Fre.of I (Nat.le_succ _)) (I.hok.fresh (Nat.le_succ _)) (copyHeap_at s.heap vs) rv hl hz hal hsk hu key fun H' x n => q H' _ x n
end
end My
namespace My
set_option autoImplicit false
open PySem PySem.Spec PySem.W PySem.Calls PyProof.Rows L2 Evl NdefX LamX
/-- what a list, or a dict by tuples, hands to whoever walks it -/
def SortSrc (K : PySem.W.Frag) (v : V) (H : Hp) (P : List V → Prop) : Prop := (∃ l xs, v = .ref l ∧ SqL K H l xs ∧ P xs) ∨
  ∃ d kvs, v = .ref d ∧ Rd H d (.dT kvs) ∧ ∀ as : List Addr, as.length = kvs.length → (∀ (i : Nat) (p : List Key × V), kvs[i]? = some p → ∃ a, as[i]? = some a ∧ H a = some (.tup (p.1.map kV))) → P (as.map V.ref)
theorem paired_get {α β : Type} {R : α → β → Prop} : ∀ {xs : List α} {ys : List β} {i : Nat} {x : α}, Paired R xs ys → xs[i]? = some x → ∃ y, ys[i]? = some y ∧ R x y
  | [], [], i, x, _, h => by simp at h
  | x :: _, y :: _, 0, z, .cons r _, h => by
    obtain rfl : x = z := Option.some.inj h
    exact ⟨y, rfl, r⟩
  | _ :: _, _ :: _, i + 1, z, .cons _ t, h => paired_get (i := i) t h
theorem paired_len {α β : Type} {R : α → β → Prop} : ∀ {xs : List α} {ys : List β}, Paired R xs ys → xs.length = ys.length
  | [], [], _ => rfl
  | _ :: _, _ :: _, .cons _ t => congrArg Nat.succ (paired_len t)
section
variable {X : Cx} {pins : List (Addr × Obj)} {σ : L2.St} {H : Hp} {s : Shared} {A : Around} {f : Addr} {fo : Obj} {E : Value → Shared → Prop}
theorem vals_refs : ∀ (as : List Addr), Vals (as.map V.ref) (as.map Value.ref)
  | [] => .nil
  | _ :: r => .cons rfl (vals_refs r)
/-- sorted(d, key=f) of a dict by tuples -/
theorem sorted_dict {d : Addr} {ks : List PyData} {as : List Addr} {Q : VK} (I : Inv X pins σ H s) (hf : (f, fo) ∈ pins) (hh : A.in1.handled = none) {o : Obj} {es : Array DictEntry} {ep : Nat} (lo : (d == sysModules) = false)
    (ho : s.heap.get? d = some o) (ex : o.ExactDict) (hd : o.data = .dict es ep) (hes : es.toList.map (·.key) = as.map Value.ref) (hz : as.length ≤ sizeLine)
    (hl : ks.length = as.length) (hal : AllAlike ks) (hsk : Sortable ks) (hu : ∀ d, d ∈ ks → A.units + 2 + d.depth < cLine)
    (key : ∀ (i : Nat) (x : V) (k : PyData), (as.map V.ref)[i]? = some x → ks[i]? = some k → KeyRun X σ A.in1.in1 f fo H x k)
    (q : ∀ H' a, Ex H H' → H' a = none → Q (.ref a) (upd H' a (.lst (byKey (as.map V.ref) ks)))) :
    wpAny (model X.prog X.w) A (call (.builtin "sorted") [.ref d] [(Str.ofString "key", .ref f)]) (EP X pins σ Q) E s := by
  have hsz : es.size = as.length := by
    have := congrArg List.length hes
    simpa using this
  refine call_function_entry_kw kind_sorted plain_sorted entry_sorted (ksk_s1 _ _) ?_
  unfold Builtin.«sorted»
  refine wpAny_bind (m := checkCount "sorted" 1 1 _) (wpAny_pure ?_)
  refine wpAny_bind (kdu_collect (A := A.in1) (KdlSrc.rawDict (es := es) (ep := ep) lo) hh ⟨o, ho, ex, hd⟩ (by omega) fun h1 tk acc hk hacc => ?_)
  have hA : acc.toList = as.map Value.ref := by
    apply List.ext_getElem?
    intro i
    by_cases hi : i < as.length
    · have hi2 : i < acc.size := by rw [hacc.1]; omega
      obtain ⟨hi3, e⟩ := hacc.2 i acc[i] (by rw [Array.getElem?_eq_getElem hi2])
      have e2 : (es.toList.map (·.key))[i]? = some es[i].key := by
        rw [List.getElem?_map, List.getElem?_eq_getElem (by simpa using hi3)]
        simp
      rw [← hes, e2, ← e]
      simp [hi2]
    · rw [List.getElem?_eq_none (by rw [Array.length_toList, hacc.1]; omega), List.getElem?_eq_none (by rw [List.length_map]; omega)]
  rw [hA]
  refine wpAny_bind (wpAny_newList ?_ (by rw [List.length_map]; exact hz))
  have I1 := I.kept (t' := tk) (h' := h1) hk
  have I2 := I1.kept (t' := tk) (h' := h1.push (seqObj "list" (as.map Value.ref).toArray 0)) (fun c o e => Heap.get?_push_of_some _ e)
  have at1 : (h1.push (seqObj "list" (as.map Value.ref).toArray 0)).get? h1.objs.size = some (seqObj "list" (as.map Value.ref).toArray 0) := Heap.get?_push_size _ rfl
  refine wpAny_bind (wpAny_holding (wpAny_call_entry_kw slot_list_sort ⟨_, at1, rfl⟩ entry_list_sort ?_ (ksk_l1 _ _)))
  rw [ksk_t1]
  refine wpAny_mono (tree_inv (A := A.in1.in1) (Q := Q) (E := E) I2 hf (Fre.of I1 (Nat.le_refl _)) (I1.hok.fresh (Nat.le_refl _)) at1 (vals_refs as) (by rw [List.length_map]; exact hl) (by rw [List.length_map]; exact hz) hal hsk hu key fun H' x n => q H' _ x n) (fun fin s1 hq => ?_) fun _ _ z => z
  obtain ⟨rfl, hq⟩ := hq
  exact ⟨_, rfl, wpAny_pure ⟨_, rfl, hq⟩⟩
end
/-- sorted(e, key=lambda a: body) -/
def tSortK (T : List (Addr × Str)) (K : PySem.W.Frag) (tl : TE) (N : List Str) (js : List Nat) (te : TE) : TE := fun σ H Q => te σ H fun v H1 => Tabs T H1 ∧ ∀ H2, ExtN H1 H2 → Tabs T H2 → SortSrc K v H2 fun xs =>
  ∃ ks, ks.length = xs.length ∧ AllAlike ks ∧ Sortable ks ∧ (∀ d, d ∈ ks → d.depth ≤ 50) ∧ (∀ (i : Nat) (x : V) (k : PyData), xs[i]? = some x → ks[i]? = some k → EvP tl (startF N [x] (js.map (slotAt σ))) H2 (IsD K k)) ∧
    ∀ H3 a, Ex H2 H3 → H3 a = none → Q (.ref a) (upd H3 a (.lst (byKey xs ks)))
theorem pe_sortK {X : Cx} {T : List (Addr × Str)} {te tl : TE} {e : Expr} {x0 : Str} {N fr : List Str} {js : List Nat} {c P : Addr} {params : Arguments} {body : Expr} {scope : Scope} {k : Nat} {p lpos kpos pos : Pos}
    (hg : Gl X "sorted") (hm : X.mg "sorted" = none) (he : PE X e te) (TB : TabB X.base X.mg c P) (hcode : X.env.code = .ref c) (hmT : (P, X.env.qual ++ "<lambda>") ∈ T) (hu : ∀ p ∈ T, p.1 = P → p.2 = X.env.qual ++ "<lambda>")
    (S : NScope N [x0] fr scope) (hfree : ∀ y ∈ scope.names, y.2 = .free → X.env.scope.names.lookup y.1 = some .cell ∨ X.env.scope.names.lookup y.1 = some .free) (hfr : ∀ y ∈ fr, (y, NameKind.free) ∈ scope.names) (hjs : js.map (fun j => X.N[j]?) = fr.map some)
    (hdef : defaultsOf params X.env = ([], [])) (hr : Room (k + 3) X.A)
    (hbind : ∀ (q : Str) (cl : List (Str × Addr)) (pm cv ctv u : Value), bindArgs (kla_fn "<lambda>" q params body scope cl pm cv ctv) ⟨[u], []⟩ = pure [(x0, u)])
    (hbody : ∀ (A : Around) (outer : List Env) (s0 : Shared) (H0 : Hp) (F : NF) (f : Addr), F.scope = scope → Room k (A.deeper (envF F f s0.heap.objs.size)) → PE (ncx C8.CX0 X.prog X.w X.K X.mg X.base N F f A outer s0 H0 C8.E0) body tl)
    (hs : starEach [e] X.env = (false, eval e X.env) :: starEach [] X.env := by rfl)
    (he1 : backTo pos (starEach [e] X.env) = (false, eval e X.env) :: backTo pos (starEach [] X.env) := by rfl) (hpl : (backTo pos (starEach [e] X.env)).any (·.1) = false := by rfl)
    (hall : (backToKw pos (keywordEach [⟨some "key", .Lambda params body scope lpos, kpos⟩] X.env)).all (·.1.isSome) = true := by rfl) (hnone : (backToKw pos (keywordEach [⟨some "key", .Lambda params body scope lpos, kpos⟩] X.env)).any (·.1.isNone) = false := by rfl)
    (hks : (backToKw pos (keywordEach [⟨some "key", .Lambda params body scope lpos, kpos⟩] X.env)).filterMap (·.1) = [Str.ofString "key"] := by rfl) :
    PE X (.Call (.Name "sorted" p) [e] [⟨some "key", .Lambda params body scope lpos, kpos⟩] pos) (tSortK T X.K tl N js te) := by
  refine ⟨fun pins s σ H Q I h => ?_⟩
  refine wpAny_Call_Name_kw (ld_blt I hg hm (u := .builtin "sorted") (by decide +kernel) ?_)
  refine PyProof.Rows.callWith_kw ?_ he1 hpl hall hnone
  rw [he1, hks]
  refine spliced_cons (thn (he.run pins s σ H _ I h) fun u s1 ⟨v, H1, I1, r1, q1⟩ => ?_)
  refine spliced_nil ?_
  obtain ⟨hT, q1⟩ := q1
  have hcl : ∀ y ∈ scope.names, y.2 = .free → ∃ c, X.env.cells.lookup y.1 = some c := fun y hy e => (hfree y hy e).elim (fun z => I.ok.has _ (.inl z)) fun z => I.ok.has _ (.inr z)
  show wpAny _ _ (evalAll [do let v ← eval (.Lambda params body scope lpos) X.env; standAt pos; pure v]) _ _ s1
  refine wpAny_evalAll_cons (wpAny_bind (lam_make2 I1 TB hcode hmT hu hT hdef hcl fun f c' pm ctv H2 s2 I2 eN T2 hf hfn hfs hco => wpAny_bind (wpAny_standAt (wpAny_pure (wpAny_evalAll_nil ?_)))))
  have nl : f ≠ X.env.locals := fun z => by
    obtain ⟨m, ⟨o, es, ep, ho, hd, _⟩, _⟩ := I2.loc
    rw [← z, hf] at ho
    rw [← Option.some.inj ho] at hd
    cases hd
  have nf : f ∉ X.fs := fun z => hfs (by
    rcases I.ok.stk with e | ⟨e, e2⟩
    · rw [e]
      exact z
    · rw [e]
      show f ∈ List.filterMap _ _
      rw [List.filterMap_cons, e2]
      exact List.mem_cons_of_mem _ z)
  obtain ⟨fo, hfo⟩ : ∃ fo : Obj, fo = kla_obj "<lambda>" (X.env.qual ++ "<lambda>") params body scope (cloFrom X.env.cells scope.names []) pm c' ctv := ⟨_, rfl⟩
  rw [← hfo] at hf
  have I3 : Inv X ((f, fo) :: pins) σ H2 s2 := I2.pins_of fun p hp => by
    rcases List.mem_cons.mp hp with rfl | hp
    · exact ⟨hf, hfn, nl, nf, fun v z => by rw [hfo] at z; cases z⟩
    · exact I2.pin p (List.mem_append_right _ hp)
  have key : ∀ (x : V) (kd : PyData), EvP tl (startF N [x] (js.map (slotAt σ))) H2 (IsD X.K kd) → KeyRun X σ X.A.in1.in1 f fo H2 x kd := fun x kd hev pins' s' H' u' E' I' hp eX r => by
    have hf' := (I'.pin _ (List.mem_append_right _ hp)).1
    rw [hfo] at hf'
    exact lam_call (F := ⟨"<lambda>", X.env.qual ++ "<lambda>", params, [], scope, cloFrom X.env.cells scope.names [], c'⟩) I' S I.ok.frames (show Room (k + 1) X.A.in1.in1 from hr.in1.in1) hf' (eX _ _ hco) (hbind _ _ _ _ _ _) (Caps.made I.ok hfree hfr hjs) r
      (fun s0 H0 hr' => hbody _ _ s0 H0 _ f rfl hr') (hev H' eX _ fun w B' H4 g pw => ⟨g.a, dp_m g.c pw⟩)
  have un := hr.un
  have dp : ∀ ks : List PyData, (∀ d, d ∈ ks → d.depth ≤ 50) → ∀ d, d ∈ ks → X.A.units + 2 + d.depth < cLine := fun ks h d hd => by
    have := h d hd
    omega
  have fin : ∀ {u : Value} {s' : Shared}, EP X ((f, fo) :: pins) σ Q u s' → EP X pins σ Q u s' := fun ⟨v, H', J, r, q⟩ => ⟨v, H', unpin J, r, q⟩
  rcases q1 H2 eN T2 with ⟨l, xs, rfl, hl, ks, a1, a2, a3, a4, a5, a6⟩ | ⟨d, kvs, rfl, hd, hq⟩
  · obtain rfl : u = Value.ref l := r1
    exact wpAny_mono (sorted_list (E := X.xe) I3 List.mem_cons_self hl a1 a2 a3 (dp ks a4) (fun i x kd e1 e2 => key x kd (a5 i x kd e1 e2)) fun H' a e n => a6 H' a e n) (fun _ _ z => fin z) fun _ _ z => z
  · obtain rfl : u = Value.ref d := r1
    have ok : ObjOk X.prog X.w H2 s2.heap d (.dT kvs) := by
      rcases hd with hd | ⟨o, hd⟩
      · exact I2.hok d _ hd
      · exact (I2.hok d _ hd).2
    obtain ⟨z, lo, xs, pr, o, es, ep, e1, e2, e3, e4, e5⟩ := ok
    have hlen := paired_len pr
    obtain ⟨ks, a1, a2, a3, a4, a5, a6⟩ := hq (xs.map (·.2.1)) (by rw [List.length_map]; exact hlen.symm) fun i p hp => by
      obtain ⟨y, hy, r⟩ := paired_get pr hp
      exact ⟨y.2.1, by rw [List.getElem?_map, hy]; rfl, by rw [← r.1] at *; exact r.2.1⟩
    exact wpAny_mono (sorted_dict (E := X.xe) I3 List.mem_cons_self (show X.A.in1.handled = none from hr.hd) lo e1 e2 e3 (as := xs.map (·.2.1)) (by rw [e4, List.map_map, List.map_map]; rfl) (by rw [List.length_map]; omega) (by rw [a1, List.length_map]) a2 a3 (dp ks a4) (fun i x kd e1 e2 => key x kd (a5 i x kd e1 e2)) fun H' a e n => a6 H' a e n) (fun _ _ z => fin z) fun _ _ z => z
end My
namespace My
set_option autoImplicit false
open PySem L2 Evl
/-- what a walk over this hands out: n things, the i-th of which P i is known -/
def Src (wi : TI) (σ : L2.St) (B : Hp) (n : Nat) (P : Nat → Pr) : Prop := ∀ H1, Ex B H1 → ∀ R : It → Hp → Prop, (∀ (J : It) (B' H2 : Hp) (G : Hp → Prop) (Y : Nat → Hp → V → Hp → Prop), Gr B H1 B' H2 → Walk J n G Y → (∀ H, Ex B' H → G H) →
  (∀ i H v H', i < n → Ex B' H → Y i H v H' → H' = H ∧ (P i).P v B') → R J H2) → wi σ H1 R
def DAt (K : PySem.W.Frag) (ds : List PyData) (i : Nat) : Pr := IsD K (ds.getD i .none)
section
variable {te ta tb : TE} {t tr : TA} {tt : TT} {σ : L2.St} {B B' H : Hp} {p q : Pr} {ps qs : List Pr} {v : V} {K : PySem.W.Frag} {D : Ends} {d e : PyData} {ds es : List PyData}
theorem dps_at : ∀ {vs : List V} {ds : List PyData} {i : Nat} {v : V}, DpAll K H vs ds → vs[i]? = some v → Dp K H v (ds.getD i .none)
  | [], [], i, v, _, h => by simp at h
  | w :: _, _ :: _, 0, v, .cons a _, h => by
    obtain rfl : w = v := Option.some.inj h
    exact a
  | _ :: _, _ :: _, i + 1, v, .cons _ b, h => dps_at (i := i) b h
theorem dps_len : ∀ {vs : List V} {ds : List PyData}, DpAll K H vs ds → vs.length = ds.length
  | [], [], _ => rfl
  | _ :: _, _ :: _, .cons _ b => congrArg Nat.succ (dps_len b)
theorem src_tup (h : EvP te σ B (IsD K (.tuple ds))) : Src (iTup K te) σ B ds.length (DAt K ds) := fun H1 a R k => h H1 a _ fun v B2 H2 g b => by
  cases b with
  | tup x y =>
    refine ⟨_, rfl, ⟨_, ex_t g.c x⟩, k _ B2 H2 _ _ g (by rw [← dps_len y]; exact walk_tup) (fun H e => ex_t e x) fun i H v H' _ e (z : H' = H ∧ _) => ⟨z.1, dps_at y z.2⟩⟩
theorem src_lst (h : EvP te σ B (IsD K (.list ds))) : Src (iList K te) σ B ds.length (DAt K ds) := fun H1 a R k => h H1 a _ fun v B2 H2 g b => by
  cases b with
  | lst x y =>
    refine ⟨_, rfl, ⟨_, ex_l g.c x⟩, k _ B2 H2 _ _ g (by rw [← dps_len y]; exact walk_list) (fun H e => ex_l e x) fun i H v H' _ e (z : H' = H ∧ _) => ⟨z.1, dps_at y z.2⟩⟩
def oneS (x : Str) (i : Nat) : Str := ⟨#[x.cps.getD i 0]⟩
theorem src_str {x : Str} (h : Ev te σ B (.str x)) : Src (iStr te) σ B x.cps.size (fun i => IsV (.str (oneS x i))) := fun H1 a R k => h H1 a _ fun H2 e =>
  ⟨x, rfl, k _ B H2 _ _ (Gr.wide a e) walk_str (fun _ _ => trivial) fun i H v H' hi _ z => by
    obtain ⟨z1, c, z2, rfl⟩ := z
    refine ⟨z1, ?_⟩
    show V.str ⟨#[c]⟩ = V.str (oneS x i)
    unfold oneS
    rw [Array.getD_eq_getD_getElem?, z2]
    rfl⟩
theorem src_rng {j : Nat} (h : EvPs t σ B [IsV (.int (j : Int))]) (hj : (j : Int) < 2 ^ 62) : Src (iRng1 t) σ B j (fun i => IsV (.int (i : Int))) := fun H1 a R k => h H1 a _ fun vs B2 H2 g b => by
  match vs, b with
  | [v], b =>
    obtain rfl : v = V.int j := b.1
    refine ⟨j, rfl, by omega, hj, ?_⟩
    rw [show ((j : Int)).toNat = j from rfl]
    refine k _ B2 H2 _ _ g walk_range (fun _ _ => trivial) fun i H v H' _ _ z => ⟨z.1, ?_⟩
    show v = V.int i
    rw [z.2]
    simp
/-- a comprehension over it, some items left out -/
theorem p_lcS {wi : TI} {n : Nat} {P : Nat → Pr} {g : TG} {vs : List Nat} (h : Src wi σ B n P) (hl : n ≤ 100000) (keep : Nat → Bool) (res : Nat → Pr)
    (step : ∀ i v B1, i < n → Ex B B1 → (P i).P v B1 → ∃ σ2, wipe σ2 vs = wipe σ vs ∧ (∀ H2 Q, Ex B1 H2 → Q σ2 H2 → g v (wipe σ vs) H2 Q) ∧ EvT tt σ2 B1 (keep i) ∧ (keep i = true → EvP te σ2 B1 (res i))) :
    EvP (tLc wi g tt te vs) σ B (LsP (((List.range n).filter keep).map res)) := fun H1 a Q k =>
  h H1 a _ fun J B2 H2 G Y gr w hG hY Dd hD => by
    refine lc_it w (fun i H3 => ∃ B3 acc, Gr B2 H2 B3 (wo Dd H3) ∧ H3 Dd = some (.lst acc) ∧ AllP (((List.range i).filter keep).map res) acc B3) ?_ ?_ ?_ ?_
    · exact ⟨B2, [], by rw [wo_new hD]; exact Gr.refl gr.c, upd_same, trivial⟩
    · rintro i H3 _ ⟨B3, acc, g3, _, _⟩
      exact hG H3 (g3.b.trans (g3.c.trans wo_ex))
    · rintro i v H3 H3' hi ⟨B3, acc, g3, hDd, hacc⟩ hy
      have exB : Ex B3 H3 := g3.c.trans wo_ex
      obtain ⟨rfl, pv⟩ := hY i H3 v H3' hi (g3.b.trans exB) hy
      have some3 : H3' Dd ≠ none := by
        rw [hDd]
        exact fun z => nomatch z
      obtain ⟨σ2, hw, hg, ht, he⟩ := step i v B3 hi (gr.b.trans g3.b) ((P i).m g3.b pv)
      refine hg H3' _ exB ⟨hw, ht H3' exB _ fun H4 e4 => ?_⟩
      have hD4 := e4 _ _ hDd
      have g4 : Gr B2 H2 B3 (wo Dd H4) := g3.side some3 (Gr.wide exB e4)
      have some4 : H4 Dd ≠ none := has e4 some3
      cases hk : keep i with
      | true =>
        rw [if_pos rfl]
        refine he hk H4 (exB.trans e4) _ fun y B5 H5 g5 hy => ?_
        have la : acc.length ≤ i := by
          rw [hacc.len, List.length_map]
          exact Nat.le_trans (List.length_filter_le _ _) (by rw [List.length_range]; exact Nat.le_refl _)
        refine ⟨acc, g5.a _ _ hD4, sz_lt (by omega), B5, acc ++ [y], by rw [wo_upd]; exact g4.side some4 g5, upd_same, ?_⟩
        rw [List.range_succ, List.filter_append, List.map_append]
        refine (hacc.m g5.b).app ?_
        have : List.filter keep [i] = [i] := by simp [hk]
        rw [this]
        exact ⟨hy, trivial⟩
      | false =>
        rw [if_neg Bool.false_ne_true]
        refine ⟨B3, acc, g4, hD4, ?_⟩
        rw [List.range_succ, List.filter_append, List.map_append]
        have : List.filter keep [i] = [] := by simp [hk]
        rw [this, List.map_nil, List.append_nil]
        exact hacc
    · rintro H3 ⟨B3, acc, g3, hDd, hacc⟩
      have hB3 : B3 Dd = none := wo_none g3.c
      refine k (.ref Dd) (upd B3 Dd (.lst acc)) H3 ⟨gr.a.trans (g3.a.trans wo_ex), gr.b.trans (g3.b.trans (Ex.new hB3)), fun b o e => ?_, fun x hb hh => ?_, fun z b ps q => ?_⟩ ⟨Dd, acc, rfl, upd_same, hacc.m (Ex.new hB3)⟩
      · by_cases n : b = Dd
        · subst n
          rw [upd_same] at e
          rw [hDd]
          exact e
        · rw [upd_ne n] at e
          exact g3.c.trans wo_ex _ _ e
      · have n : x ≠ Dd := fun z => by
          subst z
          exact has gr.a hh hD
        rw [upd_ne n]
        exact g3.d x (gr.d x hb hh) (has gr.a hh)
      · by_cases n : b = Dd
        · subst n
          rw [upd_same] at q
          cases q
        · rw [upd_ne n] at q
          exact g3.e (gr.e z) b ps q
/-- all items kept -/
theorem p_lcA {wi : TI} {n : Nat} {P : Nat → Pr} {g : TG} {vs : List Nat} (h : Src wi σ B n P) (hl : n ≤ 100000) (res : Nat → PyData)
    (step : ∀ i v B1, i < n → Ex B B1 → (P i).P v B1 → ∃ σ2, wipe σ2 vs = wipe σ vs ∧ (∀ H2 Q, Ex B1 H2 → Q σ2 H2 → g v (wipe σ vs) H2 Q) ∧ EvP te σ2 B1 (IsD K (res i))) :
    EvP (tLc wi g tYes te vs) σ B (IsD K (.list ((List.range n).map res))) := by
  have := p_lcS (tt := tYes) (te := te) h hl (fun _ => true) (fun i => IsD K (res i)) fun i v B1 hi e pv => by
    obtain ⟨σ2, a, b, c⟩ := step i v B1 hi e pv
    exact ⟨σ2, a, b, et_yes, fun _ => c⟩
  rw [List.filter_eq_self.mpr (fun _ _ => rfl)] at this
  refine d_lst (K := K) ?_
  rw [List.map_map]
  exact this
/-! ### data -/
theorem ev_bl {b : Bool} (h : EvP te σ B (IsD K (.bool b))) : Ev te σ B (.bl b) := ev_p (h.imp fun v B1 _ x => by cases x; rfl)
theorem ev_in {i : Int} (h : EvP te σ B (IsD K (.int i))) : Ev te σ B (.int i) := ev_p (h.imp fun v B1 _ x => by cases x; rfl)
theorem ev_st {x : Str} (h : EvP te σ B (IsD K (.str x))) : Ev te σ B (.str x) := ev_p (h.imp fun v B1 _ x => by cases x; rfl)
theorem ed_bl {b : Bool} (h : Ev te σ B (.bl b)) : EvP te σ B (IsD K (.bool b)) := d_bl (p_ev h)
theorem ed_in {i : Int} (h : Ev te σ B (.int i)) : EvP te σ B (IsD K (.int i)) := d_int (p_ev h)
theorem ed_st {x : Str} (h : Ev te σ B (.str x)) : EvP te σ B (IsD K (.str x)) := d_str (p_ev h)
theorem ed_var {i : Nat} (h : σ[i]? = some (some v)) (hd : Dp K B v d) : EvP (tVar i) σ B (IsD K d) := p_var h hd
theorem ed_ref {a : Addr} (hd : Dp K B (.ref a) d) : EvP (tC (.ref a)) σ B (IsD K d) := fun H1 e _ k => k _ B H1 (Gr.refl e) hd
/-- the class of data -/
def tyS : PyData → String
  | .none => "NoneType"
  | .bool _ => "bool"
  | .int _ => "int"
  | .str _ => "str"
  | .list _ => "list"
  | .tuple _ => "tuple"
  | .dict _ => "dict"
theorem ty_d (h : Dp K H v d) : TyX K H v (.type (tyS d)) := by
  cases h with
  | non => exact .base .non
  | bl b => exact .base (.bl b)
  | int i => exact .base (.int i)
  | str x => exact .base (.str x)
  | lst a b =>
    rcases a with (a | ⟨o, a⟩) | ⟨o, its, n, hk, hc, _⟩
    · exact .base (.lst a)
    · exact .base (.frz a)
    · exact .kList hk hc
  | tup a b =>
    rcases a with (a | ⟨o, a⟩) | ⟨o, its, n, hk, hc, _⟩
    · exact .base (.tup a)
    · exact .fTuple a
    · exact .kTuple hk hc
theorem ev_isi {T : String} {b : Bool} (h : EvP te σ B (IsD K d)) (hk : kitB (tyS d) T = some b) : Ev (tCB (rIsi K) (tCons te (tCons (tC (.ty T)) tNil))) σ B (.bl b) := fun H1 a Q k =>
  h H1 a _ fun v B2 H2 g x => ⟨v, .ty T, .type (tyS d), .type T, b, rfl, .ty T, ty_d (dp_m g.c x), kit_ty hk, k H2 g.a⟩
theorem ev_lenD {es : List PyData} (h : EvP te σ B (IsD K d)) (hd : d = .tuple es ∨ d = .list es) : Ev (tCB (rLenS K) (tCons te tNil)) σ B (.int (es.length : Int)) := fun H1 a Q k =>
  h H1 a _ fun v B2 H2 g x => by
    rcases hd with rfl | rfl
    · cases x with
      | tup y z =>
        refine ⟨_, _, rfl, .inr (ex_t g.c y), ?_⟩
        rw [dps_len z]
        exact k H2 g.a
    · cases x with
      | lst y z =>
        refine ⟨_, _, rfl, .inl (ex_l g.c y), ?_⟩
        rw [dps_len z]
        exact k H2 g.a
theorem dps_strs : ∀ {vs : List V} {ys : List Str}, DpAll K H vs (ys.map .str) → vs = ys.map .str
  | [], [], _ => rfl
  | _ :: _, _ :: _, .cons a b => by
    cases a
    rw [dps_strs b]
    rfl
theorem dps_ints : ∀ {vs : List V} {ns : List Int}, DpAll K H vs (ns.map .int) → vs = ns.map .int
  | [], [], _ => rfl
  | _ :: _, _ :: _, .cons a b => by
    cases a
    rw [dps_ints b]
    rfl
theorem dps_bls : ∀ {vs : List V} {bs : List Bool}, DpAll K H vs (bs.map .bool) → vs = bs.map .bl
  | [], [], _ => rfl
  | _ :: _, _ :: _, .cons a b => by
    cases a
    rw [dps_bls b]
    rfl
theorem inV_strs (x : Str) : ∀ ys : List Str, inV (.str x) (ys.map .str) = decide (x ∈ ys)
  | [] => rfl
  | y :: ys => by
    have ih := inV_strs x ys
    unfold inV at ih ⊢
    rw [List.map_cons, List.any_cons, ih]
    by_cases e : y = x
    · subst e
      simp [eqV]
    · have : eqV (V.str y) (V.str x) = false := by
        simp [eqV]
        exact e
      rw [this]
      simp [e, Ne.symm e, eq_comm]
theorem flat_strs (ys : List Str) : (ys.map V.str).all flatV = true := by
  rw [List.all_map, List.all_eq_true]
  intro _ _
  rfl
theorem ev_inT {x : Str} {ys : List Str} {neg : Bool} (ha : Ev ta σ B (.str x)) (hb : EvP tb σ B (IsD K (.tuple (ys.map .str)))) : Ev (tOp (rIn K neg) ta tb) σ B (.bl (if neg then !decide (x ∈ ys) else decide (x ∈ ys))) := fun H1 a Q k =>
  ha H1 a _ fun H2 e => hb H2 (a.trans e) _ fun v B2 H3 g z => by
    cases z with
    | tup y z =>
      have := dps_strs z
      subst this
      refine ⟨_, _, rfl, .inr (ex_t g.c y), rfl, flat_strs ys, ?_⟩
      rw [inV_strs]
      exact k H3 (e.trans g.a)
theorem ev_ltT {ns ms : List Int} (ha : EvP ta σ B (IsD K (.tuple (ns.map .int)))) (hb : EvP tb σ B (IsD K (.tuple (ms.map .int)))) : Ev (tOp (rLtT K) ta tb) σ B (.bl (HT.lexLt ns ms)) := fun H1 a Q k =>
  ha H1 a _ fun v B2 H2 g x => hb H2 (g.b.trans g.c) _ fun w B3 H3 g3 y => by
    cases x with
    | tup x1 x2 =>
      cases y with
      | tup y1 y2 =>
        have e1 := dps_ints x2
        have e2 := dps_ints y2
        subst e1
        subst e2
        exact ⟨_, _, ns, ms, rfl, rfl, ex_t (g.c.trans g3.a) x1, ex_t g3.c y1, k H3 (g.a.trans g3.a)⟩
theorem ev_allL {bs : List Bool} (h : EvP te σ B (IsD K (.list (bs.map .bool)))) : Ev (tCB (rAll K) (tCons te tNil)) σ B (.bl (bs.all id)) := fun H1 a Q k =>
  h H1 a _ fun v B2 H2 g x => by
    cases x with
    | lst y z =>
      have := dps_bls z
      subst this
      exact ⟨_, bs, rfl, ex_l g.c y, k H2 g.a⟩
theorem dps_ix {i : Nat} {d : PyData} : ∀ {vs : List V} {ds : List PyData}, DpAll K H vs ds → ds[i]? = some d → ∃ v, vs[i]? = some v ∧ Dp K H v d := fun {vs ds} h e => by
  have hl := dps_len h
  have hi : i < vs.length := by rw [hl]; exact (List.getElem?_eq_some_iff.mp e).1
  refine ⟨vs[i], List.getElem?_eq_getElem hi, ?_⟩
  have := dps_at h (List.getElem?_eq_getElem hi)
  rw [List.getD_eq_getElem?_getD, e] at this
  exact this
theorem atI_len {α β : Type} {xs : List α} {ys : List β} {j : Int} {y : β} (hl : xs.length = ys.length) (h : atI ys j = some y) : ∃ n : Nat, ys[n]? = some y ∧ ∀ x, xs[n]? = some x → atI xs j = some x := by
  unfold atI at h ⊢
  rw [← hl] at h
  obtain ⟨n, hn, hy⟩ := Option.bind_eq_some_iff.mp h
  refine ⟨n, hy, fun x hx => ?_⟩
  rw [hn]
  exact hx
theorem ed_ixT {j : Int} (h : EvP ta σ B (IsD K (.tuple ds))) (hj : Ev tb σ B (.int j)) (hd : atI ds j = some d) : EvP (tOp (rIxT K) ta tb) σ B (IsD K d) := fun H1 a Q k =>
  h H1 a _ fun v B2 H2 g x => hj H2 (g.b.trans g.c) _ fun H3 e3 => by
    cases x with
    | tup y z =>
      obtain ⟨n, h1, h2⟩ := atI_len (dps_len z) hd
      obtain ⟨u, h3, h4⟩ := dps_ix z h1
      exact ⟨_, _, j, u, rfl, rfl, ex_t (g.c.trans e3) y, h2 u h3, k u B2 H3 (g.trans (Gr.wide g.c e3)) h4⟩
theorem ed_ixL {j : Int} (h : EvP ta σ B (IsD K (.list ds))) (hj : Ev tb σ B (.int j)) (hd : atI ds j = some d) : EvP (tOp (rIxL K) ta tb) σ B (IsD K d) := fun H1 a Q k =>
  h H1 a _ fun v B2 H2 g x => hj H2 (g.b.trans g.c) _ fun H3 e3 => by
    cases x with
    | lst y z =>
      obtain ⟨n, h1, h2⟩ := atI_len (dps_len z) hd
      obtain ⟨u, h3, h4⟩ := dps_ix z h1
      exact ⟨_, _, j, u, rfl, rfl, ex_l (g.c.trans e3) y, h2 u h3, k u B2 H3 (g.trans (Gr.wide g.c e3)) h4⟩
theorem ed_tup (h : EvPs t σ B (ds.map (IsD K))) (hl : ds.length ≤ 100000) : EvP (tTup t) σ B (IsD K (.tuple ds)) := d_tup (p_tup h (by rw [List.length_map]; exact hl))
theorem ed_lst (h : EvPs t σ B (ds.map (IsD K))) (hl : ds.length ≤ 100000) : EvP (tLst t) σ B (IsD K (.list ds)) := d_lst (p_lst h (by rw [List.length_map]; exact hl))
theorem ed_if {b : Bool} (h : EvT tt σ B b) (h1 : b = true → EvP ta σ B p) (h2 : b = false → EvP tb σ B p) : EvP (tIf tt ta tb) σ B p := fun H1 a Q k => h H1 a _ fun H2 e2 => by
  cases b with
  | true => exact h1 rfl H2 (a.trans e2) _ fun v B3 H3 g x => k v B3 H3 ((Gr.wide a e2).trans g) x
  | false => exact h2 rfl H2 (a.trans e2) _ fun v B3 H3 g x => k v B3 H3 ((Gr.wide a e2).trans g) x
/-! ### statements -/
theorem ps_un3 {i j k : Nat} {d1 d2 d3 : PyData} (a : Ex B H) (h : EvP te σ B (IsD K (.tuple [d1, d2, d3])))
    (n : ∀ v1 v2 v3 B1 H1, Gr B H B1 H1 → Dp K B1 v1 d1 → Dp K B1 v2 d2 → Dp K B1 v3 d3 → D.nx (((σ.set i (some v1)).set j (some v2)).set k (some v3)) H1) :
    tAsg te (gTup K 3 (gCons (gName i) (gCons (gName j) (gCons (gName k) gNil)))) D σ H := h H a _ fun v B1 H1 g x => by
  cases x with
  | tup y z =>
    cases z with
    | cons z1 z =>
      cases z with
      | cons z2 z =>
        cases z with
        | cons z3 z =>
          cases z
          exact ⟨_, _, rfl, ex_t g.c y, rfl, _, _, rfl, _, _, rfl, _, _, rfl, rfl, n _ _ _ B1 H1 g z1 z2 z3⟩
/-! ### defs from data to data -/
def spR (K : PySem.W.Frag) (R : List PyData → PyData → Prop) : Sp := fun vs H Q _ => ∃ B ds d, Ex B H ∧ DpAll K B vs ds ∧ R ds d ∧ ∀ v B' H', Gr B H B' H' → Dp K B' v d → Q v H'
theorem ed_call {R : List PyData → PyData → Prop} (h : EvPs t σ B (ds.map (IsD K))) (hr : R ds d) : EvP (tCall (spR K R) [] E0 t) σ B (IsD K d) := fun H1 a Q k =>
  h H1 a _ fun vs B2 H2 g b => by
    rw [List.append_nil]
    exact ⟨B2, ds, d, g.c, dps_of b, hr, fun v B3 H3 g3 x => k v B3 H3 (g.trans g3) x⟩
theorem sp_len {R : List PyData → PyData → Prop} {n : Nat} (h : ∀ ds d, R ds d → ds.length = n) : ∀ vs H Q E, spR K R vs H Q E → vs.length = n := fun vs H Q E ⟨B, ds, d, _, a, b, _⟩ => by rw [dps_len a, h ds d b]
/-- a def of the program's, as it is called -/
structure Cal (P : Program) (w : World) (K : PySem.W.Frag) (mg : Str → Option Value) (base : Heap) (x : Str) (k : Nat) (ps : List Str) (sp : Sp) (f : Addr) (fd : FuncData) : Prop where
  G : FnOk P w K mg base CX0 k f fd ps sp
  m : mg x = some (.ref f)
  k : PySem.W.keepIn K (.ref f) = true
  b : Binds K fd ps []
end
end My
namespace My
set_option autoImplicit false
open PySem PySem.Spec PyProof.Rows L2 Evl
section
variable {X : Cx}
/-- x in t, t a tuple of data of any depth -/
def rInT (K : PySem.W.Frag) : R2 := fun x y H Q => ∃ d ds, Dp K H x d ∧ Dp K H y (.tuple ds) ∧ SeqAt.shaped d = true ∧ SeqAt.shaped (.tuple ds) = true ∧ Q (.bl (ds.any fun z => PyData.eqv z d)) H
theorem op_inT (hu : X.A.units + 65 < cLine) : OpR X (compareOp .In) (rInT X.K) := by
  intro pins s σ H x y v u Q I rx ry ⟨d, ds, hd, he, sd, se, q⟩
  obtain ⟨as, r1⟩ := Dp.reads I d x v hd rx
  obtain ⟨bs, r2⟩ := Dp.reads I _ y u he ry
  exact SeqAt.in_tuple_reads r2 r1 (SeqAt.canLay_of_shaped se) (SeqAt.canLay_of_shaped sd) (room_in_shaped sd hu) ⟨.bl _, H, I, rfl, q⟩
end
section
variable {te ta tb : TE} {t tr : TA} {tt : TT} {σ : L2.St} {B B' H : Hp} {p q : Pr} {v : V} {K : PySem.W.Frag} {D : Ends} {d e : PyData} {ds es : List PyData}
theorem ev_inDT (ha : EvP ta σ B (IsD K d)) (hb : EvP tb σ B (IsD K (.tuple ds))) (hd : SeqAt.shaped d = true) (he : SeqAt.shaped (.tuple ds) = true) : Ev (tOp (rInT K) ta tb) σ B (.bl (ds.any fun z => PyData.eqv z d)) := fun H1 a Q k =>
  ha H1 a _ fun v B2 H2 g b => hb H2 (g.b.trans g.c) _ fun w B3 H3 g3 b3 => ⟨d, ds, dp_m (g.c.trans g3.a) b, dp_m g3.c b3, hd, he, k H3 (g.a.trans g3.a)⟩
end
/-! ### rankings and derivatives -/
def isNmB (x : Str) : Bool := decide (1 ≤ x.length) && decide (x.length ≤ 8) && x.cps.toList.all fun c => decide (97 ≤ c) && decide (c ≤ 122)
def IsNm (x : Str) : Prop := isNmB x = true
structure Rk where
  tot : Bool
  ns : List Str
  ax : Fin 3
def axsOf (a : Fin 3) : List Str := if a = 0 then ["x"] else if a = 1 then ["x", "y"] else ["y", "x"]
def Rk.axs (r : Rk) : List Str := axsOf r.ax
def Rk.srt (r : Rk) : Str := if r.tot then "total" else "names"
def Rk.D (r : Rk) : PyData := .tuple [.str r.srt, .tuple (r.ns.map .str), .tuple (r.axs.map .str)]
structure Rk.Ok (r : Rk) : Prop where
  ne : 1 ≤ r.ns.length
  le : r.ns.length ≤ 3
  nd : r.ns.Nodup
  nm : ∀ x ∈ r.ns, IsNm x
structure Dv where
  n : Str
  i : Int
  j : Int
deriving DecidableEq
def Dv.D (v : Dv) : PyData := .tuple [.str v.n, .int v.i, .int v.j]
structure Dv.Of (v : Dv) (r : Rk) : Prop where
  n : v.n ∈ r.ns
  i : 0 ≤ v.i
  j : 0 ≤ v.j
  y : v.j = 0 ∨ (Str.ofString "y") ∈ r.axs
def Rk.first (r : Rk) (v : Dv) : Int := if r.ax = 2 then v.j else v.i
def Rk.ahead (r : Rk) (v : Dv) : Int := -((r.ns.idxOf v.n : Nat) : Int)
def Rk.key (r : Rk) (v : Dv) : List Int := if r.tot then [v.i + v.j, r.first v, r.ahead v] else [r.ahead v, v.i + v.j, r.first v]
def cmpL (a b : List Int) : Int := if a = b then 0 else if HT.lexLt a b = true then -1 else 1
def Rk.cmp (r : Rk) (v u : Dv) : Int := cmpL (r.key v) (r.key u)

/-! ### what is known of such values -/
def NmP (ns : List Str) : Pr := ⟨fun v H => ∃ a o, v = .ref a ∧ H a = some (.frz o (.tup (ns.map .str))) ∧ o.dict = none, fun e ⟨a, o, h1, h2, h3⟩ => ⟨a, o, h1, e _ _ h2, h3⟩⟩
def DvP (u : Dv) : Pr := ⟨fun v H => ∃ a, v = .ref a ∧ H a = some (.tup [.str u.n, .int u.i, .int u.j]), fun e ⟨a, h1, h2⟩ => ⟨a, h1, e _ _ h2⟩⟩
def RkP (K : PySem.W.Frag) (r : Rk) : Pr := ⟨fun v H => ∃ a vn va, v = .ref a ∧ SqT K H a [.str r.srt, vn, va] ∧ (NmP r.ns).P vn H ∧ Dp K H va (.tuple (r.axs.map .str)), fun e ⟨a, vn, va, h1, h2, h3, h4⟩ => ⟨a, vn, va, h1, ex_t e h2, (NmP r.ns).m e h3, dp_m e h4⟩⟩
theorem dps_of_strs {K : PySem.W.Frag} {H : Hp} : ∀ ys : List Str, DpAll K H (ys.map V.str) (ys.map .str)
  | [] => .nil
  | y :: ys => .cons (.str y) (dps_of_strs ys)
theorem nm_d {K : PySem.W.Frag} {ns : List Str} {v : V} {H : Hp} (h : (NmP ns).P v H) : Dp K H v (.tuple (ns.map .str)) := by
  obtain ⟨a, o, rfl, h2, _⟩ := h
  exact .tup (.inl (.inr ⟨o, h2⟩)) (dps_of_strs ns)
theorem rk_d {K : PySem.W.Frag} {r : Rk} {v : V} {H : Hp} (h : (RkP K r).P v H) : Dp K H v r.D := by
  obtain ⟨a, vn, va, rfl, h2, h3, h4⟩ := h
  exact .tup h2 (.cons (.str _) (.cons (nm_d h3) (.cons h4 .nil)))
theorem dv_d {K : PySem.W.Frag} {u : Dv} {v : V} {H : Hp} (h : (DvP u).P v H) : Dp K H v u.D := by
  obtain ⟨a, rfl, h2⟩ := h
  exact .tup (st_of h2) (.cons (.str _) (.cons (.int _) (.cons (.int _) .nil)))
section
variable {te ta tb : TE} {t tr : TA} {tt : TT} {σ : L2.St} {B B' H : Hp} {p q : Pr} {ps : List Pr} {v : V} {K : PySem.W.Frag} {D : Ends} {r : Rk} {u : Dv}
theorem ed_rk (h : EvP te σ B (RkP K r)) : EvP te σ B (IsD K r.D) := h.imp fun _ _ _ x => rk_d x
theorem ed_dv (h : EvP te σ B (DvP u)) : EvP te σ B (IsD K u.D) := h.imp fun _ _ _ x => dv_d x
theorem ed_nm {ns : List Str} (h : EvP te σ B (NmP ns)) : EvP te σ B (IsD K (.tuple (ns.map .str))) := h.imp fun _ _ _ x => nm_d x
/-- (name, i, j), made -/
theorem p_dv {a b c : V} (ha : a = .str u.n) (hb : b = .int u.i) (hc : c = .int u.j) (h : EvPs t σ B [IsV a, IsV b, IsV c]) : EvP (tTup t) σ B (DvP u) := fun H1 e Q k =>
  h H1 e _ fun vs B2 H2 g b => by
    subst ha hb hc
    match vs, b with
    | [x, y, z], b =>
      obtain rfl : x = _ := b.1
      obtain rfl : y = _ := b.2.1
      obtain rfl : z = _ := b.2.2.1
      exact ⟨sz_of (by show 3 ≤ 100000; decide), fun w hw => k _ _ _ (g.trans (Gr.new _ g.c hw)) ⟨w, rfl, upd_same⟩⟩
/-- a ranking unpacked -/
theorem ps_unR {i j k : Nat} (a : Ex B H) (h : EvP te σ B (RkP K r))
    (n : ∀ v2 v3 B1 H1, Gr B H B1 H1 → (NmP r.ns).P v2 B1 → Dp K B1 v3 (.tuple (r.axs.map .str)) → D.nx (((σ.set i (some (.str r.srt))).set j (some v2)).set k (some v3)) H1) :
    tAsg te (gTup K 3 (gCons (gName i) (gCons (gName j) (gCons (gName k) gNil)))) D σ H := h H a _ fun v B1 H1 g x => by
  obtain ⟨p, vn, va, rfl, h2, h3, h4⟩ := x
  exact ⟨_, _, rfl, ex_t g.c h2, rfl, _, _, rfl, _, _, rfl, _, _, rfl, rfl, n _ _ B1 H1 g h3 h4⟩
theorem ps_unD {i j k : Nat} (a : Ex B H) (h : EvP te σ B (DvP u)) (n : ∀ B1 H1, Gr B H B1 H1 → D.nx (((σ.set i (some (.str u.n))).set j (some (.int u.i))).set k (some (.int u.j))) H1) :
    tAsg te (gTup K 3 (gCons (gName i) (gCons (gName j) (gCons (gName k) gNil)))) D σ H := h H a _ fun v B1 H1 g x => by
  obtain ⟨p, rfl, h2⟩ := x
  exact ⟨_, _, rfl, st_of (g.c _ _ h2), rfl, _, _, rfl, _, _, rfl, _, _, rfl, rfl, n B1 H1 g⟩
/-! ### defs by what is known of what is handed in -/
def spP (R : List Pr → Pr → Prop) : Sp := fun vs H Q _ => ∃ B ps p, Ex B H ∧ AllP ps vs B ∧ R ps p ∧ ∀ v B' H', Gr B H B' H' → p.P v B' → Q v H'
theorem p_callP {R : List Pr → Pr → Prop} (h : EvPs t σ B ps) (hr : R ps p) : EvP (tCall (spP R) [] E0 t) σ B p := fun H1 a Q k =>
  h H1 a _ fun vs B2 H2 g b => by
    rw [List.append_nil]
    exact ⟨B2, ps, p, g.c, b, hr, fun v B3 H3 g3 x => k v B3 H3 (g.trans g3) x⟩
theorem spP_len {R : List Pr → Pr → Prop} {n : Nat} (h : ∀ ps p, R ps p → ps.length = n) : ∀ vs H Q E, spP R vs H Q E → vs.length = n := fun vs H Q E ⟨B, ps, p, _, a, b, _⟩ => by rw [a.len, h ps p b]
end
/-! ### t.index(x) -/
section
open PySem PySem.Spec PyProof.Rows
variable {X : Cx}
theorem pe_tupIndex {o e : Expr} {to te : TE} {apos cpos : Pos} (ho : PE X o to) (he : PE X e te)
    (hbase : attributeBase o "index" X.env (eval o X.env) = eval o X.env := by rfl) (hline : (apos.endLine == cpos.line) = true := by rfl) (hs : starEach [e] X.env = (false, eval e X.env) :: starEach [] X.env := by rfl) (hs2 : backTo cpos (starEach [e] X.env) = [(false, eval e X.env)] := by rfl) :
    PE X (.Call (.Attribute o "index" apos) [e] [] cpos) (fun σ H Q => to σ H fun v H1 => ∃ (a : Addr) (ob : Obj) (ys : List Str), v = .ref a ∧ H1 a = some (.frz ob (.tup (ys.map .str))) ∧ ob.dict = none ∧
      te σ H1 fun y H2 => ∃ z : Str, y = .str z ∧ H2 a = some (.frz ob (.tup (ys.map .str))) ∧ z ∈ ys ∧ Q (.int ((ys.idxOf z : Nat) : Int)) H2) := by
  refine ⟨fun pins s σ H Q I h => ?_⟩
  refine wpAny_Call_method1_late hbase hline hs2 (thn (ho.run pins s σ H _ I h) fun v s1 ⟨x, H1, I1, r1, a, ob, ys, ex, h1, hd, q1⟩ => ?_)
  subst ex
  obtain rfl : v = Value.ref a := r1
  obtain ⟨g1, _, its, rv, ob2, g2, hc, _⟩ := (show ObjOk X.prog X.w H1 s1.heap a (.frz ob (.tup (ys.map .str))) from I1.hok a _ h1)
  rw [g1] at g2
  obtain rfl := Option.some.inj g2
  refine ⟨"tuple", "tuple.index", PySem.F.plainAttrs_tuple, PySem.F.slot_tuple_index, PySem.F.type_tuple_index, ⟨ob, g1, hc⟩, fun c e => ?_, ?_⟩
  · cases e
    exact ⟨ob, g1, hd⟩
  · have hA := (pa_cons he pa_nil hs).run cpos pins s1 σ H1 (fun vs H2 => ∃ y, vs = [y] ∧ ∃ z : Str, y = .str z ∧ H2 a = some (.frz ob (.tup (ys.map .str))) ∧ z ∈ ys ∧ Q (.int ((ys.idxOf z : Nat) : Int)) H2) I1
      (by
        show te σ H1 fun y H2 => ∃ y', [y] = [y'] ∧ _
        have : (fun y H2 => ∃ z : Str, y = V.str z ∧ H2 a = some (.frz ob (.tup (ys.map .str))) ∧ z ∈ ys ∧ Q (.int ((ys.idxOf z : Nat) : Int)) H2) = (fun y H2 => ∃ y', [y] = [y'] ∧ ∃ z : Str, y' = .str z ∧ H2 a = some (.frz ob (.tup (ys.map .str))) ∧ z ∈ ys ∧ Q (.int ((ys.idxOf z : Nat) : Int)) H2) := by
          funext y H2
          apply propext
          constructor
          · intro q
            exact ⟨y, rfl, q⟩
          · rintro ⟨y', e, q⟩
            obtain rfl : y = y' := by simpa using e
            exact q
        rw [← this]
        exact q1)
    rw [hs2] at hA
    refine Calls.callWith_builtin rfl (Calls.evalArgs_plain ?_)
    refine thn hA fun us s2 ⟨vs, H2, I2, r2, y, ev, z, ey, h2, hm, q2⟩ => ?_
    subst ev
    subst ey
    have hl := List.idxOf_lt_length_of_mem hm
    exact mt_tup_index pins s2 σ H2 (.ref a) [.str z] (.ref a) us Q I2 rfl r2 ⟨a, ys, z, ys.idxOf z, rfl, rfl, .inl (.inr ⟨ob, h2⟩), by rw [List.getElem?_eq_getElem hl, List.getElem_idxOf hl], fun m hm' e => by
      have hlt : m < ys.length := (List.getElem?_eq_some_iff.mp e).1
      have e2 : ys[m] = z := (List.getElem?_eq_some_iff.mp e).2
      have := List.not_of_lt_findIdx (p := fun y => y == z) (xs := ys) (i := m) (by exact hm')
      rw [e2] at this
      simp at this, q2⟩
/-- tuple(l), the new tuple known as it stands -/
theorem call_tupleF : CallR X (.type "tuple") (fun xs H Q => ∃ p ys, xs = [.ref p] ∧ SqL X.K H p ys ∧ ∀ l o, H l = none → o.dict = none → Q (.ref l) (upd H l (.frz o (.tup ys)))) := by
  intro pins s σ H xs us Q I r ⟨p, ys, ex, hq, q⟩
  subst ex
  obtain ⟨u, rfl, rx⟩ := vals1 r
  obtain rfl : u = Value.ref p := rx
  obtain ⟨its, rv, pl, hz⟩ := I.list hq
  have hlen := rv.length
  refine call_tuple_list pl.isList (fun h1 kp => ?_) (by simp only [List.size_toArray] <;> omega)
  have I1 : Inv X pins σ H { s with heap := h1 } := I.kept (t' := s.toks) kp
  have n1 := I1.hok.fresh (Nat.le_refl h1.objs.size)
  have I2 : Inv X pins σ (upd H h1.objs.size (.frz { cls := .type "tuple", data := .seq its.toArray } (.tup ys))) { s with heap := h1.push { cls := .type "tuple", data := .seq its.toArray } } :=
    I1.laid (t' := s.toks) (fun b o e => Heap.get?_push_of_some _ e) (Nat.le_refl _) ⟨Heap.get?_push_size _ rfl, hz, its, rv, IsTup.new _ _⟩
  exact ⟨.ref h1.objs.size, _, I2, rfl, q _ _ n1 rfl⟩
end
section
open PySem L2 Evl
variable {te ta tb : TE} {t tr : TA} {tt : TT} {σ : L2.St} {B B' H : Hp} {p q : Pr} {ps : List Pr} {v : V} {K : PySem.W.Frag} {D : Ends} {r : Rk} {u : Dv}
theorem ev_tupIx {x : Str} {ys : List Str} (h : EvP ta σ B (NmP ys)) (hx : Ev tb σ B (.str x)) (hm : x ∈ ys) :
    Ev (fun σ H Q => ta σ H fun v H1 => ∃ (a : Addr) (ob : Obj) (ys : List Str), v = .ref a ∧ H1 a = some (.frz ob (.tup (ys.map .str))) ∧ ob.dict = none ∧
      tb σ H1 fun y H2 => ∃ z : Str, y = .str z ∧ H2 a = some (.frz ob (.tup (ys.map .str))) ∧ z ∈ ys ∧ Q (.int ((ys.idxOf z : Nat) : Int)) H2) σ B (.int ((ys.idxOf x : Nat) : Int)) := fun H1 a Q k =>
  h H1 a _ fun v B2 H2 g b => by
    obtain ⟨p, o, rfl, h2, h3⟩ := b
    exact ⟨p, o, ys, rfl, g.c _ _ h2, h3, hx H2 (g.b.trans g.c) _ fun H3 e3 => ⟨x, rfl, e3 _ _ (g.c _ _ h2), hm, k H3 (g.a.trans e3)⟩⟩
end
end My
namespace My
set_option autoImplicit false
open PySem PySem.Spec PySem.W PySem.Calls PyProof.Rows L2 Evl
/-- the values are these texts, all unlike -/
def TxtAt (items : Array Value) (xs : List Str) : Prop := items.size = xs.length ∧ ∀ (i : Nat) (v : Value), items[i]? = some v → ∃ t x, v = .str x t ∧ xs[i]? = some x
theorem txtAt_of {xs : List Str} {us : List Value} (h : Vals (xs.map V.str) us) : TxtAt us.toArray xs := by
  refine ⟨by rw [List.size_toArray, ← h.length, List.length_map], fun i v hv => ?_⟩
  have hi : i < us.length := by
    rw [List.getElem?_toArray] at hv
    exact (List.getElem?_eq_some_iff.mp hv).1
  have hx : i < xs.length := by
    have := h.length
    rw [List.length_map] at this
    omega
  obtain ⟨u, hu, r⟩ := h.get (i := i) (x := .str xs[i]) (by rw [List.getElem?_map, List.getElem?_eq_getElem hx]; rfl)
  rw [List.getElem?_toArray, hu] at hv
  obtain rfl := Option.some.inj hv
  obtain ⟨t, rfl⟩ := r
  exact ⟨t, _, rfl, List.getElem?_eq_getElem hx⟩
section
variable {prog : Program} {w : World} {A : Around} {R : Result → Shared → Prop} {I : Addr} {fp wr : List Addr} {n : Nat} {G : Array GenState → Array GenState → Prop} {P : Nat → Value → Prop} {St : Nat → Shared → Prop}
/-- the first i of them are in the set at S -/
abbrev SetTo (prog : Program) (w : World) (h : Heap) (S : Addr) (xs : List Str) (i : Nat) : Prop := h.SetOf (PySem.strKind prog w) S (fun z => decide (z ∈ xs.take i)) i
theorem SetTo.moved {h h' : Heap} {S : Addr} {xs : List Str} {i : Nat} (x : SetTo prog w h S xs i) (k : ∀ o, h.get? S = some o → h'.get? S = some o) : SetTo prog w h' S xs i := by
  obtain ⟨ob, es, ep, tb, ho, more⟩ := x
  exact ⟨ob, es, ep, tb, k _ ho, more⟩
theorem setLoop (W : WalksS prog w A.in1 I fp wr G n P St) (S : Addr) (ns : S ∉ fp) (xs : List Str) (hlen : xs.length = n) (nd : xs.Nodup) (hbig : n + 1 < scanBound) (hv : ∀ i v, P i v → ∃ t x, v = .str x t ∧ xs[i]? = some x) :
    ∀ (m i : Nat) (s : Shared), n - i = m → i ≤ n → St i s → SetTo prog w s.heap S xs i →
      (∀ z, Moved (S :: wr) G s z → SetTo prog w z.heap S xs n → R (.ok (.ret .none)) z) → codeAny (model prog w) A (.builtin "set.update.loop" ⟨[.ref S, .ref I], []⟩) R s := by
  have nw : S ∉ wr := fun q => ns (W.sub _ q)
  have more : ∀ c ∈ wr, c ∈ S :: wr := fun c q => List.mem_cons_of_mem _ q
  intro m
  induction m with
  | zero =>
    intro i s hm hi st x k
    obtain rfl : i = n := by omega
    refine codeAny_builtin PyProof.Rows.F.entry_set_update_loop ?_
    rw [Around.under_plainId (PyProof.Rows.F.plain_set_update_loop) _]
    show wpAny _ A.in1 (pyNext (.ref I) >>= _) _ _ s
    refine wpAny_bind (W.done s _ _ st fun z mv => ?_)
    show wpAny _ _ (ret .none) _ _ z
    exact wpAny_pure (k z (mv.mono more) (x.moved fun o e => mv.heap S o nw e))
  | succ m ih =>
    intro i s hm hi st x k
    have il : i < n := by omega
    refine codeAny_builtin PyProof.Rows.F.entry_set_update_loop ?_
    rw [Around.under_plainId (PyProof.Rows.F.plain_set_update_loop) _]
    show wpAny _ A.in1 (pyNext (.ref I) >>= _) _ _ s
    refine wpAny_bind (W.item i s _ _ il st fun v z pv st1 mv => ?_)
    obtain ⟨t, y, rfl, hy⟩ := hv i v pv
    have x1 : SetTo prog w z.heap S xs i := x.moved fun o e => mv.heap S o nw e
    show wpAny _ _ (holding [Value.str y t] (setAdd S (.str y t)) >>= _) _ _ z
    refine wpAny_bind (wpAny_holding ?_)
    unfold setAdd
    refine wpAny_holding (wpAny_bind ((PySem.strKind prog w).pyHash (k := y) (strKind_is _ _ _ _) ?_))
    refine wpAny_setAddHashed_of (knd := PySem.strKind prog w) (s := { z with toks := z.toks + 1 }) (strKind_is _ _ _ _) rfl x1 (by omega) fun h1 sb x2 => ?_
    have no : y ∉ xs.take i := fun q => by
      obtain ⟨j, hj⟩ := List.mem_iff_getElem?.mp q
      rw [List.getElem?_take] at hj
      by_cases hji : j < i
      · rw [if_pos hji] at hj
        obtain ⟨a1, a2⟩ := List.getElem?_eq_some_iff.mp hj
        obtain ⟨b1, b2⟩ := List.getElem?_eq_some_iff.mp hy
        exact List.pairwise_iff_getElem.mp nd j i a1 b1 hji (a2.trans b2.symm)
      · rw [if_neg hji] at hj
        cases hj
    have x3 : SetTo prog w h1 S xs (i + 1) := PyProof.Rows.SetOf_congr x2 (fun q => by
      rw [List.take_add_one, hy]
      simp [List.mem_append]) (by simp [no])
    refine wpAny_pure ⟨plainId_quiet (PyProof.Rows.F.plain_set_update_loop) _, ih (i + 1) _ (by omega) il (W.frame _ z _ _ st1 (Nat.le_succ _) fun c hc o e => ?_) x3 fun z2 mv2 x4 => ?_⟩
    · rw [sb.2 c fun q : c = S => ns (by rw [← q]; exact hc)]
      exact e
    · refine k z2 (Moved.trans W.gtrans ((mv.mono more).then_heap (Nat.le_succ _) fun c o hc e => ?_) mv2) x4
      rw [sb.2 c fun q : c = S => hc (by rw [q]; exact List.mem_cons_self)]
      exact e
end
section
variable {prog : Program} {w : World} {A : Around} {E : Value → Shared → Prop} {s : Shared}
set_option maxHeartbeats 8000000 in
/-- set(t), t a tuple of unlike texts -/
theorem call_setT {l : Addr} {items : Array Value} {xs : List Str} {Q : Value → Shared → Prop} (hh : A.handled = none) (tup : s.heap.IsTuple l items) (tx : TxtAt items xs) (nd : xs.Nodup) (hbig : xs.length + 1 < scanBound)
    (k : ∀ (h1 : Heap) (tk : Nat), SetTo prog w h1 s.heap.objs.size xs xs.length → (∀ c o, c < s.heap.objs.size → s.heap.get? c = some o → h1.get? c = some o) → Q (.ref s.heap.objs.size) { s with heap := h1, toks := tk }) :
    wpAny (model prog w) A (call (.type "set") [.ref l]) Q E s := by
  obtain ⟨mc, mt, mro⟩ := PySem.F.called_set.mro
  have m1 := PySem.F.called_set.made
  have m2 := PySem.F.called_set.sub
  refine wpAny_call (codeAny_of_tree ?_)
  show wpAny _ _ (callAny (.type "set") ⟨[.ref l], []⟩) _ _ _
  refine wpAny_pure ⟨Code.quiet_builtin _ (by decide +kernel), codeAny_builtin (PySem.F.entry_type_call) ?_⟩
  rw [Around.under_plain (weight_type_call_type "set" [.ref l] ([] : List (Str × Value))) rfl]
  have m3 := PySem.F.called_set.notType
  have m4 := PySem.F.called_set.canCreate
  have m5 := PySem.F.typeCall_set_1 (.ref l)
  repeat (any_goals (first | assumption | wp_step))

  refine codeAny_mono (code_set_new_1 (.ref l) (E := E) (Q₁ := fun u z => ∃ led : Bool, u = .ref s.heap.objs.size ∧ z = { s with heap := s.heap.push { cls := .type "set", dict := none, data := .set #[] 0 (.fresh 0 0 led) } }) fun led => ⟨led, rfl, rfl⟩) fun r z hr => ?_
  cases r with
  | error e => exact hr
  | ok fl =>
    cases fl with
    | ret u =>
      obtain ⟨led, rfl, rfl⟩ := hr
      have at0 : (s.heap.push { cls := .type "set", dict := none, data := .set #[] 0 (.fresh 0 0 led) }).get? s.heap.objs.size = some { cls := .type "set", dict := none, data := .set #[] 0 (.fresh 0 0 led) } := Heap.get?_push_size _ rfl
      have ty0 : Shared.TypeIs { s with heap := s.heap.push { cls := .type "set", dict := none, data := .set #[] 0 (.fresh 0 0 led) } } (.ref s.heap.objs.size) "set" := ⟨_, at0, rfl⟩
      have m6 := PySem.F.called_set.init.lookup
      have m7 := PySem.F.called_set.init.bind (.ref s.heap.objs.size)
      repeat (any_goals (first | assumption | wp_step))

      refine codeAny_mono (codeAny_call_builtin (R := wants (fun r z => r = .none ∧ ∃ h1 tk, z = { s with heap := h1, toks := tk } ∧ SetTo prog w h1 s.heap.objs.size xs xs.length ∧ ∀ c o, c < s.heap.objs.size → s.heap.get? c = some o → h1.get? c = some o) E)
        (PySem.F.called_set.init.plain) (PySem.F.entry_set_init) (check_set_init_1 ty0 ?_)) fun r2 z2 hr2 => ?_
      · obtain ⟨⟨tc, td, tda, ts⟩, to, tcl, tn, tdt⟩ := tup
        simp only at tcl tdt
        subst tcl
        subst tdt
        have to' : (s.heap.push { cls := .type "set", dict := none, data := .set #[] 0 (.fresh 0 0 led) }).get? l = some { cls := .type "tuple", dict := td, data := .seq items tn, slots := ts } := Heap.get?_push_of_some _ to
        have b1 := PySem.F.sub_tuple_set
        have b2 := PySem.F.sub_tuple_frozenset
        have b3 : (Value.type "tuple" == .type "dict") = false := by decide
        have tup1 : (s.heap.push { cls := .type "set", dict := none, data := .set #[] 0 (.fresh 0 0 led) }).IsTuple l items := ⟨_, to', rfl, tn, rfl⟩
        unfold Builtin.«set.__init__» noKeywords Builtin.Frozenset.updateFrom
        generalize eIt : pyIter = It
        wp_walk
        subst eIt

        refine wpAny_pyIter_tuple tup1 ?_
        refine wpAny_bind (wpAny_runValue ?_)
        have lt : l < s.heap.objs.size := Heap.lt_size to
        have hh3 : A.in1.in1.in1.handled = none := by simp [hh]
        have z1 : (s.heap.push { cls := .type "set", dict := none, data := .set #[] 0 (.fresh 0 0 led) }).objs.size = s.heap.objs.size + 1 := Heap.size_push ..
        have d1 : l ≠ (s.heap.push { cls := .type "set", dict := none, data := .set #[] 0 (.fresh 0 0 led) }).objs.size := by
          rw [z1]
          exact Nat.ne_of_lt (Nat.lt_succ_of_lt lt)
        have d2 : s.heap.objs.size ∉ [(s.heap.push { cls := .type "set", dict := none, data := .set #[] 0 (.fresh 0 0 led) }).objs.size, l] := by
          rw [z1]
          intro q
          rcases List.mem_cons.mp q with q | q
          · exact Nat.ne_of_lt (Nat.lt_succ_self _) q
          · exact Nat.ne_of_gt lt (List.mem_singleton.mp q)
        have tx2 : ∀ (i : Nat) (v : Value), items[i]? = some v → ∃ t x, v = .str x t ∧ xs[i]? = some x := tx.2
        have z2 : items.size = xs.length := tx.1
        refine setLoop ((Walks.tuple hh3 _ l d1 items).toS) s.heap.objs.size d2 xs z2.symm nd (by omega) tx2 (items.size - 0) 0 _ (by omega) (Nat.zero_le _) ⟨⟨_, Heap.get?_push_size _ rfl, rfl, rfl⟩, tup1.push _⟩ ?_ ?_
        · have at1 : ((s.heap.push { cls := .type "set", dict := none, data := .set #[] 0 (.fresh 0 0 led) }).push { cls := .type "tuple_iterator", data := .fields #[.ref l, .int 0 0] }).get? s.heap.objs.size
              = some { cls := .type "set", dict := none, data := .set #[] 0 (.fresh 0 0 led) } := Heap.get?_push_of_some _ at0
          exact PyProof.Rows.SetOf_congr ((PyProof.Rows.setObjOf_fresh (knd := PySem.strKind prog w) led).setOf at1 (by unfold scanBound; omega)) (fun q => by simp) rfl
        · intro z mv x
          obtain ⟨h1, g1, d3, tk1, os1⟩ := z
          obtain rfl : g1 = s.gens := mv.gens
          obtain rfl : d3 = s.drawn := mv.drawn
          obtain rfl : os1 = s.os := mv.os
          show wpAny _ _ _ _ _ _
          apply wpAny_pure
          show wpAny _ _ (ret .none) _ _ _
          rw [z2] at x
          refine wpAny_pure ⟨rfl, h1, tk1, rfl, x, fun c o hc e => ?_⟩
          refine mv.heap c o (fun q => ?_) (Heap.get?_push_of_some _ (Heap.get?_push_of_some _ e))
          rcases List.mem_cons.mp q with q | q
          · exact Nat.ne_of_lt hc q
          · have q1 := List.mem_singleton.mp q
            rw [z1] at q1
            exact Nat.ne_of_lt (Nat.lt_succ_of_lt hc) q1
      · cases r2 with
        | error e => exact hr2
        | ok fl2 =>
          cases fl2 with
          | ret r =>
            obtain ⟨rfl, h1, tk, rfl, x, kp⟩ := hr2
            repeat (any_goals (first | assumption | wp_step))
            exact k _ _ x kp
          | _ => exact hr2.elim
    | _ => exact hr.elim
end
/-- len(set(t)), t a tuple of unlike texts -/
def tLenSetT (K : PySem.W.Frag) (ta : TE) : TE := fun σ H Q => ta σ H fun x H1 => ∃ (l : Addr) (xs : List Str), x = .ref l ∧ SqT K H1 l (xs.map V.str) ∧ xs.Nodup ∧ xs.length ≤ 4000 ∧ Q (.int (xs.length : Nat)) H1
theorem pe_lenSetT {X : Cx} {a : Expr} {ta : TE} {p p2 q pos : Pos} (hc : X.calm = true) (hg : Gl X "len") (hm : X.mg "len" = none) (hg2 : Gl X "set") (hm2 : X.mg "set" = none) (ha : PE X a ta)
    (na : starEach [a] X.env = (false, eval a X.env) :: starEach [] X.env := by rfl) : PE X (.Call (.Name "len" p) [.Call (.Name "set" p2) [a] [] q] [] pos) (tLenSetT X.K ta) := by
  refine ⟨fun pins s σ H Q I h => ?_⟩
  refine PyProof.Rows.Call_ (ld_blt I hg hm (PySem.boot_len) ?_)
  refine PyProof.Rows.callWith_builtin1 (PyProof.Rows.args_cons ?_ rfl) rfl rfl
  refine PyProof.Rows.Call_ (ld_blt I hg2 hm2 (u := .type "set") (by decide +kernel) ?_)
  refine PyProof.Rows.callWith_type1 (PyProof.Rows.args_cons (thn (ha.run pins s σ H _ I h) fun v s1 ⟨x, H1, I1, r1, q1⟩ => PyProof.Rows.args_nil ?_) na) na rfl
  obtain ⟨l, xs, rfl, hq, nd, hl, q1⟩ := q1
  obtain rfl : v = Value.ref l := r1
  obtain ⟨us, r, tup, hz⟩ := I1.tuple hq
  refine call_setT (I1.ok.hd hc) tup (txtAt_of r) nd (by unfold scanBound; omega) fun h1 tk x kp => ?_
  refine PyProof.Rows.args_nil ?_
  obtain ⟨o, es, ep, tb, ho, hex, hd, _, _, _, hf, hn⟩ := x
  have I2 : Inv X pins σ H1 { s1 with heap := h1, toks := tk } := I1.kept fun c o e => kp c o (Heap.lt_size e) e
  exact call_len_set ho hex hd hf (by rw [hn] <;> omega) ⟨.int xs.length, H1, I2.tok _, ⟨_, by rw [hn]⟩, q1⟩
end My
namespace My
set_option autoImplicit false
open PySem L2 Evl
section
variable {te ta tb tc : TE} {t tr : TA} {tt : TT} {σ : L2.St} {B B' H : Hp} {p q : Pr} {ps : List Pr} {v : V} {K : PySem.W.Frag} {D : Ends}
theorem ev_chain {r1 r2 : Int → Int → Bool} {i j k : Int} (ha : Ev ta σ B (.int i)) (hb : Ev tb σ B (.int j)) (hc : Ev tc σ B (.int k)) : Ev (tChain (rI0 fun i j => .bl (r1 i j)) (rI0 fun i j => .bl (r2 i j)) ta tb tc) σ B (.bl (r1 i j && r2 j k)) := fun H1 e Q q =>
  ha H1 e _ fun H2 e2 => hb H2 (e.trans e2) _ fun H3 e3 => ⟨i, j, rfl, rfl, _, rfl, by
    cases h : r1 i j with
    | true =>
      show tc σ H3 _
      refine hc H3 ((e.trans e2).trans e3) _ fun H4 e4 => ?_
      have := q H4 ((e2.trans e3).trans e4)
      rw [h] at this
      exact ⟨j, k, rfl, rfl, this⟩
    | false =>
      have := q H3 (e2.trans e3)
      rw [h] at this
      exact this⟩
theorem ev_lenS {x : Str} (h : Ev te σ B (.str x)) (hl : x.length ≤ 100000) : Ev (tCB (fun xs H Q => ∃ z : Str, xs = [.str z] ∧ z.length ≤ sizeLine ∧ Q (.int (z.length : Nat)) H) (tCons te tNil)) σ B (.int (x.length : Int)) := fun H1 e Q q =>
  h H1 e _ fun H2 e2 => ⟨x, rfl, sz_of hl, q H2 e2⟩
theorem ev_sign {c : Nat} {z : Str} (ha : Ev ta σ B (.str ⟨#[c]⟩)) (hb : Ev tb σ B (.str z)) : Ev (tOp (fun x y H Q => ∃ (c : Nat) (z : Str), x = .str ⟨#[c]⟩ ∧ y = .str z ∧ Q (.bl (decide (c ∈ z.cps.toList))) H) ta tb) σ B (.bl (decide (c ∈ z.cps.toList))) := fun H1 e Q q =>
  ha H1 e _ fun H2 e2 => hb H2 (e.trans e2) _ fun H3 e3 => ⟨c, z, rfl, rfl, q H3 (e2.trans e3)⟩
/-- an if whose test fails, without an else -/
theorem ps_ifN {tu : TS} (a : Ex B H) (h : EvT tt σ B false) (k : ∀ H1, Ex H H1 → D.nx σ H1) : tIfS tt tu tNext D σ H := h H a _ fun H1 e => by
  rw [if_neg Bool.false_ne_true]
  exact k H1 e
theorem ps_exE (a : Ex B H) (h : EvP te σ B p) (k : ∀ H1, Ex H H1 → D.nx σ H1) : tDrop te D σ H := h H a _ fun _ _ H1 g _ => k H1 g.a
theorem ev_lenSet {xs : List Str} (h : EvP te σ B (NmP xs)) (nd : xs.Nodup) (hl : xs.length ≤ 4000) : Ev (tLenSetT K te) σ B (.int (xs.length : Int)) := fun H1 e Q q =>
  h H1 e _ fun v B2 H2 g x => by
    obtain ⟨a, o, rfl, h2, _⟩ := x
    exact ⟨a, xs, rfl, .inl (.inr ⟨o, g.c _ _ h2⟩), nd, hl, q H2 g.a⟩
end
theorem k_ii : kitB "int" "int" = some true := by decide +kernel
theorem k_ib : kitB "int" "bool" = some false := by decide +kernel
theorem k_ss : kitB "str" "str" = some true := by decide +kernel
theorem k_tt : kitB "tuple" "tuple" = some true := by decide +kernel
theorem k_ll : kitB "list" "list" = some true := by decide +kernel
theorem nm_facts {x : Str} (h : IsNm x) : 1 ≤ x.length ∧ x.length ≤ 8 ∧ ∀ c ∈ x.cps, 97 ≤ c ∧ c ≤ 122 := by
  unfold IsNm isNmB at h
  simp only [Bool.and_eq_true, decide_eq_true_eq, List.all_eq_true] at h
  exact ⟨h.1.1, h.1.2, fun c hc => h.2 c (by simpa using hc)⟩
theorem let_low {c : Nat} (h1 : 97 ≤ c) (h2 : c ≤ 122) : c ∈ (Str.ofString "abcdefghijklmnopqrstuvwxyz").cps.toList := by
  have : (Str.ofString "abcdefghijklmnopqrstuvwxyz").cps.toList = (List.range 26).map (· + 97) := by decide +kernel
  rw [this]
  exact List.mem_map.mpr ⟨c - 97, List.mem_range.mpr (by omega), by omega⟩
end My
namespace My
set_option autoImplicit false
open PySem PySem.W L2 Evl
/-! ### the order of derivatives -/
def Rk.lt (r : Rk) (u v : Dv) : Prop := r.key u < r.key v
instance (r : Rk) (u v : Dv) : Decidable (r.lt u v) := inferInstanceAs (Decidable (r.key u < r.key v))
def Rk.le (r : Rk) (u v : Dv) : Bool := !decide (r.lt v u)
theorem lt3 (a b c x y z : Int) : [a, b, c] < [x, y, z] ↔ a < x ∨ (a = x ∧ (b < y ∨ (b = y ∧ c < z))) := by
  simp [List.cons_lt_cons_iff]
theorem lex3 (a b c x y z : Int) : HT.lexLt [a, b, c] [x, y, z] = decide ([a, b, c] < [x, y, z]) := by
  rw [Bool.eq_iff_iff, decide_eq_true_iff, lt3]
  unfold HT.lexLt
  by_cases h : a = x
  · rw [if_pos h]
    unfold HT.lexLt
    by_cases h2 : b = y
    · rw [if_pos h2]
      unfold HT.lexLt
      by_cases h3 : c = z
      · rw [if_pos h3]
        unfold HT.lexLt
        simp
        omega
      · rw [if_neg h3]
        simp
        omega
    · rw [if_neg h2]
      simp
      omega
  · rw [if_neg h]
    simp
    omega
theorem Rk.key3 (r : Rk) (u : Dv) : ∃ a b c, r.key u = [a, b, c] := by
  unfold Rk.key
  cases r.tot
  · exact ⟨_, _, _, rfl⟩
  · exact ⟨_, _, _, rfl⟩
theorem Rk.lt_irrefl (r : Rk) (u : Dv) : ¬ r.lt u u := by
  unfold Rk.lt
  obtain ⟨a, b, c, e⟩ := r.key3 u
  rw [e, lt3]
  omega
theorem Rk.lt_trans (r : Rk) {u v w : Dv} (h : r.lt u v) (k : r.lt v w) : r.lt u w := by
  unfold Rk.lt at *
  obtain ⟨a, b, c, e⟩ := r.key3 u
  obtain ⟨a', b', c', e'⟩ := r.key3 v
  obtain ⟨a2, b2, c2, e2⟩ := r.key3 w
  rw [e, e', lt3] at h
  rw [e', e2, lt3] at k
  rw [e, e2, lt3]
  omega
theorem Rk.tri (r : Rk) (u v : Dv) : r.lt u v ∨ r.key u = r.key v ∨ r.lt v u := by
  unfold Rk.lt
  obtain ⟨a, b, c, e⟩ := r.key3 u
  obtain ⟨a', b', c', e'⟩ := r.key3 v
  rw [e, e', lt3, lt3]
  by_cases h : a = a'
  · by_cases h2 : b = b'
    · by_cases h3 : c = c'
      · exact .inr (.inl (by rw [h, h2, h3]))
      · omega
    · omega
  · omega
theorem idx_inj {ns : List Str} {x y : Str} (hx : x ∈ ns) (hy : y ∈ ns) (h : ns.idxOf x = ns.idxOf y) : x = y := by
  have h1 := List.getElem_idxOf (List.idxOf_lt_length_of_mem hx)
  have h2 := List.getElem_idxOf (List.idxOf_lt_length_of_mem hy)
  rw [← h1, ← h2]
  congr 1
theorem Rk.key_inj (r : Rk) {u v : Dv} (hu : u.n ∈ r.ns) (hv : v.n ∈ r.ns) (h : r.key u = r.key v) : u = v := by
  obtain ⟨n, i, j⟩ := u
  obtain ⟨n', i', j'⟩ := v
  have : (i + j = i' + j') ∧ r.first ⟨n, i, j⟩ = r.first ⟨n', i', j'⟩ ∧ r.ahead ⟨n, i, j⟩ = r.ahead ⟨n', i', j'⟩ := by
    unfold Rk.key at h
    cases ht : r.tot with
    | true =>
      rw [ht, if_pos rfl, if_pos rfl] at h
      simp at h
      exact h
    | false =>
      rw [ht, if_neg Bool.false_ne_true, if_neg Bool.false_ne_true] at h
      simp at h
      exact ⟨h.2.1, h.2.2, h.1⟩
  obtain ⟨h1, h2, h3⟩ := this
  have e : n = n' := idx_inj hu hv (by unfold Rk.ahead at h3; simp only at h3; omega)
  subst e
  unfold Rk.first at h2
  by_cases hx : r.ax = 2
  · rw [if_pos hx, if_pos hx] at h2
    simp only at h2
    have : i = i' := by omega
    rw [this, h2]
  · rw [if_neg hx, if_neg hx] at h2
    simp only at h2
    have : j = j' := by omega
    rw [this, h2]
theorem Rk.cmp_lt (r : Rk) (u v : Dv) : r.cmp u v = -1 ↔ r.lt u v := by
  unfold Rk.cmp cmpL Rk.lt
  obtain ⟨a, b, c, e⟩ := r.key3 u
  obtain ⟨a', b', c', e'⟩ := r.key3 v
  rw [e, e', lex3]
  by_cases h : [a, b, c] = [a', b', c']
  · rw [if_pos h, ← h, lt3]
    omega
  · rw [if_neg h]
    by_cases k : [a, b, c] < [a', b', c']
    · simp [k]
    · simp [k]
theorem Rk.cmp_eq (r : Rk) (u v : Dv) : r.cmp u v = 0 ↔ r.key u = r.key v := by
  unfold Rk.cmp cmpL
  by_cases h : r.key u = r.key v
  · simp [h]
  · rw [if_neg h]
    constructor
    · intro k
      split at k <;> omega
    · intro k
      exact absurd k h
theorem Rk.cmp_gt (r : Rk) (u v : Dv) : r.cmp u v = 1 ↔ r.lt v u := by
  have h := r.tri u v
  have h1 := r.cmp_lt u v
  have h2 := r.cmp_eq u v
  have h3 : r.cmp u v = -1 ∨ r.cmp u v = 0 ∨ r.cmp u v = 1 := by
    unfold Rk.cmp cmpL
    split
    · exact .inr (.inl rfl)
    · split
      · exact .inl rfl
      · exact .inr (.inr rfl)
  have n1 : r.lt u v → r.lt v u → False := fun a b => r.lt_irrefl u (r.lt_trans a b)
  have n2 : r.key u = r.key v → r.lt v u → False := fun a b => by
    unfold Rk.lt at b
    rw [a] at b
    exact r.lt_irrefl v b
  constructor
  · intro k
    rcases h with h | h | h
    · rw [h1.mpr h] at k
      omega
    · rw [h2.mpr h] at k
      omega
    · exact h
  · intro k
    rcases h3 with e | e | e
    · exact (n1 (h1.mp e) k).elim
    · exact (n2 (h2.mp e) k).elim
    · exact e
theorem Rk.cmp_3 (r : Rk) (u v : Dv) : r.cmp u v = -1 ∨ r.cmp u v = 0 ∨ r.cmp u v = 1 := by
  unfold Rk.cmp cmpL
  split
  · exact .inr (.inl rfl)
  · split
    · exact .inl rfl
    · exact .inr (.inr rfl)
theorem Rk.cmp_neg (r : Rk) (u v : Dv) : r.cmp u v = -r.cmp v u := by
  rcases r.cmp_3 v u with e | e | e
  · rw [e, (r.cmp_gt u v).mpr ((r.cmp_lt v u).mp e)]
    rfl
  · rw [e, (r.cmp_eq u v).mpr ((r.cmp_eq v u).mp e).symm]
    rfl
  · rw [e, (r.cmp_lt u v).mpr ((r.cmp_gt v u).mp e)]
/-- from u on, once more by x, or by y -/
def Dv.up (u : Dv) (x : Str) : Dv := if x = "x" then ⟨u.n, u.i + 1, u.j⟩ else ⟨u.n, u.i, u.j + 1⟩
theorem Rk.key_up (r : Rk) (x : Str) : ∃ a b c : Int, 0 < b ∧ (r.tot = true → ∀ u : Dv, r.key (u.up x) = [u.i + u.j + 1, r.first u + a, r.ahead u]) ∧ (r.tot = false → ∀ u : Dv, r.key (u.up x) = [r.ahead u, u.i + u.j + 1, r.first u + a]) := by
  by_cases hx : x = "x"
  · by_cases h2 : r.ax = 2
    · refine ⟨0, 1, 0, by decide, fun ht u => ?_, fun ht u => ?_⟩ <;>
      · unfold Rk.key Dv.up Rk.first Rk.ahead
        rw [ht, if_pos hx]
        simp [h2]
        omega
    · refine ⟨1, 1, 0, by decide, fun ht u => ?_, fun ht u => ?_⟩ <;>
      · unfold Rk.key Dv.up Rk.first Rk.ahead
        rw [ht, if_pos hx]
        simp [h2]
        omega
  · by_cases h2 : r.ax = 2
    · refine ⟨1, 1, 0, by decide, fun ht u => ?_, fun ht u => ?_⟩ <;>
      · unfold Rk.key Dv.up Rk.first Rk.ahead
        rw [ht, if_neg hx]
        simp [h2]
        omega
    · refine ⟨0, 1, 0, by decide, fun ht u => ?_, fun ht u => ?_⟩ <;>
      · unfold Rk.key Dv.up Rk.first Rk.ahead
        rw [ht, if_neg hx]
        simp [h2]
        omega
theorem Rk.lt_up (r : Rk) (x : Str) (u v : Dv) : r.lt (u.up x) (v.up x) ↔ r.lt u v := by
  obtain ⟨a, b, c, hb, h1, h2⟩ := r.key_up x
  unfold Rk.lt
  cases ht : r.tot with
  | true =>
    rw [h1 ht u, h1 ht v, lt3]
    unfold Rk.key
    rw [ht, if_pos rfl, if_pos rfl, lt3]
    omega
  | false =>
    rw [h2 ht u, h2 ht v, lt3]
    unfold Rk.key
    rw [ht, if_neg Bool.false_ne_true, if_neg Bool.false_ne_true, lt3]
    omega
theorem Rk.up_lt (r : Rk) (x : Str) (u : Dv) : r.lt u (u.up x) := by
  obtain ⟨a, b, c, hb, h1, h2⟩ := r.key_up x
  unfold Rk.lt
  cases ht : r.tot with
  | true =>
    rw [h1 ht u]
    unfold Rk.key
    rw [ht, if_pos rfl, lt3]
    omega
  | false =>
    rw [h2 ht u]
    unfold Rk.key
    rw [ht, if_neg Bool.false_ne_true, lt3]
    omega
theorem Rk.cmp_up (r : Rk) (x : Str) (u v : Dv) : r.cmp (u.up x) (v.up x) = r.cmp u v := by
  rcases r.cmp_3 u v with e | e | e
  · rw [e, r.cmp_lt, r.lt_up, ← r.cmp_lt, e]
  · have n1 : ¬ r.lt u v := fun h => by rw [(r.cmp_lt u v).mpr h] at e; omega
    have n2 : ¬ r.lt v u := fun h => by rw [(r.cmp_gt u v).mpr h] at e; omega
    rw [e]
    rcases r.tri (u.up x) (v.up x) with h | h | h
    · exact (n1 ((r.lt_up x u v).mp h)).elim
    · exact (r.cmp_eq _ _).mpr h
    · exact (n2 ((r.lt_up x v u).mp h)).elim
  · rw [e, r.cmp_gt, r.lt_up, ← r.cmp_gt, e]
theorem Rk.cmp_tr (r : Rk) {u v w : Dv} (h : r.cmp u v = r.cmp v w) : r.cmp u w = r.cmp u v := by
  rcases r.cmp_3 u v with e | e | e
  · rw [e] at h ⊢
    exact (r.cmp_lt _ _).mpr (r.lt_trans ((r.cmp_lt _ _).mp e) ((r.cmp_lt _ _).mp h.symm))
  · rw [e] at h ⊢
    exact (r.cmp_eq _ _).mpr (((r.cmp_eq _ _).mp e).trans ((r.cmp_eq _ _).mp h.symm))
  · rw [e] at h ⊢
    exact (r.cmp_gt _ _).mpr (r.lt_trans ((r.cmp_gt _ _).mp h.symm) ((r.cmp_gt _ _).mp e))
/-! ### sorted by it -/
def Rk.sort (r : Rk) (us : List Dv) : List Dv := us.mergeSort r.le
theorem Rk.le_tot (r : Rk) (u v : Dv) : (r.le u v || r.le v u) = true := by
  unfold Rk.le
  simp
  by_cases h : r.lt v u
  · right
    intro k
    exact r.lt_irrefl u (r.lt_trans k h)
  · exact .inl h
theorem Rk.le_tr (r : Rk) (u v w : Dv) (h : r.le u v = true) (k : r.le v w = true) : r.le u w = true := by
  unfold Rk.le at *
  simp at *
  intro z
  rcases r.tri u v with a | a | a
  · exact k (r.lt_trans z a)
  · apply k
    unfold Rk.lt at *
    rw [← a]
    exact z
  · exact h a
theorem Rk.sort_le (r : Rk) (us : List Dv) : (r.sort us).Pairwise (fun u v => r.le u v = true) := List.pairwise_mergeSort (r.le_tr) (r.le_tot) us
theorem Rk.sort_perm (r : Rk) (us : List Dv) : (r.sort us).Perm us := List.mergeSort_perm us r.le
theorem Rk.sort_one (r : Rk) {us vs : List Dv} (hu : ∀ u ∈ us, u.n ∈ r.ns) (h : us.Perm vs) : r.sort us = r.sort vs := by
  refine List.Perm.eq_of_pairwise (le := fun u v => r.le u v = true) (fun u v mu mv a b => ?_) (r.sort_le us) (r.sort_le vs) (((r.sort_perm us).trans h).trans (r.sort_perm vs).symm)
  have m1 : u.n ∈ r.ns := hu u ((r.sort_perm us).mem_iff.mp mu)
  have m2 : v.n ∈ r.ns := hu v (h.mem_iff.mpr ((r.sort_perm vs).mem_iff.mp mv))
  unfold Rk.le at a b
  simp at a b
  rcases r.tri u v with z | z | z
  · exact (b z).elim
  · exact r.key_inj m1 m2 z
  · exact (a z).elim
/-- strictly rising -/
theorem Rk.sort_lt (r : Rk) {us : List Dv} (hu : ∀ u ∈ us, u.n ∈ r.ns) (nd : us.Nodup) : (r.sort us).Pairwise r.lt := by
  have nd2 : (r.sort us).Nodup := (r.sort_perm us).nodup_iff.mpr nd
  have m : ∀ u ∈ r.sort us, u.n ∈ r.ns := fun u h => hu u ((r.sort_perm us).mem_iff.mp h)
  have h := r.sort_le us
  rw [List.pairwise_iff_getElem] at *
  intro i j hi hj hij
  have a := h i j hi hj hij
  have b := List.pairwise_iff_getElem.mp nd2 i j hi hj hij
  unfold Rk.le at a
  simp at a
  rcases r.tri (r.sort us)[i] (r.sort us)[j] with z | z | z
  · exact z
  · exact (b (r.key_inj (m _ (List.getElem_mem hi)) (m _ (List.getElem_mem hj)) z)).elim
  · exact (a z).elim
theorem Rk.sort_idem (r : Rk) {us : List Dv} (hu : ∀ u ∈ us, u.n ∈ r.ns) : r.sort (r.sort us).reverse = r.sort us :=
  r.sort_one (fun u h => hu u ((r.sort_perm us).mem_iff.mp (List.mem_reverse.mp h))) ((List.reverse_perm _).trans (r.sort_perm us))
/-! ### what sorted with keys makes of them -/
theorem dataLt_keys (a b : List Int) : dataLt (.tuple (a.map .int)) (.tuple (b.map .int)) = decide (a < b) := by
  rw [dataLt_tuple]
  exact dataLt_ints a b
def Rk.keyD (r : Rk) (u : Dv) : PyData := .tuple ((r.key u).map .int)
theorem zip_pairs {α β γ : Type} (f : β → γ) : ∀ {xs : List α} {us : List β}, xs.length = us.length → xs.zip (us.map f) = (xs.zip us).map fun p => (p.1, f p.2)
  | [], [], _ => rfl
  | _ :: _, _ :: _, h => congrArg (_ :: ·) (zip_pairs f (by simpa using h))
theorem AllP.zip {H : Hp} (f : Dv → Pr) : ∀ {xs : List V} {us : List Dv}, AllP (us.map f) xs H → ∀ p ∈ xs.zip us, (f p.2).P p.1 H
  | [], [], _, p, h => by simp at h
  | x :: xs, u :: us, a, p, h => by
    rcases List.mem_cons.mp h with rfl | h
    · exact a.1
    · exact AllP.zip f a.2 p h
theorem AllP.of {H : Hp} (f : Dv → Pr) : ∀ {ps : List (V × Dv)}, (∀ p ∈ ps, (f p.2).P p.1 H) → AllP ((ps.map (·.2)).map f) (ps.map (·.1)) H
  | [], _ => trivial
  | p :: ps, h => ⟨h p List.mem_cons_self, AllP.of f fun q hq => h q (List.mem_cons_of_mem _ hq)⟩
theorem byKey_all (r : Rk) {H : Hp} {xs : List V} {us : List Dv} (h : AllP (us.map DvP) xs H) : AllP ((r.sort us).map DvP) (byKey xs (us.map r.keyD)) H := by
  have hl : xs.length = us.length := by
    have := h.len
    rw [List.length_map] at this
    exact this
  have e1 : xs.zip (us.map r.keyD) = (xs.zip us).map fun p => (p.1, r.keyD p.2) := zip_pairs _ hl
  have e2 : ((xs.zip us).mergeSort fun p q => r.le p.2 q.2).map (fun p => (p.1, r.keyD p.2)) = (xs.zip (us.map r.keyD)).mergeSort (dataLe false (·.2)) := by
    rw [e1]
    refine List.map_mergeSort fun p _ q _ => ?_
    rw [dataLe_eq]
    show r.le p.2 q.2 = !dataLt (r.keyD q.2) (r.keyD p.2)
    unfold Rk.keyD
    rw [dataLt_keys]
    rfl
  have e3 : ((xs.zip us).mergeSort fun p q => r.le p.2 q.2).map (·.2) = r.sort us := by
    have : us = (xs.zip us).map (·.2) := by rw [List.map_snd_zip (by omega)]
    unfold Rk.sort
    rw [this]
    simp only [List.map_snd_zip (show us.length ≤ xs.length by omega)]
    have := List.map_mergeSort (r := fun p q : V × Dv => r.le p.2 q.2) (s := r.le) (f := fun p : V × Dv => p.2) (l := xs.zip us) (fun _ _ _ _ => rfl)
    rw [this, List.map_snd_zip (by omega)]
  have e4 : byKey xs (us.map r.keyD) = ((xs.zip us).mergeSort fun p q => r.le p.2 q.2).map (·.1) := by
    unfold byKey
    rw [← e2, List.map_map]
    rfl
  rw [e4, ← e3]
  exact AllP.of DvP fun p hp => AllP.zip DvP h p ((List.mergeSort_perm _ _).mem_iff.mp hp)
end My
namespace My
set_option autoImplicit false
open PySem PySem.W L2 Evl LamX
theorem AllP.ix {H : Hp} : ∀ {ps : List Pr} {vs : List V}, ps.length = vs.length → (∀ (i : Nat) (p : Pr) (v : V), ps[i]? = some p → vs[i]? = some v → p.P v H) → AllP ps vs H
  | [], [], _, _ => trivial
  | p :: ps, v :: vs, hl, h => ⟨h 0 p v rfl rfl, AllP.ix (by simpa using hl) fun i q u a b => h (i + 1) q u a b⟩
theorem AllP.ixD {H : Hp} (f : Dv → Pr) {us : List Dv} {vs : List V} {i : Nat} {v : V} (h : AllP (us.map f) vs H) (hv : vs[i]? = some v) : ∃ u, us[i]? = some u ∧ (f u).P v H := by
  obtain ⟨p, hp, k⟩ := h.get hv
  rw [List.getElem?_map] at hp
  cases e : us[i]? with
  | none =>
    rw [e] at hp
    cases hp
  | some u =>
    rw [e] at hp
    obtain rfl : f u = p := Option.some.inj hp
    exact ⟨u, rfl, k⟩
/-- tables of code: what of the heap they lean on -/
theorem exN_ex {B H H2 : Hp} (e : Ex B H) (n : NoTab B) (k : ExtN H H2) : Ex B H2 := fun b o h => k b o (e b o h) fun ps z => n b ps (by rw [← z]; exact h)
theorem exN_of {H H' : Hp} (e : Ex H H') : ExtN H H' := fun b o h _ => e b o h
theorem nt_upd {B : Hp} {a : Addr} {o : HO} (n : NoTab B) (ho : ∀ ps, o ≠ .tbl ps) : NoTab (upd B a o) := fun b ps q => by
  by_cases h : b = a
  · subst h
    rw [upd_same] at q
    exact ho ps (Option.some.inj q)
  · rw [upd_ne h] at q
    exact n b ps q
/-! ### a for over what is known -/
section
variable {te ta tb : TE} {t tr : TA} {tt : TT} {σ : L2.St} {B B' H : Hp} {p q : Pr} {ps : List Pr} {v : V} {K : PySem.W.Frag} {D : Ends}
theorem ps_forS {wi : TI} {n : Nat} {P : Nat → Pr} {g : TG} {tbd : TS} (a : Ex B H) (h : Src wi σ B n P)
    (k : ∀ B1 H1, Gr B H B1 H1 → ∃ Pv : Nat → L2.St → Hp → Prop, Pv 0 σ H1 ∧ (∀ i σ' H', i ≤ n → Pv i σ' H' → Ex B1 H') ∧
      (∀ i v σ' H', i < n → Pv i σ' H' → (P i).P v B1 → g v σ' H' fun σ2 H2 => tbd { D with nx := Pv (i + 1), ct := Pv (i + 1), bk := D.nx } σ2 H2) ∧ ∀ σ' H', Pv n σ' H' → D.nx σ' H') :
    tFor wi g tbd D σ H := h H a _ fun J B1 H1 G Y gr w hG hY => by
  obtain ⟨Pv, h0, hE, hs, hd⟩ := k B1 H1 gr
  refine for_it w Pv h0 (fun i σ' H' hi pv => hG H' (hE i σ' H' hi pv)) (fun i x σ' H' H2 hi pv y => ?_) hd
  obtain ⟨rfl, px⟩ := hY i H' x H2 hi (hE i σ' H' (Nat.le_of_lt hi) pv) y
  exact hs i x σ' H2 hi pv px
theorem src_lq (h : EvP te σ B (LqP K ps)) : Src (iList K te) σ B ps.length (fun i => ps.getD i (IsV .non)) := fun H1 a R k => h H1 a _ fun v B2 H2 g b => by
  obtain ⟨l, xs, rfl, hx, al⟩ := b
  refine ⟨l, rfl, ⟨xs, ex_l g.c hx⟩, k _ B2 H2 _ _ g (by rw [← al.len]; exact walk_list) (fun H e => ex_l e hx) fun i H v H' _ e (z : H' = H ∧ _) => ⟨z.1, ?_⟩⟩
  obtain ⟨p, hp, k2⟩ := al.get z.2
  show (ps.getD i (IsV .non)).P v B2
  rw [List.getD_eq_getElem?_getD, hp]
  exact k2
theorem ev_isiLT {d : PyData} {b : Bool} (h : EvP te σ B (IsD K d)) (hk : PySem.W.kitAny K (.type (tyS d)) [.type "list", .type "tuple"] = some b) :
    Ev (tCB (rIsiT K) (tCons te (tCons (tTup (tCons (tC (.ty "list")) (tCons (tC (.ty "tuple")) tNil))) tNil))) σ B (.bl b) := fun H1 a Q k =>
  h H1 a _ fun v B2 H2 g x => ⟨sz_of (by show 2 ≤ 100000; decide), fun r hr => ⟨v, r, _, .type (tyS d), _, b, rfl, upd_same, .cons (.ty "list") (.cons (.ty "tuple") .nil), ty_d (dp_m (g.c.trans (Ex.new hr)) x), hk, k _ (g.a.trans (Ex.new hr))⟩⟩
end
/-! ### dicts by derivatives -/
def dvK (u : Dv) : List Key := [.inr u.n, .inl u.i, .inl u.j]
theorem dvK_inj {u v : Dv} (h : dvK u = dvK v) : u = v := by
  obtain ⟨n, i, j⟩ := u
  obtain ⟨n', i', j'⟩ := v
  simp [dvK] at h
  obtain ⟨rfl, rfl, rfl⟩ := h
  rfl
def addD (ds : List Dv) (u : Dv) : List Dv := if u ∈ ds then ds else ds ++ [u]
def dedD (us : List Dv) : List Dv := us.foldl addD []
def asK (ds : List Dv) : List (List Key × V) := ds.map fun u => (dvK u, .bl true)
theorem put_add (ds : List Dv) (u : Dv) : putK (asK ds) (dvK u) (.bl true) = asK (addD ds u) := by
  unfold putK addD
  by_cases h : u ∈ ds
  · rw [if_pos h, if_pos]
    · unfold asK
      rw [List.map_map]
      apply List.map_congr_left
      intro v _
      show (if dvK v = dvK u then (dvK v, V.bl true) else (dvK v, .bl true)) = _
      split <;> rfl
    · unfold asK
      rw [List.any_map, List.any_eq_true]
      exact ⟨u, h, by simp⟩
  · rw [if_neg h, if_neg]
    · unfold asK
      rw [List.map_append]
      rfl
    · unfold asK
      rw [List.any_map, List.any_eq_true]
      rintro ⟨v, hv, e⟩
      simp at e
      exact h (by rw [← dvK_inj e]; exact hv)
theorem add_mem {ds : List Dv} {u v : Dv} : v ∈ addD ds u ↔ v ∈ ds ∨ v = u := by
  unfold addD
  by_cases h : u ∈ ds
  · rw [if_pos h]
    constructor
    · exact .inl
    · rintro (k | rfl)
      · exact k
      · exact h
  · rw [if_neg h]
    simp
theorem add_nd {ds : List Dv} {u : Dv} (h : ds.Nodup) : (addD ds u).Nodup := by
  unfold addD
  by_cases k : u ∈ ds
  · rw [if_pos k]
    exact h
  · rw [if_neg k, List.nodup_append]
    exact ⟨h, by simp, fun a ha b hb => by
      rw [List.mem_singleton.mp hb]
      rintro rfl
      exact k ha⟩
theorem fold_add : ∀ (us ds : List Dv), (∀ v, v ∈ us.foldl addD ds ↔ v ∈ ds ∨ v ∈ us) ∧ (ds.Nodup → (us.foldl addD ds).Nodup)
  | [], ds => ⟨fun v => by simp, id⟩
  | u :: us, ds => by
    obtain ⟨h1, h2⟩ := fold_add us (addD ds u)
    refine ⟨fun v => ?_, fun h => h2 (add_nd h)⟩
    show v ∈ us.foldl addD (addD ds u) ↔ _
    rw [h1, add_mem, List.mem_cons]
    constructor
    · rintro ((a | a) | a)
      · exact .inl a
      · exact .inr (.inl a)
      · exact .inr (.inr a)
    · rintro (a | a | a)
      · exact .inl (.inl a)
      · exact .inl (.inr a)
      · exact .inr a
theorem ded_mem {us : List Dv} {v : Dv} : v ∈ dedD us ↔ v ∈ us := by
  unfold dedD
  rw [(fold_add us []).1]
  simp
theorem ded_nd (us : List Dv) : (dedD us).Nodup := (fold_add us []).2 List.nodup_nil
theorem ded_perm {us vs : List Dv} (h : ∀ v, v ∈ us ↔ v ∈ vs) : (dedD us).Perm (dedD vs) := (List.perm_ext_iff_of_nodup (ded_nd us) (ded_nd vs)).mpr fun v => by rw [ded_mem, ded_mem, h]
theorem ded_len (us : List Dv) : (dedD us).length ≤ us.length := by
  have : ∀ (us ds : List Dv), (us.foldl addD ds).length ≤ ds.length + us.length := by
    intro us
    induction us with
    | nil => intro ds; simp
    | cons u us ih =>
      intro ds
      show (us.foldl addD (addD ds u)).length ≤ _
      have := ih (addD ds u)
      have h : (addD ds u).length ≤ ds.length + 1 := by
        unfold addD
        split <;> simp
      rw [List.length_cons]
      omega
  have := this us []
  unfold dedD
  simpa using this
theorem ded_same {us : List Dv} (h : us.Nodup) : dedD us = us := by
  have : ∀ (us ds : List Dv), (ds ++ us).Nodup → us.foldl addD ds = ds ++ us := by
    intro us
    induction us with
    | nil => intro ds _; simp
    | cons u us ih =>
      intro ds hd
      show us.foldl addD (addD ds u) = _
      have nu : u ∉ ds := fun k => by
        rw [List.nodup_append] at hd
        exact hd.2.2 u k u List.mem_cons_self rfl
      have : addD ds u = ds ++ [u] := by
        unfold addD
        rw [if_neg nu]
      rw [this, ih _ (by simpa using hd)]
      simp
  unfold dedD
  simpa using this us [] (by simpa using h)
/-! ### all derivatives to an order -/
def Rk.most (r : Rk) (o i : Nat) : Nat := if (Str.ofString "y") ∈ r.axs then o - i else 0
def Rk.row (r : Rk) (o : Nat) (n : Str) (i : Nat) : List Dv := (List.range (r.most o i + 1)).map fun (j : Nat) => ⟨n, (i : Int), (j : Int)⟩
def Rk.rowsN (r : Rk) (o : Nat) (n : Str) (m : Nat) : List Dv := (List.range m).flatMap (r.row o n)
def Rk.rowsT (r : Rk) (o m : Nat) : List Dv := (r.ns.take m).flatMap fun n => r.rowsN o n (o + 1)
def Rk.all (r : Rk) (o : Nat) : List Dv := r.ns.flatMap fun n => r.rowsN o n (o + 1)
theorem Rk.mem_row {r : Rk} {o i : Nat} {n : Str} {u : Dv} (h : u ∈ r.row o n i) : u.n = n ∧ u.i = i ∧ 0 ≤ u.j ∧ u.j ≤ r.most o i := by
  unfold Rk.row at h
  obtain ⟨j, hj, rfl⟩ := List.mem_map.mp h
  have := List.mem_range.mp hj
  exact ⟨rfl, rfl, by simp, by simp; omega⟩
theorem Rk.mem_all {r : Rk} {o : Nat} {u : Dv} (h : u ∈ r.all o) : u.Of r := by
  unfold Rk.all Rk.rowsN at h
  obtain ⟨n, hn, h⟩ := List.mem_flatMap.mp h
  obtain ⟨i, hi, h⟩ := List.mem_flatMap.mp h
  obtain ⟨h1, h2, h3, h4⟩ := Rk.mem_row h
  refine ⟨by rw [h1]; exact hn, by rw [h2]; simp, h3, ?_⟩
  unfold Rk.most at h4
  by_cases hy : (Str.ofString "y") ∈ r.axs
  · exact .inr hy
  · rw [if_neg hy] at h4
    exact .inl (by simp at h4; omega)
theorem nd_flat {α β : Type} {f : α → List β} : ∀ {l : List α}, l.Nodup → (∀ a ∈ l, (f a).Nodup) → (∀ a ∈ l, ∀ b ∈ l, ∀ x, x ∈ f a → x ∈ f b → a = b) → (l.flatMap f).Nodup
  | [], _, _, _ => List.nodup_nil
  | a :: l, nd, h1, h2 => by
    rw [List.flatMap_cons, List.nodup_append]
    refine ⟨h1 a List.mem_cons_self, nd_flat (List.nodup_cons.mp nd).2 (fun b hb => h1 b (List.mem_cons_of_mem _ hb)) (fun b hb c hc => h2 b (List.mem_cons_of_mem _ hb) c (List.mem_cons_of_mem _ hc)), fun x hx y hy => ?_⟩
    rintro rfl
    obtain ⟨b, hb, hx2⟩ := List.mem_flatMap.mp hy
    have := h2 a List.mem_cons_self b (List.mem_cons_of_mem _ hb) x hx hx2
    subst this
    exact (List.nodup_cons.mp nd).1 hb
theorem Rk.all_nd {r : Rk} (o : Nat) (h : r.ns.Nodup) : (r.all o).Nodup := by
  unfold Rk.all
  refine nd_flat h (fun n _ => ?_) fun a _ b _ x hx hy => ?_
  · unfold Rk.rowsN
    refine nd_flat List.nodup_range (fun i _ => ?_) fun a _ b _ x hx hy => ?_
    · unfold Rk.row
      rw [List.nodup_iff_pairwise_ne, List.pairwise_map]
      refine List.Pairwise.imp ?_ (List.pairwise_lt_range)
      intro a b hab e
      simp at e
      omega
    · have := (Rk.mem_row hx).2.1
      have := (Rk.mem_row hy).2.1
      omega
  · unfold Rk.rowsN at hx hy
    obtain ⟨i, _, hx⟩ := List.mem_flatMap.mp hx
    obtain ⟨j, _, hy⟩ := List.mem_flatMap.mp hy
    rw [← (Rk.mem_row hx).1, (Rk.mem_row hy).1]
theorem flat_len {α β : Type} {f : α → List β} {m : Nat} : ∀ {l : List α}, (∀ a ∈ l, (f a).length ≤ m) → (l.flatMap f).length ≤ l.length * m
  | [], _ => by simp
  | a :: l, h => by
    rw [List.flatMap_cons, List.length_append, List.length_cons, Nat.add_mul]
    have := h a List.mem_cons_self
    have := flat_len (l := l) fun b hb => h b (List.mem_cons_of_mem _ hb)
    omega
theorem Rk.rowsN_len (r : Rk) {o : Nat} (n : Str) {m : Nat} (hm : m ≤ 13) (ho : o ≤ 12) : (r.rowsN o n m).length ≤ 169 := by
  have : (r.rowsN o n m).length ≤ (List.range m).length * 13 := flat_len fun i _ => by
    unfold Rk.row Rk.most
    rw [List.length_map, List.length_range]
    split <;> omega
  rw [List.length_range] at this
  have : m * 13 ≤ 13 * 13 := Nat.mul_le_mul_right 13 hm
  omega
theorem Rk.rowsT_len (r : Rk) {o m : Nat} (ho : o ≤ 12) (hr : r.ns.length ≤ 3) : (r.rowsT o m).length ≤ 507 := by
  have : (r.rowsT o m).length ≤ (r.ns.take m).length * 169 := flat_len fun n _ => r.rowsN_len n (by omega) ho
  have h2 : (r.ns.take m).length ≤ 3 := by rw [List.length_take]; omega
  have : (r.ns.take m).length * 169 ≤ 3 * 169 := Nat.mul_le_mul_right 169 h2
  omega
theorem Rk.rowsT_all (r : Rk) (o : Nat) : r.rowsT o r.ns.length = r.all o := by
  unfold Rk.rowsT Rk.all
  rw [List.take_length]
theorem Rk.rowsT_succ (r : Rk) (o m : Nat) (h : m < r.ns.length) : r.rowsT o (m + 1) = r.rowsT o m ++ r.rowsN o r.ns[m] (o + 1) := by
  unfold Rk.rowsT
  rw [List.take_add_one, List.getElem?_eq_getElem h, List.flatMap_append]
  simp
theorem Rk.rowsN_succ (r : Rk) (o : Nat) (n : Str) (m : Nat) : r.rowsN o n (m + 1) = r.rowsN o n m ++ r.row o n m := by
  unfold Rk.rowsN
  rw [List.range_succ]
  simp
theorem Rk.all_ne (r : Rk) (o : Nat) (h : 1 ≤ r.ns.length) : r.all o ≠ [] := by
  match e : r.ns, h with
  | n :: ns, _ =>
    unfold Rk.all
    rw [e, List.flatMap_cons]
    unfold Rk.rowsN
    rw [List.range_succ_eq_map, List.flatMap_cons]
    unfold Rk.row
    rw [List.range_succ_eq_map]
    simp
end My
namespace My
open PySem L2 Evl
theorem ev_isiLL {K : PySem.W.Frag} {te : TE} {σ : L2.St} {B : Hp} {ps : List Pr} (h : EvP te σ B (LqP K ps)) :
    Ev (tCB (rIsiT K) (tCons te (tCons (tTup (tCons (tC (.ty "list")) (tCons (tC (.ty "tuple")) tNil))) tNil))) σ B (.bl true) := fun H1 a Q k =>
  h H1 a _ fun v B2 H2 g x => ⟨sz_of (by show 2 ≤ 100000; decide), fun r hr => ⟨v, r, _, .type "list", _, true, rfl, upd_same, .cons (.ty "list") (.cons (.ty "tuple") .nil), by
    obtain ⟨l, xs, rfl, hl, _⟩ := x
    rcases ex_l (g.c.trans (Ex.new hr)) hl with (a | ⟨o, a⟩) | ⟨o, its, n, hk, hc, _⟩
    · exact .base (.lst a)
    · exact .base (.frz a)
    · exact .kList hk hc, kitAny_cons (b := true) (kit_ty k_ll) (fun z => nomatch z) (fun _ => rfl), k _ (g.a.trans (Ex.new hr))⟩⟩
end My
namespace My
set_option autoImplicit false
open PySem L2 Evl
theorem p_lcP {te : TE} {σ : L2.St} {B : Hp} {wi : TI} {n : Nat} {P : Nat → Pr} {g : TG} {vs : List Nat} (h : Src wi σ B n P) (hl : n ≤ 100000) (res : Nat → Pr)
    (step : ∀ i v B1, i < n → Ex B B1 → (P i).P v B1 → ∃ σ2, wipe σ2 vs = wipe σ vs ∧ (∀ H2 Q, Ex B1 H2 → Q σ2 H2 → g v (wipe σ vs) H2 Q) ∧ EvP te σ2 B1 (res i)) :
    EvP (tLc wi g tYes te vs) σ B (LsP ((List.range n).map res)) := by
  have := p_lcS (tt := tYes) (te := te) h hl (fun _ => true) res fun i v B1 hi e pv => by
    obtain ⟨σ2, a, b, c⟩ := step i v B1 hi e pv
    exact ⟨σ2, a, b, et_yes, fun _ => c⟩
  rw [List.filter_eq_self.mpr (fun _ _ => rfl)] at this
  exact this
end My
namespace My
set_option autoImplicit false
open PySem PySem.Spec PyProof.Rows L2
def signsOf (x : Str) : List Str := (List.range x.cps.size).map (oneS x)
/-- list(x) of a text -/
theorem call_listS {X : Cx} (hc : X.calm = true) : CallR X (.type "list") (fun xs H Q => ∃ x : Str, xs = [.str x] ∧ x.length ≤ 100000 ∧ ∀ l, H l = none → Q (.ref l) (upd H l (.lst ((signsOf x).map V.str)))) := by
  intro pins s σ H xs us Q I r ⟨x, ex, hx, q⟩
  subst ex
  obtain ⟨u, rfl, rx⟩ := vals1 r
  obtain ⟨t, rfl⟩ := rx
  have hz : x.cps.size ≤ sizeLine := Evl.sz_of hx
  refine call_list_str (I.ok.hd hc) x t (fun h1 tk acc c kp at1 items => ?_) hz
  have hl : ((signsOf x).map V.str).length = x.cps.size := by
    unfold signsOf
    rw [List.length_map, List.length_map, List.length_range]
  refine ⟨.ref s.heap.objs.size, _, I.laid kp (Nat.le_refl _) (show ObjOk X.prog X.w _ _ _ (.lst ((signsOf x).map V.str)) from ⟨by rw [hl]; exact hz, acc.toList, c, ?_, by simpa using at1⟩), rfl, q _ (I.hok.fresh (Nat.le_refl _))⟩
  have ha : acc.toList.length = acc.size := by simp
  refine vals_of_at (by rw [hl, ha, items.1]) fun j v w h1 h2 => ?_
  obtain hs := items.2 j w (by rw [← Array.getElem?_toList]; exact h2)
  have hj : j < x.cps.size := by
    have := (List.getElem?_eq_some_iff.mp h1).1
    rw [hl] at this
    exact this
  have hv : v = .str (oneS x j) := by
    unfold signsOf at h1
    rw [List.getElem?_map, List.getElem?_map, List.getElem?_range hj] at h1
    exact (Option.some.inj h1).symm
  subst hv
  obtain ⟨c, tk2, hc2, rfl⟩ := hs
  refine ⟨tk2, ?_⟩
  unfold oneS
  rw [Array.getD_eq_getD_getElem?, hc2]
  rfl
end My
namespace My
set_option autoImplicit false
open PySem PySem.W L2 Evl LamX
section
variable {te ta tb : TE} {t tr : TA} {tt : TT} {σ : L2.St} {B B' H : Hp} {p q : Pr} {ps : List Pr} {v : V} {K : PySem.W.Frag} {D : Ends}
theorem AllP.take {H : Hp} : ∀ {ps : List Pr} {vs : List V} (n : Nat), AllP ps vs H → AllP (ps.take n) (vs.take n) H
  | _, _, 0, _ => trivial
  | [], [], _ + 1, _ => trivial
  | _ :: _, _ :: _, n + 1, h => ⟨h.1, AllP.take n h.2⟩
/-- the first k of a list -/
theorem p_sl {k : Nat} (h : EvP te σ B (LqP K ps)) (hk : Ev tb σ B (.int (k : Int))) : EvP (tSl (rSlL K) te tNoPart (tPart tb)) σ B (LsP (ps.take k)) := fun H1 a Q q =>
  h H1 a _ fun v B2 H2 g x => hk H2 (g.b.trans g.c) _ fun H3 e3 => ⟨k, rfl, by
    obtain ⟨l, xs, rfl, hl, al⟩ := x
    refine ⟨l, xs, rfl, ex_l (g.c.trans e3) hl, fun r hr => ?_⟩
    rw [cutTo]
    have g2 := (g.trans (Gr.wide g.c e3)).trans (Gr.new (.lst (xs.take k)) (g.c.trans e3) hr)
    exact q _ _ _ g2 ⟨r, _, rfl, upd_same, (al.take k).m (Ex.new (fresh_back (g.c.trans e3) hr))⟩⟩
theorem ev_lenQ (h : EvP te σ B (LqP K ps)) : Ev (tCB (rLenS K) (tCons te tNil)) σ B (.int (ps.length : Int)) := fun H1 a Q k =>
  h H1 a _ fun v B2 H2 g x => by
    obtain ⟨l, xs, rfl, hl, al⟩ := x
    refine ⟨l, xs, rfl, .inl (ex_l g.c hl), ?_⟩
    rw [al.len]
    exact k H2 g.a
theorem ls_dv {us : List Dv} (h : EvP te σ B (LsP (us.map DvP))) : EvP te σ B (IsD K (.list (us.map Dv.D))) := h.imp fun v H1 _ x => by
  obtain ⟨r, xs, rfl, hr, hx⟩ := x
  refine .lst (sq_of hr) ?_
  have : ∀ {us : List Dv} {xs : List V}, AllP (us.map DvP) xs H1 → DpAll K H1 xs (us.map Dv.D) := by
    intro us
    induction us with
    | nil =>
      intro xs h
      match xs, h with
      | [], _ => exact .nil
    | cons u us ih =>
      intro xs h
      match xs, h with
      | x :: xs, h => exact .cons (dv_d h.1) (ih h.2)
  exact this hx
end
theorem canAll {us : List Dv} (h : ∀ u ∈ us, SeqAt.shaped u.D = true) : PyData.canLayAll0 (us.map Dv.D) = true ∧ PyData.depthAll (us.map Dv.D) ≤ 1 := by
  induction us with
  | nil => exact ⟨rfl, Nat.zero_le _⟩
  | cons u us ih =>
    obtain ⟨h1, h2⟩ := ih fun v hv => h v (List.mem_cons_of_mem _ hv)
    have h0 := SeqAt.canLay_of_shaped (h u List.mem_cons_self)
    rw [List.map_cons, PyData.canLayAll0, PyData.depthAll, h0, h1]
    refine ⟨rfl, ?_⟩
    have : u.D.depth = 1 := by
      unfold Dv.D
      simp [PyData.depth, PyData.depthAll]
    omega
theorem sh_list {us : List Dv} (h : ∀ u ∈ us, SeqAt.shaped u.D = true) : SeqAt.shaped (.list (us.map Dv.D)) = true := by
  obtain ⟨h1, h2⟩ := canAll h
  unfold SeqAt.shaped
  rw [PyData.canLay0, h1, PyData.depth]
  simp
  omega
theorem eqv_nil (ds : List PyData) : PyData.eqv (.list ds) (.list []) = ds.isEmpty := by
  cases ds <;> simp [PyData.eqv, PyData.eqvAll]
theorem range_lt (L k : Nat) (h : k ≤ L) : (List.range L).filter (fun i => decide (i < k)) = List.range k := by
  have : List.range L = List.range k ++ (List.range (L - k)).map (k + ·) := by
    have := List.range_add (n := k) (m := L - k)
    rw [show k + (L - k) = L by omega] at this
    exact this
  rw [this, List.filter_append, List.filter_eq_self.mpr (fun i hi => decide_eq_true (List.mem_range.mp hi)), List.filter_eq_nil_iff.mpr, List.append_nil]
  intro i hi
  obtain ⟨j, _, rfl⟩ := List.mem_map.mp hi
  simp
theorem range_take {α : Type} (us : List α) (d : α) (k : Nat) (h : k ≤ us.length) : (List.range k).map (fun i => us.getD i d) = us.take k := by
  apply List.ext_getElem?
  intro i
  by_cases hi : i < k
  · rw [List.getElem?_map, List.getElem?_range hi, List.getElem?_take_of_lt hi]
    rw [Option.map_some, List.getD_eq_getElem?_getD, List.getElem?_eq_getElem (by omega)]
    rfl
  · rw [List.getElem?_eq_none (by simp; omega), List.getElem?_eq_none (by rw [List.length_take]; omega)]
/-- which of a rising row is below the k-th -/
theorem Rk.below {r : Rk} {us : List Dv} (h : us.Pairwise r.lt) {i k : Nat} (hi : i < us.length) (hk : k < us.length) : decide (r.cmp us[i] us[k] < 0) = decide (i < k) := by
  rw [List.pairwise_iff_getElem] at h
  by_cases e : i < k
  · rw [decide_eq_true e, (r.cmp_lt _ _).mpr (h i k hi hk e)]
    rfl
  · rw [decide_eq_false e, decide_eq_false_iff_not]
    by_cases e2 : i = k
    · subst e2
      rw [(r.cmp_eq _ _).mpr rfl]
      decide
    · rw [(r.cmp_gt _ _).mpr (h k i hk hi (by omega))]
      decide
/-- an object at d, a dict, left out -/
theorem wo_at {d b : Addr} {H : Hp} {o : HO} {kvs : List (Key × V)} (hd : H d = some (.dK kvs)) (h : H b = some o) (n : ∀ kvs, o ≠ .dK kvs) : wo d H b = some o := by
  rw [wo_ne fun z => by
    subst z
    rw [hd] at h
    exact n kvs (Option.some.inj h).symm]
  exact h
theorem dvs_wo {d : Addr} {H : Hp} {kvs : List (Key × V)} (hd : H d = some (.dK kvs)) : ∀ {us : List Dv} {xs : List V}, AllP (us.map DvP) xs H → AllP (us.map DvP) xs (wo d H)
  | [], [], _ => trivial
  | _ :: _, _ :: _, ⟨⟨a, e, h⟩, t⟩ => ⟨⟨a, e, wo_at hd h fun _ z => nomatch z⟩, dvs_wo hd t⟩
/-- all but d and the tables of code -/
def ExtB (d : Addr) (H H' : Hp) : Prop := ∀ b o, b ≠ d → H b = some o → (∀ ps, o ≠ .tbl ps) → H' b = some o
theorem ExtB.of {d : Addr} {H H' : Hp} (h : ExtN H H') : ExtB d H H' := fun b o _ e n => h b o e n
theorem ExtB.trans {d : Addr} {H H1 H2 : Hp} (a : ExtB d H H1) (b : ExtB d H1 H2) : ExtB d H H2 := fun c o h e n => b c o h (a c o h e n) n
theorem ExtB.ex {d : Addr} {B H H' : Hp} (h : ExtB d H H') (e : Ex B H) (n : NoTab B) (hd : B d = none) : Ex B H' := fun b o k => h b o (ne_of_none k hd) (e b o k) fun ps z => n b ps (by rw [← z]; exact k)
theorem tabs_but {T : List (Addr × Str)} {d : Addr} {H H' : Hp} {kvs : List (Key × V)} (t : Tabs T H) (hd : H d = some (.dK kvs)) (s : ∀ b o, b ≠ d → H b = some o → H' b = some o) : Tabs T H' := by
  have e : ∀ b o, wo d H b = some o → H' b = some o := fun b o k => by
    obtain ⟨n, q⟩ := wo_some k
    exact s b o n q
  refine Tabs.ext (H := wo d H) (fun p hp => ?_) e
  obtain ⟨ps, h1, h2, h3⟩ := t p hp
  refine ⟨ps, (wo_at hd h1 (fun _ z => nomatch z)), h2, fun pos cv hc => ?_⟩
  obtain ⟨c, e1, e2⟩ := h3 pos cv hc
  exact ⟨c, e1, wo_at hd e2 fun kvs z => by unfold CodeO at z; cases z⟩
end My
namespace My
set_option autoImplicit false
open PySem PySem.W L2 Evl LamX
section
variable {te ta tb : TE} {t tr : TA} {tt : TT} {σ : L2.St} {B B' H : Hp} {p q : Pr} {ps : List Pr} {v : V} {K : PySem.W.Frag} {D : Ends}
/-- a pair unpacked -/
theorem ps_un2 {i j : Nat} (a : Ex B H) (h : EvP te σ B (TuP K [p, q])) (n : ∀ v w B1 H1, Gr B H B1 H1 → p.P v B1 → q.P w B1 → D.nx ((σ.set i (some v)).set j (some w)) H1) :
    tAsg te (gTup K 2 (gCons (gName i) (gCons (gName j) gNil))) D σ H := h H a _ fun v B1 H1 g x => by
  obtain ⟨l, xs, rfl, h2, h3⟩ := x
  match xs, h3 with
  | [v, w], h3 => exact ⟨_, _, rfl, ex_t g.c h2, rfl, _, _, rfl, _, _, rfl, rfl, n v w B1 H1 g h3.1 h3.2.1⟩
theorem ev_notR {a : Addr} {i : Nat} (h : σ[i]? = some (some (.ref a))) : Ev (tOp (fun x y H Q => y = V.non ∧ Q (.bl (!decide (x = V.non))) H) (tVar i) (tC .non)) σ B (.bl true) := fun H1 _ Q k =>
  ⟨.ref a, h, rfl, k H1 (Ex.refl H1)⟩
end
end My
namespace My
set_option autoImplicit false
open PySem PySem.W L2 Evl
/-! ### which one is above, told otherwise -/
def Rk.abv (r : Rk) (a b : Dv) : Bool :=
  if r.tot = false ∧ a.n ≠ b.n then decide (r.ns.idxOf a.n < r.ns.idxOf b.n)
  else if a.i + a.j ≠ b.i + b.j then decide (b.i + b.j < a.i + a.j)
  else if r.first a ≠ r.first b then decide (r.first b < r.first a) else decide (r.ns.idxOf a.n < r.ns.idxOf b.n)
theorem Rk.abv_lt (r : Rk) {a b : Dv} (ha : a.n ∈ r.ns) (hb : b.n ∈ r.ns) : r.abv a b = decide (r.lt b a) := by
  have hi : a.n = b.n ↔ r.ns.idxOf a.n = r.ns.idxOf b.n := ⟨fun e => by rw [e], idx_inj ha hb⟩
  unfold Rk.abv
  rw [Bool.eq_iff_iff, @decide_eq_true_iff (r.lt b a)]
  unfold Rk.lt Rk.key
  cases ht : r.tot with
  | true =>
    rw [if_neg (by simp), if_pos rfl, if_pos rfl, lt3]
    unfold Rk.ahead
    by_cases h1 : a.i + a.j ≠ b.i + b.j
    · rw [if_pos h1, decide_eq_true_iff]
      omega
    · rw [if_neg h1]
      by_cases h2 : r.first a ≠ r.first b
      · rw [if_pos h2, decide_eq_true_iff]
        omega
      · rw [if_neg h2, decide_eq_true_iff]
        omega
  | false =>
    rw [if_neg Bool.false_ne_true, if_neg Bool.false_ne_true, lt3]
    unfold Rk.ahead
    by_cases h0 : a.n ≠ b.n
    · rw [if_pos ⟨rfl, h0⟩, decide_eq_true_iff]
      have : ¬ r.ns.idxOf a.n = r.ns.idxOf b.n := fun e => h0 (hi.mpr e)
      omega
    · have e0 : a.n = b.n := Classical.not_not.mp h0
      have e1 := hi.mp e0
      rw [if_neg (fun z => h0 z.2)]
      by_cases h1 : a.i + a.j ≠ b.i + b.j
      · rw [if_pos h1, decide_eq_true_iff]
        omega
      · rw [if_neg h1]
        by_cases h2 : r.first a ≠ r.first b
        · rw [if_pos h2, decide_eq_true_iff]
          omega
        · rw [if_neg h2, decide_eq_true_iff]
          omega
/-! ### rising, one put in behind the other -/
theorem count_split {α : Type} (p : α → Bool) : ∀ {l : List α}, (∀ (i j : Nat) (hi : i < l.length) (hj : j < l.length), i < j → p l[j] = true → p l[i] = true) → (∀ (i : Nat) (hi : i < l.length), p l[i] = decide (i < (l.filter p).length))
  | [], _ => fun i hi => absurd hi (Nat.not_lt_zero i)
  | x :: l, h => by
    have ih := count_split p (l := l) fun i j hi hj e q => h (i + 1) (j + 1) (by simpa using hi) (by simpa using hj) (by omega) q
    intro i hi
    cases hx : p x with
    | true =>
      rw [List.filter_cons_of_pos hx, List.length_cons]
      match i, hi with
      | 0, _ => simpa using hx
      | i + 1, hi =>
        have hi' : i < l.length := by simpa using hi
        show p (l[i]'hi') = _
        rw [ih i hi']
        simp
    | false =>
      rw [List.filter_cons_of_neg (by simp [hx])]
      have none : ∀ j (hj : j < l.length), p l[j] = false := fun j hj => by
        cases e : p l[j] with
        | false => rfl
        | true =>
          have := h 0 (j + 1) (by simp) (by simpa using hj) (by omega) e
          rw [List.getElem_cons_zero, hx] at this
          cases this
      have nil : l.filter p = [] := List.filter_eq_nil_iff.mpr fun y hy => by
        obtain ⟨j, hj, rfl⟩ := List.mem_iff_getElem.mp hy
        simp [none j hj]
      rw [nil]
      match i, hi with
      | 0, _ => simpa using hx
      | i + 1, hi => simpa using none i (by simpa using hi)
/-- where a derivative is put -/
def Rk.spot (r : Rk) (us : List Dv) (a : Dv) : Nat := (us.filter fun b => decide (r.lt b a)).length
def Rk.put (r : Rk) (us : List Dv) (a : Dv) : List Dv := if a ∈ us then us else us.insertIdx (r.spot us a) a
theorem Rk.spot_le (r : Rk) (us : List Dv) (a : Dv) : r.spot us a ≤ us.length := List.length_filter_le _ _
theorem ins_eq {α : Type} (a : α) : ∀ (n : Nat) (l : List α), n ≤ l.length → l.insertIdx n a = l.take n ++ a :: l.drop n
  | 0, l, _ => by simp
  | n + 1, x :: l, h => by
    rw [List.insertIdx_succ_cons, ins_eq a n l (by simpa using h)]
    simp
theorem Rk.put_mem (r : Rk) {us : List Dv} {a v : Dv} : v ∈ r.put us a ↔ v ∈ us ∨ v = a := by
  unfold Rk.put
  by_cases h : a ∈ us
  · rw [if_pos h]
    constructor
    · exact .inl
    · rintro (k | rfl)
      · exact k
      · exact h
  · rw [if_neg h, ins_eq _ _ _ (r.spot_le us a), List.mem_append, List.mem_cons]
    have : v ∈ us ↔ v ∈ us.take (r.spot us a) ∨ v ∈ us.drop (r.spot us a) := by
      rw [← List.mem_append, List.take_append_drop]
    rw [this]
    constructor
    · rintro (k | k | k)
      · exact .inl (.inl k)
      · exact .inr k
      · exact .inl (.inr k)
    · rintro ((k | k) | k)
      · exact .inl k
      · exact .inr (.inr k)
      · exact .inr (.inl k)
theorem Rk.put_rise (r : Rk) {us : List Dv} {a : Dv} (h : us.Pairwise r.lt) (hn : ∀ u ∈ us, u.n ∈ r.ns) (ha : a.n ∈ r.ns) : (r.put us a).Pairwise r.lt := by
  unfold Rk.put
  by_cases m : a ∈ us
  · rw [if_pos m]
    exact h
  · rw [if_neg m, ins_eq _ _ _ (r.spot_le us a), List.pairwise_append, List.pairwise_cons]
    have hg := List.pairwise_iff_getElem.mp h
    have split := count_split (fun b => decide (r.lt b a)) (l := us) fun i j hi hj e q => by
      exact decide_eq_true (r.lt_trans (hg i j hi hj e) (of_decide_eq_true q))
    have low : ∀ x ∈ us.take (r.spot us a), r.lt x a := fun x hx => by
      obtain ⟨i, hi, rfl⟩ := List.mem_iff_getElem.mp hx
      rw [List.length_take] at hi
      rw [List.getElem_take]
      have := split i (by omega)
      exact of_decide_eq_true (this.trans (decide_eq_true (show i < r.spot us a by omega)))
    have high : ∀ x ∈ us.drop (r.spot us a), r.lt a x := fun x hx => by
      obtain ⟨i, hi, rfl⟩ := List.mem_iff_getElem.mp hx
      rw [List.length_drop] at hi
      rw [List.getElem_drop]
      have := split (r.spot us a + i) (by omega)
      have n1 : ¬ r.lt us[r.spot us a + i] a := fun z => by
        have e : decide (r.lt us[r.spot us a + i] a) = decide (r.spot us a + i < r.spot us a) := this
        rw [decide_eq_true z] at e
        have := of_decide_eq_true e.symm
        omega
      have hm : us[r.spot us a + i] ∈ us := List.getElem_mem _
      rcases r.tri us[r.spot us a + i] a with z | z | z
      · exact (n1 z).elim
      · exact (m (by rw [← r.key_inj (hn _ hm) ha z]; exact hm)).elim
      · exact z
    refine ⟨h.sublist (List.take_sublist _ _), ⟨high, h.sublist (List.drop_sublist _ _)⟩, fun x hx y hy => ?_⟩
    rcases List.mem_cons.mp hy with rfl | hy
    · exact low x hx
    · exact r.lt_trans (low x hx) (high y hy)
theorem Rk.put_len (r : Rk) (us : List Dv) (a : Dv) : (r.put us a).length ≤ us.length + 1 := by
  unfold Rk.put
  split
  · omega
  · rw [ins_eq _ _ _ (r.spot_le us a), List.length_append, List.length_cons, List.length_take, List.length_drop]
    have := r.spot_le us a
    omega
def Rk.rise (r : Rk) (us : List Dv) : List Dv := us.foldl r.put []
theorem Rk.rise_all (r : Rk) : ∀ (us ds : List Dv), (∀ u ∈ us, u.n ∈ r.ns) → (∀ u ∈ ds, u.n ∈ r.ns) → ds.Pairwise r.lt → (us.foldl r.put ds).Pairwise r.lt ∧ ∀ v, v ∈ us.foldl r.put ds ↔ v ∈ ds ∨ v ∈ us
  | [], ds, _, _, h => ⟨h, fun v => by simp⟩
  | u :: us, ds, hu, hd, h => by
    have hun := hu u List.mem_cons_self
    obtain ⟨h1, h2⟩ := r.rise_all us (r.put ds u) (fun x hx => hu x (List.mem_cons_of_mem _ hx)) (fun x hx => by
      rcases r.put_mem.mp hx with k | rfl
      · exact hd x k
      · exact hun) (r.put_rise h hd hun)
    refine ⟨h1, fun v => ?_⟩
    show v ∈ us.foldl r.put (r.put ds u) ↔ _
    rw [h2, r.put_mem, List.mem_cons]
    constructor
    · rintro ((a | a) | a)
      · exact .inl a
      · exact .inr (.inl a)
      · exact .inr (.inr a)
    · rintro (a | a | a)
      · exact .inl (.inl a)
      · exact .inl (.inr a)
      · exact .inr a
/-- strictly rising rows of the same derivatives are the same -/
theorem Rk.rise_one (r : Rk) {us vs : List Dv} (h : us.Pairwise r.lt) (k : vs.Pairwise r.lt) (e : ∀ v, v ∈ us ↔ v ∈ vs) : us = vs := by
  have nd : ∀ {l : List Dv}, l.Pairwise r.lt → l.Nodup := fun {l} h => List.Pairwise.imp (fun {a b} z e => by
    subst e
    exact r.lt_irrefl _ z) h
  refine List.Perm.eq_of_pairwise (le := r.lt) (fun u v _ _ a b => (r.lt_irrefl u (r.lt_trans a b)).elim) h k ((List.perm_ext_iff_of_nodup (nd h) (nd k)).mpr e)
theorem Rk.rise_sort (r : Rk) {us vs : List Dv} (hu : ∀ u ∈ us, u.n ∈ r.ns) (e : ∀ v, v ∈ us ↔ v ∈ vs) : r.rise us = r.sort (dedD vs) := by
  obtain ⟨h1, h2⟩ := r.rise_all us [] hu (fun u h => absurd h List.not_mem_nil) List.Pairwise.nil
  have hv : ∀ v ∈ dedD vs, v.n ∈ r.ns := fun v h => hu v ((e v).mpr (ded_mem.mp h))
  refine r.rise_one h1 (r.sort_lt hv (ded_nd vs)) fun v => ?_
  unfold Rk.rise at *
  rw [h2, (r.sort_perm _).mem_iff, ded_mem, ← e]
  simp
/-! ### all to an order, told otherwise -/
def Rk.line (r : Rk) (n : Str) (t : Nat) : List Dv := (List.range (if r.axs.length = 2 then t + 1 else 1)).map fun (j : Nat) => ⟨n, (t : Int) - j, (j : Int)⟩
def Rk.linesN (r : Rk) (n : Str) (m : Nat) : List Dv := (List.range m).flatMap (r.line n)
def Rk.lines (r : Rk) (o m : Nat) : List Dv := (r.ns.take m).flatMap fun n => r.linesN n (o + 1)
theorem ax2 (r : Rk) : (r.axs.length = 2) ↔ (Str.ofString "y") ∈ r.axs := by
  have : ∀ a : Fin 3, ((axsOf a).length = 2) ↔ (Str.ofString "y") ∈ axsOf a := by decide +kernel
  exact this r.ax
theorem Rk.mem_lines (r : Rk) (o : Nat) (v : Dv) : v ∈ r.lines o r.ns.length ↔ v ∈ r.all o := by
  unfold Rk.lines Rk.all Rk.linesN Rk.rowsN Rk.line Rk.row Rk.most
  rw [List.take_length]
  simp only [List.mem_flatMap, List.mem_map, List.mem_range]
  have hax := ax2 r
  constructor
  · rintro ⟨n, hn, t, ht, j, hj, rfl⟩
    by_cases h : r.axs.length = 2
    · rw [if_pos h] at hj
      refine ⟨n, hn, t - j, by omega, j, ?_, ?_⟩
      · rw [if_pos (hax.mp h)]
        omega
      · congr 1
        omega
    · rw [if_neg h] at hj
      refine ⟨n, hn, t, by omega, 0, by omega, ?_⟩
      congr 1 <;> omega
  · rintro ⟨n, hn, i, hi, j, hj, rfl⟩
    by_cases h : r.axs.length = 2
    · rw [if_pos (hax.mp h)] at hj
      refine ⟨n, hn, i + j, by omega, j, by rw [if_pos h]; omega, ?_⟩
      congr 1
      omega
    · rw [if_neg (fun z => h (hax.mpr z))] at hj
      refine ⟨n, hn, i, by omega, 0, by rw [if_neg h]; omega, ?_⟩
      congr 1 <;> omega
theorem Rk.lines_succ (r : Rk) (o m : Nat) (h : m < r.ns.length) : r.lines o (m + 1) = r.lines o m ++ r.linesN r.ns[m] (o + 1) := by
  unfold Rk.lines
  rw [List.take_add_one, List.getElem?_eq_getElem h, List.flatMap_append]
  simp
theorem Rk.linesN_succ (r : Rk) (n : Str) (m : Nat) : r.linesN n (m + 1) = r.linesN n m ++ r.line n m := by
  unfold Rk.linesN
  rw [List.range_succ]
  simp
theorem Rk.linesN_len (r : Rk) (n : Str) {m : Nat} (hm : m ≤ 13) : (r.linesN n m).length ≤ 169 := by
  have : (r.linesN n m).length ≤ (List.range m).length * 13 := flat_len fun t ht => by
    unfold Rk.line
    rw [List.length_map, List.length_range]
    have := List.mem_range.mp ht
    split <;> omega
  rw [List.length_range] at this
  have : m * 13 ≤ 13 * 13 := Nat.mul_le_mul_right 13 hm
  omega
theorem Rk.lines_len (r : Rk) {o m : Nat} (ho : o ≤ 12) (hr : r.ns.length ≤ 3) : (r.lines o m).length ≤ 507 := by
  have : (r.lines o m).length ≤ (r.ns.take m).length * 169 := flat_len fun n _ => r.linesN_len n (by omega)
  have h2 : (r.ns.take m).length ≤ 3 := by rw [List.length_take]; omega
  have : (r.ns.take m).length * 169 ≤ 3 * 169 := Nat.mul_le_mul_right 169 h2
  omega
theorem flat_sum {α β : Type} {f : α → List β} {m : Nat} : ∀ {l : List α}, (∀ a ∈ l, (f a).length = m) → (l.flatMap f).length = l.length * m
  | [], _ => by simp
  | a :: l, h => by
    rw [List.flatMap_cons, List.length_append, List.length_cons, Nat.add_mul, h a List.mem_cons_self, flat_sum (l := l) fun b hb => h b (List.mem_cons_of_mem _ hb)]
    omega
theorem Rk.all12 (r : Rk) : (r.all 12).length = r.ns.length * (if r.axs.length = 2 then 91 else 13) := by
  have hax := ax2 r
  refine flat_sum fun n _ => ?_
  unfold Rk.rowsN
  rw [List.length_flatMap]
  have : ∀ i, (r.row 12 n i).length = (if r.axs.length = 2 then 12 - i else 0) + 1 := fun i => by
    unfold Rk.row Rk.most
    rw [List.length_map, List.length_range]
    by_cases h : r.axs.length = 2
    · rw [if_pos (hax.mp h), if_pos h]
    · rw [if_neg (fun z => h (hax.mpr z)), if_neg h]
  rw [List.map_congr_left (fun i _ => this i)]
  by_cases h : r.axs.length = 2
  · simp only [if_pos h]
    decide
  · simp only [if_neg h]
    decide
/-- those of the order 0, rising -/
theorem Rk.zero (r : Rk) (hn : r.ns.Nodup) : r.sort (r.all 0) = r.ns.reverse.map fun n => ⟨n, 0, 0⟩ := by
  have e0 : r.all 0 = r.ns.map fun n => (⟨n, 0, 0⟩ : Dv) := by
    unfold Rk.all Rk.rowsN Rk.row Rk.most
    induction r.ns with
    | nil => rfl
    | cons n ns ih =>
      rw [List.flatMap_cons, ih, List.map_cons]
      split <;> simp [List.range_succ]
  refine r.rise_one (r.sort_lt (fun u hu => (Rk.mem_all hu).n) (r.all_nd 0 hn)) ?_ fun v => ?_
  · rw [List.pairwise_map, List.pairwise_reverse]
    rw [List.pairwise_iff_getElem]
    intro i j hi hj hij
    unfold Rk.lt Rk.key Rk.first Rk.ahead
    have ix : ∀ (k : Nat) (hk : k < r.ns.length), r.ns.idxOf r.ns[k] = k := fun k hk => by
      have h1 := List.idxOf_lt_length_of_mem (List.getElem_mem hk)
      have h2 := List.getElem_idxOf h1
      by_cases e : r.ns.idxOf r.ns[k] = k
      · exact e
      · exact ((List.nodup_iff_pairwise_ne.mp hn) |> fun hp => by
          rw [List.pairwise_iff_getElem] at hp
          rcases Nat.lt_or_gt_of_ne e with z | z
          · exact (hp _ _ h1 hk z h2).elim
          · exact (hp _ _ hk h1 z h2.symm).elim)
    have e1 := ix i hi
    have e2 := ix j hj
    simp only [e1, e2]
    cases r.tot
    · simp [lt3]
      omega
    · simp only [if_true, lt3]
      exact .inr ⟨trivial, .inr ⟨trivial, by omega⟩⟩
  · rw [(r.sort_perm _).mem_iff, e0]
    simp
end My
namespace Gd
set_option autoImplicit false
open PySem PySem.Spec PyProof.Rows L2 LamX My
/-- a def's promise, where no repr is under way -/
structure FnG (P : Program) (w : World) (K : PySem.W.Frag) (mg : Str → Option Value) (base : Heap) (k : Nat) (f : Addr) (fd : FuncData) (ps : List Str) (sp : Sp) : Prop where
  len : ∀ vs H Q E, sp vs H Q E → vs.length = ps.length
  run : ∀ (A : Around) (outer : List Env) (s : Shared) (H : Hp) (args : Args) (us : List Value) (vs : List V) (Q : VK) (E : XK), Room k A → A.guards = some [] → Env0 P w K mg base A outer s H → BindsTo s fd args (ps.zip us) → Vals vs us → sp vs H Q E →
    codeAny (model P w) A (.call (.ref f) args) (CR CX0 outer P w H s Q E) s
section
variable {P : Program} {w : World} {K : PySem.W.Frag} {mg : Str → Option Value} {base : Heap} {k : Nat} {f : Addr} {fd : FuncData} {ps : List Str} {sp : Sp}
theorem FnG.of (F : FnOk P w K mg base CX0 k f fd ps sp) : FnG P w K mg base k f fd ps sp := ⟨F.len, fun A outer s H args us vs Q E hr _ => F.run A outer s H args us vs Q E hr⟩
theorem fnG_of {name qual : Str} {params : Arguments} {body : List Stmt} {scope : Scope} {dV kV doc pm cdv ct oc : Value} {an od : Option Addr} {osl : Array (Option Value)} {N : List Str}
    (lk : K.lookup f = some ⟨oc, od, .func (PySem.W.fnOf name qual params body scope dV kV doc pm an cdv ct), osl⟩) (hcd : PySem.W.codeIn K cdv qual = true) (S : FnScope N ps scope) (len : ∀ vs H Q E, sp vs H Q E → vs.length = ps.length)
    (go : ∀ (A : Around) (outer : List Env) (s : Shared) (H : Hp) (vs : List V) (Q : VK) (E : XK), Room k (A.deeper (envOfC qual scope s.heap.objs.size f cdv)) → (A.deeper (envOfC qual scope s.heap.objs.size f cdv)).guards = some [] → sp vs H Q E →
      ∃ t, PSs (cxOf CX0 P w K mg base N qual scope f cdv A outer s H E) body t ∧ t { nx := fun _ H' => Q .non H', rt := Q } (start N vs) H) :
    FnG P w K mg base (k + 1) f (PySem.W.fnOf name qual params body scope dV kV doc pm an cdv ct) ps sp := by
  refine ⟨len, fun A outer s H args us vs Q E hr hg e0 hb r hsp => ?_⟩
  have old := fun (b : Addr) (o : Obj) (e : base.get? b = some o) => (e0.bs b o e).1
  have inK : K.In s.heap := e0.mod.kin.keeps old
  have local_ := fun (y : Str × Value) (hy : y ∈ ps.zip us) => (S.par y.1 (List.of_mem_zip hy).1).imp id fun q => (⟨q, PySem.W.cellsFrom_some _ _ _ (.inl q)⟩ : scope.names.lookup y.1 = some .cell ∧ ((cellsFrom (s.heap.objs.size + 1) scope.names []).lookup y.1).isSome = true)
  refine codeAny_call_function hr.depth (inK _ _ lk) rfl S.co S.gen rfl (PySem.W.codeRec_of inK hcd) (hb _ _ _ _ (wpAny_newFunctionEnv_cells S.kind local_ fun env he s1 x => ?_))
  subst he
  obtain ⟨t, ht, hq⟩ := go A outer s H vs Q E (hr.deeper _) hg hsp
  refine ⟨(e0.mod.nolimit.keeps old).keeps x.toInCall.keep, codeAny_func (wpAny_mono (ht.run [] s1 _ H _ (inv_start S hr.hd e0 (len _ _ _ _ hsp) r x) hq) (fun fl s' hs => ?_) fun e s' hs => hs)⟩
  cases fl with
  | ret u => exact let ⟨v, _, H', J, rv, q⟩ := hs; ⟨v, H', J.os, J.bare, J.base, J.hok, rv, q⟩
  | next => exact let ⟨_, H', J, q⟩ := hs; ⟨V.non, H', J.os, J.bare, J.base, J.hok, rfl, q⟩
  | brk => exact let ⟨_, _, _, q⟩ := hs; q.elim
  | cont => exact let ⟨_, _, _, q⟩ := hs; q.elim
/-- the rule for a def by its body -/
theorem okG {x qual : Str} {st : Stmt} {N : List Str} (F : Fun K x qual st f fd) (S : FnScope N ps (defScope st)) (len : ∀ vs H Q E, sp vs H Q E → vs.length = ps.length)
    (go : ∀ (cdv : Value) (A : Around) (outer : List Env) (s : Shared) (H : Hp) (vs : List V) (Q : VK) (E : XK), Room k (A.deeper (envOfC qual (defScope st) s.heap.objs.size f cdv)) → (A.deeper (envOfC qual (defScope st) s.heap.objs.size f cdv)).guards = some [] → sp vs H Q E →
      ∃ t, PSs (cxOf CX0 P w K mg base N qual (defScope st) f cdv A outer s H E).nox (defBody st) t ∧ t { nx := fun _ H' => Q .non H', rt := Q } (start N vs) H) : FnG P w K mg base (k + 1) f fd ps sp := by
  obtain ⟨oc, od, kV, doc, pm, an, cdv, ct, osl, rfl, lk, hcd⟩ := F.ex
  exact fnG_of lk hcd S len fun A outer s H vs Q E hr hg hsp => let ⟨t, h1, h2⟩ := go cdv A outer s H vs Q E hr hg hsp; ⟨t, h1.nox, h2⟩
/-- a def as it is called -/
structure CalG (P : Program) (w : World) (K : PySem.W.Frag) (mg : Str → Option Value) (base : Heap) (x : Str) (k : Nat) (ps : List Str) (sp : Sp) (f : Addr) (fd : FuncData) : Prop where
  G : FnG P w K mg base k f fd ps sp
  m : mg x = some (.ref f)
  k : PySem.W.keepIn K (.ref f) = true
  b : Binds K fd ps []
end
section
variable {X : Cx} {k : Nat} {f : Addr} {fd : FuncData} {ps : List Str} {sp : Sp} {dvs : List V} {ds : List Value} {E : XK} {x : Str} {p pos : Pos} {e : Expr} {es : List Expr} {t : TA}
theorem pe_callG (F : FnG X.prog X.w X.K X.mg X.base k f fd ps sp) (hr : Room k X.A) (hG : X.A.guards = some []) (hg : Gl X x) (hm : X.mg x = some (.ref f)) (hk : PySem.W.keepIn X.K (.ref f) = true) (hb : Binds X.K fd ps ds) (hd : Vals dvs ds) (hx : Passes CX0 X E) (ha : PA X (e :: es) t)
    (hdb : (x == ("__debug__" : Str)) = false := by decide) (he : starEach (e :: es) X.env = (false, eval e X.env) :: starEach es X.env := by rfl) (hpl : (backTo pos (starEach es X.env)).any (·.1) = false := by rfl) : PE X (.Call (.Name x p) (e :: es) [] pos) (tCall sp dvs E t) :=
  ⟨fun pins s σ H Q I h => wpAny_Call_Name_kw (ld_glob I hg hm (PySem.W.callWith_K (h₀ := X.base) I.ok.mod.kin hk (thn (ha.run pos pins s σ H _ I h) fun us s1 ⟨vs, H1, I1, r, q⟩ => ⟨I1.kIn, by
    have ra := r.append hd
    have hl : (us ++ ds).length = ps.length := ra.length.symm.trans (F.len _ _ _ _ q)
    refine wpAny_call (codeAny_mono (F.run X.A X.stack s1 H1 ⟨us, []⟩ (us ++ ds) (vs ++ dvs) Q E hr hG I1.env0 (hb s1 us I1.kIn hl) ra q) fun r s' hq => ?_)
    match r, hq with
    | .error e, hq => exact hx pins σ H1 s1 e s' I1 hq
    | .ok (.ret u), hq => exact I1.after hq⟩) he hpl) hdb)⟩
end
/-! ### repr of data -/
mutual
theorem dp_nd {K : PySem.W.Frag} {H : Hp} : ∀ {d : PyData} {v : V}, Dp K H v d → d.hasDict = false
  | _, _, .non => by simp only [PyData.hasDict]
  | _, _, .bl b => by simp only [PyData.hasDict]
  | _, _, .int i => by simp only [PyData.hasDict]
  | _, _, .str x => by simp only [PyData.hasDict]
  | _, _, .lst _ b => by simp only [PyData.hasDict]; exact dps_nd b
  | _, _, .tup _ b => by simp only [PyData.hasDict]; exact dps_nd b
theorem dps_nd {K : PySem.W.Frag} {H : Hp} : ∀ {ds : List PyData} {vs : List V}, DpAll K H vs ds → PyData.hasDictAll ds = false
  | _, _, .nil => by simp only [PyData.hasDictAll]
  | _, _, .cons a b => by simp only [PyData.hasDictAll, dp_nd a, dps_nd b, Bool.or_self]
end
def rRepr (K : PySem.W.Frag) : List V → Hp → VK → Prop := fun xs H Q => ∃ x d, xs = [x] ∧ Dp K H x d ∧ d.showable = true ∧ d.depth ≤ 60 ∧ d.shown.length ≤ 1000000 ∧ Q (.str d.shown) H
theorem call_reprG {X : Cx} (hG : X.A.guards = some []) (hu : X.A.units + 64 < cLine) : CallR X (.builtin "repr") (rRepr X.K) := by
  intro pins s σ H xs us Q I r ⟨x, d, e, hd, hs, hp, hz, q⟩
  subst e
  obtain ⟨u, rfl, rx⟩ := vals1 r
  have hz' : d.shown.length ≤ sizeLine := Nat.le_trans hz (by decide)
  have hn := dp_nd hd
  have fin : ∀ {a : Addr}, u = .ref a → wpAny (model X.prog X.w) X.A (call (.builtin "repr") [u]) (EP X pins σ Q) X.xe s := fun {a} e => by
    subst e
    obtain ⟨as, ra⟩ := Dp.reads I d x _ hd rx
    exact repr_of_reads' ra hs (PyData.noDict_hsm hn) hG (by omega) (fun _ _ e => e) (fun h' u tk hk => ⟨.str d.shown, H, I.kept (t' := tk) hk, ⟨u, rfl⟩, q⟩) hz'
  cases hd with
  | non =>
    obtain rfl : u = Value.none := rx
    simp only [PyData.shown] at q
    exact PySem.P.repr_of_none ⟨.str _, H, I.tok _, ⟨_, rfl⟩, q⟩
  | bl b =>
    obtain rfl : u = Value.bool b := rx
    simp only [PyData.shown] at q
    exact PySem.P.repr_of_bool ⟨.str _, H, I.tok _, ⟨_, rfl⟩, q⟩
  | int i =>
    obtain ⟨t, rfl⟩ := rx
    simp only [PyData.shown] at q
    refine PySem.P.repr_of_int ?_ ⟨.str _, H, I.tok _, ⟨_, rfl⟩, q⟩
    simpa only [PyData.showable, decide_eq_true_eq] using hs
  | str y =>
    obtain ⟨t, rfl⟩ := rx
    simp only [PyData.shown] at q hz'
    exact PySem.P.repr_of_str ⟨.str _, H, I.tok _, ⟨_, rfl⟩, q⟩ hz'
  | lst a b => exact fin rx
  | tup a b => exact fin rx
end Gd
namespace Gd
set_option autoImplicit false
open PySem PySem.Spec PyProof.Rows L2 LamX My
/-- the abstract heap at the law's call: the script where it isn't written, the empty tables -/
def scrO (vs : List Value) : Obj := { cls := .type "list", data := .seq vs.toArray }
def tabO : Obj := { cls := .none, data := .fields #[] }
open Classical in
noncomputable def H0 (K : PySem.W.Frag) (a : Addr) (vs : List Value) (ns : List Int) (ts : List Addr) : Hp := fun b => if b ∈ ts then some (.tbl #[]) else if b = a ∧ K.lookup a = none then some (.frz (scrO vs) (.lst (ns.map V.int))) else none
theorem H0_t {K : PySem.W.Frag} {a : Addr} {vs : List Value} {ns : List Int} {ts : List Addr} {b : Addr} (h : b ∈ ts) : H0 K a vs ns ts b = some (.tbl #[]) := if_pos h
theorem H0_some {K : PySem.W.Frag} {a : Addr} {vs : List Value} {ns : List Int} {ts : List Addr} {b : Addr} {u : HO} (h : H0 K a vs ns ts b = some u) : (b ∈ ts ∧ u = .tbl #[]) ∨ (b = a ∧ K.lookup a = none ∧ u = .frz (scrO vs) (.lst (ns.map V.int))) := by
  unfold H0 at h
  split at h
  · rename_i q
    exact .inl ⟨q, (Option.some.inj h).symm⟩
  · split at h
    · rename_i q
      exact .inr ⟨q.1, q.2, (Option.some.inj h).symm⟩
    · cases h
section
variable {P : Program} {w : World} {K : PySem.W.Frag} {mg mb : Str → Option Value} {k : Nat} {fa a : Addr} {cs : List (Addr × Addr)} {fd : FuncData} {x : Str} {sp : Sp} {s1 : Shared} {vs : List Value} {ns : List Int}
theorem lawG (KX : K.In s1.heap) (hns : s1.heap.Ns mainGlobals mg) (hb : s1.heap.Ns builtinsNs mb) (hbb : ∀ x : Str, x ≠ "__name__" → mb x = bootBuiltins x) (hlim : s1.heap.NoLimit) (hgen : s1.gens = #[])
    (hT : ∀ p ∈ cs, s1.heap.get? p.2 = some tabO) (nT : ∀ p ∈ cs, K.lookup p.2 = none) (hC : ∀ p ∈ cs, PySem.W.CodeHd s1.heap p.1 p.2)
    (hbm : ∃ (bm : Addr) (ob : Obj), mg "__builtins__" = some (.ref bm) ∧ bm ≠ builtinsNs ∧ s1.heap.get? bm = some ob ∧ ob.cls = .type "module" ∧ ob.dict = some builtinsNs ∧ ob.data = .plain)
    (ha : s1.heap.get? a = some (scrO vs)) (hi : IntsAre vs ns) (hl : ns.length ≤ sizeLine) (hr : Room k callerA)
    (F : ∀ base : Heap, K.In base → base.Ns mainGlobals mg → (∀ p ∈ cs, TabB base mg p.1 p.2) → FnG P w K mg base k fa fd [x] sp) (hbind : ∀ (s : Shared) (u : Value), BindsTo s fd ⟨[u], []⟩ [(x, u)])
    (hsp : ∀ H : Hp, (∀ p ∈ cs, H p.2 = some (.tbl #[])) → SqL K H a (ns.map V.int) → sp [.ref a] H (fun v _ => v = .bl true) fun _ _ _ => False) :
    codeAny (model P w) callerA (.call (.ref fa) ⟨[.ref a], []⟩) (fun r s' => r = .ok (.ret (.bool true)) ∧ OldK s1.heap s'.heap ∧ s'.os = s1.os ∧ AllBare s'.gens) s1 := by
  let ts := cs.map (·.2)
  have tab : ∀ b ∈ ts, ∃ p ∈ cs, p.2 = b := fun b q => by
    obtain ⟨p, h1, h2⟩ := List.mem_map.mp q
    exact ⟨p, h1, h2⟩
  have inT : ∀ p ∈ cs, p.2 ∈ ts := fun p q => List.mem_map.mpr ⟨p, q, rfl⟩
  have tAt : ∀ b ∈ ts, s1.heap.get? b = some tabO := fun b q => by
    obtain ⟨p, h1, rfl⟩ := tab b q
    exact hT p h1
  have aT : a ∉ ts := fun q => by
    have := tAt a q
    rw [ha] at this
    exact nomatch congrArg Obj.data (Option.some.inj this)
  generalize hH : H0 K a vs ns ts = H
  have at1 : ∀ {b u}, H b = some u → (b ∈ ts ∧ u = .tbl #[]) ∨ (b = a ∧ K.lookup a = none ∧ u = .frz (scrO vs) (.lst (ns.map V.int))) := fun {b u} q => by
    rw [← hH] at q
    exact H0_some q
  have atT : ∀ p ∈ cs, H p.2 = some (.tbl #[]) := fun p q => by
    rw [← hH]
    exact H0_t (inT p q)
  -- what is neither a list of that kind nor a table is not tracked
  have free : ∀ {b : Addr} {o : Obj}, s1.heap.get? b = some o → (∀ us m, o.data ≠ .seq us m) → o.data ≠ .fields #[] → H b = none := fun {b o} e n1 n2 => by
    cases q : H b with
    | none => rfl
    | some u =>
      rcases at1 q with ⟨h1, _⟩ | ⟨h1, _⟩
      · have := tAt b h1
        rw [e] at this
        exact absurd (congrArg Obj.data (Option.some.inj this)) n2
      · rw [h1, ha] at e
        exact absurd (congrArg Obj.data (Option.some.inj e)).symm (n1 _ _)
  have ground : ∀ {b : Addr} {m : Str → Option Value}, s1.heap.Ns b m → (hidT s1.heap H).Ns b m := fun {b m} h => by
    obtain ⟨o, es, ep, e, d, r⟩ := h
    exact ⟨o, es, ep, hidT_get e (free e (fun us m z => by rw [d] at z; cases z) fun z => by rw [d] at z; cases z), d, r⟩
  have KB : K.In (hidT s1.heap H) := fun b o e => hidT_get (KX b o e) <| by
    cases q : H b with
    | none => rfl
    | some u =>
      rcases at1 q with ⟨h1, _⟩ | ⟨h1, h2, _⟩
      · obtain ⟨p, hp, rfl⟩ := tab b h1
        rw [nT p hp] at e
        cases e
      · rw [h1, h2] at e
        cases e
  have TB : ∀ p ∈ cs, TabB (hidT s1.heap H) mg p.1 p.2 := fun p hp => by
    have t1 := hT p hp
    have gne : mainGlobals ≠ p.2 := fun z => by
      obtain ⟨o, es, ep, e, hd, _⟩ := hns
      rw [z, t1] at e
      cases e
      cases hd
    refine ⟨?_, ?_, gne⟩
    · obtain ⟨o, us, fi, tf, fl, tg, inF, tx, tt, e1, r1, r2, r3, rest⟩ := hC p hp
      exact ⟨o, us, fi, tf, fl, tg, inF, tx, tt, hidT_get e1 (free e1 (fun us m z => by rw [r2] at z; cases z) fun z => by rw [r2] at z; cases z; simp at r3), r1, r2, r3, rest⟩
    · obtain ⟨bm, ob, b1, b2, b3, b4, b5, b6⟩ := hbm
      refine ⟨bm, ob, b1, b2, fun z => ?_, fun z => ?_, hidT_get b3 (free b3 (fun us m z => by rw [b6] at z; cases z) fun z => by rw [b6] at z; cases z), b4, b5, b6⟩
      · obtain ⟨o, es, ep, e, hd, _⟩ := hns
        rw [← z, b3] at e
        cases e
        rw [b6] at hd
        cases hd
      · rw [z, t1] at b3
        cases b3
        cases b6
  have rv := vals_ints hi
  have hvs := hi.length
  have sq : SqL K H a (ns.map V.int) := by
    cases q : K.lookup a with
    | none => exact .inl (.inr ⟨scrO vs, by rw [← hH]; exact (if_neg aT).trans (if_pos ⟨rfl, q⟩)⟩)
    | some o =>
      have e := KX a o q
      rw [ha] at e
      cases e
      exact .inr ⟨scrO vs, vs.toArray, _, q, rfl, rfl, rfl, by rw [List.size_toArray, hvs]; exact hl, by simpa using rv⟩
  have hok : HOk P w H s1.heap := fun b u q => by
    rcases at1 q with ⟨h1, rfl⟩ | ⟨rfl, _, rfl⟩
    · exact tAt b h1
    · exact ⟨ha, by rw [List.length_map]; exact hl, vs, _, rv, ha⟩
  have env : Env0 P w K mg (hidT s1.heap H) callerA [] s1 H := ⟨rfl, ⟨KB, ground hns, ⟨mb, ground hb, hbb⟩, (let ⟨mc, h1, h2⟩ := hlim; ⟨mc, ground h1, h2⟩)⟩, fun b o e => of_hidT e, Nat.le_of_eq (hidT_size _ _), trivial, fun b z => (nomatch z), hok, .of_eq hgen⟩
  refine codeAny_mono ((F _ KB (ground hns) TB).run callerA [] s1 H ⟨[.ref a], []⟩ [.ref a] [.ref a] _ _ hr rfl env (hbind s1 (.ref a)) (.cons rfl .nil) (hsp H atT sq)) fun r s' h => ?_
  match r, h with
  | .ok (.ret u), h =>
    obtain ⟨v, H', os, bare, un, hok', r', q⟩ := h
    obtain rfl : v = .bl true := q
    obtain rfl : u = Value.bool true := r'
    have more : ∀ b ∈ ts, ∃ m : Array Value, s'.heap.get? b = some { cls := .none, data := .fields m } := fun b hb => by
      obtain ⟨p, hp, rfl⟩ := tab b hb
      obtain ⟨m, z⟩ := un.tbls _ #[] (atT p hp)
      exact ⟨_, hok' _ _ z⟩
    have stay : ∀ b o, b ∉ ts → s1.heap.get? b = some o → s'.heap.get? b = some o := fun b o nb e => by
      cases q : H b with
      | none => exact un.keep b o e q (fun z => (nomatch z)) (fun z => (nomatch z))
      | some u =>
        rcases at1 q with ⟨h1, _⟩ | ⟨_, _, rfl⟩
        · exact absurd h1 nb
        · have e1 := (hok b _ q).1
          have e2 := (hok' b _ (un.frzs b _ _ q)).1
          rw [e1] at e
          cases e
          exact e2
    refine ⟨rfl, ⟨fun b o e => ?_, fun b o e => ?_⟩, os, bare⟩
    · by_cases hbt : b ∈ ts
      · obtain ⟨m, hm⟩ := more b hbt
        obtain ⟨p, hp, rfl⟩ := tab b hbt
        have t1 := hT p hp
        rw [t1] at e
        cases e
        exact .inr (.inl ⟨((hC p hp).tab t1).isCodeTable, rfl, #[], m, rfl, by rw [Array.empty_append]; exact hm⟩)
      · exact .inl (stay b o hbt e)
    · by_cases hbt : b ∈ ts
      · exact let ⟨m, hm⟩ := more b hbt; ⟨_, hm⟩
      · exact ⟨o, stay b o hbt e⟩
/-- what the end asks, at the head's heap -/
def LawAtG (l : PySem.W.OpenLaw) (w : World) (K : PySem.W.Frag) (k n : Nat) (x : Str) (mg : Str → Option Value) (fa : Addr) (h : Heap) : Prop :=
  ∃ (fd : FuncData) (cs : List (Addr × Addr)) (sp : Sp), (∀ p ∈ cs, h.get? p.2 = some tabO) ∧ (∀ p ∈ cs, K.lookup p.2 = none) ∧ (∀ p ∈ cs, PySem.W.CodeHd h p.1 p.2) ∧ (∀ (s : Shared) (u : Value), BindsTo s fd ⟨[u], []⟩ [(x, u)]) ∧
    (∀ (H : Hp) (a : Addr) (ns : List Int), ns.length ≤ n → (∀ z ∈ ns, Builtin.Int.intBits z ≤ 1048576) → (∀ p ∈ cs, H p.2 = some (.tbl #[])) → SqL K H a (ns.map V.int) → sp [.ref a] H (fun v _ => v = .bl true) fun _ _ _ => False) ∧
    ∀ base : Heap, K.In base → base.Ns mainGlobals mg → (∀ p ∈ cs, TabB base mg p.1 p.2) → FnG l.prog w K mg base k fa fd [x] sp
theorem walkG {l : PySem.W.OpenLaw} {n k : Nat} {q : Program} {loose : List Str} {XP : (Str → Option Value) → Heap → Prop} {YP : World → Heap → Prop} {d : DefRec} {K : Params → PySem.W.Frag} {x : Str} (hn : l.most = some n) (hn2 : n ≤ sizeLine) (hdf : d.params.defaults = []) (hr : Room k callerA)
    (hY : ∀ (w : World) (h : Heap), YP w h → (K w.params).In h) (F : ∀ (w : World) (mg : Str → Option Value) (fa : Addr) (h : Heap), YP w h → (K w.params).In h → h.Ns mainGlobals mg → mg d.name = some (.ref fa) → LawAtG l w (K w.params) k n x mg fa h) :
    PySem.W.WalkO q loose XP YP l.row.toRowW d [] (fun f vs => PySem.call f vs) :=
  Att.attach_callB hn hdf fun w _ _ mg _ fa _ _ _ _ a _ ns G Y _ _ _ hmg hobj hints hlen hbits hg => by
    obtain ⟨fd, cs, sp, hT, nT, C, hb, hsp, hF⟩ := F w mg fa _ Y (hY w _ Y) G.T.g hmg
    exact lawG (hY w _ Y) G.T.g G.T.b G.T.builtins G.T.nolimit hg hT nT C G.T.bmain hobj hints (Nat.le_trans hlen hn2) hr hF hb fun H hH hS => hsp H a ns hlen hbits hH hS
end
end Gd
namespace Gd
set_option autoImplicit false
open PySem PySem.Spec PyProof.Rows L2 LamX My Evl
/-! ### how long what repr tells is -/
theorem small_int {i : Int} (h0 : -100 ≤ i) (h1 : i ≤ 100) : ((toString i : String) : Str).length ≤ 4 ∧ i.natAbs.log2 < 1920 := by
  have : ∀ k : Fin 201, ((toString ((k.val : Int) - 100) : String) : Str).length ≤ 4 ∧ ((k.val : Int) - 100).natAbs.log2 < 1920 := by decide +kernel
  have := this ⟨(i + 100).toNat, by omega⟩
  have e : (((i + 100).toNat : Nat) : Int) - 100 = i := by omega
  simp only [e] at this
  exact this
theorem sum_le {l : List Nat} {m : Nat} (h : ∀ x ∈ l, x ≤ m) : l.sum ≤ l.length * m := by
  induction l with
  | nil => simp
  | cons x l ih =>
    rw [List.sum_cons, List.length_cons, Nat.add_mul]
    have := h x List.mem_cons_self
    have := ih fun y hy => h y (List.mem_cons_of_mem _ hy)
    omega
theorem all_len {ds : List PyData} {m : Nat} (h : ∀ d ∈ ds, d.shown.length ≤ m) : ((PyData.shownAll ds).map (·.length)).sum ≤ ds.length * m ∧ (PyData.shownAll ds).length = ds.length := by
  induction ds with
  | nil => simp [PyData.shownAll]
  | cons d ds ih =>
    obtain ⟨h1, h2⟩ := ih fun e he => h e (List.mem_cons_of_mem _ he)
    simp only [PyData.shownAll, List.map_cons, List.sum_cons, List.length_cons, h2, Nat.add_mul]
    have := h d List.mem_cons_self
    refine ⟨by omega, trivial⟩
theorem shown_lst {ds : List PyData} {m : Nat} (h : ∀ d ∈ ds, d.shown.length ≤ m) : (PyData.list ds).shown.length ≤ ds.length * (m + 2) + 3 := by
  simp only [PyData.shown]
  have h1 := listText_len_le (PyData.shownAll ds)
  obtain ⟨h2, h3⟩ := all_len h
  rw [h3] at h1
  rw [Nat.mul_add]
  omega
theorem shown_tup {ds : List PyData} {m : Nat} (h : ∀ d ∈ ds, d.shown.length ≤ m) : (PyData.tuple ds).shown.length ≤ ds.length * (m + 2) + 3 := by
  simp only [PyData.shown]
  have h1 := tupleText_len_le (PyData.shownAll ds)
  obtain ⟨h2, h3⟩ := all_len h
  rw [h3] at h1
  rw [Nat.mul_add]
  omega
theorem shown_int {i : Int} (h0 : -100 ≤ i) (h1 : i ≤ 100) : (PyData.int i).shown.length ≤ 4 ∧ (PyData.int i).showable = true := by
  obtain ⟨a, b⟩ := small_int h0 h1
  refine ⟨by simp only [PyData.shown]; exact a, ?_⟩
  simp only [PyData.showable, decide_eq_true_eq]
  exact b
theorem shown_nm {x : Str} (h : My.IsNm x) : (PyData.str x).shown.length ≤ 82 := by
  obtain ⟨h1, h2, h3⟩ := nm_facts h
  simp only [PyData.shown]
  have := StrLaws.reprText_len x fun c hc => by
    have := h3 c (by simpa using hc)
    omega
  omega
theorem nm_okS {x : Str} (h : My.IsNm x) : PyData.strOk x = true := by
  have h2 := (nm_facts h).2.2
  unfold PyData.strOk
  rw [Array.all_eq_true']
  intro c hc
  have := h2 c hc
  simp
  omega
theorem shp_dv {r : Rk} {u : Dv} (hr : r.Ok) (h : u.Of r) : SeqAt.shaped u.D = true := by
  have := nm_okS (hr.nm _ h.n)
  unfold Dv.D SeqAt.shaped
  simp [PyData.canLay0, PyData.canLayAll0, PyData.depth, PyData.depthAll, this]
theorem show_dv {r : Rk} {u : Dv} (hr : r.Ok) (h : u.Of r) (hi : u.i ≤ 20) (hj : u.j ≤ 20) : u.D.shown.length ≤ 300 ∧ u.D.showable = true := by
  have i0 := h.i
  have j0 := h.j
  have h1 := shown_nm (hr.nm _ h.n)
  obtain ⟨h2, h4⟩ := shown_int (i := u.i) (by omega) (by omega)
  obtain ⟨h3, h5⟩ := shown_int (i := u.j) (by omega) (by omega)
  unfold Dv.D
  refine ⟨?_, ?_⟩
  · have := shown_tup (ds := [.str u.n, .int u.i, .int u.j]) (m := 82) fun d hd => by
      simp only [List.mem_cons, List.not_mem_nil, or_false] at hd
      rcases hd with rfl | rfl | rfl <;> omega
    simp only [List.length_cons, List.length_nil] at this
    omega
  · simp only [PyData.showable, PyData.showableAll, Bool.and_true, Bool.true_and] at h4 h5 ⊢
    rw [h4, h5]
    rfl
theorem show_dvs {r : Rk} {us : List Dv} (hr : r.Ok) (h : ∀ u ∈ us, u.Of r ∧ u.i ≤ 20 ∧ u.j ≤ 20) (hl : us.length ≤ 1000) : (PyData.list (us.map Dv.D)).shown.length ≤ 1000000 ∧ (PyData.list (us.map Dv.D)).showable = true ∧ (PyData.list (us.map Dv.D)).depth ≤ 60 := by
  refine ⟨?_, ?_, ?_⟩
  · have := shown_lst (ds := us.map Dv.D) (m := 300) fun d hd => by
      obtain ⟨u, hu, rfl⟩ := List.mem_map.mp hd
      exact (show_dv hr (h u hu).1 (h u hu).2.1 (h u hu).2.2).1
    rw [List.length_map] at this
    omega
  · simp only [PyData.showable]
    refine showableAll_of fun d hd => ?_
    obtain ⟨u, hu, rfl⟩ := List.mem_map.mp hd
    exact (show_dv hr (h u hu).1 (h u hu).2.1 (h u hu).2.2).2
  · have := (canAll (us := us) fun u hu => shp_dv hr (h u hu).1).2
    simp only [PyData.depth]
    omega
section
variable {te : TE} {σ : L2.St} {B : Hp} {K : PySem.W.Frag} {d : PyData}
/-- repr of what is known -/
theorem ev_repr (h : EvP te σ B (IsD K d)) (hs : d.showable = true) (hp : d.depth ≤ 60) (hz : d.shown.length ≤ 1000000) : Ev (tCB (rRepr K) (tCons te tNil)) σ B (.str d.shown) := fun H1 a Q k =>
  h H1 a _ fun v B2 H2 g x => ⟨v, d, rfl, dp_m g.c x, hs, hp, hz, k H2 g.a⟩
end
end Gd
namespace Gd
set_option autoImplicit false
open PySem PySem.Spec PyProof.Rows L2 LamX My
section
variable {X : Cx} {k n : Nat} {f : Addr} {fd : FuncData} {ps ks : List Str} {sp : Sp} {E : XK} {x : Str} {p pos : Pos} {kws : List Keyword} {tk : TA} {g : List Value → List Value → List Value} {gV : List V → List V → List V}
/-- f(k = v, ..), keywords alone -/
theorem pe_callN0 (F : FnOk X.prog X.w X.K X.mg X.base CX0 k f fd ps sp) (hr : Room k X.A) (hg : Gl X x) (hm : X.mg x = some (.ref f)) (hk : PySem.W.keepIn X.K (.ref f) = true) (hb : KBn X.K fd ps 0 ks g gV) (hx : Passes CX0 X E) (hkw : PK X kws tk)
    (hall : (backToKw pos (keywordEach kws X.env)).all (·.1.isSome) = true := by rfl) (hks : (backToKw pos (keywordEach kws X.env)).filterMap (·.1) = ks := by rfl) (hdb : (x == ("__debug__" : Str)) = false := by decide)
    (hpl : ((backTo pos (starEach [] X.env)).any (·.1) || (backToKw pos (keywordEach kws X.env)).any (·.1.isNone)) = false := by rfl) : PE X (.Call (.Name x p) [] kws pos) (tCallN 0 ks.length sp gV E tNil tk) :=
  ⟨fun pins s σ H Q I h => wpAny_Call_Name_kw (ld_glob I hg hm (PySem.W.callWith_KW0 (h₀ := X.base) I.ok.mod.kin hk hall (thn (hkw.run pos pins s σ H _ I h) fun ws s2 ⟨zs, H2, I2, rz, l1, l2, q2⟩ => ⟨I2.kIn, by
    rw [hks]
    exact run_fnN (us := []) (vs := []) F hr hb hx I2 .nil rz rfl l2 q2⟩) hpl) hdb)⟩
end
section
variable {K : PySem.W.Frag} {x qual : Str} {st : Stmt} {f : Addr} {fd : FuncData} {ps ks : List Str} {n : Nat}
def gKs : List V → List V → List V := fun vs zs => vs ++ zs
def gKu : List Value → List Value → List Value := fun us ws => us ++ ws
def gRs : List V → List V → List V := fun vs zs => vs ++ zs.reverse
def gRu : List Value → List Value → List Value := fun us ws => us ++ ws.reverse
theorem kbn_of {g : List Value → List Value → List Value} {gV : List V → List V → List V} (F : Fun K x qual st f fd) (hr : ∀ {vs : List V} {us : List Value} {zs : List V} {ws : List Value}, Vals vs us → Vals zs ws → Vals (gV vs zs) (g us ws))
    (h : ∀ (kV doc pm : Value) (an : Option Addr) (cdv ct : Value) (us ws : List Value), us.length = n → ws.length = ks.length → bindArgs (PySem.W.fnOf x qual (defArgs st) (defBody st) (defScope st) .none kV doc pm an cdv ct) ⟨us, ks.zip ws⟩ = pure (ps.zip (g us ws))) : KBn K fd ps n ks g gV := by
  obtain ⟨_, _, kV, doc, pm, an, cdv, ct, _, rfl, _⟩ := F.ex
  exact ⟨fun s us ws _ l1 l2 => .of_eq (h kV doc pm an cdv ct us ws l1 l2), hr⟩
theorem revV : ∀ {vs : List V} {us : List Value}, Vals vs us → Vals vs.reverse us.reverse
  | [], [], .nil => .nil
  | _ :: _, _ :: _, .cons a b => by
    rw [List.reverse_cons, List.reverse_cons]
    exact (revV b).append (.cons a .nil)
theorem relK {vs : List V} {us : List Value} {zs : List V} {ws : List Value} (a : Vals vs us) (b : Vals zs ws) : Vals (gKs vs zs) (gKu us ws) := a.append b
theorem relR {vs : List V} {us : List Value} {zs : List V} {ws : List Value} (a : Vals vs us) (b : Vals zs ws) : Vals (gRs vs zs) (gRu us ws) := a.append (revV b)
end
end Gd
namespace Gd
set_option autoImplicit false
open PySem PySem.Spec PyProof.Rows L2 My HT
section
variable {prog : Program} {w : World} {A : Around} {E : Value → Shared → Prop} {s : Shared}
theorem rev_adjust (n : Nat) : Builtin.Slice.sliceAdjust none none (-1) (n : Int) = ((n : Int) - 1, -1) := by
  unfold Builtin.Slice.sliceAdjust
  rfl
theorem rev_places (n : Nat) : Builtin.Slice.slicePlaces ((n : Int) - 1) (-1) (-1) = n := by
  unfold Builtin.Slice.slicePlaces
  rw [if_neg (show ¬ ((-1 : Int) > 0) by decide)]
  have : (n : Int) - 1 - -1 - 1 = (n : Int) - 1 := by omega
  rw [this, show (- -1 : Int) = 1 by decide, Int.ediv_one]
  split <;> omega
theorem fm_congr {α β : Type} {f g : α → Option β} : ∀ {l : List α}, (∀ x ∈ l, f x = g x) → l.filterMap f = l.filterMap g
  | [], _ => rfl
  | x :: l, h => by
    rw [List.filterMap_cons, List.filterMap_cons, h x List.mem_cons_self, fm_congr (l := l) fun y hy => h y (List.mem_cons_of_mem _ hy)]
theorem rev_pick (xs : Array Value) : ((List.range xs.size).filterMap fun (k : Nat) => xs[((xs.size : Int) - 1 + (k : Int) * -1).toNat]?).toArray = xs.toList.reverse.toArray := by
  congr 1
  have e : (List.range xs.size).filterMap (fun (k : Nat) => xs[((xs.size : Int) - 1 + (k : Int) * -1).toNat]?) = ((List.range xs.size).map fun k => xs.size - 1 - k).filterMap (xs[·]?) := by
    rw [List.filterMap_map]
    refine fm_congr fun k hk => ?_
    have := List.mem_range.mp hk
    show xs[_]? = xs[xs.size - 1 - k]?
    congr 1
    omega
  rw [e, PySem.W.krv_range, List.filterMap_reverse, PySem.W.krv_all]
theorem rev_applied {sl : Addr} {vl vu vs : Value} {n : Nat} {Q : Int × Int × Nat → Shared → Prop} (hs : s.heap.IsSliceOf sl vl vu vs) (pl : IsPart vl none) (pu : IsPart vu none) (ps : IsPart vs (some (-1)))
    (h : Q ((n : Int) - 1, -1, n) s) : wpAny (model prog w) A (Builtin.Slice.sliceApplied (.ref sl) (pure (n : Int))) Q E s := by
  obtain ⟨os, hos, hcs, hds⟩ := id hs
  unfold Builtin.Slice.sliceApplied Builtin.Slice.sliceFields
  refine wpAny_bind (wpAny_bind (wpAny_field hos hds (x := vl) rfl (wpAny_bind (wpAny_field hos hds (x := vu) rfl (wpAny_bind (wpAny_field hos hds (x := vs) rfl (wpAny_pure (wpAny_bind (slicePart_ ps ?_)))))))))
  have n0 : ¬ (((some (-1 : Int)).getD 1 == 0) = true) := by decide
  refine PySem.W.KFB.if_not (by decide) ?_
  refine wpAny_bind (slicePart_ pl (wpAny_bind (slicePart_ pu (wpAny_bind (wpAny_pure ?_)))))
  have e : (Builtin.Slice.sliceAdjust none none ((some (-1 : Int)).getD 1) (n : Int)) = ((n : Int) - 1, -1) := rev_adjust n
  rw [e]
  have p : Builtin.Slice.slicePlaces ((n : Int) - 1) (-1) ((some (-1 : Int)).getD 1) = n := rev_places n
  dsimp only
  rw [p]
  exact wpAny_pure h
theorem getItem_rev {t sl : Addr} {items : Array Value} {vl vu vs : Value} {Q : Value → Shared → Prop} (ht : IsTup s.heap t items) (hs : s.heap.IsSliceOf sl vl vu vs) (pl : IsPart vl none) (pu : IsPart vu none) (ps : IsPart vs (some (-1)))
    (h : Q (.ref s.heap.objs.size) { s with heap := s.heap.push { cls := .type "tuple", data := .seq items.toList.reverse.toArray } }) (hz : items.size ≤ sizeLine) : wpAny (model prog w) A (getItem (.ref t) (.ref sl)) Q E s := by
  have hok : sizeOk (.seq items.toList.reverse.toArray) := by
    show items.toList.reverse.toArray.size ≤ sizeLine
    simpa using hz
  have hcl : s.TypeIs (.ref sl) "slice" := let ⟨os, a, b, _⟩ := hs; ⟨os, a, b⟩
  unfold getItem
  try with_reducible refine wpAny_holding ?_
  first | refine wpAny_bind (wpAny_pure ?_) | skip
  refine wpAny_bind (wpAny_sequenceKey ht.typeIs (by decide) (wpAny_bind (wpAny_callSpecial?_slot (name := Str.ofString "__getitem__") ht.typeIs PyProof.Rows.slot_tuple_getitem (wpAny_call_entry PyProof.Rows.slot_tuple_getitem ht.typeIs entry_tuple_getitem ?_ (args_tuple_getitem _ _)))))
  show wpAny _ _ (Builtin.Tuple.tupleItemsOf (.ref t) >>= _) _ _ s
  refine wpAny_bind (tupleItemsOf_ ht (wpAny_bind (wpAny_typeOf hcl ?_)))
  rw [if_pos (by decide)]
  refine wpAny_bind (rev_applied hs pl pu ps ?_)
  dsimp only
  refine PySem.W.KFB.if_not (by simp) ?_
  rw [rev_pick]
  first
    | exact wpAny_bind (m := Builtin.Tuple.tupleExact _) (wpAny_newObj_type (wpAny_pure ⟨_, rfl, wpAny_pure h⟩) hok)
    | exact wpAny_bind (wpAny_bind (m := Builtin.Tuple.tupleExact _) (wpAny_newObj_type (wpAny_pure (wpAny_pure ⟨_, rfl, wpAny_pure h⟩)) hok))
    | exact wpAny_bind (wpAny_bind (m := Builtin.Tuple.tupleExact _) (wpAny_newObj_type (wpAny_pure ⟨_, rfl, wpAny_pure h⟩) hok))
end
/-! ### t[::-1] of a tuple -/
def tRevT (K : PySem.W.Frag) (te : TE) : TE := fun σ H Q => te σ H fun x H1 => ∃ a xs, x = .ref a ∧ SqT K H1 a xs ∧ ∀ p, H1 p = none → Q (.ref p) (upd H1 p (.tup xs.reverse))
theorem pe_revT {X : Cx} {e : Expr} {te : TE} {k : Nat} {p1 p2 p3 pos : Pos} (he : PE X e te) : PE X (.Subscript e (.Slice none none (some (.UnaryOp .USub (.Constant (.int 1) k p1) p2)) p3) pos) (tRevT X.K te) := by
  refine ⟨fun pins s σ H Q I h => Subscript_ (thn (he.run pins s σ H _ I h) fun v s1 ⟨x, H1, I1, r1, a, xs, ex, hx, q⟩ => ?_)⟩
  subst ex
  cases r1
  have st : PO X (some (.UnaryOp .USub (.Constant (.int 1) k p1) p2)) (tPart (tUn (rU fun i => .int (-i)) (tC (.int 1)))) := po_some (pe_un un_neg pe_int)
  refine wpAny_Slice (thn (po_none.run pins s1 σ H1 (fun o H2 => o = none ∧ H2 = H1) I1 ⟨rfl, rfl⟩) fun vl s2 ⟨l, H2, I2, pl, el, e2⟩ => ?_)
  subst el e2
  refine thn (po_none.run pins s2 σ H2 (fun o H3 => o = none ∧ H3 = H2) I2 ⟨rfl, rfl⟩) fun vu s3 ⟨u, H3, I3, pu, eu, e3⟩ => thn (st.run pins s3 σ H3 (fun o H4 => o = some (-1) ∧ H4 = H3) I3 ⟨1, rfl, -1, rfl, rfl, rfl⟩) fun vs s4 ⟨o, H4, I4, ps, eo, e4⟩ => ?_
  subst eu e3 eo e4
  have I5 : Inv X pins σ H4 { s4 with heap := s4.heap.push { cls := .type "slice", data := .fields #[vl, vu, vs] } } := I4.kept (t' := s4.toks) fun b ob q => Heap.get?_push_of_some _ q
  obtain ⟨its, r, ht, hz⟩ := I5.tuple hx
  have hlen := r.length
  show wpAny (model X.prog X.w) X.A (subscriptTail e (.Slice none none (some (.UnaryOp .USub (.Constant (.int 1) k p1) p2)) p3) (.ref a) (.ref s4.heap.objs.size)) (EP X pins σ Q) X.xe { s4 with heap := s4.heap.push { cls := .type "slice", data := .fields #[vl, vu, vs] } }
  refine tail_any (ops := [.ref a, .ref s4.heap.objs.size]) ht.typeIs (PyProof.Rows.slot_tuple_getitem.lookup) ?_ (by with_unfolding_all rfl)
  refine getItem_rev ht (Heap.IsSliceOf.new _ vl vu vs) pl pu ps ⟨.ref _, _, I5.laid (t' := s4.toks) (o := .tup xs.reverse) (fun b ob q => Heap.get?_push_of_some _ q) (Nat.le_refl _) ?_, rfl, q _ (I5.hok.fresh (Nat.le_refl _))⟩ (by rw [List.size_toArray]; omega)
  exact ⟨by rw [List.length_reverse]; exact hz, _, r.reverse, IsTup.new _ _⟩
end Gd
local macro_rules | `(tactic| walk_at "cond") => `(tactic| (refine My.isP ?_; first
  | decide
  | omega
  | (dsimp only; first | omega | decide)
  | exact ⟨by decide, by decide, by decide⟩
  | exact ⟨by decide, by decide⟩
  | exact ⟨by omega, by omega⟩
  | exact Or.inl ⟨by omega, by omega⟩
  | exact Or.inr ⟨by omega, by omega⟩))
local macro_rules | `(tactic| walk_at "go") => `(tactic| repeat (first
  | refine ⟨_, _, rfl, rfl, (by (walk_at "cond"); done), ?_⟩
  | refine ⟨_, _, rfl, rfl, ?_⟩
  | refine ⟨_, rfl, ?_⟩
  | refine ⟨rfl, ?_⟩
  | refine ⟨⟨_, rfl⟩, ?_⟩))
namespace K12
set_option autoImplicit false
open PySem L2 Evl My
def topS (i : Nat) : Stmt := PySem.Challenge.pw_rankedchains_k11_ranks_told.main.body.getD i (.Pass ⟨0, 0, 0, 0⟩)
def Rwhole : List Pr → Pr → Prop := fun ps p => ∃ i : Int, ps = [IsV (.int i)] ∧ p = IsV (.bl true)
def Ramong : List Pr → Pr → Prop := fun ps p => ∃ t l m : Int, ps = [IsV (.int t), IsV (.int l), IsV (.int m)] ∧ p = IsV (.bl (decide (l ≤ t) && decide (t ≤ m)))
def Rname : List Pr → Pr → Prop := fun ps p => ∃ x : Str, ps = [IsV (.str x)] ∧ IsNm x ∧ p = IsV (.bl true)
def Raxis : List Pr → Pr → Prop := fun ps p => ∃ x : Str, ps = [IsV (.str x)] ∧ x ∈ [("x" : Str), "y"] ∧ p = IsV (.bl true)
def RnamesA (K : PySem.W.Frag) : List Pr → Pr → Prop := fun ps p => ∃ r : Rk, r.Ok ∧ ps = [NmP r.ns] ∧ p = IsV (.bl true)
def RaxesA (K : PySem.W.Frag) : List Pr → Pr → Prop := fun ps p => ∃ r : Rk, ps = [IsD K (.tuple (r.axs.map .str))] ∧ p = IsV (.bl true)
def Rrk (K : PySem.W.Frag) (q : Pr) : List Pr → Pr → Prop := fun ps p => ∃ r : Rk, r.Ok ∧ ps = [RkP K r] ∧ p = q
def Rdv (q : Pr) : List Pr → Pr → Prop := fun ps p => ∃ (r : Rk) (u : Dv), r.Ok ∧ u.Of r ∧ ps = [DvP u] ∧ p = q
def Rrd (K : PySem.W.Frag) (q : Rk → Dv → Pr) : List Pr → Pr → Prop := fun ps p => ∃ (r : Rk) (u : Dv), r.Ok ∧ u.Of r ∧ ps = [RkP K r, DvP u] ∧ p = q r u
def Rcmp (K : PySem.W.Frag) : List Pr → Pr → Prop := fun ps p => ∃ a b : List Int, a.length = 3 ∧ b.length = 3 ∧ ps = [IsD K (.tuple (a.map .int)), IsD K (.tuple (b.map .int))] ∧ p = IsV (.int (cmpL a b))
def Rrc (K : PySem.W.Frag) : List Pr → Pr → Prop := fun ps p => ∃ (r : Rk) (u v : Dv), r.Ok ∧ u.Of r ∧ v.Of r ∧ ps = [RkP K r, DvP u, DvP v] ∧ p = IsV (.int (r.cmp u v))
theorem all1 {p : Pr} {vs : List V} {H : Hp} (h : AllP [p] vs H) : ∃ v, vs = [v] ∧ p.P v H := by
  match vs, h with
  | [v], h => exact ⟨v, rfl, h.1⟩
theorem all2 {p q : Pr} {vs : List V} {H : Hp} (h : AllP [p, q] vs H) : ∃ v u, vs = [v, u] ∧ p.P v H ∧ q.P u H := by
  match vs, h with
  | [v, u], h => exact ⟨v, u, rfl, h.1, h.2.1⟩
theorem all3 {p q r : Pr} {vs : List V} {H : Hp} (h : AllP [p, q, r] vs H) : ∃ v u t, vs = [v, u, t] ∧ p.P v H ∧ q.P u H ∧ r.P t H := by
  match vs, h with
  | [v, u, t], h => exact ⟨v, u, t, rfl, h.1, h.2.1, h.2.2.1⟩
theorem iv_in {te : TE} {σ : L2.St} {B : Hp} {v : V} (h : EvP te σ B (IsV v)) : Ev te σ B v := ev_p h
theorem dec_axes (r : Rk) : ([PyData.tuple [.str "x"], .tuple [.str "x", .str "y"], .tuple [.str "y", .str "x"]].any fun z => PyData.eqv z (.tuple (r.axs.map .str))) = true := by
  have : ∀ a : Fin 3, ([PyData.tuple [.str "x"], .tuple [.str "x", .str "y"], .tuple [.str "y", .str "x"]].any fun z => PyData.eqv z (.tuple ((axsOf a).map .str))) = true := by decide +kernel
  exact this r.ax
section
variable {P : Program} {w : World} {K : PySem.W.Frag} {mg : Str → Option Value} {base : Heap}

/-- is_whole -/
abbrev s_is_whole : Stmt := topS 8
abbrev N_is_whole : List Str := ["thing"]
theorem sc_is_whole : FnScope N_is_whole ["thing"] (defScope s_is_whole) := ⟨rfl, rfl, rfl, by decide +kernel, rfl, by decide +kernel, by decide +kernel⟩
theorem ok_is_whole {f : Addr} {fd : FuncData} (F : Fun K "is_whole" "is_whole" s_is_whole f fd)  (n_isinstance : mg "isinstance" = none) (n_int : mg "int" = none) (n_bool : mg "bool" = none)  :
    FnOk P w K mg base CX0 2 f fd ["thing"] (spP Rwhole) := by
  refine F.ok sc_is_whole (spP_len (by rintro _ _ ⟨i, rfl, rfl⟩; rfl)) (fun cdv A outer s H vs Q E hr h => ?_)
  obtain ⟨B, ps, p, eB, hv, ⟨i, rfl, rfl⟩, q⟩ := h
  obtain ⟨v, rfl, h1⟩ := all1 hv
  obtain rfl : v = .int i := h1
  have hu := hu_of hr
  refine ⟨_, (pss_one (ps_ret (pe_and (pe_callB call_isi (by rfl) n_isinstance (by decide +kernel) (pa_cons (pv 0) (pa_cons (pe_bltn (v := .ty "int") (u := .type "int") (by rfl) n_int (by decide +kernel) rfl) pa_nil))) (pe_one (pe_not (pe_callB call_isi (by rfl) n_isinstance (by decide +kernel) (pa_cons (pv 0) (pa_cons (pe_bltn (v := .ty "bool") (u := .type "bool") (by rfl) n_bool (by decide +kernel) rfl) pa_nil)))))))), ?_⟩
  refine ps_ret eB (p_ev (v := .bl true) (ev_andV (a := true) (b := true) (ev_isi (K := K) (d := .int i) (ed_in (ev_var rfl)) k_ii) fun _ => ev_is (ev_notV (ev_isi (K := K) (d := .int i) (ed_in (ev_var rfl)) k_ib)) rfl)) fun v B1 H1 g hp => q v B1 H1 g hp

/-- is_among -/
abbrev s_is_among : Stmt := topS 9
abbrev N_is_among : List Str := ["thing", "least", "most"]
theorem sc_is_among : FnScope N_is_among ["thing", "least", "most"] (defScope s_is_among) := ⟨rfl, rfl, rfl, by decide +kernel, rfl, by decide +kernel, by decide +kernel⟩
theorem ok_is_among {f : Addr} {fd : FuncData} (F : Fun K "is_among" "is_among" s_is_among f fd) {f_is_whole : Addr} {d_is_whole : FuncData} (c_is_whole : Cal P w K mg base "is_whole" 2 ["thing"] (spP Rwhole) f_is_whole d_is_whole)   :
    FnOk P w K mg base CX0 3 f fd ["thing", "least", "most"] (spP Ramong) := by
  refine F.ok sc_is_among (spP_len (by rintro _ _ ⟨t, l, m, rfl, rfl⟩; rfl)) (fun cdv A outer s H vs Q E hr h => ?_)
  obtain ⟨B, ps, p, eB, hv, ⟨t, l, m, rfl, rfl⟩, q⟩ := h
  obtain ⟨v1, v2, v3, rfl, h1, h2, h3⟩ := all3 hv
  obtain rfl : v1 = .int t := h1
  obtain rfl : v2 = .int l := h2
  obtain rfl : v3 = .int m := h3
  have hu := hu_of hr
  refine ⟨_, (pss_one (ps_ret (pe_and (pe_call c_is_whole.G (hr.mono (by decide)) (by rfl) c_is_whole.m c_is_whole.k c_is_whole.b .nil pass0 (pa_cons (pv 0) pa_nil)) (pe_and (pe_call c_is_whole.G (hr.mono (by decide)) (by rfl) c_is_whole.m c_is_whole.k c_is_whole.b .nil pass0 (pa_cons (pv 1) pa_nil)) (pe_and (pe_call c_is_whole.G (hr.mono (by decide)) (by rfl) c_is_whole.m c_is_whole.k c_is_whole.b .nil pass0 (pa_cons (pv 2) pa_nil)) (pe_one (pe_chain op_le op_le (pv 1) (pv 0) (pv 2)))))))), ?_⟩
  have wh : ∀ (i : Nat) (j : Int), ([some (.int t), some (.int l), some (.int m)] : L2.St)[i]? = some (some (.int j)) → Ev (tCall (spP Rwhole) [] E0 (tCons (tVar i) tNil)) [some (.int t), some (.int l), some (.int m)] B (.bl true) :=
    fun i j hi => ev_p (p_callP (ps := [IsV (.int j)]) (q_cons (p_varV hi) q_nil) ⟨j, rfl, rfl⟩)
  refine ps_ret eB (p_ev (v := .bl (decide (l ≤ t) && decide (t ≤ m))) (ev_is (ev_andV (a := true) (b := true && (true && (decide (l ≤ t) && decide (t ≤ m)))) (wh 0 t rfl) fun _ => ev_andV (wh 1 l rfl) fun _ => ev_andV (wh 2 m rfl) fun _ => ?_) (by simp))) fun v B1 H1 g hp => q v B1 H1 g hp
  exact ev_chain (r1 := fun i j => decide (i ≤ j)) (r2 := fun i j => decide (i ≤ j)) (ev_var rfl) (ev_var rfl) (ev_var rfl)

/-- is_name -/
abbrev s_is_name : Stmt := topS 10
abbrev N_is_name : List Str := ["thing", "sign"]
theorem sc_is_name : FnScope N_is_name ["thing"] (defScope s_is_name) := ⟨rfl, rfl, rfl, by decide +kernel, rfl, by decide +kernel, by decide +kernel⟩
theorem ok_is_name {f : Addr} {fd : FuncData} (F : Fun K "is_name" "is_name" s_is_name f fd)  (n_isinstance : mg "isinstance" = none) (n_str : mg "str" = none) (n_len : mg "len" = none) (n_all : mg "all" = none) {tk1 tk2 : Nat} (g_MOST_LETTERS : mg "MOST_LETTERS" = some (.int 8 tk1)) (g_LETTERS : mg "LETTERS" = some (.str "abcdefghijklmnopqrstuvwxyz" tk2)) :
    FnOk P w K mg base CX0 2 f fd ["thing"] (spP Rname) := by
  refine F.ok sc_is_name (spP_len (by rintro _ _ ⟨x, rfl, _, rfl⟩; rfl)) (fun cdv A outer s H vs Q E hr h => ?_)
  obtain ⟨B, ps, p, eB, hv, ⟨x, rfl, hx, rfl⟩, q⟩ := h
  obtain ⟨v, rfl, h1⟩ := all1 hv
  obtain rfl : v = .str x := h1
  have hu := hu_of hr
  refine ⟨_, (pss_cons (ps_if (PW.pt (pw_or (pt_not (pt_val (pe_callB call_isi (by rfl) n_isinstance (by decide +kernel) (pa_cons (pv 0) (pa_cons (pe_bltn (v := .ty "str") (u := .type "str") (by rfl) n_str (by decide +kernel) rfl) pa_nil))))) (pw_or1 (pt_not (pt_chain op_le op_le pe_int (pe_callB call_len_str (by rfl) n_len (by decide +kernel) (pa_cons (pv 0) pa_nil)) (pe_glob (by rfl) (v := .int 8) g_MOST_LETTERS ⟨_, rfl⟩)))))) (pss_one (ps_ret pe_bl)) pss_nil)
    (pss_one (ps_ret (pe_callB (cr_all rfl) (by rfl) n_all (by decide +kernel) (pa_cons (pe_lc (own := [("sign", 1)]) rfl sc_is_name.nd (pi_str (pv 0)) (blkOk_by (N := N_is_name) (sc := defScope s_is_name) (by decide +kernel)) (fun _ _ _ _ _ => (pg_name (i := 1) sc_is_name.nd rfl (Or.inl rfl))) (fun _ _ _ _ _ => pts_nil) (fun _ _ _ _ _ => (pe_cmpR op_in_sign (pv 1) (pe_glob (by rfl) (v := .str "abcdefghijklmnopqrstuvwxyz") g_LETTERS ⟨_, rfl⟩) (by rfl)))) pa_nil))))), ?_⟩
  have hx2 := nm_facts hx
  refine ps_ifN eB (et_is (et_or (a := false) (b := false) (et_is (et_not (et_test (ev_isi (K := K) (d := .str x) (ed_st (ev_var rfl)) k_ss))) rfl) fun _ => et_is (et_not (et_test (ev_chain (r1 := fun i j => decide (i ≤ j)) (r2 := fun i j => decide (i ≤ j)) ev_c (ev_lenS (x := x) (ev_var rfl) (by omega)) ev_c))) (by simp; omega)) rfl) fun H1 e1 => ?_
  dsimp only
  refine My.ps_ret (eB.trans e1) (p_ev (v := .bl true) (ev_is (ev_allL (K := K) (bs := (List.range x.cps.size).map fun _ => true) ?_) ?_)) fun v B1 H2 g hp => q v B1 H2 ((Gr.wide eB e1).trans g) hp
  rotate_left
  · simp
  rw [List.map_map]
  refine p_lcA (K := K) (src_str (x := x) (ev_var rfl)) (by show x.length ≤ _; omega) (fun _ => .bool true) fun i v B1 hi e pv => ?_
  obtain rfl : v = .str (oneS x i) := pv
  refine ⟨[some (.str x), some (.str (oneS x i))], rfl, fun H2 Q e q => q, ed_bl (ev_is (ev_sign (c := x.cps.getD i 0) (z := "abcdefghijklmnopqrstuvwxyz") (ev_var rfl) ev_c) ?_)⟩
  have := hx2.2.2 (x.cps.getD i 0) (by rw [Array.getD_eq_getD_getElem?, Array.getElem?_eq_getElem hi]; simp)
  exact congrArg V.bl (decide_eq_true (let_low this.1 this.2))

/-- is_axis -/
abbrev s_is_axis : Stmt := topS 11
abbrev N_is_axis : List Str := ["thing"]
theorem sc_is_axis : FnScope N_is_axis ["thing"] (defScope s_is_axis) := ⟨rfl, rfl, rfl, by decide +kernel, rfl, by decide +kernel, by decide +kernel⟩
theorem ok_is_axis {f : Addr} {fd : FuncData} (F : Fun K "is_axis" "is_axis" s_is_axis f fd)  (n_isinstance : mg "isinstance" = none) (n_str : mg "str" = none) {aA : Addr} (g_AXES : mg "AXES" = some (.ref aA)) (v_AXES : ∀ H, Dp K H (.ref aA) (.tuple ([("x" : Str), "y"].map .str))) :
    FnOk P w K mg base CX0 1 f fd ["thing"] (spP Raxis) := by
  refine F.ok sc_is_axis (spP_len (by rintro _ _ ⟨x, rfl, _, rfl⟩; rfl)) (fun cdv A outer s H vs Q E hr h => ?_)
  obtain ⟨B, ps, p, eB, hv, ⟨x, rfl, hx, rfl⟩, q⟩ := h
  obtain ⟨v, rfl, h1⟩ := all1 hv
  obtain rfl : v = .str x := h1
  have hu := hu_of hr
  refine ⟨_, (pss_one (ps_ret (pe_and (pe_callB call_isi (by rfl) n_isinstance (by decide +kernel) (pa_cons (pv 0) (pa_cons (pe_bltn (v := .ty "str") (u := .type "str") (by rfl) n_str (by decide +kernel) rfl) pa_nil))) (pe_one (pe_cmpR op_in_seq (pv 0) (pe_glob (by rfl) (v := .ref aA) g_AXES rfl) (by rfl)))))), ?_⟩
  refine ps_ret eB (p_ev (v := .bl true) (ev_andV (a := true) (b := true) (ev_isi (K := K) (d := .str x) (ed_st (ev_var rfl)) k_ss) fun _ => ev_is (ev_inT (neg := false) (ys := ["x", "y"]) (ev_var rfl) (ed_ref (v_AXES B))) ?_)) fun v B1 H1 g hp => q v B1 H1 g hp
  simp only [Bool.false_eq_true, if_false]
  rw [decide_eq_true hx]

end
end K12
namespace K12
set_option autoImplicit false
open PySem L2 Evl My
section
variable {P : Program} {w : World} {K : PySem.W.Frag} {mg : Str → Option Value} {base : Heap}
theorem of_nm {r : Rk} {u : Dv} (h : r.Ok) (k : u.Of r) : IsNm u.n := h.nm _ k.n

/-- is_derivative -/
abbrev s_is_derivative : Stmt := topS 13
abbrev N_is_derivative : List Str := ["thing", "name", "by_x", "by_y"]
theorem sc_is_derivative : FnScope N_is_derivative ["thing"] (defScope s_is_derivative) := ⟨rfl, rfl, rfl, by decide +kernel, rfl, by decide +kernel, by decide +kernel⟩
theorem ok_is_derivative {f : Addr} {fd : FuncData} (F : Fun K "is_derivative" "is_derivative" s_is_derivative f fd) {f_is_name : Addr} {d_is_name : FuncData} (c_is_name : Cal P w K mg base "is_name" 2 ["thing"] (spP Rname) f_is_name d_is_name) {f_is_whole : Addr} {d_is_whole : FuncData} (c_is_whole : Cal P w K mg base "is_whole" 2 ["thing"] (spP Rwhole) f_is_whole d_is_whole) (n_isinstance : mg "isinstance" = none) (n_tuple : mg "tuple" = none) (n_len : mg "len" = none)  :
    FnOk P w K mg base CX0 3 f fd ["thing"] (spP (Rdv (IsV (.bl true)))) := by
  refine F.ok sc_is_derivative (spP_len (by rintro _ _ ⟨r, u, _, _, rfl, rfl⟩; rfl)) (fun cdv A outer s H vs Q E hr h => ?_)
  obtain ⟨B, ps, p, eB, hv, ⟨r, u, hr0, hu0, rfl, rfl⟩, q⟩ := h
  obtain ⟨v, rfl, h1⟩ := all1 hv
  have hu := hu_of hr
  refine ⟨_, (pss_cons (ps_if (PW.pt (pw_or (pt_not (pt_val (pe_callB call_isi (by rfl) n_isinstance (by decide +kernel) (pa_cons (pv 0) (pa_cons (pe_bltn (v := .ty "tuple") (u := .type "tuple") (by rfl) n_tuple (by decide +kernel) rfl) pa_nil))))) (pw_or1 (pt_cmpR op_ne (pe_callB call_len_seq (by rfl) n_len (by decide +kernel) (pa_cons (pv 0) pa_nil)) pe_int (nomark _))))) (pss_one (ps_ret pe_bl)) pss_nil)
    (pss_cons (ps_asg (pv 0) (pg_tup (by rfl) (pgs_cons (pg_name (i := 1) sc_is_derivative.nd rfl (by first | exact .inl rfl | exact .inr rfl)) (pgs_cons (pg_name (i := 2) sc_is_derivative.nd rfl (by first | exact .inl rfl | exact .inr rfl)) (pgs_cons (pg_name (i := 3) sc_is_derivative.nd rfl (by first | exact .inl rfl | exact .inr rfl)) pgs_nil)))))
    (pss_one (ps_ret (pe_and (pe_call c_is_name.G (hr.mono (by decide)) (by rfl) c_is_name.m c_is_name.k c_is_name.b .nil pass0 (pa_cons (pv 1) pa_nil)) (pe_and (pe_call c_is_whole.G (hr.mono (by decide)) (by rfl) c_is_whole.m c_is_whole.k c_is_whole.b .nil pass0 (pa_cons (pv 2) pa_nil)) (pe_and (pe_call c_is_whole.G (hr.mono (by decide)) (by rfl) c_is_whole.m c_is_whole.k c_is_whole.b .nil pass0 (pa_cons (pv 3) pa_nil)) (pe_and (pe_cmpR op_ge (pv 2) pe_int (nomark _)) (pe_one (pe_cmpR op_ge (pv 3) pe_int (nomark _))))))))))), ?_⟩
  refine ps_ifN eB (et_is (et_or (a := false) (b := false) (et_is (et_not (et_test (ev_isi (K := K) (d := u.D) (ed_dv (p_var rfl h1)) k_tt))) rfl) fun _ => et_is (et_test (ev_op (ev_lenD (K := K) (ed_dv (p_var rfl h1)) (.inl rfl)) ev_c (rv_ne rfl))) rfl) rfl) fun H1 e1 => ?_
  dsimp only
  refine ps_unD (K := K) (eB.trans e1) (p_var rfl h1) fun B2 H2 g2 => ?_
  have i1 := of_nm hr0 hu0
  have i2 := hu0.i
  have i3 := hu0.j
  dsimp only
  refine My.ps_ret g2.c (p_ev (v := .bl true) (ev_is (ev_andV (a := true) (b := true && (true && (decide (0 ≤ u.i) && decide (0 ≤ u.j)))) (ev_p (p_callP (ps := [IsV (.str u.n)]) (q_cons (p_varV rfl) q_nil) ⟨u.n, rfl, i1, rfl⟩)) fun _ =>
    ev_andV (ev_p (p_callP (ps := [IsV (.int u.i)]) (q_cons (p_varV rfl) q_nil) ⟨u.i, rfl, rfl⟩)) fun _ => ev_andV (ev_p (p_callP (ps := [IsV (.int u.j)]) (q_cons (p_varV rfl) q_nil) ⟨u.j, rfl, rfl⟩)) fun _ =>
    ev_andV (ev_op (ev_var rfl) ev_c rv_I0) fun _ => ev_op (ev_var rfl) ev_c rv_I0) (by simp [i2, i3]))) fun v B3 H3 g hp => q v B3 H3 (((Gr.wide eB e1).trans g2).trans g) hp

/-- _are_names -/
abbrev s__are_names : Stmt := topS 20
abbrev N__are_names : List Str := ["thing", "name"]
theorem sc__are_names : FnScope N__are_names ["thing"] (defScope s__are_names) := ⟨rfl, rfl, rfl, by decide +kernel, rfl, by decide +kernel, by decide +kernel⟩
theorem ok__are_names {f : Addr} {fd : FuncData} (F : Fun K "_are_names" "_are_names" s__are_names f fd) {f_is_name : Addr} {d_is_name : FuncData} (c_is_name : Cal P w K mg base "is_name" 2 ["thing"] (spP Rname) f_is_name d_is_name) (n_isinstance : mg "isinstance" = none) (n_tuple : mg "tuple" = none) (n_len : mg "len" = none) (n_all : mg "all" = none) (n_set : mg "set" = none) {tk1 : Nat} (g_MOST_NAMES : mg "MOST_NAMES" = some (.int 3 tk1)) :
    FnOk P w K mg base CX0 3 f fd ["thing"] (spP (RnamesA K)) := by
  refine F.ok sc__are_names (spP_len (by rintro _ _ ⟨r, _, rfl, rfl⟩; rfl)) (fun cdv A outer s H vs Q E hr h => ?_)
  obtain ⟨B, ps, p, eB, hv, ⟨r, hr0, rfl, rfl⟩, q⟩ := h
  obtain ⟨v, rfl, h1⟩ := all1 hv
  have hu := hu_of hr
  refine ⟨_, (pss_cons (ps_if (PW.pt (pw_or (pt_not (pt_val (pe_callB call_isi (by rfl) n_isinstance (by decide +kernel) (pa_cons (pv 0) (pa_cons (pe_bltn (v := .ty "tuple") (u := .type "tuple") (by rfl) n_tuple (by decide +kernel) rfl) pa_nil))))) (pw_or1 (pt_not (pt_chain op_le op_le pe_int (pe_callB call_len_seq (by rfl) n_len (by decide +kernel) (pa_cons (pv 0) pa_nil)) (pe_glob (by rfl) (v := .int 3) g_MOST_NAMES ⟨_, rfl⟩)))))) (pss_one (ps_ret pe_bl)) pss_nil)
    (pss_one (ps_ret (pe_and (pe_callB (cr_all rfl) (by rfl) n_all (by decide +kernel) (pa_cons (pe_lc (own := [("name", 1)]) rfl sc__are_names.nd (pi_tup (pv 0)) (blkOk_by (N := N__are_names) (sc := defScope s__are_names) (by decide +kernel)) (fun _ _ _ _ _ => (pg_name (i := 1) sc__are_names.nd rfl (Or.inl rfl))) (fun _ _ _ _ _ => pts_nil) (fun _ _ _ _ _ => (pe_call c_is_name.G (hr.mono (by decide)) (by rfl) c_is_name.m c_is_name.k c_is_name.b .nil pass0 (pa_cons (pv 1) pa_nil)))) pa_nil)) (pe_one (pe_cmpR op_eq (pe_lenSetT rfl (by rfl) n_len (by rfl) n_set (pv 0)) (pe_callB call_len_seq (by rfl) n_len (by decide +kernel) (pa_cons (pv 0) pa_nil)) (nomark _))))))), ?_⟩
  have hne := hr0.ne
  have hle := hr0.le
  refine ps_ifN eB (et_is (et_or (a := false) (b := false) (et_is (et_not (et_test (ev_isi (K := K) (d := .tuple (r.ns.map .str)) (ed_nm (p_var rfl h1)) k_tt))) rfl) fun _ => et_is (et_not (et_test (ev_chain (r1 := fun i j => decide (i ≤ j)) (r2 := fun i j => decide (i ≤ j)) ev_c (ev_lenD (K := K) (ed_nm (p_var rfl h1)) (.inl rfl)) ev_c))) (by simp; omega)) rfl) fun H1 e1 => ?_
  dsimp only
  refine My.ps_ret (eB.trans e1) (p_ev (v := .bl true) (ev_is (ev_andV (a := true) (b := true) (ev_is (ev_allL (K := K) (bs := (List.range (r.ns.map PyData.str).length).map fun _ => true) ?_) ?_) fun _ => ev_is (ev_op (ev_lenSet (xs := r.ns) (p_var rfl h1) hr0.nd (by omega)) (ev_lenD (K := K) (ed_nm (p_var rfl h1)) (.inl rfl)) (rv_eq rfl)) (by simp)) rfl)) fun v B1 H2 g hp => q v B1 H2 ((Gr.wide eB e1).trans g) hp
  rotate_left
  · simp
  rw [List.map_map]
  refine p_lcA (K := K) (src_tup (ed_nm (p_var rfl h1))) (by rw [List.length_map]; omega) (fun _ => .bool true) fun i v1 B1 hi e pv => ?_
  rw [List.length_map] at hi
  have ed : (r.ns.map PyData.str).getD i .none = .str r.ns[i] := by
    rw [List.getD_eq_getElem?_getD, List.getElem?_map, List.getElem?_eq_getElem hi]
    rfl
  obtain rfl : v1 = .str r.ns[i] := by
    have pv : Dp K B1 v1 ((r.ns.map PyData.str).getD i .none) := pv
    rw [ed] at pv
    cases pv
    rfl
  refine ⟨[some v, some (.str r.ns[i])], rfl, fun H2 Q e q => q, ed_bl (ev_p (p_callP (ps := [IsV (.str r.ns[i])]) (q_cons (p_varV rfl) q_nil) ⟨r.ns[i], rfl, hr0.nm _ (List.getElem_mem hi), rfl⟩))⟩

/-- _are_axes -/
abbrev s__are_axes : Stmt := topS 21
abbrev N__are_axes : List Str := ["thing", "axis"]
theorem sc__are_axes : FnScope N__are_axes ["thing"] (defScope s__are_axes) := ⟨rfl, rfl, rfl, by decide +kernel, rfl, by decide +kernel, by decide +kernel⟩
theorem ax_len (r : Rk) : r.axs.length ≤ 2 := by
  have : ∀ a : Fin 3, (axsOf a).length ≤ 2 := by decide +kernel
  exact this r.ax
theorem ax_mem (r : Rk) : ∀ x ∈ r.axs, x ∈ [("x" : Str), "y"] := by
  have : ∀ a : Fin 3, ∀ x ∈ axsOf a, x ∈ [("x" : Str), "y"] := by decide +kernel
  exact this r.ax
theorem ax_shaped (r : Rk) : SeqAt.shaped (.tuple (r.axs.map .str)) = true := by
  have : ∀ a : Fin 3, SeqAt.shaped (.tuple ((axsOf a).map .str)) = true := by decide +kernel
  exact this r.ax
theorem ok__are_axes {f : Addr} {fd : FuncData} (F : Fun K "_are_axes" "_are_axes" s__are_axes f fd) {f_is_axis : Addr} {d_is_axis : FuncData} (c_is_axis : Cal P w K mg base "is_axis" 1 ["thing"] (spP Raxis) f_is_axis d_is_axis) (n_isinstance : mg "isinstance" = none) (n_tuple : mg "tuple" = none) (n_all : mg "all" = none) {aL : Addr} (g_ALL : mg "AXES_ALL" = some (.ref aL)) (v_ALL : ∀ H, Dp K H (.ref aL) (.tuple [PyData.tuple [.str "x"], .tuple [.str "x", .str "y"], .tuple [.str "y", .str "x"]])) :
    FnOk P w K mg base CX0 2 f fd ["thing"] (spP (RaxesA K)) := by
  refine F.ok sc__are_axes (spP_len (by rintro _ _ ⟨r, rfl, rfl⟩; rfl)) (fun cdv A outer s H vs Q E hr h => ?_)
  obtain ⟨B, ps, p, eB, hv, ⟨r, rfl, rfl⟩, q⟩ := h
  obtain ⟨v, rfl, h1⟩ := all1 hv
  have hu := hu_of hr
  refine ⟨_, (pss_one (ps_ret (pe_and (pe_callB call_isi (by rfl) n_isinstance (by decide +kernel) (pa_cons (pv 0) (pa_cons (pe_bltn (v := .ty "tuple") (u := .type "tuple") (by rfl) n_tuple (by decide +kernel) rfl) pa_nil))) (pe_and (pe_callB (cr_all rfl) (by rfl) n_all (by decide +kernel) (pa_cons (pe_lc (own := [("axis", 1)]) rfl sc__are_axes.nd (pi_tup (pv 0)) (blkOk_by (N := N__are_axes) (sc := defScope s__are_axes) (by decide +kernel)) (fun _ _ _ _ _ => (pg_name (i := 1) sc__are_axes.nd rfl (Or.inl rfl))) (fun _ _ _ _ _ => pts_nil) (fun _ _ _ _ _ => (pe_call c_is_axis.G (hr.mono (by decide)) (by rfl) c_is_axis.m c_is_axis.k c_is_axis.b .nil pass0 (pa_cons (pv 1) pa_nil)))) pa_nil)) (pe_one (pe_cmpR (op_inT (by have h := hr.un; show (A.deeper _).units + 65 < cLine; omega)) (pv 0) (pe_glob (by rfl) (v := .ref aL) g_ALL rfl) (by rfl))))))), ?_⟩
  refine My.ps_ret eB (p_ev (v := .bl true) (ev_is (ev_andV (a := true) (b := true && true) (ev_isi (K := K) (d := .tuple (r.axs.map .str)) (ed_var rfl h1) k_tt) fun _ => ev_andV (ev_is (ev_allL (K := K) (bs := (List.range (r.axs.map PyData.str).length).map fun _ => true) ?_) ?_) fun _ => ev_is (ev_inDT (ed_var rfl h1) (ed_ref (v_ALL B)) (ax_shaped r) (by decide +kernel)) ?_) rfl)) fun v B1 H2 g hp => q v B1 H2 g hp
  · rw [List.map_map]
    have hl := ax_len r
    refine p_lcA (K := K) (src_tup (ed_var rfl h1)) (by rw [List.length_map]; omega) (fun _ => .bool true) fun i v1 B1 hi e pv => ?_
    rw [List.length_map] at hi
    have ed : (r.axs.map PyData.str).getD i .none = .str r.axs[i] := by
      rw [List.getD_eq_getElem?_getD, List.getElem?_map, List.getElem?_eq_getElem hi]
      rfl
    obtain rfl : v1 = .str r.axs[i] := by
      have pv : Dp K B1 v1 ((r.axs.map PyData.str).getD i .none) := pv
      rw [ed] at pv
      cases pv
      rfl
    refine ⟨[some v, some (.str r.axs[i])], rfl, fun H2 Q e q => q, ed_bl (ev_p (p_callP (ps := [IsV (.str r.axs[i])]) (q_cons (p_varV rfl) q_nil) ⟨r.axs[i], rfl, ax_mem r _ (List.getElem_mem hi), rfl⟩))⟩
  · simp
  · rw [dec_axes]

/-- need_ranking -/
abbrev s_need_ranking : Stmt := topS 19
abbrev N_need_ranking : List Str := ["ranking", "sort", "names", "axes"]
theorem sc_need_ranking : FnScope N_need_ranking ["ranking"] (defScope s_need_ranking) := ⟨rfl, rfl, rfl, by decide +kernel, rfl, by decide +kernel, by decide +kernel⟩
theorem srt_mem (r : Rk) : r.srt ∈ [("total" : Str), "names"] := by
  unfold Rk.srt
  cases r.tot <;> simp
theorem ok_need_ranking {f : Addr} {fd : FuncData} (F : Fun K "need_ranking" "need_ranking" s_need_ranking f fd) {f__are_names : Addr} {d__are_names : FuncData} (c__are_names : Cal P w K mg base "_are_names" 3 ["thing"] (spP (RnamesA K)) f__are_names d__are_names) {f__are_axes : Addr} {d__are_axes : FuncData} (c__are_axes : Cal P w K mg base "_are_axes" 2 ["thing"] (spP (RaxesA K)) f__are_axes d__are_axes) (n_isinstance : mg "isinstance" = none) (n_tuple : mg "tuple" = none) (n_len : mg "len" = none) (n_str : mg "str" = none) {aS : Addr} (g_SORTS : mg "SORTS" = some (.ref aS)) (v_SORTS : ∀ H, Dp K H (.ref aS) (.tuple ([("total" : Str), "names"].map .str))) :
    FnOk P w K mg base CX0 4 f fd ["ranking"] (spP (Rrk K (IsV .non))) := by
  refine F.ok sc_need_ranking (spP_len (by rintro _ _ ⟨r, _, rfl, rfl⟩; rfl)) (fun cdv A outer s H vs Q E hr h => ?_)
  obtain ⟨B, ps, p, eB, hv, ⟨r, hr0, rfl, rfl⟩, q⟩ := h
  obtain ⟨v, rfl, h1⟩ := all1 hv
  have hu := hu_of hr
  refine ⟨_, (pss_cons (ps_if (PW.pt (pw_or (pt_not (pt_val (pe_callB call_isi (by rfl) n_isinstance (by decide +kernel) (pa_cons (pv 0) (pa_cons (pe_bltn (v := .ty "tuple") (u := .type "tuple") (by rfl) n_tuple (by decide +kernel) rfl) pa_nil))))) (pw_or1 (pt_cmpR op_ne (pe_callB call_len_seq (by rfl) n_len (by decide +kernel) (pa_cons (pv 0) pa_nil)) pe_int (nomark _))))) (pss_one ps_never) pss_nil)
    (pss_cons (ps_asg (pv 0) (pg_tup (by rfl) (pgs_cons (pg_name (i := 1) sc_need_ranking.nd rfl (by first | exact .inl rfl | exact .inr rfl)) (pgs_cons (pg_name (i := 2) sc_need_ranking.nd rfl (by first | exact .inl rfl | exact .inr rfl)) (pgs_cons (pg_name (i := 3) sc_need_ranking.nd rfl (by first | exact .inl rfl | exact .inr rfl)) pgs_nil)))))
    (pss_cons (ps_if (PW.pt (pw_or (pt_not (pt_val (pe_callB call_isi (by rfl) n_isinstance (by decide +kernel) (pa_cons (pv 1) (pa_cons (pe_bltn (v := .ty "str") (u := .type "str") (by rfl) n_str (by decide +kernel) rfl) pa_nil))))) (pw_or1 (pt_cmpR op_notIn_seq (pv 1) (pe_glob (by rfl) (v := .ref aS) g_SORTS rfl) (by rfl))))) (pss_one ps_never) pss_nil)
    (pss_cons (ps_if (pt_not (pt_val (pe_call c__are_names.G (hr.mono (by decide)) (by rfl) c__are_names.m c__are_names.k c__are_names.b .nil pass0 (pa_cons (pv 2) pa_nil)))) (pss_one ps_never) pss_nil)
    (pss_one (ps_if (pt_not (pt_val (pe_call c__are_axes.G (hr.mono (by decide)) (by rfl) c__are_axes.m c__are_axes.k c__are_axes.b .nil pass0 (pa_cons (pv 3) pa_nil)))) (pss_one ps_never) pss_nil)))))), ?_⟩
  refine ps_ifN eB (et_is (et_or (a := false) (b := false) (et_is (et_not (et_test (ev_isi (K := K) (d := r.D) (ed_rk (p_var rfl h1)) k_tt))) rfl) fun _ => et_is (et_test (ev_op (ev_lenD (K := K) (ed_rk (p_var rfl h1)) (.inl rfl)) ev_c (rv_ne rfl))) rfl) rfl) fun H1 e1 => ?_
  dsimp only
  refine ps_unR (K := K) (eB.trans e1) (p_var rfl h1) fun v2 v3 B2 H2 g2 n2 n3 => ?_
  dsimp only
  refine ps_ifN g2.c (et_is (et_or (a := false) (b := false) (et_is (et_not (et_test (ev_isi (K := K) (d := .str r.srt) (ed_st (ev_var rfl)) k_ss))) rfl) fun _ => et_is (et_test (ev_inT (neg := true) (ys := ["total", "names"]) (ev_var rfl) (ed_ref (v_SORTS B2)))) ?_) rfl) fun H3 e3 => ?_
  · rw [if_pos rfl, decide_eq_true (srt_mem r)]
    rfl
  dsimp only
  refine ps_ifN (g2.c.trans e3) (et_is (et_not (et_test (ev_p (p_callP (ps := [NmP r.ns]) (q_cons (p_var rfl n2) q_nil) ⟨r, hr0, rfl, rfl⟩)))) rfl) fun H4 e4 => ?_
  dsimp only
  refine ps_ifN ((g2.c.trans e3).trans e4) (et_is (et_not (et_test (ev_p (p_callP (ps := [IsD K (.tuple (r.axs.map .str))]) (q_cons (p_var rfl n3) q_nil) ⟨r, rfl, rfl⟩)))) rfl) fun H5 e5 => ?_
  exact q .non B2 H5 ((Gr.wide eB e1).trans (g2.trans (Gr.wide g2.c ((e3.trans e4).trans e5)))) rfl

/-- _stands_there -/
abbrev s__stands_there : Stmt := topS 23
abbrev N__stands_there : List Str := ["ranking", "derivative", "_", "names", "axes", "name", "by_y"]
theorem sc__stands_there : FnScope N__stands_there ["ranking", "derivative"] (defScope s__stands_there) := ⟨rfl, rfl, rfl, by decide +kernel, rfl, by decide +kernel, by decide +kernel⟩
theorem ok__stands_there {f : Addr} {fd : FuncData} (F : Fun K "_stands_there" "_stands_there" s__stands_there f fd)    :
    FnOk P w K mg base CX0 1 f fd ["ranking", "derivative"] (spP (Rrd K fun _ _ => IsV (.bl true))) := by
  refine F.ok sc__stands_there (spP_len (by rintro _ _ ⟨r, u, _, _, rfl, rfl⟩; rfl)) (fun cdv A outer s H vs Q E hr h => ?_)
  obtain ⟨B, ps, p, eB, hv, ⟨r, u, hr0, hu0, rfl, rfl⟩, q⟩ := h
  obtain ⟨v1, v2, rfl, h1, h2⟩ := all2 hv
  have hu := hu_of hr
  refine ⟨_, (pss_cons (ps_asg (pv 0) (pg_tup (by rfl) (pgs_cons (pg_name (i := 2) sc__stands_there.nd rfl (by first | exact .inl rfl | exact .inr rfl)) (pgs_cons (pg_name (i := 3) sc__stands_there.nd rfl (by first | exact .inl rfl | exact .inr rfl)) (pgs_cons (pg_name (i := 4) sc__stands_there.nd rfl (by first | exact .inl rfl | exact .inr rfl)) pgs_nil)))))
    (pss_cons (ps_asg (pv 1) (pg_tup (by rfl) (pgs_cons (pg_name (i := 5) sc__stands_there.nd rfl (by first | exact .inl rfl | exact .inr rfl)) (pgs_cons (pg_name (i := 2) sc__stands_there.nd rfl (by first | exact .inl rfl | exact .inr rfl)) (pgs_cons (pg_name (i := 6) sc__stands_there.nd rfl (by first | exact .inl rfl | exact .inr rfl)) pgs_nil)))))
    (pss_one (ps_ret (pe_and (pe_cmpR op_in_seq (pv 5) (pv 3) (by rfl)) (pe_one (pe_or (pe_cmpR op_eq (pv 6) pe_int (nomark _)) (pe_one (pe_cmpR op_in_seq pe_str (pv 4) (by rfl)))))))))), ?_⟩
  refine ps_unR (K := K) eB (p_var rfl h1) fun w2 w3 B2 H2 g2 n2 n3 => ?_
  dsimp only
  refine ps_unD (K := K) g2.c (p_var rfl ((DvP u).m g2.b h2)) fun B3 H3 g3 => ?_
  dsimp only
  have m2 := nm_d (K := K) ((NmP r.ns).m g3.b n2)
  have m3 := dp_m g3.b n3
  refine My.ps_ret g3.c (p_ev (v := .bl true) (ev_is (ev_andV (a := true) (b := decide (u.j = 0) || decide ((Str.ofString "y") ∈ r.axs)) (ev_is (ev_inT (neg := false) (ys := r.ns) (ev_var rfl) (ed_var rfl m2)) ?_) fun _ => ev_orV (ev_is (ev_op (ev_var rfl) ev_c (rv_eq rfl)) ?_) fun _ => ev_is (ev_inT (neg := false) (ys := r.axs) ev_c (ed_var rfl m3)) ?_) ?_)) fun v B4 H4 g hp => q v B4 H4 ((g2.trans g3).trans g) hp
  · rw [if_neg Bool.false_ne_true, decide_eq_true hu0.n]
  · by_cases e : u.j = 0 <;> simp [e]
  · rw [if_neg Bool.false_ne_true]
  · rcases hu0.y with e | e
    · simp [e]
    · simp [e]

/-- derivative_fits -/
abbrev s_derivative_fits : Stmt := topS 22
abbrev N_derivative_fits : List Str := ["ranking", "thing"]
theorem sc_derivative_fits : FnScope N_derivative_fits ["ranking", "thing"] (defScope s_derivative_fits) := ⟨rfl, rfl, rfl, by decide +kernel, rfl, by decide +kernel, by decide +kernel⟩
theorem ok_derivative_fits {f : Addr} {fd : FuncData} (F : Fun K "derivative_fits" "derivative_fits" s_derivative_fits f fd) {f_is_derivative : Addr} {d_is_derivative : FuncData} (c_is_derivative : Cal P w K mg base "is_derivative" 3 ["thing"] (spP (Rdv (IsV (.bl true)))) f_is_derivative d_is_derivative) {f__stands_there : Addr} {d__stands_there : FuncData} (c__stands_there : Cal P w K mg base "_stands_there" 1 ["ranking", "derivative"] (spP (Rrd K fun _ _ => IsV (.bl true))) f__stands_there d__stands_there)   :
    FnOk P w K mg base CX0 4 f fd ["ranking", "thing"] (spP (Rrd K fun _ _ => IsV (.bl true))) := by
  refine F.ok sc_derivative_fits (spP_len (by rintro _ _ ⟨r, u, _, _, rfl, rfl⟩; rfl)) (fun cdv A outer s H vs Q E hr h => ?_)
  obtain ⟨B, ps, p, eB, hv, ⟨r, u, hr0, hu0, rfl, rfl⟩, q⟩ := h
  obtain ⟨v1, v2, rfl, h1, h2⟩ := all2 hv
  have hu := hu_of hr
  refine ⟨_, (pss_one (ps_ret (pe_and (pe_call c_is_derivative.G (hr.mono (by decide)) (by rfl) c_is_derivative.m c_is_derivative.k c_is_derivative.b .nil pass0 (pa_cons (pv 1) pa_nil)) (pe_one (pe_call c__stands_there.G (hr.mono (by decide)) (by rfl) c__stands_there.m c__stands_there.k c__stands_there.b .nil pass0 (pa_cons (pv 0) (pa_cons (pv 1) pa_nil))))))), ?_⟩
  refine My.ps_ret eB (p_ev (v := .bl true) (ev_andV (a := true) (b := true) (ev_p (p_callP (ps := [DvP u]) (q_cons (p_var rfl h2) q_nil) ⟨r, u, hr0, hu0, rfl, rfl⟩)) fun _ => ev_p (p_callP (ps := [RkP K r, DvP u]) (q_cons (p_var rfl h1) (q_cons (p_var rfl h2) q_nil)) ⟨r, u, hr0, hu0, rfl, rfl⟩))) fun v B4 H4 g hp => q v B4 H4 g hp

/-- need_derivative -/
abbrev s_need_derivative : Stmt := topS 24
abbrev N_need_derivative : List Str := ["ranking", "thing"]
theorem sc_need_derivative : FnScope N_need_derivative ["ranking", "thing"] (defScope s_need_derivative) := ⟨rfl, rfl, rfl, by decide +kernel, rfl, by decide +kernel, by decide +kernel⟩
theorem ok_need_derivative {f : Addr} {fd : FuncData} (F : Fun K "need_derivative" "need_derivative" s_need_derivative f fd) {f_derivative_fits : Addr} {d_derivative_fits : FuncData} (c_derivative_fits : Cal P w K mg base "derivative_fits" 4 ["ranking", "thing"] (spP (Rrd K fun _ _ => IsV (.bl true))) f_derivative_fits d_derivative_fits)   :
    FnOk P w K mg base CX0 5 f fd ["ranking", "thing"] (spP (Rrd K fun _ _ => IsV .non)) := by
  refine F.ok sc_need_derivative (spP_len (by rintro _ _ ⟨r, u, _, _, rfl, rfl⟩; rfl)) (fun cdv A outer s H vs Q E hr h => ?_)
  obtain ⟨B, ps, p, eB, hv, ⟨r, u, hr0, hu0, rfl, rfl⟩, q⟩ := h
  obtain ⟨v1, v2, rfl, h1, h2⟩ := all2 hv
  have hu := hu_of hr
  refine ⟨_, (pss_one (ps_if (pt_not (pt_val (pe_call c_derivative_fits.G (hr.mono (by decide)) (by rfl) c_derivative_fits.m c_derivative_fits.k c_derivative_fits.b .nil pass0 (pa_cons (pv 0) (pa_cons (pv 1) pa_nil))))) (pss_one ps_never) pss_nil)), ?_⟩
  refine ps_ifN eB (et_is (et_not (et_test (ev_p (p_callP (ps := [RkP K r, DvP u]) (q_cons (p_var rfl h1) (q_cons (p_var rfl h2) q_nil)) ⟨r, u, hr0, hu0, rfl, rfl⟩)))) rfl) fun H1 e1 => ?_
  exact q .non B H1 (Gr.wide eB e1) rfl

/-- rank_key -/
abbrev s_rank_key : Stmt := topS 25
abbrev N_rank_key : List Str := ["ranking", "derivative", "sort", "names", "axes", "name", "by_x", "by_y", "ahead", "first"]
theorem sc_rank_key : FnScope N_rank_key ["ranking", "derivative"] (defScope s_rank_key) := ⟨rfl, rfl, rfl, by decide +kernel, rfl, by decide +kernel, by decide +kernel⟩
theorem key_len (r : Rk) (u : Dv) : (r.key u).length = 3 := by
  unfold Rk.key
  cases r.tot <;> rfl
theorem ax_first (r : Rk) : atI (r.axs.map PyData.str) 0 = some (.str (r.axs.getD 0 "")) := by
  have : ∀ a : Fin 3, atI ((axsOf a).map PyData.str) 0 = some (.str ((axsOf a).getD 0 "")) := by
    intro a
    match a with
    | 0 => rfl
    | 1 => rfl
    | 2 => rfl
  exact this r.ax
theorem ax_dec (r : Rk) : decide (V.str (r.axs.getD 0 "") = V.str "x") = decide (r.ax ≠ 2) := by
  have : ∀ a : Fin 3, decide (V.str ((axsOf a).getD 0 "") = V.str "x") = decide (a ≠ 2) := by
    intro a
    match a with
    | 0 => simp [axsOf]
    | 1 => simp [axsOf]
    | 2 => simp [axsOf]; decide +kernel
  exact this r.ax
theorem ok_rank_key {f : Addr} {fd : FuncData} (F : Fun K "rank_key" "rank_key" s_rank_key f fd)    :
    FnOk P w K mg base CX0 1 f fd ["ranking", "derivative"] (spP (Rrd K fun r u => IsD K (.tuple ((r.key u).map .int)))) := by
  refine F.ok sc_rank_key (spP_len (by rintro _ _ ⟨r, u, _, _, rfl, rfl⟩; rfl)) (fun cdv A outer s H vs Q E hr h => ?_)
  obtain ⟨B, ps, p, eB, hv, ⟨r, u, hr0, hu0, rfl, rfl⟩, q⟩ := h
  obtain ⟨v1, v2, rfl, h1, h2⟩ := all2 hv
  have hu := hu_of hr
  refine ⟨_, (pss_cons (ps_asg (pv 0) (pg_tup (by rfl) (pgs_cons (pg_name (i := 2) sc_rank_key.nd rfl (by first | exact .inl rfl | exact .inr rfl)) (pgs_cons (pg_name (i := 3) sc_rank_key.nd rfl (by first | exact .inl rfl | exact .inr rfl)) (pgs_cons (pg_name (i := 4) sc_rank_key.nd rfl (by first | exact .inl rfl | exact .inr rfl)) pgs_nil)))))
    (pss_cons (ps_asg (pv 1) (pg_tup (by rfl) (pgs_cons (pg_name (i := 5) sc_rank_key.nd rfl (by first | exact .inl rfl | exact .inr rfl)) (pgs_cons (pg_name (i := 6) sc_rank_key.nd rfl (by first | exact .inl rfl | exact .inr rfl)) (pgs_cons (pg_name (i := 7) sc_rank_key.nd rfl (by first | exact .inl rfl | exact .inr rfl)) pgs_nil)))))
    (pss_cons (ps_set (i := 8) sc_rank_key.nd rfl (by first | exact .inl rfl | exact .inr rfl) (pe_un un_neg (pe_tupIndex (pv 3) (pv 5))))
    (pss_cons (ps_set (i := 9) sc_rank_key.nd rfl (by first | exact .inl rfl | exact .inr rfl) (pe_ifExp (pt_cmpR op_eq (pe_ix ix_tup (pv 4) pe_int (fun _ _ => rfl)) pe_str (nomark _)) (pv 6) (pv 7)))
    (pss_cons (ps_if (pt_cmpR op_eq (pv 2) pe_str (nomark _)) (pss_one (ps_ret (pe_tup (pa_cons (pe_op op_add (pv 6) (pv 7)) (pa_cons (pv 9) (pa_cons (pv 8) pa_nil)))))) pss_nil)
    (pss_one (ps_ret (pe_tup (pa_cons (pv 8) (pa_cons (pe_op op_add (pv 6) (pv 7)) (pa_cons (pv 9) pa_nil))))))))))), ?_⟩
  refine ps_unR (K := K) eB (p_var rfl h1) fun w2 w3 B2 H2 g2 n2 n3 => ?_
  dsimp only
  refine ps_unD (K := K) g2.c (p_var rfl ((DvP u).m g2.b h2)) fun B3 H3 g3 => ?_
  dsimp only
  have m2 := (NmP r.ns).m g3.b n2
  have m3 := dp_m g3.b n3
  refine ps_asgN (fun x => [some v1, some v2, some (.str r.srt), some w2, some w3, some (.str u.n), some (.int u.i), some (.int u.j), some x, none]) g3.c (p_ev (v := .int (r.ahead u)) (ev_un (ev_tupIx (p_var rfl m2) (ev_var rfl) hu0.n) ru_neg)) (fun x B4 H4 g4 hx => ?_) (fun _ => rfl)
  obtain rfl : x = .int (r.ahead u) := hx
  dsimp only
  refine ps_asgN (fun x => [some v1, some v2, some (.str r.srt), some w2, some w3, some (.str u.n), some (.int u.i), some (.int u.j), some (.int (r.ahead u)), some x]) g4.c (p_ev (v := .int (r.first u)) (ev_if (b := decide (r.ax ≠ 2)) (et_is (et_test (ev_op (ev_st (ed_ixT (ed_var rfl (dp_m g4.b m3)) ev_c (ax_first r))) ev_c (rv_eq rfl))) (ax_dec r)) (fun hb => ev_is (ev_var rfl) (by unfold Rk.first; rw [if_neg (of_decide_eq_true hb)])) fun hb => ev_is (ev_var rfl) (by unfold Rk.first; rw [if_pos (Decidable.not_not.mp (of_decide_eq_false hb))]))) (fun x B5 H5 g5 hx => ?_) (fun _ => rfl)
  obtain rfl : x = .int (r.first u) := hx
  dsimp only
  have gg := (g2.trans g3).trans (g4.trans g5)
  have srt : EvT (tTest (tOp rEq (tVar 2) (tC (.str "total")))) [some v1, some v2, some (.str r.srt), some w2, some w3, some (.str u.n), some (.int u.i), some (.int u.j), some (.int (r.ahead u)), some (.int (r.first u))] B5 r.tot :=
    et_is (et_test (ev_op (ev_var rfl) ev_c (rv_eq rfl))) (by unfold Rk.srt; cases r.tot <;> decide +kernel)
  cases ht : r.tot with
  | true =>
    rw [ht] at srt
    refine My.ps_ifT g5.c srt fun H6 e6 => ?_
    refine My.ps_ret (g5.c.trans e6) (ed_tup (ds := (r.key u).map .int) ?_ (by rw [List.length_map, key_len]; decide)) fun v B7 H7 g7 hp => q v B7 H7 ((gg.trans (Gr.wide g5.c e6)).trans g7) hp
    have : r.key u = [u.i + u.j, r.first u, r.ahead u] := by unfold Rk.key; rw [ht, if_pos rfl]
    rw [this]
    exact q_cons (ed_in (ev_op (ev_var rfl) (ev_var rfl) rv_I0)) (q_cons (ed_in (ev_var rfl)) (q_cons (ed_in (ev_var rfl)) q_nil))
  | false =>
    rw [ht] at srt
    refine ps_ifN g5.c srt fun H6 e6 => ?_
    dsimp only
    refine My.ps_ret (g5.c.trans e6) (ed_tup (ds := (r.key u).map .int) ?_ (by rw [List.length_map, key_len]; decide)) fun v B7 H7 g7 hp => q v B7 H7 ((gg.trans (Gr.wide g5.c e6)).trans g7) hp
    have : r.key u = [r.ahead u, u.i + u.j, r.first u] := by unfold Rk.key; rw [ht, if_neg Bool.false_ne_true]
    rw [this]
    exact q_cons (ed_in (ev_var rfl)) (q_cons (ed_in (ev_op (ev_var rfl) (ev_var rfl) rv_I0)) (q_cons (ed_in (ev_var rfl)) q_nil))

/-- compared -/
abbrev s_compared : Stmt := topS 28
abbrev N_compared : List Str := ["one", "other"]
theorem sc_compared : FnScope N_compared ["one", "other"] (defScope s_compared) := ⟨rfl, rfl, rfl, by decide +kernel, rfl, by decide +kernel, by decide +kernel⟩
theorem eqvAll_ints : ∀ a b : List Int, PyData.eqvAll (a.map .int) (b.map .int) = decide (a = b)
  | [], [] => by simp [PyData.eqvAll]
  | [], _ :: _ => by simp [PyData.eqvAll]
  | _ :: _, [] => by simp [PyData.eqvAll]
  | x :: a, y :: b => by
    rw [List.map_cons, List.map_cons, PyData.eqvAll, eqvAll_ints a b]
    by_cases h : x = y
    · subst h
      simp [PyData.eqv]
    · simp [PyData.eqv, h]
theorem eqv_ints (a b : List Int) : PyData.eqv (.tuple (a.map .int)) (.tuple (b.map .int)) = decide (a = b) := by
  rw [PyData.eqv]
  exact eqvAll_ints a b
theorem sh_ints {a : List Int} (h : a.length = 3) : SeqAt.shaped (.tuple (a.map .int)) = true := by
  match a, h with
  | [x, y, z], _ => rfl
theorem ok_compared {f : Addr} {fd : FuncData} (F : Fun K "compared" "compared" s_compared f fd)    :
    FnOk P w K mg base CX0 1 f fd ["one", "other"] (spP (Rcmp K)) := by
  refine F.ok sc_compared (spP_len (by rintro _ _ ⟨a, b, _, _, rfl, rfl⟩; rfl)) (fun cdv A outer s H vs Q E hr h => ?_)
  obtain ⟨B, ps, p, eB, hv, ⟨a, b, ha, hb, rfl, rfl⟩, q⟩ := h
  obtain ⟨v1, v2, rfl, h1, h2⟩ := all2 hv
  have hu := hu_of hr
  refine ⟨_, (pss_cons (ps_if (pt_cmpR (op_eqD hr.units) (pv 0) (pv 1) (nomark _)) (pss_one (ps_ret pe_int)) pss_nil)
    (pss_one (ps_ret (pe_ifExp (pt_cmpR (op_ltT hr.units0) (pv 0) (pv 1) (nomark _)) (pe_un un_neg pe_int) pe_int)))), ?_⟩
  have eqv : PyData.eqv (.tuple (a.map .int)) (.tuple (b.map .int)) = decide (a = b) := eqv_ints a b
  by_cases hab : a = b
  · refine My.ps_ifT eB (et_is (et_test (ev_eqD (ed_var rfl h1) (ed_var rfl h2) (sh_ints ha) (sh_ints hb))) (by rw [eqv, decide_eq_true hab])) fun H1 e1 => ?_
    exact My.ps_ret (eB.trans e1) (p_ev (v := .int (cmpL a b)) (ev_is ev_c (by unfold cmpL; rw [if_pos hab]))) fun v B4 H4 g hp => q v B4 H4 ((Gr.wide eB e1).trans g) hp
  · refine ps_ifN eB (et_is (et_test (ev_eqD (ed_var rfl h1) (ed_var rfl h2) (sh_ints ha) (sh_ints hb))) (by rw [eqv, decide_eq_false hab])) fun H1 e1 => ?_
    dsimp only
    refine My.ps_ret (eB.trans e1) (p_ev (v := .int (cmpL a b)) (ev_if (b := HT.lexLt a b) (et_test (ev_ltT (ed_var rfl h1) (ed_var rfl h2))) (fun hl => ev_is (ev_un ev_c ru_neg) (by unfold cmpL; rw [if_neg hab, if_pos hl])) fun hl => ev_is ev_c (by unfold cmpL; rw [if_neg hab, hl, if_neg Bool.false_ne_true]))) fun v B4 H4 g hp => q v B4 H4 ((Gr.wide eB e1).trans g) hp

/-- rank_compared -/
abbrev s_rank_compared : Stmt := topS 27
abbrev N_rank_compared : List Str := ["ranking", "one", "other"]
theorem sc_rank_compared : FnScope N_rank_compared ["ranking", "one", "other"] (defScope s_rank_compared) := ⟨rfl, rfl, rfl, by decide +kernel, rfl, by decide +kernel, by decide +kernel⟩
theorem ok_rank_compared {f : Addr} {fd : FuncData} (F : Fun K "rank_compared" "rank_compared" s_rank_compared f fd) {f_need_ranking : Addr} {d_need_ranking : FuncData} (c_need_ranking : Cal P w K mg base "need_ranking" 4 ["ranking"] (spP (Rrk K (IsV .non))) f_need_ranking d_need_ranking) {f_need_derivative : Addr} {d_need_derivative : FuncData} (c_need_derivative : Cal P w K mg base "need_derivative" 5 ["ranking", "thing"] (spP (Rrd K fun _ _ => IsV .non)) f_need_derivative d_need_derivative) {f_compared : Addr} {d_compared : FuncData} (c_compared : Cal P w K mg base "compared" 1 ["one", "other"] (spP (Rcmp K)) f_compared d_compared) {f_rank_key : Addr} {d_rank_key : FuncData} (c_rank_key : Cal P w K mg base "rank_key" 1 ["ranking", "derivative"] (spP (Rrd K fun r u => IsD K (.tuple ((r.key u).map .int)))) f_rank_key d_rank_key)   :
    FnOk P w K mg base CX0 6 f fd ["ranking", "one", "other"] (spP (Rrc K)) := by
  refine F.ok sc_rank_compared (spP_len (by rintro _ _ ⟨r, u, v, _, _, _, rfl, rfl⟩; rfl)) (fun cdv A outer s H vs Q E hr h => ?_)
  obtain ⟨B, ps, p, eB, hv, ⟨r, u1, u2, hr0, hu1, hu2, rfl, rfl⟩, q⟩ := h
  obtain ⟨v1, v2, v3, rfl, h1, h2, h3⟩ := all3 hv
  have hu := hu_of hr
  refine ⟨_, (pss_cons (ps_expr (pe_call c_need_ranking.G (hr.mono (by decide)) (by rfl) c_need_ranking.m c_need_ranking.k c_need_ranking.b .nil pass0 (pa_cons (pv 0) pa_nil)))
    (pss_cons (ps_expr (pe_call c_need_derivative.G (hr.mono (by decide)) (by rfl) c_need_derivative.m c_need_derivative.k c_need_derivative.b .nil pass0 (pa_cons (pv 0) (pa_cons (pv 1) pa_nil))))
    (pss_cons (ps_expr (pe_call c_need_derivative.G (hr.mono (by decide)) (by rfl) c_need_derivative.m c_need_derivative.k c_need_derivative.b .nil pass0 (pa_cons (pv 0) (pa_cons (pv 2) pa_nil))))
    (pss_one (ps_ret (pe_call c_compared.G (hr.mono (by decide)) (by rfl) c_compared.m c_compared.k c_compared.b .nil pass0 (pa_cons (pe_call c_rank_key.G (hr.mono (by decide)) (by rfl) c_rank_key.m c_rank_key.k c_rank_key.b .nil pass0 (pa_cons (pv 0) (pa_cons (pv 1) pa_nil))) (pa_cons (pe_call c_rank_key.G (hr.mono (by decide)) (by rfl) c_rank_key.m c_rank_key.k c_rank_key.b .nil pass0 (pa_cons (pv 0) (pa_cons (pv 2) pa_nil))) pa_nil)))))))), ?_⟩
  refine ps_exE eB (p_callP (ps := [RkP K r]) (q_cons (p_var rfl h1) q_nil) ⟨r, hr0, rfl, rfl⟩) fun H1 e1 => ?_
  dsimp only
  refine ps_exE (eB.trans e1) (p_callP (ps := [RkP K r, DvP u1]) (q_cons (p_var rfl h1) (q_cons (p_var rfl h2) q_nil)) ⟨r, u1, hr0, hu1, rfl, rfl⟩) fun H2 e2 => ?_
  dsimp only
  refine ps_exE ((eB.trans e1).trans e2) (p_callP (ps := [RkP K r, DvP u2]) (q_cons (p_var rfl h1) (q_cons (p_var rfl h3) q_nil)) ⟨r, u2, hr0, hu2, rfl, rfl⟩) fun H3 e3 => ?_
  dsimp only
  refine My.ps_ret (((eB.trans e1).trans e2).trans e3) (p_callP (ps := [IsD K (.tuple ((r.key u1).map .int)), IsD K (.tuple ((r.key u2).map .int))])
    (q_cons (p_callP (ps := [RkP K r, DvP u1]) (q_cons (p_var rfl h1) (q_cons (p_var rfl h2) q_nil)) ⟨r, u1, hr0, hu1, rfl, rfl⟩) (q_cons (p_callP (ps := [RkP K r, DvP u2]) (q_cons (p_var rfl h1) (q_cons (p_var rfl h3) q_nil)) ⟨r, u2, hr0, hu2, rfl, rfl⟩) q_nil))
    ⟨r.key u1, r.key u2, key_len r u1, key_len r u2, rfl, rfl⟩) fun v B4 H4 g hp => q v B4 H4 ((Gr.wide eB ((e1.trans e2).trans e3)).trans g) hp

end
end K12
namespace K12
set_option autoImplicit false
open PySem PySem.W L2 Evl My LamX NdefX
/-- a def that makes a lambda: its code object is known -/
structure FunC (K : PySem.W.Frag) (x qual : Str) (st : Stmt) (c f : Addr) (fd : FuncData) : Prop where
  ex : ∃ (oc : Value) (od : Option Addr) (kV doc pm : Value) (an : Option Addr) (ct : Value) (osl : Array (Option Value)),
    fd = PySem.W.fnOf x qual (defArgs st) (defBody st) (defScope st) .none kV doc pm an (.ref c) ct ∧ K.lookup f = some ⟨oc, od, .func fd, osl⟩ ∧ PySem.W.codeIn K (.ref c) qual = true
theorem FunC.ok {P : Program} {w : World} {K : PySem.W.Frag} {mg : Str → Option Value} {base : Heap} {x qual : Str} {st : Stmt} {c f : Addr} {fd : FuncData} {N ps : List Str} {k : Nat} {sp : Sp} (F : FunC K x qual st c f fd) (S : FnScope N ps (defScope st)) (len : ∀ vs H Q E, sp vs H Q E → vs.length = ps.length)
    (hbody : ∀ (A : Around) (outer : List Env) (s : Shared) (H : Hp) (vs : List V) (Q : VK) (E : XK), Room k (A.deeper (PyProof.Rows.envOfC qual (defScope st) s.heap.objs.size f (.ref c))) → sp vs H Q E →
      ∃ t, PSs (cxOf CX0 P w K mg base N qual (defScope st) f (.ref c) A outer s H E).nox (defBody st) t ∧ t { nx := fun _ H' => Q .non H', rt := Q } (L2.start N vs) H) : FnOk P w K mg base CX0 (k + 1) f fd ps sp := by
  obtain ⟨oc, od, kV, doc, pm, an, ct, osl, e, lk, hcd⟩ := F.ex
  subst e
  exact fn_of lk hcd S len fun A outer s H vs Q E hr hsp => by
    obtain ⟨t, h1, h2⟩ := hbody A outer s H vs Q E hr hsp
    exact ⟨t, h1.nox, h2⟩
abbrev TN (p : Addr) : List (Addr × Str) := [(p, "rising.<locals>.<lambda>")]
/-- what is known in B of a heap H with tables T -/
structure Kn (T : List (Addr × Str)) (B H : Hp) : Prop where
  e : Ex B H
  n : NoTab B
  t : Tabs T H
theorem Kn.next {T : List (Addr × Str)} {B H H2 : Hp} (k : Kn T B H) (e : ExtN H H2) (t : Tabs T H2) : Kn T B H2 := ⟨exN_ex k.e k.n e, k.n, t⟩
theorem Kn.gr {T : List (Addr × Str)} {B H B2 H2 : Hp} (k : Kn T B H) (g : Gr B H B2 H2) : Kn T B2 H2 := ⟨g.c, g.e k.n, k.t.ext g.a⟩
/-- a list of derivatives, or a dict by them -/
def SrcD (K : PySem.W.Frag) (us : List Dv) (v : V) (H : Hp) : Prop := (∃ l xs, v = .ref l ∧ SqL K H l xs ∧ AllP (us.map DvP) xs H) ∨ ∃ d, v = .ref d ∧ H d = some (.dT (asK us))
def SortedP (r : Rk) (us : List Dv) : Pr := LsP ((r.sort us).map DvP)
/-- a new object, tables of code aside -/
def FrT (v : V) (H : Hp) : Prop := ∀ p, v = .ref p → ∀ o, H p = some o → ∃ ps, o = HO.tbl ps
theorem FrT.ex {v : V} {H H' : Hp} (h : FrT v H') (e : Ex H H') : FrT v H := fun p z o k => h p z o (e _ _ k)
def spRis (K : PySem.W.Frag) (T : List (Addr × Str)) : Sp := fun vs H Q _ => ∃ B r us vr vd, vs = [vr, vd] ∧ Rk.Ok r ∧ (∀ u ∈ us, Dv.Of u r) ∧ Kn T B H ∧ (RkP K r).P vr B ∧ SrcD K us vd B ∧
  ∀ v H', ExtN H H' → Tabs T H' → (SortedP r us).P v H' → FrT v H → Q v H'
def spInr (K : PySem.W.Frag) (T : List (Addr × Str)) : Sp := fun vs H Q _ => ∃ B r us vr vd, vs = [vr, vd] ∧ Rk.Ok r ∧ (∀ u ∈ us, Dv.Of u r) ∧ us.length ≤ 1000 ∧ Kn T B H ∧ (RkP K r).P vr B ∧ (LqP K (us.map DvP)).P vd B ∧
  ∀ v H', ExtN H H' → Tabs T H' → (SortedP r (dedD us)).P v H' → FrT v H → Q v H'
def spInrT (K : PySem.W.Frag) (T : List (Addr × Str)) : Sp := fun vs H Q _ => ∃ B r us vr vd, vs = [vr, vd] ∧ Rk.Ok r ∧ (∀ u ∈ us, Dv.Of u r) ∧ us.length ≤ 1000 ∧ Kn T B H ∧ (RkP K r).P vr B ∧ (TuP K (us.map DvP)).P vd B ∧
  ∀ v H', ExtN H H' → Tabs T H' → (SortedP r (dedD us)).P v H' → FrT v H → Q v H'
theorem src_tq {te : TE} {σ : L2.St} {B : Hp} {ps : List Pr} {K : PySem.W.Frag} (h : EvP te σ B (TuP K ps)) : Src (iTup K te) σ B ps.length (fun i => ps.getD i (IsV .non)) := fun H1 a R k => h H1 a _ fun v B2 H2 g b => by
  obtain ⟨l, xs, rfl, hx, al⟩ := b
  refine ⟨l, rfl, ⟨xs, ex_t g.c hx⟩, k _ B2 H2 _ _ g (by rw [← al.len]; exact walk_tup) (fun H e => ex_t e hx) fun i H v H' _ e (z : H' = H ∧ _) => ⟨z.1, ?_⟩⟩
  obtain ⟨p, hp, k2⟩ := al.get z.2
  show (ps.getD i (IsV .non)).P v B2
  rw [List.getD_eq_getElem?_getD, hp]
  exact k2
theorem k_tl : kitB "tuple" "list" = some false := by decide +kernel
theorem k_tt2 : kitB "tuple" "tuple" = some true := by decide +kernel
theorem ev_isiTT {K : PySem.W.Frag} {te : TE} {σ : L2.St} {B : Hp} {ps : List Pr} (h : EvP te σ B (TuP K ps)) :
    Ev (tCB (rIsiT K) (tCons te (tCons (tTup (tCons (tC (.ty "list")) (tCons (tC (.ty "tuple")) tNil))) tNil))) σ B (.bl true) := fun H1 a Q k =>
  h H1 a _ fun v B2 H2 g x => ⟨sz_of (by show 2 ≤ 100000; decide), fun r hr => ⟨v, r, _, .type "tuple", _, true, rfl, upd_same, .cons (.ty "list") (.cons (.ty "tuple") .nil), by
    obtain ⟨l, xs, rfl, hl, _⟩ := x
    rcases ex_t (g.c.trans (Ex.new hr)) hl with (a | ⟨o, a⟩) | ⟨o, its, n, hk, hc, _⟩
    · exact .base (.tup a)
    · exact .fTuple a
    · exact .kTuple hk hc, kitAny_cons (b := false) (kit_ty k_tl) (fun _ => kitAny_cons (b := true) (kit_ty k_tt2) (fun z => nomatch z) (fun _ => rfl)) (fun z => nomatch z), k _ (g.a.trans (Ex.new hr))⟩⟩
def spAll (K : PySem.W.Frag) (T : List (Addr × Str)) : Sp := fun vs H Q _ => ∃ B r vr, ∃ o : Nat, vs = [vr, .int (o : Int)] ∧ o ≤ 12 ∧ Rk.Ok r ∧ Kn T B H ∧ (RkP K r).P vr B ∧
  ∀ v H', ExtN H H' → Tabs T H' → (SortedP r (r.all o)).P v H' → Q v H'
theorem keyD_alike (r : Rk) (us : List Dv) : AllAlike (us.map r.keyD) := AllAlike.of fun u v => by
  unfold Rk.keyD
  simp [alike, alike_ints]
theorem keyD_sortable (r : Rk) (us : List Dv) : Sortable (us.map r.keyD) := Sortable.tuples fun u => by
  obtain ⟨a, b, c, e⟩ := r.key3 u
  exact ⟨.int a, [.int b, .int c], by unfold Rk.keyD; rw [e]; rfl⟩
theorem keyD_depth (r : Rk) (us : List Dv) : ∀ d, d ∈ us.map r.keyD → d.depth ≤ 50 := fun d hd => by
  obtain ⟨u, _, rfl⟩ := List.mem_map.mp hd
  unfold Rk.keyD
  simp [PyData.depth, depth_ints]
theorem exN_tr {H H1 H2 : Hp} (a : ExtN H H1) (b : Ex H1 H2) : ExtN H H2 := a.trans (exN_of b)
section
variable {P : Program} {w : World} {K : PySem.W.Frag} {mg : Str → Option Value} {base : Heap}

/-- rising -/
abbrev s_rising : Stmt := topS 26
abbrev N_rising : List Str := ["ranking", "derivatives"]
theorem sc_rising : FnScope N_rising ["ranking", "derivatives"] (defScope s_rising) := ⟨rfl, rfl, rfl, by decide +kernel, rfl, by decide +kernel, by decide +kernel⟩

theorem ok_rising {f c tb : Addr} {fd : FuncData} (F : FunC K "rising" "rising" s_rising c f fd) {f_rank_key : Addr} {d_rank_key : FuncData} (c_rank_key : Cal P w K mg base "rank_key" 1 ["ranking", "derivative"] (spP (Rrd K fun r u => IsD K (.tuple ((r.key u).map .int)))) f_rank_key d_rank_key) (n_sorted : mg "sorted" = none) (TB : TabB base mg c tb) : FnOk P w K mg base CX0 5 f fd ["ranking", "derivatives"] (spRis K (TN tb)) := by
  refine F.ok sc_rising (fun vs H Q E h => ?_) (fun A outer s H vs Q E hr h => ?_)
  · obtain ⟨B, r, us, vr, vd, rfl, _⟩ := h
    rfl
  obtain ⟨B, r, us, vr, vd, rfl, hok, hof, kn, hR, hS, q⟩ := h
  refine ⟨_, pss_one (ps_ret (pe_sortK (T := TN tb) (N := ["derivative", "ranking"]) (fr := ["ranking"]) (x0 := "derivative") (js := [0]) (k := 1) (by rfl) n_sorted (pv 1) TB rfl (List.mem_singleton.mpr rfl) (fun p hp _ => by rw [List.mem_singleton.mp hp]; rfl)
    (nscope_by (by decide +kernel)) (ndef_free (sc := defScope s_rising) (fr := ["ranking"]) (by decide +kernel)) (ndef_fr (sc := defScope s_rising) (by decide +kernel)) rfl rfl hr (fun _ _ _ _ _ _ => rfl)
    (fun A' outer' s0 H0 F' f' hF hr' => by
      obtain ⟨nm, ql, pr, bd, sc, cl, c'⟩ := F'
      have hF : sc = _ := hF
      subst hF
      exact pe_call c_rank_key.G hr' (by rfl) c_rank_key.m c_rank_key.k c_rank_key.b .nil pass0 (pa_cons (pv 1) (pa_cons (pv 0) pa_nil))))), ?_⟩
  refine ⟨vd, rfl, kn.t, fun H2 eN T2 => ?_⟩
  have k2 := kn.next eN T2
  have hR2 := (RkP K r).m k2.e hR
  have fin : ∀ xs, AllP (us.map DvP) xs H2 → ∃ ks, ks.length = xs.length ∧ AllAlike ks ∧ Sortable ks ∧ (∀ d, d ∈ ks → d.depth ≤ 50) ∧ (∀ (i : Nat) (x : V) (k : PyData), xs[i]? = some x → ks[i]? = some k → EvP (tCall (spP (Rrd K fun r u => IsD K (.tuple ((r.key u).map .int)))) [] E0 (tCons (tVar 1) (tCons (tVar 0) tNil))) (startF ["derivative", "ranking"] [x] ([0].map (slotAt (L2.start N_rising [vr, vd])))) H2 (IsD K k)) ∧
      ∀ H3 a, Ex H2 H3 → H3 a = none → Q (.ref a) (upd H3 a (.lst (byKey xs ks))) := fun xs hx => by
    refine ⟨us.map r.keyD, by rw [List.length_map, hx.len, List.length_map], keyD_alike r us, keyD_sortable r us, keyD_depth r us, fun i x k e1 e2 => ?_, fun H3 a e3 na => ?_⟩
    · obtain ⟨u, hu, px⟩ := hx.ixD DvP e1
      rw [List.getElem?_map, hu] at e2
      obtain rfl : r.keyD u = k := Option.some.inj e2
      exact p_callP (ps := [RkP K r, DvP u]) (q_cons (p_var rfl hR2) (q_cons (p_var rfl px) q_nil)) ⟨r, u, hok, hof u (List.mem_of_getElem? hu), rfl, rfl⟩
    · exact q _ _ (exN_tr (exN_tr eN e3) (Ex.new na)) ((T2.ext e3).ext (Ex.new na)) ⟨a, _, rfl, upd_same, (byKey_all r (hx.m e3)).m (Ex.new na)⟩ fun p z o k => by
        obtain rfl : a = p := by injection z
        cases o with
        | tbl ps => exact ⟨ps, rfl⟩
        | _ =>
          have := e3 _ _ (eN _ _ k (fun _ z => nomatch z))
          rw [na] at this
          cases this
  rcases hS with ⟨l, xs, rfl, hl, hx⟩ | ⟨d, rfl, hd⟩
  · exact .inl ⟨l, xs, rfl, ex_l k2.e hl, fin xs (hx.m k2.e)⟩
  · refine .inr ⟨d, asK us, rfl, .inl (k2.e _ _ hd), fun as hl has => fin _ (AllP.ix (by rw [List.length_map, List.length_map, hl]; unfold asK; rw [List.length_map]) fun i p v hp hv => ?_)⟩
    rw [List.getElem?_map] at hp hv
    cases hu : us[i]? with
    | none =>
      rw [hu] at hp
      cases hp
    | some u =>
      rw [hu] at hp
      obtain rfl : DvP u = p := Option.some.inj hp
      obtain ⟨a, ha, h3⟩ := has i (dvK u, .bl true) (by unfold asK; rw [List.getElem?_map, hu]; rfl)
      rw [ha] at hv
      obtain rfl : V.ref a = v := Option.some.inj hv
      exact ⟨a, rfl, h3⟩

/-- in_rank -/
abbrev s_in_rank : Stmt := topS 29
abbrev N_in_rank : List Str := ["ranking", "some", "found", "derivative"]
theorem sc_in_rank : FnScope N_in_rank ["ranking", "some"] (defScope s_in_rank) := ⟨rfl, rfl, rfl, by decide +kernel, rfl, by decide +kernel, by decide +kernel⟩
theorem ok_in_rank {tb : Addr} {f : Addr} {fd : FuncData} (F : Fun K "in_rank" "in_rank" s_in_rank f fd) {f_need_ranking : Addr} {d_need_ranking : FuncData} (c_need_ranking : Cal P w K mg base "need_ranking" 4 ["ranking"] (spP (Rrk K (IsV .non))) f_need_ranking d_need_ranking) {f_need_derivative : Addr} {d_need_derivative : FuncData} (c_need_derivative : Cal P w K mg base "need_derivative" 5 ["ranking", "thing"] (spP (Rrd K fun _ _ => IsV .non)) f_need_derivative d_need_derivative) {f_rising : Addr} {d_rising : FuncData} (c_rising : Cal P w K mg base "rising" 5 ["ranking", "derivatives"] (spRis K (TN tb)) f_rising d_rising) (n_isinstance : mg "isinstance" = none) (n_list : mg "list" = none) (n_tuple : mg "tuple" = none)  :
    FnOk P w K mg base CX0 6 f fd ["ranking", "some"] (spInr K (TN tb)) := by
  refine F.ok sc_in_rank (fun vs H Q E h => by obtain ⟨B, r, us, vr, vd, rfl, _⟩ := h; rfl) (fun cdv A outer s H vs Q E hr h => ?_)
  obtain ⟨B, r, us, vr, vd, rfl, hok, hof, hlen, kn, hR, hL, q⟩ := h
  have hu := hu_of hr
  refine ⟨_, (pss_cons (ps_expr (pe_call c_need_ranking.G (hr.mono (by decide)) (by rfl) c_need_ranking.m c_need_ranking.k c_need_ranking.b .nil pass0 (pa_cons (pv 0) pa_nil)))
    (pss_cons (ps_if (pt_not (pt_val (pe_callB call_isiT (by rfl) n_isinstance (by decide +kernel) (pa_cons (pv 1) (pa_cons (pe_tup (pa_cons (pe_bltn (v := .ty "list") (by rfl) n_list (by decide +kernel) rfl) (pa_cons (pe_bltn (v := .ty "tuple") (by rfl) n_tuple (by decide +kernel) rfl) pa_nil))) pa_nil))))) (pss_one ps_never) pss_nil)
    (pss_cons (ps_set (i := 2) sc_in_rank.nd rfl (by first | exact .inl rfl | exact .inr rfl) pe_dnewT)
    (pss_cons (ps_for PassesOwn.never rfl (pi_list (pv 1)) (pg_name (i := 3) sc_in_rank.nd rfl (by first | exact .inl rfl | exact .inr rfl))
      (pss_cons (ps_expr (pe_call c_need_derivative.G (hr.mono (by decide)) (by rfl) c_need_derivative.m c_need_derivative.k c_need_derivative.b .nil pass0 (pa_cons (pv 0) (pa_cons (pv 3) pa_nil))))
    (pss_one (ps_dput hu (pv 2) (pv 3) pe_bl rfl))))
    (pss_one (ps_ret (pe_call c_rising.G (hr.mono (by decide)) (by rfl) c_rising.m c_rising.k c_rising.b .nil pass0 (pa_cons (pv 0) (pa_cons (pv 2) pa_nil))))))))), ?_⟩
  have tyL : TyX K B vd (.type "list") := by
    obtain ⟨l, xs, rfl, hl, _⟩ := hL
    rcases hl with (a | ⟨o, a⟩) | ⟨o, its, n, hk, hc, _⟩
    · exact .base (.lst a)
    · exact .base (.frz a)
    · exact .kList hk hc
  refine ps_exE kn.e (p_callP (ps := [RkP K r]) (q_cons (p_var rfl hR) q_nil) ⟨r, hok, rfl, rfl⟩) fun H1 e1 => ?_
  dsimp only
  refine ps_ifN (kn.e.trans e1) (et_is (et_not (et_test (ev_isiLL (p_var rfl hL)))) rfl) fun H2 e2 => ?_
  dsimp only
  intro d hd
  have kB : Kn (TN tb) B H2 := ⟨(kn.e.trans e1).trans e2, kn.n, (kn.t.ext e1).ext e2⟩
  have hBd : B d = none := fresh_back kB.e hd
  dsimp only
  have hL' := (LqP K (us.map DvP)).m (Ex.refl B) hL
  refine ps_forS (B := B) (Ex.mut kB.e hBd) (src_lq (p_var rfl hL')) fun B1 H3 g3 => ?_
  have hB1d : B1 d = none := g3.d d hBd (by rw [upd_same]; exact fun z => nomatch z)
  have h3d : H3 d = some (.dT []) := g3.a _ _ upd_same
  refine ⟨fun i σ H4 => Ex H2 H4 ∧ Ex B1 H4 ∧ H4 d = some (.dT (asK ((us.take i).foldl addD []))) ∧ ∃ x, σ = [some vr, some vd, some (.ref d), x], ⟨(Ex.new hd).trans g3.a, g3.c, h3d, none, rfl⟩, fun i σ H4 _ h => h.2.1, fun i v σ H4 hi pv px => ?_, fun σ H4 pv => ?_⟩
  · obtain ⟨x2, x1, h4, x, rfl⟩ := pv
    rw [List.length_map] at hi
    have hu : (us.map DvP).getD i (IsV .non) = DvP us[i] := by
      rw [List.getD_eq_getElem?_getD, List.getElem?_map, List.getElem?_eq_getElem hi]
      rfl
    rw [hu] at px
    have ou := hof us[i] (List.getElem_mem hi)
    refine ps_exE x1 (p_callP (ps := [RkP K r, DvP us[i]]) (q_cons (p_var rfl ((RkP K r).m g3.b hR)) (q_cons (p_var rfl px) q_nil)) ⟨r, us[i], hok, ou, rfl, rfl⟩) fun H5 e5 => ?_
    obtain ⟨a, rfl, ha⟩ := px
    have h5 := e5 _ _ h4
    have hal : (asK ((us.take i).foldl addD [])).length ≤ 1000 := by
      unfold asK
      rw [List.length_map]
      have := ded_len (us.take i)
      unfold dedD at this
      rw [List.length_take] at this
      omega
    refine ⟨_, rfl, _, rfl, d, _, rfl, DPut.t (k := dvK us[i]) h5 (e5 _ _ (x1 _ _ ha)) (sz_lt (by omega)), ?_⟩
    refine ⟨Ex.mut (x2.trans e5) hd, Ex.mut (x1.trans e5) hB1d, ?_, _, rfl⟩
    rw [upd_same, put_add]
    have : us.take (i + 1) = us.take i ++ [us[i]] := by
      rw [List.take_add_one, List.getElem?_eq_getElem hi]
      rfl
    rw [this, List.foldl_append]
    rfl
  · obtain ⟨x2, x1, h4, x, rfl⟩ := pv
    rw [List.length_map, List.take_length] at h4
    have k4 : Kn (TN tb) (upd B1 d (.dT (asK (dedD us)))) H4 := ⟨fun b o e => by
      by_cases n : b = d
      · subst n
        rw [upd_same] at e
        rw [h4]
        exact e
      · rw [upd_ne n] at e
        exact x1 b o e, nt_upd (g3.e kn.n) (fun ps z => nomatch z), kB.t.ext x2⟩
    refine ⟨vr, rfl, .ref d, rfl, upd B1 d (.dT (asK (dedD us))), r, dedD us, vr, .ref d, rfl, hok, fun u hu => hof u (ded_mem.mp hu), k4, (RkP K r).m (g3.b.trans (Ex.new hB1d)) hR, .inr ⟨d, rfl, upd_same⟩, fun v H5 eN T5 hs fr => ?_⟩
    exact q v H5 (((exN_of e1).trans (exN_of (e2.trans x2))).trans eN) T5 hs (fr.ex (e1.trans (e2.trans x2)))

theorem ok_in_rankT {tb : Addr} {f : Addr} {fd : FuncData} (F : Fun K "in_rank" "in_rank" s_in_rank f fd) {f_need_ranking : Addr} {d_need_ranking : FuncData} (c_need_ranking : Cal P w K mg base "need_ranking" 4 ["ranking"] (spP (Rrk K (IsV .non))) f_need_ranking d_need_ranking) {f_need_derivative : Addr} {d_need_derivative : FuncData} (c_need_derivative : Cal P w K mg base "need_derivative" 5 ["ranking", "thing"] (spP (Rrd K fun _ _ => IsV .non)) f_need_derivative d_need_derivative) {f_rising : Addr} {d_rising : FuncData} (c_rising : Cal P w K mg base "rising" 5 ["ranking", "derivatives"] (spRis K (TN tb)) f_rising d_rising) (n_isinstance : mg "isinstance" = none) (n_list : mg "list" = none) (n_tuple : mg "tuple" = none)  :
    FnOk P w K mg base CX0 6 f fd ["ranking", "some"] (spInrT K (TN tb)) := by
  refine F.ok sc_in_rank (fun vs H Q E h => by obtain ⟨B, r, us, vr, vd, rfl, _⟩ := h; rfl) (fun cdv A outer s H vs Q E hr h => ?_)
  obtain ⟨B, r, us, vr, vd, rfl, hok, hof, hlen, kn, hR, hL, q⟩ := h
  have hu := hu_of hr
  refine ⟨_, (pss_cons (ps_expr (pe_call c_need_ranking.G (hr.mono (by decide)) (by rfl) c_need_ranking.m c_need_ranking.k c_need_ranking.b .nil pass0 (pa_cons (pv 0) pa_nil)))
    (pss_cons (ps_if (pt_not (pt_val (pe_callB call_isiT (by rfl) n_isinstance (by decide +kernel) (pa_cons (pv 1) (pa_cons (pe_tup (pa_cons (pe_bltn (v := .ty "list") (by rfl) n_list (by decide +kernel) rfl) (pa_cons (pe_bltn (v := .ty "tuple") (by rfl) n_tuple (by decide +kernel) rfl) pa_nil))) pa_nil))))) (pss_one ps_never) pss_nil)
    (pss_cons (ps_set (i := 2) sc_in_rank.nd rfl (by first | exact .inl rfl | exact .inr rfl) pe_dnewT)
    (pss_cons (ps_for PassesOwn.never rfl (pi_tup (pv 1)) (pg_name (i := 3) sc_in_rank.nd rfl (by first | exact .inl rfl | exact .inr rfl))
      (pss_cons (ps_expr (pe_call c_need_derivative.G (hr.mono (by decide)) (by rfl) c_need_derivative.m c_need_derivative.k c_need_derivative.b .nil pass0 (pa_cons (pv 0) (pa_cons (pv 3) pa_nil))))
    (pss_one (ps_dput hu (pv 2) (pv 3) pe_bl rfl))))
    (pss_one (ps_ret (pe_call c_rising.G (hr.mono (by decide)) (by rfl) c_rising.m c_rising.k c_rising.b .nil pass0 (pa_cons (pv 0) (pa_cons (pv 2) pa_nil))))))))), ?_⟩
  refine ps_exE kn.e (p_callP (ps := [RkP K r]) (q_cons (p_var rfl hR) q_nil) ⟨r, hok, rfl, rfl⟩) fun H1 e1 => ?_
  dsimp only
  refine ps_ifN (kn.e.trans e1) (et_is (et_not (et_test (ev_isiTT (p_var rfl hL)))) rfl) fun H2 e2 => ?_
  dsimp only
  intro d hd
  have kB : Kn (TN tb) B H2 := ⟨(kn.e.trans e1).trans e2, kn.n, (kn.t.ext e1).ext e2⟩
  have hBd : B d = none := fresh_back kB.e hd
  dsimp only
  have hL' := (TuP K (us.map DvP)).m (Ex.refl B) hL
  refine ps_forS (B := B) (Ex.mut kB.e hBd) (src_tq (p_var rfl hL')) fun B1 H3 g3 => ?_
  have hB1d : B1 d = none := g3.d d hBd (by rw [upd_same]; exact fun z => nomatch z)
  have h3d : H3 d = some (.dT []) := g3.a _ _ upd_same
  refine ⟨fun i σ H4 => Ex H2 H4 ∧ Ex B1 H4 ∧ H4 d = some (.dT (asK ((us.take i).foldl addD []))) ∧ ∃ x, σ = [some vr, some vd, some (.ref d), x], ⟨(Ex.new hd).trans g3.a, g3.c, h3d, none, rfl⟩, fun i σ H4 _ h => h.2.1, fun i v σ H4 hi pv px => ?_, fun σ H4 pv => ?_⟩
  · obtain ⟨x2, x1, h4, x, rfl⟩ := pv
    rw [List.length_map] at hi
    have hu : (us.map DvP).getD i (IsV .non) = DvP us[i] := by
      rw [List.getD_eq_getElem?_getD, List.getElem?_map, List.getElem?_eq_getElem hi]
      rfl
    rw [hu] at px
    have ou := hof us[i] (List.getElem_mem hi)
    refine ps_exE x1 (p_callP (ps := [RkP K r, DvP us[i]]) (q_cons (p_var rfl ((RkP K r).m g3.b hR)) (q_cons (p_var rfl px) q_nil)) ⟨r, us[i], hok, ou, rfl, rfl⟩) fun H5 e5 => ?_
    obtain ⟨a, rfl, ha⟩ := px
    have h5 := e5 _ _ h4
    have hal : (asK ((us.take i).foldl addD [])).length ≤ 1000 := by
      unfold asK
      rw [List.length_map]
      have := ded_len (us.take i)
      unfold dedD at this
      rw [List.length_take] at this
      omega
    refine ⟨_, rfl, _, rfl, d, _, rfl, DPut.t (k := dvK us[i]) h5 (e5 _ _ (x1 _ _ ha)) (sz_lt (by omega)), ?_⟩
    refine ⟨Ex.mut (x2.trans e5) hd, Ex.mut (x1.trans e5) hB1d, ?_, _, rfl⟩
    rw [upd_same, put_add]
    have : us.take (i + 1) = us.take i ++ [us[i]] := by
      rw [List.take_add_one, List.getElem?_eq_getElem hi]
      rfl
    rw [this, List.foldl_append]
    rfl
  · obtain ⟨x2, x1, h4, x, rfl⟩ := pv
    rw [List.length_map, List.take_length] at h4
    have k4 : Kn (TN tb) (upd B1 d (.dT (asK (dedD us)))) H4 := ⟨fun b o e => by
      by_cases n : b = d
      · subst n
        rw [upd_same] at e
        rw [h4]
        exact e
      · rw [upd_ne n] at e
        exact x1 b o e, nt_upd (g3.e kn.n) (fun ps z => nomatch z), kB.t.ext x2⟩
    refine ⟨vr, rfl, .ref d, rfl, upd B1 d (.dT (asK (dedD us))), r, dedD us, vr, .ref d, rfl, hok, fun u hu => hof u (ded_mem.mp hu), k4, (RkP K r).m (g3.b.trans (Ex.new hB1d)) hR, .inr ⟨d, rfl, upd_same⟩, fun v H5 eN T5 hs fr => ?_⟩
    exact q v H5 (((exN_of e1).trans (exN_of (e2.trans x2))).trans eN) T5 hs (fr.ex (e1.trans (e2.trans x2)))

/-- all_to -/
abbrev s_all_to : Stmt := topS 30
abbrev N_all_to : List Str := ["ranking", "order", "_", "names", "axes", "found", "name", "by_x", "most_by_y", "by_y"]
theorem sc_all_to : FnScope N_all_to ["ranking", "order"] (defScope s_all_to) := ⟨rfl, rfl, rfl, by decide +kernel, rfl, by decide +kernel, by decide +kernel⟩
theorem ok_all_to {tb : Addr} {f : Addr} {fd : FuncData} (F : Fun K "all_to" "all_to" s_all_to f fd) {f_need_ranking : Addr} {d_need_ranking : FuncData} (c_need_ranking : Cal P w K mg base "need_ranking" 4 ["ranking"] (spP (Rrk K (IsV .non))) f_need_ranking d_need_ranking) {f_is_among : Addr} {d_is_among : FuncData} (c_is_among : Cal P w K mg base "is_among" 3 ["thing", "least", "most"] (spP Ramong) f_is_among d_is_among) {f_rising : Addr} {d_rising : FuncData} (c_rising : Cal P w K mg base "rising" 5 ["ranking", "derivatives"] (spRis K (TN tb)) f_rising d_rising) (n_range : mg "range" = none) {tk1 : Nat} (g_MOST_ORDER : mg "MOST_ORDER" = some (.int 12 tk1)) :
    FnOk P w K mg base CX0 6 f fd ["ranking", "order"] (spAll K (TN tb)) := by
  refine F.ok sc_all_to (fun vs H Q E h => by obtain ⟨B, r, vr, o, rfl, _⟩ := h; rfl) (fun cdv A outer s H vs Q E hr h => ?_)
  obtain ⟨B, r, vr, o, rfl, ho, hok, kn, hR, q⟩ := h
  have hu := hu_of hr
  refine ⟨_, (pss_cons (ps_expr (pe_call c_need_ranking.G (hr.mono (by decide)) (by rfl) c_need_ranking.m c_need_ranking.k c_need_ranking.b .nil pass0 (pa_cons (pv 0) pa_nil)))
    (pss_cons (ps_if (pt_not (pt_val (pe_call c_is_among.G (hr.mono (by decide)) (by rfl) c_is_among.m c_is_among.k c_is_among.b .nil pass0 (pa_cons (pv 1) (pa_cons pe_int (pa_cons (pe_glob (by rfl) (v := .int 12) g_MOST_ORDER ⟨_, rfl⟩) pa_nil)))))) (pss_one ps_never) pss_nil)
    (pss_cons (ps_asg (pv 0) (pg_tup (by rfl) (pgs_cons (pg_name (i := 2) sc_all_to.nd rfl (by first | exact .inl rfl | exact .inr rfl)) (pgs_cons (pg_name (i := 3) sc_all_to.nd rfl (by first | exact .inl rfl | exact .inr rfl)) (pgs_cons (pg_name (i := 4) sc_all_to.nd rfl (by first | exact .inl rfl | exact .inr rfl)) pgs_nil)))))
    (pss_cons (ps_set (i := 5) sc_all_to.nd rfl (by first | exact .inl rfl | exact .inr rfl) (pe_lst pa_nil))
    (pss_cons (ps_for PassesOwn.never rfl (pi_tup (pv 3)) (pg_name (i := 6) sc_all_to.nd rfl (by first | exact .inl rfl | exact .inr rfl))
      (pss_one (ps_for PassesOwn.never rfl (pi_range1 (by rfl) n_range (pa_cons (pe_op op_add (pv 1) pe_int) pa_nil)) (pg_name (i := 7) sc_all_to.nd rfl (by first | exact .inl rfl | exact .inr rfl))
      (pss_cons (ps_set (i := 8) sc_all_to.nd rfl (by first | exact .inl rfl | exact .inr rfl) (pe_ifExp (pt_cmpR op_in_seq pe_str (pv 4) (by rfl)) (pe_op op_sub (pv 1) (pv 7)) pe_int))
    (pss_one (ps_expr (pe_bm PySem.F.plainAttrs_list PySem.F.slot_list_extend PySem.F.type_list_extend mt_extend (pv 5) (pa_cons (pe_lc (own := [("by_y", 9)]) rfl sc_all_to.nd (pi_range1 (by rfl) n_range (pa_cons (pe_op op_add (pv 8) pe_int) pa_nil)) (blkOk_by (N := N_all_to) (sc := defScope s_all_to) (by decide +kernel)) (fun _ _ _ _ _ => (pg_name (i := 9) sc_all_to.nd rfl (Or.inl rfl))) (fun _ _ _ _ _ => pts_nil) (fun _ _ _ _ _ => (pe_tup (pa_cons (pv 6) (pa_cons (pv 7) (pa_cons (pv 9) pa_nil)))))) pa_nil))))))))
    (pss_one (ps_ret (pe_call c_rising.G (hr.mono (by decide)) (by rfl) c_rising.m c_rising.k c_rising.b .nil pass0 (pa_cons (pv 0) (pa_cons (pv 5) pa_nil)))))))))), ?_⟩
  refine ps_exE kn.e (p_callP (ps := [RkP K r]) (q_cons (p_var rfl hR) q_nil) ⟨r, hok, rfl, rfl⟩) fun H1 e1 => ?_
  dsimp only
  refine ps_ifN (kn.e.trans e1) (et_is (et_not (et_test (ev_p (p_callP (ps := [IsV (.int o), IsV (.int 0), IsV (.int 12)]) (q_cons (p_varV rfl) (q_cons p_c (q_cons p_c q_nil))) ⟨o, 0, 12, rfl, rfl⟩)))) (by simp; omega)) fun H2 e2 => ?_
  dsimp only
  have kB : Kn (TN tb) B H2 := ⟨(kn.e.trans e1).trans e2, kn.n, (kn.t.ext e1).ext e2⟩
  refine ps_unR (K := K) kB.e (p_var rfl hR) fun vn va B3 H3 g3 n2 n3 => ?_
  have k3 := kB.gr g3
  dsimp only
  refine ⟨by decide, fun l hl => ?_⟩
  have hBl : B3 l = none := fresh_back k3.e hl
  dsimp only
  have hl3 : l ∉ ([] : List Addr) := by simp
  have exl : ∀ {C H' : Hp} {o' : HO}, Ex C H' → C l = none → Ex C (upd H' l o') := fun a b => Ex.mut a b
  have h3l : H3 l = none := hl
  refine ps_forS (B := B3) (exl k3.e hBl) (src_tup (ed_nm (p_var rfl n2))) fun B4 H4 g4 => ?_
  have hB4l : B4 l = none := g4.d l hBl (by rw [upd_same]; exact fun z => nomatch z)
  have h4l : H4 l = some (.lst []) := g4.a _ _ upd_same
  have n4 := (NmP r.ns).m g4.b n2
  have va4 := dp_m g4.b n3
  have hR4 := (RkP K r).m (g3.b.trans g4.b) hR
  have nt4 := g4.e k3.n
  have e34 : Ex H3 H4 := (Ex.new hl).trans g4.a
  -- what stands at each turn: all that stood, and the list so far
  let St : List Dv → L2.St → Hp → Prop := fun us σ H' => Ex H3 H' ∧ ∃ C xs w6 w7 w8, Ex B4 C ∧ Ex C H' ∧ C l = none ∧ NoTab C ∧ H' l = some (.lst xs) ∧ AllP (us.map DvP) xs C ∧ σ = [some vr, some (.int o), some (.str r.srt), some vn, some va, some (.ref l), w6, w7, w8, none]
  refine ⟨fun i σ H' => St (r.rowsT o i) σ H', ⟨e34, B4, [], none, none, none, Ex.refl B4, g4.c, hB4l, nt4, h4l, trivial, rfl⟩, fun i σ H' _ h => ?_, fun i v σ H' hi pv px => ?_, fun σ H' pv => ?_⟩
  · obtain ⟨_, C, xs, w6, w7, w8, a, b, _⟩ := h
    exact a.trans b
  · rw [List.length_map] at hi
    have hv : v = .str r.ns[i] := by
      have px : Dp K B4 v ((r.ns.map PyData.str).getD i .none) := px
      rw [List.getD_eq_getElem?_getD, List.getElem?_map, List.getElem?_eq_getElem hi] at px
      cases px
      rfl
    subst hv
    obtain ⟨eH, C, xs, w6, w7, w8, c1, c2, c3, c4, c5, c6, rfl⟩ := pv
    refine ps_forS (B := C) c2 (src_rng (j := o + 1) (q_cons (p_ev (ev_is (ev_op (ev_var rfl) ev_c rv_I0) (by simp))) q_nil) (by omega)) fun C1 H5 g5 => ?_
    have f1 : C1 l = none := g5.d l c3 (by rw [c5]; exact fun z => nomatch z)
    refine ⟨fun m σ H' => St (r.rowsT o i ++ r.rowsN o r.ns[i] m) σ H' ∧ (∃ C, Ex C1 C ∧ Ex C H') ∧ ∃ x7 x8, σ = [some vr, some (.int o), some (.str r.srt), some vn, some va, some (.ref l), some (.str r.ns[i]), x7, x8, none], ?_, fun m σ H' _ h => ?_, fun m v σ H' hm pv px => ?_, fun σ H' pv => ?_⟩
    · refine ⟨⟨eH.trans g5.a, C1, xs, _, w7, w8, c1.trans g5.b, g5.c, f1, g5.e c4, g5.a _ _ c5, ?_, rfl⟩, ⟨C1, Ex.refl C1, g5.c⟩, w7, w8, rfl⟩
      have : r.rowsN o r.ns[i] 0 = [] := rfl
      rw [this, List.append_nil]
      exact c6.m g5.b
    · obtain ⟨_, ⟨C, a, b⟩, _⟩ := h
      exact a.trans b
    · obtain rfl : v = .int (m : Int) := px
      obtain ⟨⟨eH', D1, ys, u6, u7, u8, d1, d2, d3, d4, d5, d6, _⟩, ⟨D2, dd1, dd2⟩, x7, x8, rfl⟩ := pv
      have va5 := dp_m d1 va4
      refine ps_asgN (fun x => [some vr, some (.int o), some (.str r.srt), some vn, some va, some (.ref l), some (.str r.ns[i]), some (.int m), some x, none]) d2 (p_ev (v := .int (r.most o m : Nat)) (ev_if (b := decide ((Str.ofString "y") ∈ r.axs)) (et_is (et_test (ev_inT (neg := false) (ys := r.axs) ev_c (ed_var rfl va5))) (by rw [if_neg Bool.false_ne_true])) (fun hb => ev_is (ev_op (ev_var rfl) (ev_var rfl) rv_I0) ?_) fun hb => ev_is ev_c ?_)) (fun x D3 H6 g6 hx => ?_) (fun _ => rfl)
      · unfold Rk.most
        rw [if_pos (of_decide_eq_true hb)]
        congr 1
        omega
      · unfold Rk.most
        rw [if_neg (of_decide_eq_false hb)]
        rfl
      obtain rfl : x = .int (r.most o m : Nat) := hx
      dsimp only
      have l6 := g6.a _ _ d5
      have D3l : D3 l = none := g6.d l d3 (by rw [d5]; exact fun z => nomatch z)
      have mm : r.most o m ≤ 12 := by
        unfold Rk.most
        split <;> omega
      have lc := p_lcP (te := tTup (tCons (tVar 6) (tCons (tVar 7) (tCons (tVar 9) tNil)))) (g := gName 9) (vs := [9]) (σ := [some vr, some (.int o), some (.str r.srt), some vn, some va, some (.ref l), some (.str r.ns[i]), some (.int m), some (.int (r.most o m : Nat)), none]) (B := D3)
        (src_rng (j := r.most o m + 1) (t := tCons (tOp (rI0 fun i j => .int (i + j)) (tVar 8) (tC (.int 1))) tNil) (q_cons (p_ev (ev_is (ev_op (ev_var rfl) ev_c rv_I0) (by simp))) q_nil) (by omega)) (by omega) (fun j => DvP ⟨r.ns[i], (m : Int), (j : Int)⟩) fun j v B5 hj e5 pv => by
          obtain rfl : v = .int (j : Int) := pv
          exact ⟨[some vr, some (.int o), some (.str r.srt), some vn, some va, some (.ref l), some (.str r.ns[i]), some (.int m), some (.int (r.most o m : Nat)), some (.int j)], rfl, fun H2 Q e q => q, p_dv (u := ⟨r.ns[i], (m : Int), (j : Int)⟩) rfl rfl rfl (q_cons (p_varV rfl) (q_cons (p_varV rfl) (q_cons (p_varV rfl) q_nil)))⟩
      refine ⟨.ref l, rfl, .inl ⟨rfl, ys, sq_of l6⟩, lc H6 g6.c _ fun v D4 H7 g7 hv => ?_⟩
      obtain ⟨b, zs, rfl, hb, hz⟩ := hv
      have l7 := g7.a _ _ l6
      have D4l : D4 l = none := g7.d l D3l (by rw [l6]; exact fun z => nomatch z)
      have rowE : (List.range (r.most o m + 1)).map (fun j => DvP ⟨r.ns[i], (m : Int), ((j : Nat) : Int)⟩) = (r.row o r.ns[i] m).map DvP := by
        unfold Rk.row
        rw [List.map_map]
        rfl
      rw [rowE] at hz
      have hy : AllP ((r.rowsT o i ++ r.rowsN o r.ns[i] (m + 1)).map DvP) (ys ++ zs) D4 := by
        rw [Rk.rowsN_succ, ← List.append_assoc, List.map_append]
        exact (d6.m (g6.b.trans g7.b)).app hz
      have szs : ys.length + zs.length ≤ 100000 := by
        have h1 := hy.len
        rw [List.length_append, List.length_map, List.length_append] at h1
        have h2 := r.rowsT_len (o := o) (m := i) ho hok.le
        have h3 := r.rowsN_len r.ns[i] (o := o) (m := m + 1) (by omega) ho
        omega
      refine ⟨l, b, ys, zs, rfl, rfl, l7, g7.c _ _ hb, sz_of szs, ?_⟩
      refine ⟨⟨Ex.mut (eH'.trans (g6.a.trans g7.a)) h3l, D4, ys ++ zs, _, _, _, (d1.trans g6.b).trans g7.b, Ex.mut g7.c D4l, D4l, g7.e (g6.e d4), upd_same, hy, rfl⟩, ?_, _, _, rfl⟩
      have C1l2 : C1 l = none := f1
      exact ⟨C1, Ex.refl C1, Ex.mut (((dd1.trans dd2).trans g6.a).trans g7.a) C1l2⟩
    · obtain ⟨⟨eH', D1, ys, u6, u7, u8, d1, d2, d3, d4, d5, d6, hσ⟩, _⟩ := pv
      refine ⟨eH', D1, ys, u6, u7, u8, d1, d2, d3, d4, d5, ?_, hσ⟩
      rw [Rk.rowsT_succ r o i hi]
      exact d6
  · obtain ⟨eH, C, xs, w6, w7, w8, c1, c2, c3, c4, c5, c6, rfl⟩ := pv
    rw [List.length_map, Rk.rowsT_all] at c6
    have kf : Kn (TN tb) (upd C l (.lst xs)) H' := ⟨fun b o e => by
      by_cases n : b = l
      · subst n
        rw [upd_same] at e
        rw [c5]
        exact e
      · rw [upd_ne n] at e
        exact c2 b o e, nt_upd c4 (fun ps z => nomatch z), k3.t.ext eH⟩
    refine ⟨vr, rfl, .ref l, rfl, upd C l (.lst xs), r, r.all o, vr, .ref l, rfl, hok, fun u hu => Rk.mem_all hu, kf, (RkP K r).m (c1.trans (Ex.new c3)) hR4, .inl ⟨l, xs, rfl, sq_of upd_same, c6.m (Ex.new c3)⟩, fun v H6 eN T6 hs _ => ?_⟩
    exact q v H6 ((exN_of (((e1.trans e2).trans g3.a).trans eH)).trans eN) T6 hs

end
end K12
namespace K12
open PySem L2 My
/-- a draw's state at d -/
def DSt (H : Hp) (d : Addr) (n : Nat) : Prop := ∃ l c t : Int, H d = some (.dK [(.inr "left", .int l), (.inr "cell", .int c), (.inr "turns", .int t)]) ∧ 0 ≤ l ∧ 0 ≤ t ∧ t ≤ n
/-- all but d as it was -/
def SameBut (d : Addr) (H H' : Hp) : Prop := ∀ b o, b ≠ d → H b = some o → H' b = some o
def spMixed : Sp := fun vs H Q _ => ∃ c k : Int, vs = [.int c, .int k] ∧ 0 ≤ k ∧ k ≤ 2 ^ 40 ∧ ∀ (m : Int) (H' : Hp), 0 ≤ m → m < 2147483647 → Same H H' → Q (.int m) H'
def spDraw : Sp := fun vs H Q _ => ∃ c k : Int, vs = [.int c, .int k] ∧ 0 ≤ k ∧ k ≤ 1000 ∧ ∀ (d : Addr) (H' : Hp), H d = none → DSt H' d 1000000 → Same H H' → Q (.ref d) H'
def spDigit : Sp := fun vs H Q _ => ∃ (d : Addr) (z : Int) (n : Nat), vs = [.ref d, .int z] ∧ 0 < z ∧ z < 1073741824 ∧ DSt H d n ∧ n ≤ 2 ^ 39 ∧ ∀ (m : Int) (H' : Hp), 0 ≤ m → m < z → DSt H' d (n + 4) → SameBut d H H' → Q (.int m) H'

abbrev s_Lmixed : Stmt := topS 32
abbrev N_Lmixed : List Str := ["_law_cell", "_law_k", "_law_mixed_here"]
theorem sc_Lmixed : FnScope N_Lmixed ["_law_cell", "_law_k"] (defScope s_Lmixed) := ⟨rfl, rfl, rfl, by decide +kernel, rfl, by decide +kernel, by decide +kernel⟩
abbrev s_Ldraw : Stmt := topS 33
abbrev N_Ldraw : List Str := ["_law_cell", "_law_k"]
theorem sc_Ldraw : FnScope N_Ldraw ["_law_cell", "_law_k"] (defScope s_Ldraw) := ⟨rfl, rfl, rfl, by decide +kernel, rfl, by decide +kernel, by decide +kernel⟩
section
variable {P : Program} {w : World} {K : PySem.W.Frag} {mg : Str → Option Value} {base : Heap}
theorem ok_Lmixed {f : Addr} {fd : FuncData} (F : Fun K "_law_mixed" "_law_mixed" s_Lmixed f fd) : FnOk P w K mg base CX0 1 f fd ["_law_cell", "_law_k"] spMixed := by
  refine F.ok sc_Lmixed (fun vs H Q E h => ?_) (fun cdv A outer s H vs Q E hr h => ?_)
  · obtain ⟨c, k, rfl, _⟩ := h
    rfl
  · obtain ⟨c, k, rfl, hk0, hk, q⟩ := h
    refine ⟨_, (pss_cons (ps_set (i := 2) sc_Lmixed.nd rfl (by first | exact .inl rfl | exact .inr rfl) (pe_op op_add (pe_op op_add (pe_op op_mod (pv 0) (pe_ix ix_list (pe_lst (pa_cons pe_int (pa_cons pe_int (pa_cons pe_int (pa_cons pe_int pa_nil))))) (pe_op op_mod (pv 1) pe_int) (fun _ _ => rfl))) (pe_op op_mul pe_int (pv 1))) pe_int))
    (pss_one (ps_ret (pe_op op_mod (pe_op op_mul (pe_op op_mod (pe_op op_mul (pv 2) (pv 2)) pe_int) pe_int) pe_int)))), ?_⟩
    walk_at "go"
    refine ⟨My.small (by decide), fun p hp => ?_⟩
    walk_at "go"
    obtain ⟨v, hv, e⟩ := My.atIn [V.int 1000000007, V.int 998244353, V.int 2147483629, V.int 1000000009] (k % 4) (by omega) (by show k % 4 < 4; omega)
    obtain ⟨y, rfl, hy⟩ : ∃ y, v = V.int y ∧ 0 < y ∧ y < 2147483647 := by
      simp only [List.mem_cons, List.not_mem_nil, or_false] at hv
      rcases hv with rfl | rfl | rfl | rfl <;> exact ⟨_, rfl, by decide⟩

    refine ⟨p, _, _, _, rfl, rfl, My.lstNew, e, ?_⟩
    have h1 := Int.emod_nonneg c (b := y) (by omega)
    have h2 := Int.emod_lt_of_pos c (b := y) (by omega)
    refine ⟨_, _, rfl, rfl, hy.1, ?_⟩
    walk_at "go"
    exact q _ _ (Int.emod_nonneg _ (by decide)) (Int.emod_lt_of_pos _ (by decide)) (My.new hp)
theorem ok_Ldraw {f : Addr} {fd : FuncData} (F : Fun K "_law_draw" "_law_draw" s_Ldraw f fd) : FnOk P w K mg base CX0 1 f fd ["_law_cell", "_law_k"] spDraw := by
  refine F.ok sc_Ldraw (fun vs H Q E h => ?_) (fun cdv A outer s H vs Q E hr h => ?_)
  · obtain ⟨c, k, rfl, _⟩ := h
    rfl
  · obtain ⟨c, k, rfl, hk0, hk, q⟩ := h
    have hu := hu_of hr
    refine ⟨_, (pss_one (ps_ret (pe_disp (pps_cons pe_str (pe_ifExp (pt_cmpR op_ge (pv 0) (pe_op op_pow pe_int pe_int) (nomark _)) (pv 0) pe_int) (pps_cons pe_str (pv 0) (pps_cons pe_str (pe_op op_mul pe_int (pv 1)) pps_nil))) rfl rfl (by simp) (by decide)))), ?_⟩
    intro p hp
    walk_at "go"
    refine ite2 (fun h => ?_) (fun h => ?_)
    · walk_at "go"
      refine ⟨upd_same, [(.inr "left", .int c), (.inr "cell", .int c), (.inr "turns", .int (1000 * k))], rfl, (by show 3 ≤ 15; decide), ?_⟩
      refine q _ _ hp ⟨c, c, 1000 * k, ?_, ?_, by omega, by omega⟩ ?_
      · rw [upd_same]; rfl
      · have := of_decide_eq_true h
        simp at this
        omega
      · exact My.new2 hp
    · walk_at "go"
      refine ⟨upd_same, [(.inr "left", .int 0), (.inr "cell", .int c), (.inr "turns", .int (1000 * k))], rfl, (by show 3 ≤ 15; decide), ?_⟩
      refine q _ _ hp ⟨0, c, 1000 * k, ?_, by omega, by omega, by omega⟩ ?_
      · rw [upd_same]; rfl
      · exact My.new2 hp
theorem sb_trans {d : Addr} {H H1 H2 : Hp} (a : SameBut d H H1) (b : SameBut d H1 H2) : SameBut d H H2 := fun c o n e => b c o n (a c o n e)
theorem sb_same {d : Addr} {H H1 : Hp} (a : Same H H1) : SameBut d H H1 := fun c o _ e => a c o e
theorem sb_upd {d : Addr} {H : Hp} {o : HO} : SameBut d H (upd H d o) := fun c u n e => by rw [upd_ne n]; exact e
theorem dget_left {H : Hp} {d : Addr} {a b c : V} (h : H d = some (.dK [(.inr "left", a), (.inr "cell", b), (.inr "turns", c)])) : DGet H d (.str "left") (some a) := DGet.k (k := .inr "left") h
theorem dget_cell {H : Hp} {d : Addr} {a b c : V} (h : H d = some (.dK [(.inr "left", a), (.inr "cell", b), (.inr "turns", c)])) : DGet H d (.str "cell") (some b) := DGet.k (k := .inr "cell") h
theorem dget_turns {H : Hp} {d : Addr} {a b c : V} (h : H d = some (.dK [(.inr "left", a), (.inr "cell", b), (.inr "turns", c)])) : DGet H d (.str "turns") (some c) := DGet.k (k := .inr "turns") h
theorem put_left {a b c v : V} : putK [((.inr "left" : Key), a), (.inr "cell", b), (.inr "turns", c)] (.inr "left") v = [(.inr "left", v), (.inr "cell", b), (.inr "turns", c)] := rfl
theorem put_turns {a b c v : V} : putK [((.inr "left" : Key), a), (.inr "cell", b), (.inr "turns", c)] (.inr "turns") v = [(.inr "left", a), (.inr "cell", b), (.inr "turns", v)] := rfl
theorem dput_left {H : Hp} {d : Addr} {a b c v : V} (h : H d = some (.dK [(.inr "left", a), (.inr "cell", b), (.inr "turns", c)])) : DPut H d (.str "left") v (upd H d (.dK [(.inr "left", v), (.inr "cell", b), (.inr "turns", c)])) := DPut.k (k := .inr "left") h (by show 3 < sizeLine; decide)
theorem dput_turns {H : Hp} {d : Addr} {a b c v : V} (h : H d = some (.dK [(.inr "left", a), (.inr "cell", b), (.inr "turns", c)])) : DPut H d (.str "turns") v (upd H d (.dK [(.inr "left", a), (.inr "cell", b), (.inr "turns", v)])) := DPut.k (k := .inr "turns") h (by show 3 < sizeLine; decide)

abbrev s_Ldigit : Stmt := topS 34
abbrev N_Ldigit : List Str := ["_law_state", "_law_size", "_law_j", "_law_found"]
theorem sc_Ldigit : FnScope N_Ldigit ["_law_state", "_law_size"] (defScope s_Ldigit) := ⟨rfl, rfl, rfl, by decide +kernel, rfl, by decide +kernel, by decide +kernel⟩
theorem ok_Ldigit {f fM : Addr} {fd fdM : FuncData} (F : Fun K "_law_digit" "_law_digit" s_Ldigit f fd) (G : FnOk P w K mg base CX0 1 fM fdM ["_law_cell", "_law_k"] spMixed)
    (n_range : mg "range" = none) (m_Lmixed : mg "_law_mixed" = some (.ref fM)) (k_Lmixed : PySem.W.keepIn K (.ref fM) = true) (b_Lmixed : Binds K fdM ["_law_cell", "_law_k"] []) : FnOk P w K mg base CX0 2 f fd ["_law_state", "_law_size"] spDigit := by
  refine F.ok sc_Ldigit (fun vs H Q E h => ?_) (fun cdv A outer s H vs Q E hr h => ?_)
  · obtain ⟨d, z, n, rfl, _⟩ := h
    rfl
  · obtain ⟨d, z, n, rfl, hz, hz2, ⟨l, c, t, hd, hl, ht, htn⟩, hn, q⟩ := h
    have hu := hu_of hr
    refine ⟨_, (pss_cons (ps_if (pt_cmpR op_eq (pe_dget hu (pv 0) pe_str (fun _ _ => rfl)) pe_int (nomark _)) (pss_one (ps_for PassesOwn.never rfl (pi_range1 (by rfl) n_range (pa_cons pe_int pa_nil)) (pg_name (i := 2) sc_Ldigit.nd rfl (by first | exact .inl rfl | exact .inr rfl))
      (pss_cons (ps_dput hu (pv 0) pe_str (pe_op op_add (pe_dget hu (pv 0) pe_str (fun _ _ => rfl)) pe_int) rfl)
    (pss_one (ps_dput hu (pv 0) pe_str (pe_op op_add (pe_op op_mul (pe_dget hu (pv 0) pe_str (fun _ _ => rfl)) pe_int) (pe_call G (hr.mono (by decide)) (by rfl) m_Lmixed k_Lmixed b_Lmixed .nil pass0 (pa_cons (pe_dget hu (pv 0) pe_str (fun _ _ => rfl)) (pa_cons (pe_dget hu (pv 0) pe_str (fun _ _ => rfl)) pa_nil)))) rfl))))) pss_nil)
    (pss_cons (ps_set (i := 3) sc_Ldigit.nd rfl (by first | exact .inl rfl | exact .inr rfl) (pe_op op_mod (pe_dget hu (pv 0) pe_str (fun _ _ => rfl)) (pv 1)))
    (pss_cons (ps_dput hu (pv 0) pe_str (pe_op op_fdiv (pe_dget hu (pv 0) pe_str (fun _ _ => rfl)) (pv 1)) rfl)
    (pss_one (ps_ret (pv 3)))))), ?_⟩
    -- what follows the if, from any state
    have rest : ∀ (x : Option V) (l t : Int) (H1 : Hp), H1 d = some (.dK [(.inr "left", .int l), (.inr "cell", .int c), (.inr "turns", .int t)]) → 0 ≤ l → 0 ≤ t → t ≤ (n + 4 : Nat) → SameBut d H H1 →
      ∀ D : Ends, D.rt = Q → tSeq (tAsg (tOp (rI (fun _ j => 0 < j) fun i j => .int (i % j)) (tDGet (tVar 0) (tC (.str "left"))) (tVar 1)) (gName 3)) (tSeq (sDPut (tVar 0) (tC (.str "left")) (tOp (rI CDiv fun i j => .int (i / j)) (tDGet (tVar 0) (tC (.str "left"))) (tVar 1))) (tRet (tVar 3))) D [some (.ref d), some (.int z), x, none] H1 := by
      intro x l t H1 h1 hl ht htn sb D hD
      walk_at "go"
      refine ⟨_, _, rfl, dget_left h1, ?_⟩
      walk_at "go"
      refine ⟨_, _, rfl, dget_left h1, ?_⟩
      walk_at "go"
      refine ⟨_, _, rfl, dput_left h1, ?_⟩
      walk_at "go"
      show D.rt _ _
      rw [hD]
      exact q _ _ (Int.emod_nonneg _ (by omega)) (Int.emod_lt_of_pos _ hz) ⟨_, _, _, upd_same, Int.ediv_nonneg hl (by omega), ht, htn⟩ (sb_trans sb sb_upd)
    walk_at "go"
    refine ⟨_, _, rfl, dget_left hd, ?_⟩
    walk_at "go"
    refine ite2 (fun h => ?_) (fun h => ?_)
    · walk_at "go"
      refine ⟨by decide, by decide, for_range (lo := 0) (n := 4) (fun i σ H1 => ∃ (x : Option V) (l t : Int), σ = [some (.ref d), some (.int z), x, none] ∧ H1 d = some (.dK [(.inr "left", .int l), (.inr "cell", .int c), (.inr "turns", .int t)]) ∧ 0 ≤ l ∧ 0 ≤ t ∧ t ≤ (n + i : Nat) ∧ SameBut d H H1)
        ⟨none, l, t, rfl, hd, hl, ht, by omega, fun c o n e => e⟩ ?_ ?_⟩
      · rintro i σ H1 hi ⟨x, l1, t1, rfl, h1, hl1, ht1, ht2, sb⟩
        walk_at "go"
        refine ⟨_, _, rfl, dget_turns h1, ?_⟩
        walk_at "go"
        refine ⟨_, _, rfl, dput_turns h1, ?_⟩
        walk_at "go"
        refine ⟨_, _, rfl, dget_left upd_same, ?_⟩
        walk_at "go"
        refine ⟨_, _, rfl, dget_cell upd_same, ?_⟩
        walk_at "go"
        refine ⟨_, _, rfl, dget_turns upd_same, ?_⟩
        refine ⟨c, t1 + 1, rfl, by omega, by omega, fun m H2 hm0 hm1 S => ?_⟩
        walk_at "go"
        refine ⟨_, _, rfl, dput_left (S _ _ upd_same), ?_⟩
        refine ⟨_, _, _, rfl, upd_same, ?_, by omega, by omega, sb_trans sb (sb_trans sb_upd (sb_trans (sb_same S) sb_upd))⟩
        have := Int.mul_nonneg hl1 (by decide : (0 : Int) ≤ 2147483647)
        omega
      · rintro σ H1 ⟨x, l1, t1, rfl, h1, hl1, ht1, ht2, sb⟩
        exact rest x l1 t1 H1 h1 hl1 ht1 ht2 sb _ rfl
    · exact rest none l t H hd hl ht (by omega) (fun c o n e => e) _ rfl
end
end K12
namespace K12
open PySem L2 My
def one (c : Nat) : Str := ⟨#[c]⟩
theorem strExt {x y : Str} (h : x.cps.toList = y.cps.toList) : x = y := by
  obtain ⟨a⟩ := x
  obtain ⟨b⟩ := y
  exact congrArg Str.mk (Array.toList_inj.mp h)
theorem append_list (x y : Str) : (x ++ y).cps.toList = x.cps.toList ++ y.cps.toList := by
  show (x.cps ++ y.cps).toList = _
  exact Array.toList_append
theorem join_ones : ∀ cs : List Nat, Str.join (Str.ofString "") (cs.map one) = ⟨cs.toArray⟩
  | [] => rfl
  | [c] => rfl
  | c :: c' :: cs => by
    have ih := join_ones (c' :: cs)
    show one c ++ Str.ofString "" ++ Str.join (Str.ofString "") ((c' :: cs).map one) = _
    rw [ih]
    apply strExt
    rw [append_list, append_list]
    have : (Str.ofString "").cps.toList = [] := by decide +kernel
    rw [this]
    simp [one]
theorem txt_ones (cs : List Nat) : Txt.join (Str.ofString "") (cs.map one) = ⟨cs.toArray⟩ := by
  show Builtin.Str.glued _ _ = _
  rw [StrLaws.glued_eq_join]
  exact join_ones cs
theorem nm_ones {cs : List Nat} (h1 : 1 ≤ cs.length) (h2 : cs.length ≤ 8) (h3 : ∀ c ∈ cs, 97 ≤ c ∧ c ≤ 122) : IsNm ⟨cs.toArray⟩ := by
  unfold My.IsNm My.isNmB
  have : (Str.mk cs.toArray).length = cs.length := by show cs.toArray.size = _; simp
  rw [this]
  simp only [Bool.and_eq_true, decide_eq_true_eq, List.all_eq_true]
  exact ⟨⟨h1, h2⟩, fun c hc => h3 c (by simpa using hc)⟩
def spWord : Sp := fun vs H Q _ => ∃ (d : Addr) (n : Nat), vs = [.ref d] ∧ DSt H d n ∧ n ≤ 2 ^ 38 ∧ ∀ (x : Str) (H' : Hp), IsNm x → DSt H' d (n + 50) → SameBut d H H' → Q (.str x) H'
theorem DSt.le {H : Hp} {d : Addr} {n m : Nat} (h : DSt H d n) (k : n ≤ m) : DSt H d m := by
  obtain ⟨l, c, t, a, b, e, f⟩ := h
  exact ⟨l, c, t, a, b, e, by omega⟩
theorem DSt.same {H H' : Hp} {d : Addr} {n : Nat} (h : DSt H d n) (k : Same H H') : DSt H' d n := by
  obtain ⟨l, c, t, a, b⟩ := h
  exact ⟨l, c, t, k _ _ a, b⟩
theorem DSt.ne {H : Hp} {d p : Addr} {n : Nat} (h : DSt H d n) (k : H p = none) : d ≠ p := by
  obtain ⟨l, c, t, a, b⟩ := h
  exact ne_of_none a k
theorem DSt.upd {H : Hp} {d p : Addr} {n : Nat} {o : HO} (h : DSt H d n) (k : d ≠ p) : DSt (upd H p o) d n := by
  obtain ⟨l, c, t, a, b⟩ := h
  exact ⟨l, c, t, by rw [upd_ne k]; exact a, b⟩
theorem len_ones (cs : List Nat) : ((cs.map one).map (·.length)).sum = cs.length := by
  induction cs with
  | nil => rfl
  | cons c r ih =>
    simp only [List.map_cons, List.sum_cons, List.length_cons, ih]
    show 1 + r.length = _
    omega
theorem sb_new {d p : Addr} {H H1 : Hp} {o : HO} (a : SameBut d H H1) (h : H p = none) : SameBut d H (upd H1 p o) := fun c u n e => by
  rw [upd_ne (ne_of_none e h)]
  exact a c u n e
theorem sb_free {d p : Addr} {H H1 : Hp} (a : SameBut d H H1) (n : p ≠ d) (h : H1 p = none) : H p = none := by
  cases e : H p with
  | none => rfl
  | some o =>
    rw [a p o n e] at h
    cases h
abbrev s_Lword : Stmt := topS 35
abbrev N_Lword : List Str := ["_law_state", "_law_signs", "_law_j", "_law_some"]
theorem sc_Lword : FnScope N_Lword ["_law_state"] (defScope s_Lword) := ⟨rfl, rfl, rfl, by decide +kernel, rfl, by decide +kernel, by decide +kernel⟩
section
variable {P : Program} {w : World} {K : PySem.W.Frag} {mg : Str → Option Value} {base : Heap}
theorem ok_Lword {f fD : Addr} {fd fdD : FuncData} (F : Fun K "_law_word" "_law_word" s_Lword f fd) (G : FnOk P w K mg base CX0 2 fD fdD ["_law_state", "_law_size"] spDigit)
    (n_range : mg "range" = none) (m_Ldigit : mg "_law_digit" = some (.ref fD)) (k_Ldigit : PySem.W.keepIn K (.ref fD) = true) (b_Ldigit : Binds K fdD ["_law_state", "_law_size"] []) : FnOk P w K mg base CX0 3 f fd ["_law_state"] spWord := by
  refine F.ok sc_Lword (fun vs H Q E h => ?_) (fun cdv A outer s H vs Q E hr h => ?_)
  · obtain ⟨d, n, rfl, _⟩ := h
    rfl
  · obtain ⟨d, n, rfl, hd, hn, q⟩ := h
    have hu := hu_of hr
    refine ⟨_, (pss_cons (ps_setLc (i := 1) (own := [("_law_j", 2)]) rfl sc_Lword.nd rfl rfl (sw_true rfl rfl rfl (by decide +kernel)) (pi_range1 (by rfl) n_range (pa_cons (pe_op op_add pe_int (pe_call G (hr.mono (by decide)) (by rfl) m_Ldigit k_Ldigit b_Ldigit .nil pass0 (pa_cons (pv 0) (pa_cons pe_int pa_nil)))) pa_nil)) (blkOk_by (N := N_Lword) (sc := defScope s_Lword) (by decide +kernel)) (fun _ _ _ _ _ => (pg_name (i := 2) sc_Lword.nd rfl (by first | exact .inl rfl | exact .inr rfl))) (fun _ _ _ _ _ => pts_nil) (fun _ _ _ _ _ => (pe_ix ix_str pe_str (pe_call G (hr.mono (by decide)) (by rfl) m_Ldigit k_Ldigit b_Ldigit .nil pass0 (pa_cons (pv 0) (pa_cons pe_int pa_nil))) (fun _ _ => rfl))))
    (pss_cons (ps_set (i := 3) sc_Lword.nd rfl (by first | exact .inl rfl | exact .inr rfl) (pe_lst (pa_cons (pe_join pe_str (pv 1)) (pa_cons (pe_join pe_str (pe_slice sl_list (pv 1) po_none (po_some pe_int))) (pa_cons pe_str (pa_cons pe_str (pa_cons pe_str (pa_cons pe_str (pa_cons pe_str (pa_cons pe_str (pa_cons pe_str (pa_cons pe_str (pa_cons pe_str (pa_cons pe_str pa_nil))))))))))))))
    (pss_one (ps_ret (pe_ix ix_list (pv 3) (pe_call G (hr.mono (by decide)) (by rfl) m_Ldigit k_Ldigit b_Ldigit .nil pass0 (pa_cons (pv 0) (pa_cons pe_int pa_nil))) (fun _ _ => rfl)))))), ?_⟩
    walk_at "go"
    refine ⟨d, 8, n, rfl, by decide, by decide, hd, by omega, fun m H1 m0 m1 hd1 S1 => ?_⟩
    walk_at "go"
    have hdD : ∀ {D : Addr}, H1 D = none → d ≠ D := fun e => hd1.ne e
    refine ⟨by omega, by omega, fun D hD => lc_range (lo := 0) (n := (1 + m).toNat) (fun i H2 => DSt H2 d (n + 4 + 4 * i) ∧ SameBut d H H2 ∧ ∃ cs : List Nat, H2 D = some (.lst ((cs.map one).map V.str)) ∧ cs.length = i ∧ ∀ c ∈ cs, 97 ≤ c ∧ c ≤ 122)
      ⟨hd1.upd (hdD hD), sb_trans S1 (sb_same (My.new hD)), [], upd_same, rfl, fun c h => absurd h (List.not_mem_nil)⟩ ?_ ?_⟩
    · rintro i H2 hi ⟨h1, S2, cs, h2, h3, h4⟩
      walk_at "go"
      dsimp only [tYes]
      walk_at "go"
      refine ⟨d, 26, _, rfl, by decide, by decide, h1, by omega, fun c H3 c0 c1 hd3 S3 => ?_⟩
      have h26 : (Str.ofString "abcdefghijklmnopqrstuvwxyz").cps.toList.length = 26 := by decide +kernel
      obtain ⟨u, hu1, e⟩ := My.atIn ((Str.ofString "abcdefghijklmnopqrstuvwxyz").cps.toList) c c0 (by omega)
      have hu2 : ∀ u ∈ (Str.ofString "abcdefghijklmnopqrstuvwxyz").cps.toList, 97 ≤ u ∧ u ≤ 122 := by decide +kernel
      refine ⟨_, _, u, rfl, rfl, by decide +kernel, e, ?_⟩
      have hne : D ≠ d := (hdD hD).symm
      refine ⟨_, S3 _ _ hne h2, by rw [List.length_map, List.length_map, h3]; exact small1000 (by omega), (hd3.upd hne.symm).le (by omega), sb_new (sb_trans S2 S3) (sb_free S1 hne hD), cs ++ [u], by rw [upd_same, List.map_append, List.map_append]; rfl, by rw [List.length_append, h3]; rfl, ?_⟩
      intro c hc
      rcases List.mem_append.mp hc with hc | hc
      · exact h4 c hc
      · rw [List.mem_singleton.mp hc]
        exact hu2 _ hu1
    · rintro H2 ⟨h1, S2, cs, h2, h3, h4⟩
      have hne : D ≠ d := (hdD hD).symm
      have hDH := sb_free S1 hne hD
      walk_at "go"
      refine ⟨_, _, cs.map one, rfl, rfl, .inl (SqL.of h2), ?_, ?_⟩
      · rw [len_ones, h3]
        have : (Str.ofString "").length = 0 := by decide +kernel
        rw [this]
        omega
      rw [txt_ones]
      walk_at "go"
      refine ⟨_, _, rfl, SqL.of h2, fun p hp => ?_⟩
      rw [show (2 : Int) = ((2 : Nat) : Int) from rfl, My.cutTo, ← List.map_take, ← List.map_take]
      walk_at "go"
      refine ⟨_, _, (cs.take 2).map one, rfl, rfl, .inl My.lstNew, ?_, ?_⟩
      · rw [len_ones, List.length_take]
        have : (Str.ofString "").length = 0 := by decide +kernel
        rw [this]
        omega
      rw [txt_ones]
      walk_at "go"
      refine ⟨My.small (by show 12 ≤ 1000; decide), fun r hr' => ?_⟩
      walk_at "go"
      have hpH : H p = none := sb_free S2 (h1.ne hp).symm hp
      have h1' := h1.upd (o := .lst (((cs.take 2).map one).map V.str)) (h1.ne hp)
      have hrH : H r = none := sb_free (sb_new S2 hpH) (h1'.ne hr').symm hr'
      refine ⟨d, 12, _, rfl, by decide, by decide, h1'.upd (h1'.ne hr'), by omega, fun c H3 c0 c1 hd3 S3 => ?_⟩
      obtain ⟨v, hv, e⟩ := My.atIn [V.str ⟨cs.toArray⟩, V.str ⟨(cs.take 2).toArray⟩, V.str "u", V.str "v", V.str "w", V.str "x", V.str "y", V.str "total", V.str "names", V.str "case", V.str "axes", V.str "tell"] c c0 c1
      refine ⟨r, _, _, _, rfl, rfl, SqL.of (S3 _ _ (h1'.ne hr').symm upd_same), e, ?_⟩
      obtain ⟨x, rfl, hx⟩ : ∃ x, v = V.str x ∧ IsNm x := by
        simp only [List.mem_cons, List.not_mem_nil, or_false] at hv
        rcases hv with rfl | rfl | rfl | rfl | rfl | rfl | rfl | rfl | rfl | rfl | rfl | rfl
        · exact ⟨_, rfl, nm_ones (by omega) (by omega) h4⟩
        · exact ⟨_, rfl, nm_ones (by rw [List.length_take]; omega) (by rw [List.length_take]; omega) fun c hc => h4 c (List.mem_of_mem_take hc)⟩
        all_goals exact ⟨_, rfl, (by unfold My.IsNm; decide +kernel)⟩
      exact q x H3 hx (hd3.le (by omega)) (sb_trans (sb_new (sb_new S2 hpH) hrH) S3)
end
end K12
namespace K12
set_option autoImplicit false
open PySem PySem.W L2 Evl My LamX
/-- what a draw leaves: the state's dict at d changed, all else kept; B' known behind, without d -/
structure GrD (d : Addr) (B H B' H' : Hp) : Prop where
  s : SameBut d H H'
  b : Ex B B'
  c : Ex B' H'
  d : B' d = none
  n : NoTab B → NoTab B'
theorem GrD.refl {d : Addr} {B H : Hp} (e : Ex B H) (h : B d = none) : GrD d B H B H := ⟨fun _ _ _ e => e, Ex.refl B, e, h, id⟩
theorem GrD.trans {d : Addr} {B H B1 H1 B2 H2 : Hp} (g : GrD d B H B1 H1) (k : GrD d B1 H1 B2 H2) : GrD d B H B2 H2 := ⟨sb_trans g.s k.s, g.b.trans k.b, k.c, k.d, fun z => k.n (g.n z)⟩
theorem ex_sb {d : Addr} {B H H' : Hp} (e : Ex B H) (h : B d = none) (s : SameBut d H H') : Ex B H' := fun b o k => s b o (ne_of_none k h) (e b o k)
theorem GrD.same {d : Addr} {B H H' : Hp} (e : Ex B H) (h : B d = none) (s : SameBut d H H') : GrD d B H B H' := ⟨s, Ex.refl B, ex_sb e h s, h, id⟩
theorem GrD.gr {d : Addr} {B H B' H' : Hp} {n : Nat} (g : Gr B H B' H') (h : B d = none) (hd : DSt H d n) : GrD d B H B' H' := ⟨fun b o _ e => g.a b o e, g.b, g.c, g.d d h (by obtain ⟨l, c, t, e, _⟩ := hd; rw [e]; exact fun z => nomatch z), g.e⟩
theorem DSt.ex {H H' : Hp} {d : Addr} {n : Nat} (h : DSt H d n) (e : Ex H H') : DSt H' d n := by
  obtain ⟨l, c, t, a, b⟩ := h
  exact ⟨l, c, t, e _ _ a, b⟩
def lets8 : List Str := signsOf "uvwpqrst"
theorem lets_nm : ∀ y ∈ lets8, My.IsNm y := by
  unfold My.IsNm
  decide +kernel
theorem lets_u : ("u" : Str) ∈ lets8 ∧ ("v" : Str) ∈ lets8 ∧ ("w" : Str) ∈ lets8 := by decide +kernel
theorem free_one {xs : List Str} (h : xs.length ≤ 2) : ∃ y ∈ lets8, y ∉ xs := by
  obtain ⟨h1, h2, h3⟩ := lets_u
  have n1 : ("u" : Str) ≠ "v" := by decide +kernel
  have n2 : ("u" : Str) ≠ "w" := by decide +kernel
  have n3 : ("v" : Str) ≠ "w" := by decide +kernel
  by_cases a : ("u" : Str) ∈ xs
  · by_cases b : ("v" : Str) ∈ xs
    · by_cases c : ("w" : Str) ∈ xs
      · exfalso
        match xs, h with
        | [], _ => exact (List.not_mem_nil a).elim
        | [x], _ =>
          rw [List.mem_singleton] at a b
          exact n1 (a.trans b.symm)
        | [x, y], _ =>
          simp only [List.mem_cons, List.not_mem_nil, or_false] at a b c
          rcases a with a | a <;> rcases b with b | b <;> rcases c with c | c <;> first | exact n1 (a.trans b.symm) | exact n2 (a.trans c.symm) | exact n3 (b.trans c.symm)
      · exact ⟨_, h3, c⟩
    · exact ⟨_, h2, b⟩
  · exact ⟨_, h1, a⟩
theorem all_strs {H : Hp} : ∀ ys : List Str, AllP (ys.map fun y => IsV (.str y)) (ys.map V.str) H
  | [] => trivial
  | y :: ys => ⟨rfl, all_strs ys⟩
def spNames : Sp := fun vs H Q _ => ∃ (d : Addr) (n m : Nat), vs = [.ref d, .int (m : Int)] ∧ m ≤ 3 ∧ DSt H d n ∧ n ≤ 2 ^ 37 ∧ ∀ (p : Addr) (xs : List Str) (H' : Hp), H p = none → H' p = some (.lst (xs.map V.str)) → xs.length = m → xs.Nodup → (∀ x ∈ xs, My.IsNm x) → DSt H' d (n + 200) → SameBut d H H' → p ≠ d → Q (.ref p) H'
section
variable {P : Program} {w : World} {K : PySem.W.Frag} {mg : Str → Option Value} {base : Heap}

/-- _law_names -/
abbrev s_Lnames : Stmt := topS 36
abbrev N_Lnames : List Str := ["_law_state", "_law_many", "_law_found", "_law_j", "_law_some", "_law_one"]
theorem sc_Lnames : FnScope N_Lnames ["_law_state", "_law_many"] (defScope s_Lnames) := ⟨rfl, rfl, rfl, by decide +kernel, rfl, by decide +kernel, by decide +kernel⟩
theorem ok_Lnames {f : Addr} {fd : FuncData} (F : Fun K "_law_names" "_law_names" s_Lnames f fd) {f_Lword : Addr} {d_Lword : FuncData} (c_Lword : Cal P w K mg base "_law_word" 3 ["_law_state"] spWord f_Lword d_Lword) (n_range : mg "range" = none) (n_list : mg "list" = none)  :
    FnOk P w K mg base CX0 4 f fd ["_law_state", "_law_many"] spNames := by
  refine F.ok sc_Lnames (fun vs H Q E h => by obtain ⟨d, n, m, rfl, _⟩ := h; rfl) (fun cdv A outer s H vs Q E hr h => ?_)
  obtain ⟨d, n, m, rfl, hm, hd, hn, q⟩ := h
  have hu := hu_of hr
  refine ⟨_, (pss_cons (ps_set (i := 2) sc_Lnames.nd rfl (by first | exact .inl rfl | exact .inr rfl) (pe_lst pa_nil))
    (pss_cons (ps_for PassesOwn.never rfl (pi_range1 (by rfl) n_range (pa_cons (pv 1) pa_nil)) (pg_name (i := 3) sc_Lnames.nd rfl (by first | exact .inl rfl | exact .inr rfl))
      (pss_cons (ps_set (i := 4) sc_Lnames.nd rfl (by first | exact .inl rfl | exact .inr rfl) (pe_op op_cat (pe_lst (pa_cons (pe_call c_Lword.G (hr.mono (by decide)) (by rfl) c_Lword.m c_Lword.k c_Lword.b .nil pass0 (pa_cons (pv 0) pa_nil)) pa_nil)) (pe_callTy (call_listS rfl) (by rfl) n_list (by decide +kernel) (pa_cons pe_str pa_nil))))
    (pss_cons (ps_setLc (i := 4) (tt := tTest (tOp (rIn K true) (tVar 5) (tVar 2))) (own := [("_law_one", 5)]) rfl sc_Lnames.nd rfl rfl (sw_true rfl rfl rfl (by decide +kernel)) (pi_list (pv 4)) (blkOk_by (N := N_Lnames) (sc := defScope s_Lnames) (by decide +kernel)) (fun _ _ _ _ _ => (pg_name (i := 5) sc_Lnames.nd rfl (Or.inl rfl))) (fun _ _ _ _ _ => (pts_one (pt_cmpR op_notIn_seq (pv 5) (pv 2) (by rfl)))) (fun _ _ _ _ _ => (pv 5)))
    (pss_one (ps_expr (pe_bm PySem.F.plainAttrs_list PySem.F.slot_list_append PySem.F.type_list_append mt_append (pv 2) (pa_cons (pe_ix ix_list (pv 4) pe_int (fun _ _ => rfl)) pa_nil)))))))
    (pss_one (ps_ret (pv 2))))), ?_⟩
  refine ⟨by decide, fun l hl => ?_⟩
  have ld : d ≠ l := hd.ne hl
  dsimp only
  refine ⟨.int (m : Int), rfl, (m : Int), rfl, by omega, by omega, for_range (lo := 0) (n := m) (fun i σ H1 => ∃ (xs : List Str) (x3 x4 x5 : Option V), σ = [some (.ref d), some (.int m), some (.ref l), x3, x4, x5] ∧ H1 l = some (.lst (xs.map V.str)) ∧ xs.length = i ∧ xs.Nodup ∧ (∀ x ∈ xs, My.IsNm x) ∧ DSt H1 d (n + 60 * i) ∧ SameBut d H H1)
    ⟨[], none, none, none, rfl, upd_same, rfl, List.nodup_nil, fun x h => absurd h List.not_mem_nil, (hd.upd ld).le (by omega), sb_same (My.new hl)⟩ ?_ ?_⟩
  · rintro i σ H1 hi ⟨xs, x3, x4, x5, rfl, hL, hlen, hnd, hnm, hd1, S1⟩
    refine ⟨.ref d, rfl, d, n + 60 * i, rfl, hd1, by omega, fun x H2 hx hd2 S2 => ?_⟩
    have hL2 := S2 l _ ld.symm hL
    refine ⟨My.small (by show 1 ≤ 1000; decide), fun p1 hp1 => ?_⟩
    refine ⟨"uvwpqrst", rfl, by decide +kernel, fun p2 hp2 => ?_⟩
    have n12 : p1 ≠ p2 := ne_of_none upd_same hp2
    have h1at : upd (upd H2 p1 (.lst [.str x])) p2 (.lst (lets8.map V.str)) p1 = some (.lst [.str x]) := by rw [upd_ne n12, upd_same]
    refine ⟨p1, p2, [.str x], lets8.map V.str, rfl, rfl, h1at, upd_same, ?_, fun p3 hp3 => ?_⟩
    · exact sz_of (by have : (lets8.map V.str).length = 8 := by decide +kernel
                      rw [this]; show 1 + 8 ≤ 100000; decide)
    have e23 : Ex H2 (upd (upd (upd H2 p1 (.lst [.str x])) p2 (.lst (lets8.map V.str))) p3 (.lst ([.str x] ++ lets8.map V.str))) := ((Ex.new hp1).trans (Ex.new hp2)).trans (Ex.new hp3)
    show gName 4 (V.ref p3) _ (upd (upd (upd H2 p1 (.lst [.str x])) p2 (.lst (lets8.map V.str))) p3 (.lst ([.str x] ++ lets8.map V.str))) _
    generalize hH3 : upd (upd (upd H2 p1 (.lst [.str x])) p2 (.lst (lets8.map V.str))) p3 (.lst ([.str x] ++ lets8.map V.str)) = H3 at e23
    have h3at : H3 p3 = some (.lst ((x :: lets8).map V.str)) := by rw [← hH3]; exact upd_same
    have hL3 := e23 _ _ hL2
    dsimp only
    have hstr : (x :: lets8).length = 9 := by
      rw [List.length_cons]
      decide +kernel
    have lc := p_lcS (tt := tTest (tOp (rIn K true) (tVar 5) (tVar 2))) (te := tVar 5) (g := gName 5) (vs := [5]) (σ := [some (.ref d), some (.int m), some (.ref l), some (.int (0 + (i : Nat))), some (.ref p3), x5]) (B := H3)
      (src_lq (K := K) (te := tVar 4) (ps := (x :: lets8).map fun y => IsV (.str y)) (p_var rfl ⟨p3, _, rfl, sq_of h3at, all_strs _⟩)) (by rw [List.length_map, hstr]; decide) (fun k => !decide ((x :: lets8).getD k "" ∈ xs)) (fun k => IsV (.str ((x :: lets8).getD k ""))) fun k v B1 hk e1 pv => by
        rw [List.length_map] at hk
        have hv : v = .str ((x :: lets8).getD k "") := by
          have : (((x :: lets8).map fun y => IsV (.str y)).getD k (IsV .non)).P v B1 := pv
          rw [List.getD_eq_getElem?_getD, List.getElem?_map, List.getElem?_eq_getElem hk] at this
          rw [List.getD_eq_getElem?_getD, List.getElem?_eq_getElem hk]
          exact this
        subst hv
        refine ⟨[some (.ref d), some (.int m), some (.ref l), some (.int (0 + (i : Nat))), some (.ref p3), some (.str ((x :: lets8).getD k ""))], rfl, fun H4 Q e q => q, et_is (et_test (ev_op (ev_var rfl) (ev_var rfl) (rv_niL (sq_of (e1 _ _ hL3)) rfl (My.flat_strs xs)))) (by rw [inV_strs]), fun _ => p_varV rfl⟩
    dsimp only [gName, tSeq, tAsg, List.set_cons_succ, List.set_cons_zero, List.map_cons, List.map_nil]
    refine lc H3 (Ex.refl H3) _ fun v B4 H4 g4 hv => ?_
    obtain ⟨p4, ys, rfl, h4, h5⟩ := hv
    have e24 := e23.trans g4.a
    obtain ⟨k, L, hkL⟩ : ∃ k L, (List.range ((x :: lets8).map fun y => IsV (.str y)).length).filter (fun k => !decide ((x :: lets8).getD k "" ∈ xs)) = k :: L := by
      obtain ⟨y, hy, hny⟩ := free_one (xs := xs) (by omega)
      obtain ⟨k, hk⟩ := List.mem_iff_getElem?.mp (List.mem_cons_of_mem x hy)
      have hkl : k < (x :: lets8).length := (List.getElem?_eq_some_iff.mp hk).1
      have : k ∈ (List.range ((x :: lets8).map fun y => IsV (.str y)).length).filter (fun k => !decide ((x :: lets8).getD k "" ∈ xs)) := by
        rw [List.mem_filter, List.mem_range, List.length_map]
        refine ⟨hkl, ?_⟩
        rw [List.getD_eq_getElem?_getD, hk]
        simp [hny]
      cases hf : (List.range ((x :: lets8).map fun y => IsV (.str y)).length).filter (fun k => !decide ((x :: lets8).getD k "" ∈ xs)) with
      | nil =>
        rw [hf] at this
        exact (List.not_mem_nil this).elim
      | cons a b => exact ⟨a, b, rfl⟩
    rw [hkL] at h5
    have hk : k < (x :: lets8).length ∧ (x :: lets8).getD k "" ∉ xs := by
      have : k ∈ (List.range ((x :: lets8).map fun y => IsV (.str y)).length).filter (fun k => !decide ((x :: lets8).getD k "" ∈ xs)) := by rw [hkL]; exact List.mem_cons_self
      rw [List.mem_filter, List.mem_range, List.length_map] at this
      exact ⟨this.1, by simpa using this.2⟩
    have hnk : My.IsNm ((x :: lets8).getD k "") := by
      rw [List.getD_eq_getElem?_getD, List.getElem?_eq_getElem hk.1]
      rcases List.mem_cons.mp (List.getElem_mem hk.1) with e | e
      · show My.IsNm (x :: lets8)[k]
        rw [e]
        exact hx
      · exact lets_nm _ e
    match ys, h5 with
    | y :: ys, h5 =>
      obtain rfl : y = .str ((x :: lets8).getD k "") := h5.1
      have hL4 := g4.a _ _ hL3
      refine ⟨.ref l, rfl, .inl ⟨rfl, _, sq_of hL4⟩, .ref p4, rfl, p4, _, 0, _, rfl, rfl, sq_of (g4.c _ _ h4), (show atI _ ((0 : Nat) : Int) = _ from atI_nat rfl), l, _, _, rfl, rfl, hL4, sz_lt (by rw [List.length_map]; omega), ?_⟩
      have hd4 : DSt H4 d (n + 60 * i + 50) := hd2.ex e24
      refine ⟨xs ++ [(x :: lets8).getD k ""], _, _, _, rfl, by rw [upd_same, List.map_append]; rfl, by rw [List.length_append, hlen]; rfl, ?_, ?_, (hd4.upd ld).le (by omega), ?_⟩
      · rw [List.nodup_append]
        exact ⟨hnd, by simp, fun a ha b hb => by
          rw [List.mem_singleton.mp hb]
          rintro rfl
          exact hk.2 ha⟩
      · intro y hy
        rcases List.mem_append.mp hy with hy | hy
        · exact hnm y hy
        · rw [List.mem_singleton.mp hy]
          exact hnk
      · intro b o hb e
        have hbl : b ≠ l := ne_of_none e hl
        rw [upd_ne hbl]
        exact e24 _ _ (S2 b o hb (S1 b o hb e))
  · rintro σ H1 ⟨xs, x3, x4, x5, rfl, hL, hlen, hnd, hnm, hd1, S1⟩
    exact ⟨.ref l, rfl, q l xs H1 hl hL hlen hnd hnm (hd1.le (by omega)) S1 ld.symm⟩

end
end K12
namespace K12
set_option autoImplicit false
open PySem PySem.W L2 Evl My LamX
def spDer : Sp := fun vs H Q _ => ∃ (B : Hp) (d : Addr) (n hi : Nat) (r : Rk) (vn : V), vs = [.ref d, vn, .int (r.axs.length : Nat), .int (hi : Nat)] ∧ hi ≤ 20 ∧ r.Ok ∧ (NmP r.ns).P vn B ∧ Ex B H ∧ B d = none ∧ DSt H d n ∧ n ≤ 2 ^ 36 ∧
  ∀ (u : Dv) (B' H' : Hp) (v : V), u.Of r → u.i + u.j ≤ hi → GrD d B H B' H' → DSt H' d (n + 20) → (DvP u).P v B' → Q v H'
def spBy (K : PySem.W.Frag) : Sp := fun vs H Q _ => ∃ (d : Addr) (n : Nat), vs = [.ref d] ∧ DSt H d n ∧ n ≤ 2 ^ 36 ∧ ∀ (v : V) (r : Rk) (B' H' : Hp), r.Ok → (RkP K r).P v B' → Ex B' H' → NoTab B' → B' d = none → SameBut d H H' → DSt H' d (n + 300) → Q v H'
def Ronce : List Pr → Pr → Prop := fun ps p => ∃ (u : Dv) (x : Str), ps = [DvP u, IsV (.str x)] ∧ p = DvP (u.up x)
def R3 (K : PySem.W.Frag) : List Pr → Pr → Prop := fun ps p => ∃ (r : Rk) (a b c : Dv), r.Ok ∧ a.Of r ∧ b.Of r ∧ c.Of r ∧ ps = [RkP K r, DvP a, DvP b, DvP c] ∧ p = IsV (.bl true)
theorem of_up {r : Rk} {u : Dv} {x : Str} (h : u.Of r) (hx : x ∈ r.axs) : (u.up x).Of r := by
  obtain ⟨h1, h2, h3, h4⟩ := h
  unfold Dv.up
  by_cases e : x = "x"
  · rw [if_pos e]
    exact ⟨h1, by show 0 ≤ u.i + 1; omega, h3, h4⟩
  · rw [if_neg e]
    refine ⟨h1, h2, by show 0 ≤ u.j + 1; omega, .inr ?_⟩
    have := ax_mem r x hx
    simp only [List.mem_cons, List.not_mem_nil, or_false] at this
    rcases this with a | a
    · exact (e a).elim
    · rw [← a]
      exact hx
theorem ax_two (r : Rk) : (r.axs.length = 2) ↔ (Str.ofString "y") ∈ r.axs := by
  have : ∀ a : Fin 3, ((axsOf a).length = 2) ↔ (Str.ofString "y") ∈ axsOf a := by decide +kernel
  exact this r.ax
theorem eqv_dv (u v : Dv) : PyData.eqv u.D v.D = decide (u = v) := by
  obtain ⟨n, i, j⟩ := u
  obtain ⟨n', i', j'⟩ := v
  unfold Dv.D
  rw [PyData.eqv, Bool.eq_iff_iff]
  simp [PyData.eqvAll, PyData.eqv]
theorem strOk_nm {x : Str} (h : My.IsNm x) : PyData.strOk x = true := by
  have h2 := (nm_facts h).2.2
  unfold PyData.strOk
  rw [Array.all_eq_true']
  intro c hc
  have := h2 c hc
  simp
  omega
theorem sh_dv {r : Rk} {u : Dv} (hr : r.Ok) (h : u.Of r) : SeqAt.shaped u.D = true := by
  have := strOk_nm (hr.nm _ h.n)
  unfold Dv.D SeqAt.shaped
  simp [PyData.canLay0, PyData.canLayAll0, PyData.depth, PyData.depthAll, this]
section
variable {P : Program} {w : World} {K : PySem.W.Frag} {mg : Str → Option Value} {base : Heap}

/-- _law_derivative -/
abbrev s_Lderivative : Stmt := topS 37
abbrev N_Lderivative : List Str := ["_law_state", "_law_names_here", "_law_axes", "_law_high", "_law_name", "_law_total", "_law_j"]
theorem sc_Lderivative : FnScope N_Lderivative ["_law_state", "_law_names_here", "_law_axes", "_law_high"] (defScope s_Lderivative) := ⟨rfl, rfl, rfl, by decide +kernel, rfl, by decide +kernel, by decide +kernel⟩
theorem ok_Lderivative {f : Addr} {fd : FuncData} (F : Fun K "_law_derivative" "_law_derivative" s_Lderivative f fd) {f_Ldigit : Addr} {d_Ldigit : FuncData} (c_Ldigit : Cal P w K mg base "_law_digit" 2 ["_law_state", "_law_size"] spDigit f_Ldigit d_Ldigit) (n_len : mg "len" = none)  :
    FnOk P w K mg base CX0 3 f fd ["_law_state", "_law_names_here", "_law_axes", "_law_high"] spDer := by
  refine F.ok sc_Lderivative (fun vs H Q E h => by obtain ⟨B, d, n, hi, r, vn, rfl, _⟩ := h; rfl) (fun cdv A outer s H vs Q E hr h => ?_)
  obtain ⟨B, d, n, hi, r, vn, rfl, hhi, hok, hN, hE, hBd, hd, hn, q⟩ := h
  have hu := hu_of hr
  refine ⟨_, (pss_cons (ps_par (i := 4) (j := 5) rfl sc_Lderivative.nd rfl rfl (by decide) rfl rfl (pa_cons (pe_ix ix_tup (pv 1) (pe_call c_Ldigit.G (hr.mono (by decide)) (by rfl) c_Ldigit.m c_Ldigit.k c_Ldigit.b .nil pass0 (pa_cons (pv 0) (pa_cons (pe_callB call_len_seq (by rfl) n_len (by decide +kernel) (pa_cons (pv 1) pa_nil)) pa_nil))) (fun _ _ => rfl)) (pa_cons (pe_call c_Ldigit.G (hr.mono (by decide)) (by rfl) c_Ldigit.m c_Ldigit.k c_Ldigit.b .nil pass0 (pa_cons (pv 0) (pa_cons (pe_op op_add (pv 3) pe_int) pa_nil))) pa_nil)) (by rfl))
    (pss_cons (ps_set (i := 6) sc_Lderivative.nd rfl (by first | exact .inl rfl | exact .inr rfl) (pe_ifExp (pt_cmpR op_eq (pv 2) pe_int (nomark _)) (pe_call c_Ldigit.G (hr.mono (by decide)) (by rfl) c_Ldigit.m c_Ldigit.k c_Ldigit.b .nil pass0 (pa_cons (pv 0) (pa_cons (pe_op op_add (pv 5) pe_int) pa_nil))) pe_int))
    (pss_one (ps_ret (pe_tup (pa_cons (pv 4) (pa_cons (pe_op op_sub (pv 5) (pv 6)) (pa_cons (pv 6) pa_nil)))))))), ?_⟩
  obtain ⟨a, ob, rfl, ha, hob⟩ := hN
  have hle := hok.le
  have hne := hok.ne
  have sq : ∀ {H' : Hp}, Ex B H' → SqT K H' a (r.ns.map V.str) := fun e => .inl (.inr ⟨ob, e _ _ ha⟩)
  refine ⟨.ref a, rfl, .ref d, rfl, .ref a, rfl, a, _, rfl, .inr (sq hE), d, _, n, rfl, by rw [List.length_map]; omega, by rw [List.length_map]; omega, hd, by omega, fun m H1 m0 m1 hd1 S1 => ?_⟩
  have e1 := ex_sb hE hBd S1
  rw [List.length_map] at m1
  obtain ⟨k, rfl⟩ : ∃ k : Nat, m = (k : Int) := ⟨m.toNat, by omega⟩
  have hk : k < r.ns.length := by omega
  refine ⟨a, _, _, _, rfl, rfl, sq e1, atI_nat (by rw [List.getElem?_map, List.getElem?_eq_getElem hk]; rfl), ?_⟩
  refine ⟨.ref d, rfl, .int (hi : Nat), rfl, _, _, rfl, rfl, d, _, n + 4, rfl, by omega, by omega, hd1, by omega, fun t H2 t0 t1 hd2 S2 => ?_⟩
  have e2 := ex_sb e1 hBd S2
  refine ⟨_, _, rfl, ?_⟩
  dsimp only
  have fin : ∀ (j : Int) (H3 : Hp), 0 ≤ j → j ≤ t → (j = 0 ∨ (Str.ofString "y") ∈ r.axs) → DSt H3 d (n + 12) → GrD d B H B H3 → tRet (tTup (tCons (tVar 4) (tCons (tOp (rI0 fun i j => .int (i - j)) (tVar 5) (tVar 6)) (tCons (tVar 6) tNil)))) { nx := fun _ H' => Q .non H', rt := Q } [some (.ref d), some (.ref a), some (.int (r.axs.length : Nat)), some (.int (hi : Nat)), some (.str r.ns[k]), some (.int t), some (.int j)] H3 := fun j H3 j0 j1 hy hd3 g3 => by
    refine My.ps_ret g3.c (p_dv (u := ⟨r.ns[k], t - j, j⟩) rfl rfl rfl (q_cons (p_varV rfl) (q_cons (p_ev (ev_op (ev_var rfl) (ev_var rfl) rv_I0)) (q_cons (p_varV rfl) q_nil)))) fun v B4 H4 g4 hv => ?_
    exact q _ _ _ v ⟨List.getElem_mem hk, by show 0 ≤ t - j; omega, j0, hy⟩ (by show t - j + j ≤ (hi : Int); omega) (g3.trans (GrD.gr g4 hBd hd3)) ((hd3.ex g4.a).le (by omega)) hv
  have g2 : GrD d B H B H2 := GrD.same hE hBd (sb_trans S1 S2)
  refine ⟨_, rfl, rfl, ?_⟩
  by_cases h2 : r.axs.length = 2
  · have : decide (V.int (r.axs.length : Nat) = V.int 2) = true := by rw [h2]; rfl
    rw [this]
    refine ⟨_, rfl, ?_⟩
    refine iteT ?_
    refine ⟨.ref d, rfl, .int t, rfl, _, _, rfl, rfl, d, t + 1, n + 8, rfl, by omega, by omega, hd2.le (by omega), by omega, fun j H3 j0 j1 hd3 S3 => ?_⟩
    exact fin j H3 j0 (by omega) (.inr ((ax_two r).mp h2)) (hd3.le (by omega)) (g2.trans (GrD.same e2 hBd S3))
  · have : decide (V.int (r.axs.length : Nat) = V.int 2) = false := by
      rw [decide_eq_false_iff_not]
      intro z
      injection z with z
      omega
    rw [this]
    refine ⟨_, rfl, ?_⟩
    refine iteF ?_
    exact fin 0 H2 (by omega) (by omega) (.inl rfl) (hd2.le (by omega)) g2

end
end K12
namespace K12
set_option autoImplicit false
open PySem PySem.W L2 Evl My LamX
theorem four_ax (m : Nat) (h : m < 4) : ∃ a : Fin 3, [PyData.tuple [.str "x"], .tuple [.str "x", .str "y"], .tuple [.str "x", .str "y"], .tuple [.str "y", .str "x"]][m]? = some (.tuple ((axsOf a).map .str)) := by
  match m, h with
  | 0, _ => exact ⟨0, rfl⟩
  | 1, _ => exact ⟨1, rfl⟩
  | 2, _ => exact ⟨1, rfl⟩
  | 3, _ => exact ⟨2, rfl⟩
section
variable {P : Program} {w : World} {K : PySem.W.Frag} {mg : Str → Option Value} {base : Heap}

/-- _law_by -/
abbrev s_Lby : Stmt := topS 38
abbrev N_Lby : List Str := ["_law_state", "_law_names_here", "_law_axes"]
theorem sc_Lby : FnScope N_Lby ["_law_state"] (defScope s_Lby) := ⟨rfl, rfl, rfl, by decide +kernel, rfl, by decide +kernel, by decide +kernel⟩
theorem ok_Lby {f : Addr} {fd : FuncData} (F : Fun K "_law_by" "_law_by" s_Lby f fd) {f_Lnames : Addr} {d_Lnames : FuncData} (c_Lnames : Cal P w K mg base "_law_names" 4 ["_law_state", "_law_many"] spNames f_Lnames d_Lnames) {f_Ldigit : Addr} {d_Ldigit : FuncData} (c_Ldigit : Cal P w K mg base "_law_digit" 2 ["_law_state", "_law_size"] spDigit f_Ldigit d_Ldigit) (n_tuple : mg "tuple" = none)  :
    FnOk P w K mg base CX0 5 f fd ["_law_state"] (spBy K) := by
  refine F.ok sc_Lby (fun vs H Q E h => by obtain ⟨d, n, rfl, _⟩ := h; rfl) (fun cdv A outer s H vs Q E hr h => ?_)
  obtain ⟨d, n, rfl, hd, hn, q⟩ := h
  have hu := hu_of hr
  refine ⟨_, (pss_cons (ps_set (i := 1) sc_Lby.nd rfl (by first | exact .inl rfl | exact .inr rfl) (pe_callTy call_tupleF (by rfl) n_tuple (by decide +kernel) (pa_cons (pe_call c_Lnames.G (hr.mono (by decide)) (by rfl) c_Lnames.m c_Lnames.k c_Lnames.b .nil pass0 (pa_cons (pv 0) (pa_cons (pe_op op_add pe_int (pe_call c_Ldigit.G (hr.mono (by decide)) (by rfl) c_Ldigit.m c_Ldigit.k c_Ldigit.b .nil pass0 (pa_cons (pv 0) (pa_cons pe_int pa_nil)))) pa_nil))) pa_nil)))
    (pss_cons (ps_set (i := 2) sc_Lby.nd rfl (by first | exact .inl rfl | exact .inr rfl) (pe_ix ix_list (pe_lst (pa_cons (pe_tup (pa_cons pe_str pa_nil)) (pa_cons (pe_tup (pa_cons pe_str (pa_cons pe_str pa_nil))) (pa_cons (pe_tup (pa_cons pe_str (pa_cons pe_str pa_nil))) (pa_cons (pe_tup (pa_cons pe_str (pa_cons pe_str pa_nil))) pa_nil))))) (pe_call c_Ldigit.G (hr.mono (by decide)) (by rfl) c_Ldigit.m c_Ldigit.k c_Ldigit.b .nil pass0 (pa_cons (pv 0) (pa_cons pe_int pa_nil))) (fun _ _ => rfl)))
    (pss_one (ps_ret (pe_tup (pa_cons (pe_ix ix_list (pe_lst (pa_cons pe_str (pa_cons pe_str pa_nil))) (pe_call c_Ldigit.G (hr.mono (by decide)) (by rfl) c_Ldigit.m c_Ldigit.k c_Ldigit.b .nil pass0 (pa_cons (pv 0) (pa_cons pe_int pa_nil))) (fun _ _ => rfl)) (pa_cons (pv 1) (pa_cons (pv 2) pa_nil)))))))), ?_⟩
  refine ⟨.ref d, rfl, .ref d, rfl, d, 3, n, rfl, by decide, by decide, hd, by omega, fun m H1 m0 m1 hd1 S1 => ?_⟩
  obtain ⟨k, rfl⟩ : ∃ k : Nat, m = (k : Int) := ⟨m.toNat, by omega⟩
  refine ⟨_, _, rfl, rfl, d, n + 4, 1 + k, by rw [show ((1 + k : Nat) : Int) = 1 + (k : Int) by omega]; rfl, by omega, hd1, by omega, fun p xs H2 hp h2 hlen hnd hnm hd2 S2 pd => ?_⟩
  refine ⟨p, _, rfl, sq_of h2, fun l ob hl hob => ?_⟩
  have ld : d ≠ l := hd2.ne hl
  -- what is known: the names
  let B1 : Hp := upd (fun _ => none) l (.frz ob (.tup (xs.map V.str)))
  have b1e : Ex B1 (upd H2 l (.frz ob (.tup (xs.map V.str)))) := fun b o e => by
    by_cases z : b = l
    · subst z
      have e : upd (fun _ => none) b (.frz ob (.tup (xs.map V.str))) b = some o := e
      rw [upd_same] at e
      rw [upd_same]
      exact e
    · have e : upd (fun _ => none) l (.frz ob (.tup (xs.map V.str))) b = some o := e
      rw [upd_ne z] at e
      cases e
  have b1d : B1 d = none := by show upd (fun _ => none) l _ d = none; rw [upd_ne ld]
  have b1n : NoTab B1 := nt_upd (fun _ _ z => nomatch z) fun _ z => nomatch z
  have b1l : B1 l = some (.frz ob (.tup (xs.map V.str))) := upd_same
  have hd3 : DSt (upd H2 l (.frz ob (.tup (xs.map V.str)))) d (n + 4 + 200) := hd2.upd ld
  have S3 : SameBut d H (upd H2 l (.frz ob (.tup (xs.map V.str)))) := sb_new (sb_trans S1 S2) (sb_free (sb_trans S1 S2) ld.symm hl)
  generalize upd H2 l (.frz ob (.tup (xs.map V.str))) = H3 at b1e hd3 S3
  dsimp only [tSeq, tAsg, gName]
  have el := ed_lst (K := K) (σ := [some (.ref d), some (.ref l), none]) (B := B1) (ds := [PyData.tuple [.str "x"], .tuple [.str "x", .str "y"], .tuple [.str "x", .str "y"], .tuple [.str "y", .str "x"]])
    (q_cons (ed_tup (ds := [.str "x"]) (q_cons (ed_st ev_c) q_nil) (by decide)) (q_cons (ed_tup (ds := [.str "x", .str "y"]) (q_cons (ed_st ev_c) (q_cons (ed_st ev_c) q_nil)) (by decide)) (q_cons (ed_tup (ds := [.str "x", .str "y"]) (q_cons (ed_st ev_c) (q_cons (ed_st ev_c) q_nil)) (by decide)) (q_cons (ed_tup (ds := [.str "y", .str "x"]) (q_cons (ed_st ev_c) (q_cons (ed_st ev_c) q_nil)) (by decide)) q_nil)))) (by decide)
  refine el H3 b1e _ fun v B2 H4 g4 hv => ?_
  have gd := GrD.gr g4 b1d hd3
  have hd4 := hd3.ex g4.a
  cases hv with
  | @lst pl vs _ hx hy =>
    refine ⟨.ref d, rfl, d, 4, _, rfl, by decide, by decide, hd4, by omega, fun m5 H5 m0' m1' hd5 S5 => ?_⟩
    have e5 := ex_sb gd.c gd.d S5
    obtain ⟨k5, rfl⟩ : ∃ k : Nat, m5 = (k : Int) := ⟨m5.toNat, by omega⟩
    obtain ⟨ax, hax⟩ := four_ax k5 (by omega)
    obtain ⟨va, hva, dva⟩ := dps_ix hy hax
    refine ⟨pl, vs, _, va, rfl, rfl, ex_l e5 hx, atI_nat hva, ?_⟩
    refine ⟨by decide, fun p6 hp6 => ?_⟩
    have d6 : d ≠ p6 := hd5.ne hp6
    have e6 : Ex B2 (upd H5 p6 (.lst [.str "total", .str "names"])) := e5.trans (Ex.new hp6)
    refine ⟨.ref d, rfl, d, 2, _, rfl, by decide, by decide, hd5.upd d6, by omega, fun m7 H7 m0' m1' hd7 S7 => ?_⟩
    have e7 := ex_sb e6 gd.d S7
    have h7 := S7 _ _ d6.symm upd_same
    obtain ⟨tt, htt⟩ : ∃ tt : Bool, atI [V.str "total", V.str "names"] m7 = some (.str (if tt then "total" else "names")) := by
      obtain ⟨k7, rfl⟩ : ∃ k : Nat, m7 = (k : Int) := ⟨m7.toNat, by omega⟩
      have : k7 = 0 ∨ k7 = 1 := by omega
      rcases this with rfl | rfl
      · exact ⟨true, rfl⟩
      · exact ⟨false, rfl⟩
    refine ⟨p6, _, _, _, rfl, rfl, sq_of h7, htt, ?_⟩
    refine ⟨.ref l, rfl, va, rfl, by show 3 ≤ sizeLine; decide, fun p8 hp8 => ?_⟩
    have d8 : d ≠ p8 := hd7.ne hp8
    have hB8 : B2 p8 = none := fresh_back e7 hp8
    let r : Rk := ⟨tt, xs, ax⟩
    refine q (.ref p8) r (upd B2 p8 (.tup [.str r.srt, .ref l, va])) _ ⟨by show 1 ≤ xs.length; omega, by show xs.length ≤ 3; omega, hnd, hnm⟩ ?_ ?_ (nt_upd (g4.e b1n) fun _ z => nomatch z) (by rw [upd_ne d8]; exact gd.d) ?_ ?_
    · exact ⟨p8, .ref l, va, rfl, st_of upd_same, ⟨l, ob, rfl, Ex.new hB8 _ _ (g4.b _ _ b1l), hob⟩, dp_m (Ex.new hB8) dva⟩
    · exact fun b o e => by
        by_cases z : b = p8
        · subst z
          rw [upd_same] at e
          rw [upd_same]
          exact e
        · rw [upd_ne z] at e
          rw [upd_ne z]
          exact e7 b o e
    · have SA := sb_trans (sb_trans (sb_trans S3 gd.s) S5) (sb_same (My.new (o := .lst [.str "total", .str "names"]) hp6))
      have SB := sb_trans SA S7
      exact sb_new SB (sb_free SB d8.symm hp8)
    · exact (hd7.upd d8).le (by omega)

end
end K12
namespace My
set_option autoImplicit false
open PySem PySem.W L2 Evl LamX
theorem all_drop {H : Hp} : ∀ {ps : List Pr} {vs : List V}, AllP ps vs H → ∀ n : Nat, AllP (ps.drop n) (vs.drop n) H
  | _, _, h, 0 => h
  | [], [], _, _ + 1 => trivial
  | _ :: _, _ :: _, h, n + 1 => all_drop h.2 n
theorem ls_dp0 {K : PySem.W.Frag} {us : List Dv} {v : V} {H : Hp} (h : (LsP (us.map DvP)).P v H) : Dp K H v (.list (us.map Dv.D)) := by
  obtain ⟨r, xs, rfl, hr, hx⟩ := h
  refine .lst (sq_of hr) ?_
  clear hr
  induction us generalizing xs with
  | nil =>
    match xs, hx with
    | [], _ => exact .nil
  | cons u us ih =>
    match xs, hx with
    | x :: xs, h => exact .cons (dv_d h.1) (ih _ h.2)
theorem shp_dv' {r : Rk} {u : Dv} (hr : r.Ok) (h : u.Of r) : SeqAt.shaped u.D = true := Gd.shp_dv hr h
theorem ps_parE {i j : Nat} {t : TA} {σ : L2.St} {B H : Hp} {p q : Pr} {D : Ends} (a : Ex B H) (h : EvPs t σ B [p, q]) (n : ∀ v w B1 H1, Gr B H B1 H1 → p.P v B1 → q.P w B1 → D.nx ((σ.set i (some v)).set j (some w)) H1) : tPar i j t D σ H := h H a _ fun vs B1 H1 g x => by
  match vs, x with
  | [v, w], x => exact ⟨v, w, rfl, n v w B1 H1 g x.1 x.2.1⟩
end My
namespace K12
set_option autoImplicit false
open PySem PySem.W L2 Evl My LamX
def Rab (K : PySem.W.Frag) : List Pr → Pr → Prop := fun ps p => ∃ (r : Rk) (a b : Dv), r.Ok ∧ a.Of r ∧ b.Of r ∧ ps = [RkP K r, DvP a, DvP b] ∧ p = IsV (.bl (decide (r.lt b a)))
def Rris (K : PySem.W.Frag) : List Pr → Pr → Prop := fun ps p => ∃ (r : Rk) (us : List Dv), r.Ok ∧ (∀ u ∈ us, Dv.Of u r) ∧ us.length ≤ 1000 ∧ ps = [RkP K r, LqP K (us.map DvP)] ∧ p = LsP ((r.rise us).map DvP)
def RallL (K : PySem.W.Frag) : List Pr → Pr → Prop := fun ps p => ∃ (r : Rk) (o : Nat), r.Ok ∧ o ≤ 12 ∧ ps = [RkP K r, IsV (.int (o : Nat))] ∧ p = LsP ((r.lines o r.ns.length).map DvP)
theorem eqv_dv2 (u v : Dv) : PyData.eqv u.D v.D = decide (u = v) := by
  obtain ⟨n, i, j⟩ := u
  obtain ⟨n', i', j'⟩ := v
  unfold Dv.D
  rw [PyData.eqv, Bool.eq_iff_iff]
  simp [PyData.eqvAll, PyData.eqv]
theorem any_dv (us : List Dv) (a : Dv) : ((us.map Dv.D).any fun z => PyData.eqv z a.D) = decide (a ∈ us) := by
  rw [Bool.eq_iff_iff, List.any_map, List.any_eq_true, decide_eq_true_iff]
  constructor
  · rintro ⟨u, hu, e⟩
    have e : PyData.eqv u.D a.D = true := e
    rw [eqv_dv2] at e
    rw [← of_decide_eq_true e]
    exact hu
  · intro h
    refine ⟨a, h, ?_⟩
    show PyData.eqv a.D a.D = true
    rw [eqv_dv2]
    simp
theorem range_filter {α : Type} (p : α → Bool) (d : α) : ∀ l : List α, ((List.range l.length).filter fun k => p (l.getD k d)).length = (l.filter p).length := by
  intro l
  have : l = (List.range l.length).map fun k => l.getD k d := by
    apply List.ext_getElem?
    intro i
    by_cases h : i < l.length
    · rw [List.getElem?_map, List.getElem?_range h, Option.map_some, List.getD_eq_getElem?_getD, List.getElem?_eq_getElem h]
      rfl
    · rw [List.getElem?_eq_none (by omega), List.getElem?_eq_none (by simp; omega)]
  conv => rhs; rw [this]
  rw [List.filter_map, List.length_map]
  rfl
section
variable {P : Program} {w : World} {K : PySem.W.Frag} {mg : Str → Option Value} {base : Heap}

/-- _law_is_above -/
abbrev s_Lis_above : Stmt := topS 39
abbrev N_Lis_above : List Str := ["_law_by_here", "_law_a", "_law_b", "_law_sort", "_law_names_here", "_law_axes", "_law_places", "_law_k"]
theorem sc_Lis_above : FnScope N_Lis_above ["_law_by_here", "_law_a", "_law_b"] (defScope s_Lis_above) := ⟨rfl, rfl, rfl, by decide +kernel, rfl, by decide +kernel, by decide +kernel⟩
theorem ok_Lis_above {f : Addr} {fd : FuncData} (F : Fun K "_law_is_above" "_law_is_above" s_Lis_above f fd)    :
    FnOk P w K mg base CX0 1 f fd ["_law_by_here", "_law_a", "_law_b"] (spP (Rab K)) := by
  refine F.ok sc_Lis_above (spP_len (by rintro _ _ ⟨r, a, b, _, _, _, rfl, rfl⟩; rfl)) (fun cdv A outer s H vs Q E hr h => ?_)
  obtain ⟨B, ps, p, eB, hv, ⟨r, a, b, hok, ha, hb, rfl, rfl⟩, q⟩ := h
  obtain ⟨v0, v1, v2, rfl, h0, h1, h2⟩ := all3 hv
  have hu := hu_of hr
  refine ⟨_, (pss_cons (ps_asg (pv 0) (pg_tup (by rfl) (pgs_cons (pg_name (i := 3) sc_Lis_above.nd rfl (by first | exact .inl rfl | exact .inr rfl)) (pgs_cons (pg_name (i := 4) sc_Lis_above.nd rfl (by first | exact .inl rfl | exact .inr rfl)) (pgs_cons (pg_name (i := 5) sc_Lis_above.nd rfl (by first | exact .inl rfl | exact .inr rfl)) pgs_nil)))))
    (pss_cons (ps_par (i := 6) (j := 7) rfl sc_Lis_above.nd rfl rfl (by decide) rfl rfl (pa_cons (pe_tup (pa_cons (pe_tupIndex (pv 4) (pe_ix ix_tup (pv 1) pe_int (fun _ _ => rfl))) (pa_cons (pe_tupIndex (pv 4) (pe_ix ix_tup (pv 2) pe_int (fun _ _ => rfl))) pa_nil))) (pa_cons (pe_ifExp (pt_cmpR op_eq (pe_ix ix_tup (pv 5) pe_int (fun _ _ => rfl)) pe_str (nomark _)) pe_int pe_int) pa_nil)) (by rfl))
    (pss_cons (ps_if (PW.pt (pw_and (pt_cmpR op_eq (pv 3) pe_str (nomark _)) (pw_and1 (pt_cmpR op_ne (pe_ix ix_tup (pv 1) pe_int (fun _ _ => rfl)) (pe_ix ix_tup (pv 2) pe_int (fun _ _ => rfl)) (nomark _))))) (pss_one (ps_ret (pe_cmpR op_lt (pe_ix ix_tup (pv 6) pe_int (fun _ _ => rfl)) (pe_ix ix_tup (pv 6) pe_int (fun _ _ => rfl)) (nomark _)))) pss_nil)
    (pss_cons (ps_if (pt_cmpR op_ne (pe_op op_add (pe_ix ix_tup (pv 1) pe_int (fun _ _ => rfl)) (pe_ix ix_tup (pv 1) pe_int (fun _ _ => rfl))) (pe_op op_add (pe_ix ix_tup (pv 2) pe_int (fun _ _ => rfl)) (pe_ix ix_tup (pv 2) pe_int (fun _ _ => rfl))) (nomark _)) (pss_one (ps_ret (pe_cmpR op_gt (pe_op op_add (pe_ix ix_tup (pv 1) pe_int (fun _ _ => rfl)) (pe_ix ix_tup (pv 1) pe_int (fun _ _ => rfl))) (pe_op op_add (pe_ix ix_tup (pv 2) pe_int (fun _ _ => rfl)) (pe_ix ix_tup (pv 2) pe_int (fun _ _ => rfl))) (nomark _)))) pss_nil)
    (pss_one (ps_ret (pe_ifExp (pt_cmpR op_ne (pe_ix ix_tup (pv 1) (pv 7) (fun _ _ => rfl)) (pe_ix ix_tup (pv 2) (pv 7) (fun _ _ => rfl)) (nomark _)) (pe_cmpR op_gt (pe_ix ix_tup (pv 1) (pv 7) (fun _ _ => rfl)) (pe_ix ix_tup (pv 2) (pv 7) (fun _ _ => rfl)) (nomark _)) (pe_cmpR op_lt (pe_ix ix_tup (pv 6) pe_int (fun _ _ => rfl)) (pe_ix ix_tup (pv 6) pe_int (fun _ _ => rfl)) (nomark _))))))))), ?_⟩
  refine ps_unR (K := K) eB (p_var rfl h0) fun vn va B1 H1 g1 n2 n3 => ?_
  dsimp only
  have m1 := (DvP a).m g1.b h1
  have m2 := (DvP b).m g1.b h2
  let kI : Int := if r.ax = 2 then 2 else 1
  have at_ : ∀ u : Dv, atI [PyData.str u.n, .int u.i, .int u.j] kI = some (.int (r.first u)) := fun u => by
    show atI _ (if r.ax = 2 then 2 else 1) = _
    unfold Rk.first
    by_cases e : r.ax = 2
    · rw [if_pos e, if_pos e]; rfl
    · rw [if_neg e, if_neg e]; rfl
  have ix : ∀ {σ : L2.St} {B' : Hp} (i : Nat) {u : Dv} {x : V}, σ[i]? = some (some x) → (DvP u).P x B' → Ev (tOp (rIxT K) (tVar i) (tC (.int 0))) σ B' (.str u.n) ∧ Ev (tOp (rIxT K) (tVar i) (tC (.int 1))) σ B' (.int u.i) ∧ Ev (tOp (rIxT K) (tVar i) (tC (.int 2))) σ B' (.int u.j) ∧ (σ[7]? = some (some (.int kI)) → Ev (tOp (rIxT K) (tVar i) (tVar 7)) σ B' (.int (r.first u))) :=
    by
    intro σ B' i u x s h
    exact ⟨ev_st (K := K) (ed_ixT (ed_dv (p_var s h)) ev_c rfl), ev_in (K := K) (ed_ixT (ed_dv (p_var s h)) ev_c rfl), ev_in (K := K) (ed_ixT (ed_dv (p_var s h)) ev_c rfl), fun s7 => ev_in (K := K) (ed_ixT (ed_dv (p_var s h)) (ev_var s7) (at_ u))⟩
  refine ps_parE (i := 6) (j := 7) (p := TuP K [IsV (.int (r.ns.idxOf a.n : Nat)), IsV (.int (r.ns.idxOf b.n : Nat))]) (q := IsV (.int kI)) g1.c (q_cons (p_tup (ps := [IsV (.int (r.ns.idxOf a.n : Nat)), IsV (.int (r.ns.idxOf b.n : Nat))]) (q_cons (p_ev (ev_tupIx (p_var rfl n2) (ix 1 rfl m1).1 ha.n)) (q_cons (p_ev (ev_tupIx (p_var rfl n2) (ix 2 rfl m2).1 hb.n)) q_nil)) (by show 2 ≤ 100000; decide)) (q_cons (p_ev (ev_if (b := decide (r.ax ≠ 2)) (et_is (et_test (ev_op (ev_st (ed_ixT (ed_var rfl n3) ev_c (ax_first r))) ev_c (rv_eq rfl))) (ax_dec r)) (fun hb => ev_is ev_c (by show V.int 1 = V.int (if r.ax = 2 then 2 else 1); rw [if_neg (of_decide_eq_true hb)])) fun hb => ev_is ev_c (by show V.int 2 = V.int (if r.ax = 2 then 2 else 1); rw [if_pos (Decidable.not_not.mp (of_decide_eq_false hb))]))) q_nil)) fun w6 w7 B2 H2 g2 p6 p7 => ?_
  obtain rfl : w7 = .int kI := p7
  dsimp only
  have hab : decide (r.lt b a) = r.abv a b := (r.abv_lt ha.n hb.n).symm
  rw [hab] at q
  have l1 := (DvP a).m g2.b m1
  have l2 := (DvP b).m g2.b m2
  have pl : ∀ {σ : L2.St} {B' : Hp}, σ[6]? = some (some w6) → Ex B2 B' → Ev (tOp (rI0 fun i j => .bl (decide (i < j))) (tOp (rIxT K) (tVar 6) (tC (.int 0))) (tOp (rIxT K) (tVar 6) (tC (.int 1)))) σ B' (.bl (decide (((r.ns.idxOf a.n : Nat) : Int) < (r.ns.idxOf b.n : Nat)))) := by
    intro σ B' s e
    exact ev_op (ev_p (p_ixT (p_var s ((TuP K _).m e p6)) p_c rfl)) (ev_p (p_ixT (p_var s ((TuP K _).m e p6)) p_c rfl)) rv_I0
  have gg := g1.trans g2
  have c1 := et_and (et_is (et_test (ev_op (ev_var (i := 3) (σ := [some v0, some v1, some v2, some (.str r.srt), some vn, some va, some w6, some (.int kI)]) rfl) (ev_c (v := .str "names")) (rv_eq rfl))) (b := !r.tot) (by unfold Rk.srt; cases r.tot <;> decide +kernel)) fun _ => et_is (et_test (ev_op (ix 1 rfl l1).1 (ix 2 rfl l2).1 (rv_ne rfl))) (b := decide (a.n ≠ b.n)) (by by_cases e : a.n = b.n <;> simp [e])
  cases hc : (!r.tot && decide (a.n ≠ b.n)) with
  | true =>
    rw [hc] at c1
    refine My.ps_ifT g2.c c1 fun H3 e3 => ?_
    refine My.ps_ret (g2.c.trans e3) (p_ev (v := .bl (r.abv a b)) (ev_is (pl rfl (Ex.refl _)) ?_)) fun v B4 H4 g4 hp => q v B4 H4 ((gg.trans (Gr.wide g2.c e3)).trans g4) hp
    have hc2 : r.tot = false ∧ a.n ≠ b.n := by simpa using hc
    unfold Rk.abv
    rw [if_pos hc2]
    simp
  | false =>
    rw [hc] at c1
    refine ps_ifN g2.c c1 fun H3 e3 => ?_
    dsimp only
    have hc2 : ¬ (r.tot = false ∧ a.n ≠ b.n) := fun z => by simp [z.1, z.2] at hc
    have ex3 := g2.c.trans e3
    have c2 := et_is (et_test (ev_op (ev_op (ix 1 (σ := [some v0, some v1, some v2, some (.str r.srt), some vn, some va, some w6, some (.int kI)]) rfl l1).2.1 (ix 1 rfl l1).2.2.1 (rv_I0 (g := fun i j => .int (i + j)))) (ev_op (ix 2 rfl l2).2.1 (ix 2 rfl l2).2.2.1 (rv_I0 (g := fun i j => .int (i + j)))) (rv_ne rfl))) (b := decide (a.i + a.j ≠ b.i + b.j)) (by by_cases e : a.i + a.j = b.i + b.j <;> simp [e])
    by_cases h2 : a.i + a.j ≠ b.i + b.j
    · rw [decide_eq_true h2] at c2
      refine My.ps_ifT ex3 c2 fun H4 e4 => ?_
      refine My.ps_ret (ex3.trans e4) (p_ev (v := .bl (r.abv a b)) (ev_is (ev_op (ev_op (ix 1 rfl l1).2.1 (ix 1 rfl l1).2.2.1 (rv_I0 (g := fun i j => .int (i + j)))) (ev_op (ix 2 rfl l2).2.1 (ix 2 rfl l2).2.2.1 (rv_I0 (g := fun i j => .int (i + j)))) (rv_I0 (g := fun i j => .bl (decide (j < i))))) ?_)) fun v B4 H4 g4 hp => q v B4 H4 ((gg.trans (Gr.wide g2.c (e3.trans e4))).trans g4) hp
      unfold Rk.abv
      rw [if_neg hc2, if_pos h2]
    · rw [decide_eq_false h2] at c2
      refine ps_ifN ex3 c2 fun H4 e4 => ?_
      dsimp only
      refine My.ps_ret (ex3.trans e4) (p_ev (v := .bl (r.abv a b)) (ev_if (b := decide (r.first a ≠ r.first b)) (et_is (et_test (ev_op ((ix 1 rfl l1).2.2.2 rfl) ((ix 2 rfl l2).2.2.2 rfl) (rv_ne rfl))) (by by_cases e : r.first a = r.first b <;> simp [e])) (fun hb => ev_is (ev_op ((ix 1 rfl l1).2.2.2 rfl) ((ix 2 rfl l2).2.2.2 rfl) (rv_I0 (g := fun i j => .bl (decide (j < i))))) ?_) fun hb => ev_is (pl rfl (Ex.refl _)) ?_)) fun v B4 H4 g4 hp => q v B4 H4 ((gg.trans (Gr.wide g2.c (e3.trans e4))).trans g4) hp
      · unfold Rk.abv
        rw [if_neg hc2, if_neg h2, if_pos (of_decide_eq_true hb)]
      · unfold Rk.abv
        rw [if_neg hc2, if_neg h2, if_neg (of_decide_eq_false hb)]
        simp

/-- _law_rising -/
abbrev s_Lrising : Stmt := topS 40
abbrev N_Lrising : List Str := ["_law_by_here", "_law_rows", "_law_found", "_law_a", "_law_at", "_law_b"]
theorem sc_Lrising : FnScope N_Lrising ["_law_by_here", "_law_rows"] (defScope s_Lrising) := ⟨rfl, rfl, rfl, by decide +kernel, rfl, by decide +kernel, by decide +kernel⟩
theorem ok_Lrising {f : Addr} {fd : FuncData} (F : Fun K "_law_rising" "_law_rising" s_Lrising f fd) {f_Lis_above : Addr} {d_Lis_above : FuncData} (c_Lis_above : Cal P w K mg base "_law_is_above" 1 ["_law_by_here", "_law_a", "_law_b"] (spP (Rab K)) f_Lis_above d_Lis_above) (n_len : mg "len" = none)  :
    FnOk P w K mg base CX0 2 f fd ["_law_by_here", "_law_rows"] (spP (Rris K)) := by
  refine F.ok sc_Lrising (spP_len (by rintro _ _ ⟨r, us, _, _, _, rfl, rfl⟩; rfl)) (fun cdv A outer s H vs Q E hr h => ?_)
  obtain ⟨B, ps, p, eB, hv, ⟨r, us, hok, hof, hlen, rfl, rfl⟩, q⟩ := h
  obtain ⟨v0, v1, rfl, h0, h1⟩ := all2 hv
  have hu := hu_of hr
  refine ⟨_, (pss_cons (ps_set (i := 2) sc_Lrising.nd rfl (by first | exact .inl rfl | exact .inr rfl) (pe_lst pa_nil))
    (pss_cons (ps_for PassesOwn.never rfl (pi_list (pv 1)) (pg_name (i := 3) sc_Lrising.nd rfl (by first | exact .inl rfl | exact .inr rfl))
      (pss_one (ps_if (pt_cmpR (op_notInD (by have h := hr.un; show (A.deeper _).units + 65 < cLine; omega)) (pv 3) (pv 2) (by rfl)) (pss_cons (ps_set (i := 4) sc_Lrising.nd rfl (by first | exact .inl rfl | exact .inr rfl) (pe_callB call_len_seq (by rfl) n_len (by decide +kernel) (pa_cons (pe_lc (own := [("_law_b", 5)]) rfl sc_Lrising.nd (pi_list (pv 2)) (blkOk_by (N := N_Lrising) (sc := defScope s_Lrising) (by decide +kernel)) (fun _ _ _ _ _ => (pg_name (i := 5) sc_Lrising.nd rfl (Or.inl rfl))) (fun _ _ _ _ _ => (pts_one (pt_val (pe_call c_Lis_above.G (hr.mono (by decide)) (by rfl) c_Lis_above.m c_Lis_above.k c_Lis_above.b .nil pass0 (pa_cons (pv 0) (pa_cons (pv 3) (pa_cons (pv 5) pa_nil))))))) (fun _ _ _ _ _ => (pv 5))) pa_nil)))
    (pss_one (ps_expr (pe_bm PySem.F.plainAttrs_list PySem.F.slot_list_insert PySem.F.type_list_insert mt_insert (pv 2) (pa_cons (pv 4) (pa_cons (pv 3) pa_nil)))))) pss_nil)))
    (pss_one (ps_ret (pv 2))))), ?_⟩
  obtain ⟨p1, ys, rfl, hp1, hal⟩ := h1
  have hyl : ys.length = us.length := by rw [hal.len, List.length_map]
  refine ⟨by decide, fun l hl => ?_⟩
  dsimp only
  have hBl : B l = none := fresh_back eB hl
  refine ⟨.ref p1, rfl, p1, rfl, ⟨ys, ex_l (Ex.mut eB hBl) hp1⟩, for_it (walk_list (K := K) (a := p1) (xs := ys)) (fun i σ' H' => ∃ C xs x3 x4, Gr B H C (wo l H') ∧ H' l = some (.lst xs) ∧ AllP (((us.take i).foldl r.put []).map DvP) xs C ∧ σ' = [some v0, some (.ref p1), some (.ref l), x3, x4, none]) ⟨B, [], none, none, by rw [wo_new hl]; exact Gr.refl eB, upd_same, trivial, rfl⟩ ?_ ?_ ?_⟩
  · rintro i σ' H' _ ⟨C, xs, x3, x4, g, _⟩
    exact ex_l (g.b.trans (g.c.trans wo_ex)) hp1
  · rintro i v σ' H1 H1' hi ⟨C, xs, x3, x4, g, hL, hx, rfl⟩ ⟨rfl, hvi⟩
    have hiu : i < us.length := by omega
    have pv : (DvP us[i]).P v B := by
      obtain ⟨u, hu, k⟩ := hal.ixD DvP hvi
      rw [List.getElem?_eq_getElem hiu] at hu
      obtain rfl := Option.some.inj hu
      exact k
    have step : (us.take (i + 1)).foldl r.put [] = r.put ((us.take i).foldl r.put []) us[i] := by
      rw [List.take_add_one, List.getElem?_eq_getElem hiu, List.foldl_append]
      rfl
    rw [step]
    have hof2 : ∀ u ∈ us.take i, u.n ∈ r.ns := fun u hu => (hof u (List.mem_of_mem_take hu)).n
    have memc : ∀ v, v ∈ (us.take i).foldl r.put [] → v ∈ us := fun v hv => by
      have := ((r.rise_all (us.take i) [] hof2 (fun u h => absurd h List.not_mem_nil) List.Pairwise.nil).2 v).mp hv
      rcases this with a | a
      · exact absurd a List.not_mem_nil
      · exact List.mem_of_mem_take a
    have lenc : ((us.take i).foldl r.put []).length ≤ i := by
      have : ∀ (us ds : List Dv), (us.foldl r.put ds).length ≤ ds.length + us.length := by
        intro us
        induction us with
        | nil => intro ds; simp
        | cons u us ih =>
          intro ds
          show (us.foldl r.put (r.put ds u)).length ≤ _
          have := ih (r.put ds u)
          have := r.put_len ds u
          rw [List.length_cons]
          omega
      have := this (us.take i) []
      rw [List.length_take] at this
      simp at this
      omega
    generalize (us.take i).foldl r.put [] = cur at hx memc lenc
    have oi : us[i].Of r := hof _ (List.getElem_mem hiu)
    have hCl : C l = none := wo_none g.c
    have exC : Ex C H1' := g.c.trans wo_ex
    have pvC := (DvP us[i]).m g.b pv
    have eL : Ex (upd C l (.lst xs)) H1' := fun b o e => by
      by_cases n : b = l
      · subst n
        rw [upd_same] at e
        rw [hL]
        exact e
      · rw [upd_ne n] at e
        exact exC b o e
    have hxl : xs.length = cur.length := by rw [hx.len, List.length_map]
    have dcur : Dp K H1' (.ref l) (.list (cur.map Dv.D)) := ls_dp0 ⟨l, xs, rfl, hL, hx.m exC⟩
    have shc : SeqAt.shaped (.list (cur.map Dv.D)) = true := sh_list fun z hz => shp_dv' hok (hof z (memc z hz))
    refine ⟨v, rfl, .ref l, rfl, us[i].D, cur.map Dv.D, dv_d ((DvP us[i]).m exC pvC), dcur, shp_dv' hok oi, shc, !decide (us[i] ∈ cur), by rw [any_dv], ?_⟩
    by_cases hm : us[i] ∈ cur
    · rw [decide_eq_true hm]
      refine iteF ?_
      unfold Rk.put
      rw [if_pos hm]
      exact ⟨C, xs, _, _, g, hL, hx, rfl⟩
    · rw [decide_eq_false hm]
      refine iteT ?_
      have hR : (RkP K r).P v0 (upd C l (.lst xs)) := (RkP K r).m (g.b.trans (Ex.new hCl)) h0
      have pvL := (DvP us[i]).m (Ex.new (o := .lst xs) hCl) pvC
      have lc := p_lcS (te := tVar 5) (g := gName 5) (vs := [5]) (σ := [some v0, some (.ref p1), some (.ref l), some v, x4, none]) (B := upd C l (.lst xs)) (tt := tB (tCall (spP (Rab K)) [] E0 (tCons (tVar 0) (tCons (tVar 3) (tCons (tVar 5) tNil)))))
        (src_lq (K := K) (te := tVar 2) (ps := cur.map DvP) (p_var rfl ⟨l, xs, rfl, sq_of upd_same, hx.m (Ex.new hCl)⟩)) (by rw [List.length_map]; omega) (fun k => decide (r.lt (cur.getD k us[i]) us[i])) (fun k => (cur.map DvP).getD k (IsV .non)) fun k w C1 hk e pw => by
          rw [List.length_map] at hk
          have hD : (cur.map DvP).getD k (IsV .non) = DvP cur[k] := by
            rw [List.getD_eq_getElem?_getD, List.getElem?_map, List.getElem?_eq_getElem hk]
            rfl
          have hc : cur.getD k us[i] = cur[k] := by
            rw [List.getD_eq_getElem?_getD, List.getElem?_eq_getElem hk]
            rfl
          rw [hD] at pw ⊢
          rw [hc]
          exact ⟨[some v0, some (.ref p1), some (.ref l), some v, x4, some w], rfl, fun H2 Q e q => q, et_B (ev_p (p_callP (ps := [RkP K r, DvP us[i], DvP cur[k]]) (q_cons (p_var rfl ((RkP K r).m e hR)) (q_cons (p_var rfl ((DvP us[i]).m e pvL)) (q_cons (p_var rfl pw) q_nil))) ⟨r, us[i], cur[k], hok, oi, hof _ (memc _ (List.getElem_mem hk)), rfl, rfl⟩)), fun _ => p_var rfl pw⟩
      rw [List.length_map] at lc
      dsimp only [tSeq, tAsg]
      refine ev_lenQ (p_lq lc) H1' eL _ fun H2 e2 => ?_
      rw [List.length_map, range_filter (fun b => decide (r.lt b us[i])) us[i] cur]
      show _
      have hL2 := e2 _ _ hL
      refine ⟨.ref l, rfl, .inl ⟨rfl, _, sq_of hL2⟩, _, rfl, v, rfl, l, xs, _, v, rfl, rfl, hL2, sz_lt (by omega), by omega, by have := r.spot_le cur us[i]; unfold Rk.spot at this; omega, ?_⟩
      have spot : ((cur.filter fun b => decide (r.lt b us[i])).length : Int).toNat = r.spot cur us[i] := rfl
      rw [spot]
      refine ⟨C, _, _, _, by rw [wo_upd]; exact g.trans (Gr.wide g.c (wo_mono e2)), upd_same, ?_, rfl⟩
      · unfold Rk.put
        rw [if_neg hm, ins_eq _ _ _ (r.spot_le cur us[i]), List.map_append, List.map_cons, List.append_assoc]
        have h1 := hx.take (r.spot cur us[i])
        have h2 := all_drop hx (r.spot cur us[i])
        rw [← List.map_take] at h1
        rw [← List.map_drop] at h2
        exact h1.app ⟨pvC, h2⟩
  · rintro σ' H1 ⟨C, xs, x3, x4, g, hL, hx, rfl⟩
    rw [hyl, List.take_length] at hx
    have hCl : C l = none := wo_none g.c
    refine ⟨.ref l, rfl, q _ (upd C l (.lst xs)) H1 ⟨g.a.trans wo_ex, g.b.trans (Ex.new hCl), fun b o e => ?_, fun x hb hh => ?_, fun z b ps e => ?_⟩ ⟨l, xs, rfl, upd_same, hx.m (Ex.new hCl)⟩⟩
    · by_cases n : b = l
      · subst n
        rw [upd_same] at e
        rw [hL]
        exact e
      · rw [upd_ne n] at e
        exact g.c.trans wo_ex _ _ e
    · have n : x ≠ l := fun z => by
        subst z
        exact hh hl
      rw [upd_ne n]
      exact g.d x hb hh
    · by_cases n : b = l
      · subst n
        rw [upd_same] at e
        cases e
      · rw [upd_ne n] at e
        exact g.e z b ps e

/-- _law_all -/
abbrev s_Lall : Stmt := topS 41
abbrev N_Lall : List Str := ["_law_by_here", "_law_high", "_law_found", "_law_name", "_law_total", "_law_j"]
theorem sc_Lall : FnScope N_Lall ["_law_by_here", "_law_high"] (defScope s_Lall) := ⟨rfl, rfl, rfl, by decide +kernel, rfl, by decide +kernel, by decide +kernel⟩
theorem ok_Lall {f : Addr} {fd : FuncData} (F : Fun K "_law_all" "_law_all" s_Lall f fd)  (n_len : mg "len" = none) (n_range : mg "range" = none)  :
    FnOk P w K mg base CX0 1 f fd ["_law_by_here", "_law_high"] (spP (RallL K)) := by
  refine F.ok sc_Lall (spP_len (by rintro _ _ ⟨r, o, _, _, rfl, rfl⟩; rfl)) (fun cdv A outer s H vs Q E hr h => ?_)
  obtain ⟨B, ps, p, eB, hv, ⟨r, o, hok, ho, rfl, rfl⟩, q⟩ := h
  obtain ⟨v0, v1, rfl, h0, h1⟩ := all2 hv
  obtain rfl : v1 = .int (o : Nat) := h1
  have hu := hu_of hr
  refine ⟨_, (pss_cons (ps_set (i := 2) sc_Lall.nd rfl (by first | exact .inl rfl | exact .inr rfl) (pe_lst pa_nil))
    (pss_cons (ps_for PassesOwn.never rfl (pi_tup (pe_ix ix_tup (pv 0) pe_int (fun _ _ => rfl))) (pg_name (i := 3) sc_Lall.nd rfl (by first | exact .inl rfl | exact .inr rfl))
      (pss_one (ps_for PassesOwn.never rfl (pi_range1 (by rfl) n_range (pa_cons (pe_op op_add (pv 1) pe_int) pa_nil)) (pg_name (i := 4) sc_Lall.nd rfl (by first | exact .inl rfl | exact .inr rfl))
      (pss_one (ps_set (i := 2) sc_Lall.nd rfl (by first | exact .inl rfl | exact .inr rfl) (pe_op op_cat (pv 2) (pe_lc (own := [("_law_j", 5)]) rfl sc_Lall.nd (pi_range1 (by rfl) n_range (pa_cons (pe_ifExp (pt_cmpR op_eq (pe_callB call_len_seq (by rfl) n_len (by decide +kernel) (pa_cons (pe_ix ix_tup (pv 0) pe_int (fun _ _ => rfl)) pa_nil)) pe_int (nomark _)) (pe_op op_add (pv 4) pe_int) pe_int) pa_nil)) (blkOk_by (N := N_Lall) (sc := defScope s_Lall) (by decide +kernel)) (fun _ _ _ _ _ => (pg_name (i := 5) sc_Lall.nd rfl (Or.inl rfl))) (fun _ _ _ _ _ => pts_nil) (fun _ _ _ _ _ => (pe_tup (pa_cons (pv 3) (pa_cons (pe_op op_sub (pv 4) (pv 5)) (pa_cons (pv 5) pa_nil))))))))))))
    (pss_one (ps_ret (pv 2))))), ?_⟩
  refine ⟨by decide, fun l hl => ?_⟩
  dsimp only
  have hBl : B l = none := fresh_back eB hl
  obtain ⟨pr, vn, va, rfl, hpr, hn, hax⟩ := h0
  obtain ⟨pn, ob, rfl, hpn, _⟩ := hn
  cases hax with
  | @tup pa as _ hpa has =>
    have hasl : as.length = r.axs.length := by rw [dps_len has, List.length_map]
    have e0 := Ex.mut (o := .lst []) eB hBl
    refine ⟨.ref pr, rfl, pr, _, 1, .ref pn, rfl, rfl, ex_t e0 hpr, rfl, pn, rfl, ⟨_, .inl (.inr ⟨ob, e0 _ _ hpn⟩)⟩, for_it (walk_tup (K := K) (a := pn) (xs := r.ns.map V.str)) (fun i σ' H' => ∃ C m xs x3 x4, Gr B H C H' ∧ H' m = some (.lst xs) ∧ AllP ((r.lines o i).map DvP) xs C ∧ C m = some (.lst xs) ∧ σ' = [some (.ref pr), some (.int (o : Nat)), some (.ref m), x3, x4, none]) ⟨_, l, [], none, none, Gr.new (.lst []) eB hl, upd_same, trivial, upd_same, rfl⟩ ?_ ?_ ?_⟩
    · rintro i σ' H' _ ⟨C, m, xs, x3, x4, g, _⟩
      exact .inl (.inr ⟨ob, g.c _ _ (g.b _ _ hpn)⟩)
    · rintro i v σ' H1 H1' hi ⟨C, m, xs, x3, x4, g, hm, hx, hCm, rfl⟩ ⟨rfl, hvi⟩
      rw [List.length_map] at hi
      have hv : v = .str r.ns[i] := by
        rw [List.getElem?_map, List.getElem?_eq_getElem hi] at hvi
        exact (Option.some.inj hvi).symm
      subst hv
      refine ⟨.int (o : Nat), rfl, (o : Nat), 1, rfl, rfl, (o : Int) + 1, rfl, by omega, by omega, for_range (lo := 0) (n := o + 1) (fun t σ' H' => ∃ C m xs x4, Gr B H C H' ∧ H' m = some (.lst xs) ∧ AllP ((r.lines o i ++ r.linesN r.ns[i] t).map DvP) xs C ∧ C m = some (.lst xs) ∧ σ' = [some (.ref pr), some (.int (o : Nat)), some (.ref m), some (.str r.ns[i]), x4, none]) ⟨C, m, xs, x4, g, hm, by rw [show r.linesN r.ns[i] 0 = [] from rfl, List.append_nil]; exact hx, hCm, rfl⟩ ?_ ?_⟩
      · rintro t σ' H2 ht ⟨C, m, xs, x4, g, hm, hx, hCm, rfl⟩
        have hline : (r.line r.ns[i] t).map DvP = (List.range (if r.axs.length = 2 then t + 1 else 1)).map fun (j : Nat) => DvP ⟨r.ns[i], (t : Int) - (j : Nat), ((j : Nat) : Int)⟩ := by
          unfold Rk.line
          rw [List.map_map]
          rfl
        have l1 := r.lines_len (o := o) (m := i) ho hok.le
        have l2 := r.linesN_len r.ns[i] (m := t) (by omega)
        have l3 : (if r.axs.length = 2 then t + 1 else 1) ≤ 13 := by split <;> omega
        have hpr2 := ex_t g.b hpr
        have hpa2 := ex_t g.b hpa
        have lc := p_lcP (te := tTup (tCons (tVar 3) (tCons (tOp (rI0 fun i j => .int (i - j)) (tVar 4) (tVar 5)) (tCons (tVar 5) tNil)))) (g := gName 5) (vs := [5]) (σ := [some (.ref pr), some (.int (o : Nat)), some (.ref m), some (.str r.ns[i]), some (.int (0 + (t : Nat))), none]) (B := C)
          (src_rng (j := if r.axs.length = 2 then t + 1 else 1) (t := tCons (tIf (tTest (tOp rEq (tCB (rLenS K) (tCons (tOp (rIxT K) (tVar 0) (tC (.int 2))) tNil)) (tC (.int 2)))) (tOp (rI0 fun i j => .int (i + j)) (tVar 4) (tC (.int 1))) (tC (.int 1))) tNil) (q_cons (p_ev (ev_if (b := decide (r.axs.length = 2)) (et_is (et_test (ev_op (x := .int (r.axs.length : Nat)) (fun H1 a Q k => ⟨.ref pr, rfl, pr, _, 2, .ref pa, rfl, rfl, ex_t a hpr2, rfl, pa, as, rfl, .inr (ex_t a hpa2), by rw [hasl]; exact k H1 (Ex.refl H1)⟩) ev_c (rv_eq rfl))) (by
            by_cases e : r.axs.length = 2
            · rw [e]; rfl
            · rw [decide_eq_false e, decide_eq_false_iff_not]
              intro z
              injection z with z
              omega)) (fun hb => ev_is (ev_op (ev_var rfl) ev_c rv_I0) (by rw [if_pos (of_decide_eq_true hb)]; simp)) fun hb => ev_is ev_c (by rw [if_neg (of_decide_eq_false hb)]; rfl))) q_nil) (by omega)) (by omega) (fun j => DvP ⟨r.ns[i], (t : Int) - (j : Nat), ((j : Nat) : Int)⟩) fun j v B5 hj e5 pv => by
            obtain rfl : v = .int (j : Int) := pv
            exact ⟨[some (.ref pr), some (.int (o : Nat)), some (.ref m), some (.str r.ns[i]), some (.int (0 + (t : Nat))), some (.int j)], rfl, fun H2 Q e q => q, p_dv (u := ⟨r.ns[i], (t : Int) - (j : Nat), (j : Int)⟩) rfl rfl rfl (q_cons (p_varV rfl) (q_cons (p_ev (ev_is (ev_op (ev_var rfl) (ev_var rfl) rv_I0) (by simp))) (q_cons (p_varV rfl) q_nil)))⟩
        rw [← hline] at lc
        refine My.ps_asg (i := 2) g.c (p_cat (ps := (r.lines o i ++ r.linesN r.ns[i] t).map DvP) (p_var rfl ⟨m, xs, rfl, hCm, hx⟩) lc (by
          rw [List.length_map, List.length_map, List.length_append]
          have : (r.line r.ns[i] t).length ≤ 13 := by
            unfold Rk.line
            rw [List.length_map, List.length_range]
            exact l3
          omega)) fun v B1 H3 g1 hv => ?_
        obtain ⟨m', xs', rfl, hm', hx'⟩ := hv
        rw [← List.map_append, List.append_assoc, ← Rk.linesN_succ] at hx'
        exact ⟨B1, m', xs', _, g.trans g1, g1.c _ _ hm', hx', hm', rfl⟩
      · rintro σ' H2 ⟨C, m, xs, x4, g, hm, hx, hCm, rfl⟩
        rw [← Rk.lines_succ r o i hi] at hx
        exact ⟨C, m, xs, _, _, g, hm, hx, hCm, rfl⟩
    · rintro σ' H1 ⟨C, m, xs, x3, x4, g, hm, hx, hCm, rfl⟩
      rw [List.length_map] at hx
      exact ⟨.ref m, rfl, q _ C H1 g ⟨m, xs, rfl, hCm, hx⟩⟩

end
end K12
namespace K12
set_option autoImplicit false
open PySem PySem.W L2 Evl My LamX
/-- all that stands, but d and the tables of code -/
def woT (d : Addr) (H : Hp) : Hp := fun b => if b = d then none else match H b with
  | some (.tbl _) => none
  | o => o
theorem woT_at {d b : Addr} {H : Hp} {o : HO} (n : b ≠ d) (h : H b = some o) (k : ∀ ps, o ≠ .tbl ps) : woT d H b = some o := by
  unfold woT
  rw [if_neg n, h]
  cases o <;> first | rfl | exact (k _ rfl).elim
theorem woT_some {d b : Addr} {H : Hp} {o : HO} (h : woT d H b = some o) : b ≠ d ∧ H b = some o ∧ ∀ ps, o ≠ .tbl ps := by
  unfold woT at h
  by_cases n : b = d
  · rw [if_pos n] at h
    cases h
  · rw [if_neg n] at h
    refine ⟨n, ?_⟩
    split at h
    · cases h
    · rename_i hn
      exact ⟨h, fun ps z => hn ps (by rw [h, z])⟩
theorem woT_ex {d : Addr} {H : Hp} : Ex (woT d H) H := fun _ _ h => (woT_some h).2.1
theorem woT_nt {d : Addr} {H : Hp} : NoTab (woT d H) := fun _ _ h => (woT_some h).2.2 _ rfl
theorem woT_d {d : Addr} {H : Hp} : woT d H d = none := by unfold woT; rw [if_pos rfl]
theorem woT_in {d : Addr} {B H : Hp} (e : Ex B H) (n : NoTab B) (hd : B d = none) : Ex B (woT d H) := fun b o k => woT_at (ne_of_none k hd) (e b o k) fun ps z => n b ps (by rw [← z]; exact k)
theorem woT_dvs {d : Addr} {H : Hp} {n : Nat} (hd : DSt H d n) : ∀ {us : List Dv} {xs : List V}, AllP (us.map DvP) xs H → AllP (us.map DvP) xs (woT d H)
  | [], [], _ => trivial
  | _ :: _, _ :: _, ⟨⟨a, e, h⟩, t⟩ => ⟨⟨a, e, woT_at (fun z => by
      subst z
      obtain ⟨_, _, _, k, _⟩ := hd
      rw [k] at h
      cases h) h fun _ z => nomatch z⟩, woT_dvs hd t⟩
theorem woT_ls {d : Addr} {H : Hp} {n : Nat} {us : List Dv} {v : V} (hd : DSt H d n) (h : (LsP (us.map DvP)).P v H) : (LsP (us.map DvP)).P v (woT d H) := by
  obtain ⟨p, xs, e1, e2, e3⟩ := h
  refine ⟨p, xs, e1, woT_at (fun z => ?_) e2 (fun _ z => nomatch z), woT_dvs hd e3⟩
  subst z
  obtain ⟨_, _, _, k, _⟩ := hd
  rw [k] at e2
  cases e2
theorem DSt.ne0 {H : Hp} {d : Addr} {n : Nat} (h : DSt H d n) : H d ≠ none := by
  obtain ⟨_, _, _, k, _⟩ := h
  rw [k]
  exact fun z => nomatch z
theorem DSt.xn {H H' : Hp} {d : Addr} {n : Nat} (h : DSt H d n) (e : ExtN H H') : DSt H' d n := by
  obtain ⟨l, c, t, a, b⟩ := h
  exact ⟨l, c, t, e _ _ a (fun _ z => nomatch z), b⟩
/-- what is known in C of a heap with the draw's state at d -/
structure Jn (T : List (Addr × Str)) (C : Hp) (d : Addr) (N : Nat) (H : Hp) : Prop where
  e : Ex C H
  t : Tabs T H
  s : DSt H d N
theorem Jn.ex {T : List (Addr × Str)} {C H H' : Hp} {d : Addr} {N : Nat} (h : Jn T C d N H) (e : Ex H H') : Jn T C d N H' := ⟨h.e.trans e, h.t.ext e, h.s.ex e⟩
theorem Jn.le {T : List (Addr × Str)} {C H : Hp} {d : Addr} {N M : Nat} (h : Jn T C d N H) (e : N ≤ M) : Jn T C d M H := ⟨h.e, h.t, h.s.le e⟩
theorem Jn.sb {T : List (Addr × Str)} {C H H' : Hp} {d : Addr} {N M : Nat} (h : Jn T C d N H) (hC : C d = none) (S : SameBut d H H') (hd : DSt H' d M) : Jn T C d M H' := by
  refine ⟨ex_sb h.e hC S, ?_, hd⟩
  obtain ⟨l, c, t, a, b⟩ := h.s
  exact tabs_but h.t a S
theorem Jn.xn {T : List (Addr × Str)} {C H H' : Hp} {d : Addr} {N : Nat} (h : Jn T C d N H) (n : NoTab C) (e : ExtN H H') (t : Tabs T H') : Jn T C d N H' := ⟨exN_ex h.e n e, t, h.s.xn e⟩
theorem Jn.xb {T : List (Addr × Str)} {C H H' : Hp} {d : Addr} {N M : Nat} (h : Jn T C d N H) (n : NoTab C) (hC : C d = none) (e : ExtB d H H') (t : Tabs T H') (hd : DSt H' d M) : Jn T C d M H' := ⟨e.ex h.e n hC, t, hd⟩
theorem Jn.down {T : List (Addr × Str)} {C B H : Hp} {d : Addr} {N : Nat} (h : Jn T C d N H) (e : Ex B C) : Jn T B d N H := ⟨e.trans h.e, h.t, h.s⟩
theorem Jn.kn {T : List (Addr × Str)} {C H : Hp} {d : Addr} {N : Nat} (h : Jn T C d N H) (n : NoTab C) : Kn T C H := ⟨h.e, n, h.t⟩
end K12
namespace K12
set_option autoImplicit false
open PySem PySem.W L2 Evl My LamX
theorem dvs_woL {p : Addr} {H : Hp} {ys : List V} (hp : H p = some (.lst ys)) : ∀ {us : List Dv} {xs : List V}, AllP (us.map DvP) xs H → AllP (us.map DvP) xs (wo p H)
  | [], [], _ => trivial
  | _ :: _, _ :: _, ⟨⟨a, e, h⟩, t⟩ => ⟨⟨a, e, by
      rw [wo_ne fun z => by
        subst z
        rw [hp] at h
        cases h]
      exact h⟩, dvs_woL hp t⟩
theorem tabs_lst {T : List (Addr × Str)} {p : Addr} {H : Hp} {xs : List V} {o : HO} (t : Tabs T H) (hp : H p = some (.lst xs)) : Tabs T (upd H p o) := by
  have at_ : ∀ {b : Addr} {u : HO}, H b = some u → (∀ ys, u ≠ .lst ys) → wo p H b = some u := fun {b u} h n => by
    rw [wo_ne fun z => by
      subst z
      rw [hp] at h
      exact n xs (Option.some.inj h).symm]
    exact h
  refine Tabs.ext (H := wo p H) (fun q hq => ?_) fun b u e => by
    obtain ⟨n, k⟩ := wo_some e
    rw [upd_ne n]
    exact k
  obtain ⟨ps, h1, h2, h3⟩ := t q hq
  refine ⟨ps, at_ h1 (fun _ z => nomatch z), h2, fun pos cv hc => ?_⟩
  obtain ⟨c, e1, e2⟩ := h3 pos cv hc
  exact ⟨c, e1, at_ e2 fun ys z => by unfold CodeO at z; cases z⟩
theorem all_revP {H : Hp} {ps : List Pr} {vs : List V} (h : AllP ps vs H) : AllP ps.reverse vs.reverse H := by
  induction ps generalizing vs with
  | nil =>
    match vs, h with
    | [], _ => exact trivial
  | cons p ps ih =>
    match vs, h with
    | v :: vs, h =>
      rw [List.reverse_cons, List.reverse_cons]
      exact (ih h.2).app ⟨h.1, trivial⟩
section
variable {te ta tb : TE} {t tk : TA} {σ : L2.St} {B H : Hp} {ps qs : List Pr} {p : Pr} {K : PySem.W.Frag}
theorem p_revQ (h : EvP te σ B (LqP K ps)) : EvP (tRevL K te) σ B (LsP ps.reverse) := fun H1 a Q k =>
  h H1 a _ fun v B2 H2 g x => by
    obtain ⟨l, xs, rfl, hl, al⟩ := x
    refine ⟨l, xs, rfl, ex_l g.c hl, fun r hr => k _ _ _ (g.trans (Gr.new (.lst xs.reverse) g.c hr)) ⟨r, _, rfl, upd_same, (all_revP al).m (Ex.new (fresh_back g.c hr))⟩⟩
theorem p_revT (h : EvP te σ B (TuP K ps)) : EvP (Gd.tRevT K te) σ B (TuP K ps.reverse) := fun H1 a Q k =>
  h H1 a _ fun v B2 H2 g x => by
    obtain ⟨l, xs, rfl, hl, al⟩ := x
    refine ⟨l, xs, rfl, ex_t g.c hl, fun r hr => k _ _ _ (g.trans (Gr.new (.tup xs.reverse) g.c hr)) ⟨r, _, rfl, st_of upd_same, (all_revP al).m (Ex.new (fresh_back g.c hr))⟩⟩
theorem p_tupOf (h : EvP te σ B (LqP K ps)) : EvP (tCB (fun xs H Q => ∃ p ys, xs = [.ref p] ∧ ((SqL K H p ys ∧ ∀ l, H l = none → Q (.ref l) (upd H l (.tup ys))) ∨ (SqT K H p ys ∧ Q (.ref p) H))) (tCons te tNil)) σ B (TuP K ps) := fun H1 a Q k =>
  h H1 a _ fun v B2 H2 g x => by
    obtain ⟨l, xs, rfl, hl, al⟩ := x
    exact ⟨l, xs, rfl, .inl ⟨ex_l g.c hl, fun r hr => k _ _ _ (g.trans (Gr.new (.tup xs) g.c hr)) ⟨r, xs, rfl, st_of upd_same, al.m (Ex.new (fresh_back g.c hr))⟩⟩⟩
theorem p_callN {R : List Pr → Pr → Prop} {n m : Nat} (h : EvPs t σ B ps) (hk : EvPs tk σ B qs) (l1 : ps.length = n) (l2 : qs.length = m) (hr : R (ps ++ qs) p) : EvP (tCallN n m (spP R) Gd.gKs E0 t tk) σ B p := fun H1 a Q k =>
  h H1 a _ fun vs B2 H2 g x => hk H2 (g.b.trans g.c) _ fun zs B3 H3 g3 y => by
    have gj := g.join g3
    refine ⟨by rw [x.len, l1], by rw [y.len, l2], both B2 B3, ps ++ qs, p, gj.c, (x.m both_l).app (y.m (both_r (g.c.trans g3.a) g3.c)), hr, fun v B' H' g' z => k v B' H' (gj.trans g') z⟩
theorem ev_intB {b : Bool} (h : Ev te σ B (.bl b)) : Ev (tCB (fun xs H Q => (∃ i, xs = [.int i] ∧ Q (.int i) H) ∨ ∃ k, xs = [.bl k] ∧ Q (.int (if k then 1 else 0)) H) (tCons te tNil)) σ B (.int (if b then 1 else 0)) := fun H1 a Q k =>
  h H1 a _ fun H2 e => .inr ⟨b, rfl, k H2 e⟩
/-- in_rank, asked; what it tells is a new list at pt, known apart -/
theorem inr_use {T : List (Addr × Str)} {C : Hp} {d : Addr} {N : Nat} {r : Rk} {us : List Dv} {vr vd : V} {Q : VK} (J : Jn T C d N H) (nt : NoTab C) (cd : C d = none) (hok : r.Ok) (hR : (RkP K r).P vr C) (hof : ∀ u ∈ us, u.Of r) (hl : us.length ≤ 1000)
    (h : (LqP K (us.map DvP)).P vd C ∨ (TuP K (us.map DvP)).P vd C) (q : ∀ (pt : Addr) (xs : List V) (C' H' : Hp), Ex C C' → Jn T C' d N H' → NoTab C' → C' d = none → C' pt = none → H' pt = some (.lst xs) → AllP ((r.sort (dedD us)).map DvP) xs C' → Q (.ref pt) H') :
    ((LqP K (us.map DvP)).P vd C → spInr K T [vr, vd] H Q E0) ∧ ((TuP K (us.map DvP)).P vd C → spInrT K T [vr, vd] H Q E0) := by
  have fin : ∀ v H3, ExtN H H3 → Tabs T H3 → (SortedP r (dedD us)).P v H3 → FrT v H → Q v H3 := fun v H3 eN T3 hs fr => by
    have hd3 : DSt H3 d N := J.s.xn eN
    have e3 : Ex C (woT d H3) := woT_in (exN_ex J.e nt eN) nt cd
    obtain ⟨pt, xs, rfl, hp, hx⟩ := hs
    have cpt : C pt = none := by
      cases z : C pt with
      | none => rfl
      | some o =>
        obtain ⟨ps, rfl⟩ := fr pt rfl o (J.e _ _ z)
        exact absurd z (nt pt ps)
    have hp2 : woT d H3 pt = some (.lst xs) := woT_at (fun z => by
      subst z
      obtain ⟨_, _, _, k, _⟩ := hd3
      rw [k] at hp
      cases hp) hp (fun _ z => nomatch z)
    refine q pt xs (wo pt (woT d H3)) H3 (ex_wo e3 cpt) ⟨wo_ex.trans woT_ex, T3, hd3⟩ (fun b ps e => woT_nt b ps (wo_some e).2) ?_ wo_same hp (dvs_woL hp2 (woT_dvs hd3 hx))
    by_cases z : d = pt
    · rw [z]
      exact wo_same
    · rw [wo_ne z]
      exact woT_d
  exact ⟨fun h => ⟨C, r, us, vr, vd, rfl, hok, hof, hl, ⟨J.e, nt, J.t⟩, hR, h, fin⟩, fun h => ⟨C, r, us, vr, vd, rfl, hok, hof, hl, ⟨J.e, nt, J.t⟩, hR, h, fin⟩⟩
theorem all_use {T : List (Addr × Str)} {C : Hp} {d : Addr} {N o : Nat} {r : Rk} {vr : V} {Q : VK} (J : Jn T C d N H) (nt : NoTab C) (cd : C d = none) (hok : r.Ok) (hR : (RkP K r).P vr C) (ho : o ≤ 12)
    (q : ∀ v C' H', Ex C C' → Jn T C' d N H' → NoTab C' → C' d = none → (LsP ((r.sort (r.all o)).map DvP)).P v C' → Q v H') : spAll K T [vr, .int (o : Nat)] H Q E0 :=
  ⟨C, r, vr, o, rfl, ho, hok, ⟨J.e, nt, J.t⟩, hR, fun v H3 eN T3 hs => by
    have hd3 : DSt H3 d N := J.s.xn eN
    exact q v (woT d H3) H3 (woT_in (exN_ex J.e nt eN) nt cd) ⟨woT_ex, T3, hd3⟩ woT_nt woT_d (woT_ls hd3 hs)⟩
end
theorem ne_strs (x : Str) : V.bl (!decide (V.str x = V.str x)) = V.bl false := by simp
theorem ne_shape {d : PyData} (h : SeqAt.shaped d = true) : V.bl (!PyData.eqv d d) = V.bl false := by
  rw [SeqAt.eqv_refl d (Bool.and_eq_true_iff.mp h).1]
  rfl
theorem all_low {r : Rk} {o : Nat} {u : Dv} (h : u ∈ r.all o) : u.i ≤ o ∧ u.j ≤ o := by
  unfold Rk.all Rk.rowsN at h
  obtain ⟨n, _, h⟩ := List.mem_flatMap.mp h
  obtain ⟨i, hi, h⟩ := List.mem_flatMap.mp h
  have hi := List.mem_range.mp hi
  obtain ⟨_, h2, _, h4⟩ := Rk.mem_row h
  unfold Rk.most at h4
  refine ⟨by rw [h2]; omega, ?_⟩
  split at h4 <;> omega
theorem cmp_ints (r : Rk) {a b : Dv} : ((if decide (r.lt b a) then 1 else 0 : Int) - (if decide (r.lt a b) then 1 else 0)) = r.cmp a b := by
  rcases r.cmp_3 a b with e | e | e
  · have h1 := (r.cmp_lt a b).mp e
    have h2 : ¬ r.lt b a := fun z => r.lt_irrefl a (r.lt_trans h1 z)
    rw [e]
    simp [h1, h2]
  · have h := (r.cmp_eq a b).mp e
    have h1 : ¬ r.lt a b := fun z => by
      rw [(r.cmp_lt a b).mpr z] at e
      cases e
    have h2 : ¬ r.lt b a := fun z => by
      rw [(r.cmp_gt a b).mpr z] at e
      cases e
    rw [e]
    simp [h1, h2]
  · have h1 := (r.cmp_gt a b).mp e
    have h2 : ¬ r.lt a b := fun z => r.lt_irrefl a (r.lt_trans z h1)
    rw [e]
    simp [h1, h2]
end K12
namespace K12
set_option autoImplicit false
open PySem PySem.W L2 Evl My LamX
theorem show_two {c : Int} (h0 : -100 ≤ c) (h1 : c ≤ 100) : (PyData.list [.int c, .int c]).showable = true ∧ (PyData.list [.int c, .int c]).depth ≤ 60 ∧ (PyData.list [.int c, .int c]).shown.length ≤ 1000000 := by
  obtain ⟨a, b⟩ := Gd.shown_int h0 h1
  refine ⟨?_, ?_, ?_⟩
  · simp only [PyData.showable, PyData.showableAll, Bool.and_true] at b ⊢
    rw [b]
    rfl
  · simp [PyData.depth, PyData.depthAll]
  · have := Gd.shown_lst (ds := [PyData.int c, .int c]) (m := 4) fun d hd => by
      simp only [List.mem_cons, List.not_mem_nil, or_false] at hd
      rcases hd with rfl | rfl <;> exact a
    simp only [List.length_cons, List.length_nil] at this
    omega
theorem strs_allP {H : Hp} : ∀ ys : List Str, AllP (ys.map fun y => IsV (.str y)) (ys.map V.str) H
  | [] => trivial
  | y :: ys => ⟨rfl, strs_allP ys⟩
section
variable {σ : L2.St} {B : Hp} {K : PySem.W.Frag} {r : Rk} {i : Nat} {vr : V}
theorem p_names (h : σ[i]? = some (some vr)) (hR : (RkP K r).P vr B) : EvP (tOp (rIxT K) (tVar i) (tC (.int 1))) σ B (TuP K (r.ns.map fun x => IsV (.str x))) := fun H1 a Q k => by
  obtain ⟨pr, vn, va, rfl, hpr, ⟨pn, ob, rfl, hpn, _⟩, _⟩ := hR
  exact ⟨.ref pr, h, pr, _, 1, .ref pn, rfl, rfl, ex_t a hpr, rfl, k _ B H1 (Gr.refl a) ⟨pn, _, rfl, .inl (.inr ⟨ob, hpn⟩), strs_allP _⟩⟩
theorem ev_lenNames (h : σ[i]? = some (some vr)) (hR : (RkP K r).P vr B) : Ev (tCB (rLenS K) (tCons (tOp (rIxT K) (tVar i) (tC (.int 1))) tNil)) σ B (.int (r.ns.length : Nat)) := fun H1 a Q k => by
  obtain ⟨pr, vn, va, rfl, hpr, ⟨pn, ob, rfl, hpn, _⟩, _⟩ := hR
  refine ⟨.ref pr, h, pr, _, 1, .ref pn, rfl, rfl, ex_t a hpr, rfl, pn, _, rfl, .inr (.inl (.inr ⟨ob, a _ _ hpn⟩)), ?_⟩
  rw [List.length_map]
  exact k H1 (Ex.refl H1)
theorem ev_lenAxes (h : σ[i]? = some (some vr)) (hR : (RkP K r).P vr B) : Ev (tCB (rLenS K) (tCons (tOp (rIxT K) (tVar i) (tC (.int 2))) tNil)) σ B (.int (r.axs.length : Nat)) := fun H1 a Q k => by
  obtain ⟨pr, vn, va, rfl, hpr, _, ha⟩ := hR
  cases ha with
  | @tup pa as _ hpa has =>
    have hasl : as.length = r.axs.length := by rw [dps_len has, List.length_map]
    exact ⟨.ref pr, h, pr, _, 2, .ref pa, rfl, rfl, ex_t a hpr, rfl, pa, as, rfl, .inr (ex_t a hpa), by rw [hasl]; exact k H1 (Ex.refl H1)⟩
end
end K12
namespace K12
set_option autoImplicit false
open PySem PySem.W L2 Evl My LamX
theorem lq_dp {K : PySem.W.Frag} {us : List Dv} {v : V} {H : Hp} (h : (LqP K (us.map DvP)).P v H) : Dp K H v (.list (us.map Dv.D)) := by
  obtain ⟨r, xs, rfl, hr, hx⟩ := h
  refine .lst hr ?_
  clear hr
  induction us generalizing xs with
  | nil =>
    match xs, hx with
    | [], _ => exact .nil
  | cons u us ih =>
    match xs, hx with
    | x :: xs, h => exact .cons (dv_d h.1) (ih _ h.2)
def spLaw (K : PySem.W.Frag) (T : List (Addr × Str)) : Sp := fun vs H Q _ => ∃ (a : Addr) (ns : List Int), vs = [.ref a] ∧ SqL K H a (ns.map V.int) ∧ ns.length ≤ 63 ∧ Tabs T H ∧ ∀ H', Q (.bl true) H'
section
variable {P : Program} {w : World} {K : PySem.W.Frag} {mg : Str → Option Value} {base : Heap}

/-- law -/
abbrev s_law : Stmt := topS 42
abbrev N_law : List Str := ["_law_script", "_law_k", "_law_cell", "_law_state", "_law_by_here", "_law_rows", "_law_j", "_law_told", "_law_due", "_law_kept", "_law_a", "_law_b", "_law_is_so", "_law_high", "_law_name"]
theorem sc_law : FnScope N_law ["_law_script"] (defScope s_law) := ⟨rfl, rfl, rfl, by decide +kernel, rfl, by decide +kernel, by decide +kernel⟩
theorem ok_law {tb : Addr} {f : Addr} {fd : FuncData} (F : Fun K "law" "law" s_law f fd) {f_Ldraw : Addr} {d_Ldraw : FuncData} (c_Ldraw : Cal P w K mg base "_law_draw" 1 ["_law_cell", "_law_k"] spDraw f_Ldraw d_Ldraw) {f_Lby : Addr} {d_Lby : FuncData} (c_Lby : Cal P w K mg base "_law_by" 5 ["_law_state"] (spBy K) f_Lby d_Lby) {f_all_to : Addr} {d_all_to : FuncData} (c_all_to : Cal P w K mg base "all_to" 6 ["ranking", "order"] (spAll K (TN tb)) f_all_to d_all_to) {f_Ldigit : Addr} {d_Ldigit : FuncData} (c_Ldigit : Cal P w K mg base "_law_digit" 2 ["_law_state", "_law_size"] spDigit f_Ldigit d_Ldigit) {f_Lderivative : Addr} {d_Lderivative : FuncData} (c_Lderivative : Cal P w K mg base "_law_derivative" 3 ["_law_state", "_law_names_here", "_law_axes", "_law_high"] spDer f_Lderivative d_Lderivative) {f_in_rank : Addr} {d_in_rank : FuncData} (c_in_rank : Cal P w K mg base "in_rank" 6 ["ranking", "some"] (spInr K (TN tb)) f_in_rank d_in_rank) {f_rank_compared : Addr} {d_rank_compared : FuncData} (c_rank_compared : Cal P w K mg base "rank_compared" 6 ["ranking", "one", "other"] (spP (Rrc K)) f_rank_compared d_rank_compared) {f_Lis_above : Addr} {d_Lis_above : FuncData} (c_Lis_above : Cal P w K mg base "_law_is_above" 1 ["_law_by_here", "_law_a", "_law_b"] (spP (Rab K)) f_Lis_above d_Lis_above) {f_Lrising : Addr} {d_Lrising : FuncData} (c_Lrising : Cal P w K mg base "_law_rising" 2 ["_law_by_here", "_law_rows"] (spP (Rris K)) f_Lrising d_Lrising) {f_Lall : Addr} {d_Lall : FuncData} (c_Lall : Cal P w K mg base "_law_all" 1 ["_law_by_here", "_law_high"] (spP (RallL K)) f_Lall d_Lall) (n_len : mg "len" = none) (n_enumerate : mg "enumerate" = none) (n_sum : mg "sum" = none) (n_range : mg "range" = none) (n_repr : mg "repr" = none) (n_int : mg "int" = none) (n_tuple : mg "tuple" = none) {f_in_rankT : Addr} {d_in_rankT : FuncData} (c_in_rankT : Cal P w K mg base "in_rank" 6 ["ranking", "some"] (spInrT K (TN tb)) f_in_rankT d_in_rankT) (kb_rc : KBn K d_rank_compared ["ranking", "one", "other"] 2 ["other"] Gd.gKu Gd.gKs) (kb_at : KBn K d_all_to ["ranking", "order"] 0 ["order", "ranking"] Gd.gRu Gd.gRs) :
    Gd.FnG P w K mg base 9 f fd ["_law_script"] (spLaw K (TN tb)) := by
  refine Gd.okG F sc_law (fun vs H Q E h => by obtain ⟨a, ns, rfl, _⟩ := h; rfl) (fun cdv A outer s H vs Q E hr hG h => ?_)
  obtain ⟨a, ns, rfl, hS, hlen, hT, q⟩ := h
  have hu := hu_of hr
  refine ⟨_, (pss_cons (ps_for PassesOwn.never rfl (pi_enum (by rfl) n_enumerate (pa_cons (pe_op op_cat (pe_slice sl_list (pv 0) po_none (po_some pe_int)) (pe_lst (pa_cons (pe_callB (cr_sum rfl) (by rfl) n_sum (by decide +kernel) (pa_cons (pv 0) pa_nil)) pa_nil))) pa_nil)) (pg_tup (by rfl) (pgs_cons (pg_name (i := 1) sc_law.nd rfl (by first | exact .inl rfl | exact .inr rfl)) (pgs_cons (pg_name (i := 2) sc_law.nd rfl (by first | exact .inl rfl | exact .inr rfl)) pgs_nil)))
      (pss_cons (ps_set (i := 3) sc_law.nd rfl (by first | exact .inl rfl | exact .inr rfl) (pe_call c_Ldraw.G (hr.mono (by decide)) (by rfl) c_Ldraw.m c_Ldraw.k c_Ldraw.b .nil pass0 (pa_cons (pv 2) (pa_cons (pv 1) pa_nil))))
    (pss_cons (ps_set (i := 4) sc_law.nd rfl (by first | exact .inl rfl | exact .inr rfl) (pe_call c_Lby.G (hr.mono (by decide)) (by rfl) c_Lby.m c_Lby.k c_Lby.b .nil pass0 (pa_cons (pv 3) pa_nil)))
    (pss_cons (ps_setLc (i := 5) (te := tCall spDer [] E0 (tCons (tVar 3) (tCons (tOp (rIxT K) (tVar 4) (tC (.int 1))) (tCons (tCB (rLenS K) (tCons (tOp (rIxT K) (tVar 4) (tC (.int 2))) tNil)) (tCons (tC (.int 5)) tNil))))) (own := [("_law_j", 6)]) rfl sc_law.nd rfl rfl (sw_true rfl rfl rfl (by decide +kernel)) (pi_range1 (by rfl) n_range (pa_cons (pe_call c_Ldigit.G (hr.mono (by decide)) (by rfl) c_Ldigit.m c_Ldigit.k c_Ldigit.b .nil pass0 (pa_cons (pv 3) (pa_cons pe_int pa_nil))) pa_nil)) (blkOk_by (N := N_law) (sc := defScope s_law) (by decide +kernel)) (fun _ _ _ _ _ => (pg_name (i := 6) sc_law.nd rfl (Or.inl rfl))) (fun _ _ _ _ _ => pts_nil) (fun _ _ _ _ _ => (pe_call c_Lderivative.G (hr.mono (by decide)) (by rfl) c_Lderivative.m c_Lderivative.k c_Lderivative.b .nil pass0 (pa_cons (pv 3) (pa_cons (pe_ix ix_tup (pv 4) pe_int (fun _ _ => rfl)) (pa_cons (pe_callB (id := "len") call_len_seq (by rfl) n_len (by decide +kernel) (pa_cons (pe_ix ix_tup (pv 4) pe_int (fun _ _ => rfl)) pa_nil)) (pa_cons pe_int pa_nil)))))))
    (pss_cons (ps_set (i := 5) sc_law.nd rfl (by first | exact .inl rfl | exact .inr rfl) (pe_op op_cat (pv 5) (pe_slice sl_list (pv 5) po_none (po_some (pe_call c_Ldigit.G (hr.mono (by decide)) (by rfl) c_Ldigit.m c_Ldigit.k c_Ldigit.b .nil pass0 (pa_cons (pv 3) (pa_cons pe_int pa_nil)))))))
    (pss_cons (ps_par3 (i := 7) (j := 8) (l := 9) rfl sc_law.nd rfl rfl rfl (by decide) (by decide) (by decide) rfl rfl rfl (pa_cons (pe_call c_in_rank.G (hr.mono (by decide)) (by rfl) c_in_rank.m c_in_rank.k c_in_rank.b .nil pass0 (pa_cons (pv 4) (pa_cons (pv 5) pa_nil))) (pa_cons (pe_call c_Lrising.G (hr.mono (by decide)) (by rfl) c_Lrising.m c_Lrising.k c_Lrising.b .nil pass0 (pa_cons (pv 4) (pa_cons (pv 5) pa_nil))) (pa_cons (pe_callB (Gd.call_reprG hG hr.units) (by rfl) n_repr (by decide +kernel) (pa_cons (pv 5) pa_nil)) pa_nil))) (by rfl))
    (pss_cons (ps_if (PW.pt (pw_or (pt_cmpR op_ne (pe_callB (Gd.call_reprG hG hr.units) (by rfl) n_repr (by decide +kernel) (pa_cons (pv 7) pa_nil)) (pe_callB (Gd.call_reprG hG hr.units) (by rfl) n_repr (by decide +kernel) (pa_cons (pv 8) pa_nil)) (nomark _)) (pw_or1 (pt_cmpR op_ne (pe_callB (Gd.call_reprG hG hr.units) (by rfl) n_repr (by decide +kernel) (pa_cons (pe_call c_in_rankT.G (hr.mono (by decide)) (by rfl) c_in_rankT.m c_in_rankT.k c_in_rankT.b .nil pass0 (pa_cons (pv 4) (pa_cons (pe_callTy call_tuple_of (by rfl) n_tuple (by decide +kernel) (pa_cons (pv 5) pa_nil)) pa_nil))) pa_nil)) (pe_callB (Gd.call_reprG hG hr.units) (by rfl) n_repr (by decide +kernel) (pa_cons (pv 8) pa_nil)) (nomark _))))) (pss_one (ps_ret pe_bl)) pss_nil)
    (pss_cons (ps_expr (pe_bm PySem.F.plainAttrs_list PySem.F.slot_list_append PySem.F.type_list_append mt_append (pv 7) (pa_cons pe_non pa_nil)))
    (pss_cons (ps_if (PW.pt (pw_or (pt_cmpR op_ne (pe_callB (Gd.call_reprG hG hr.units) (by rfl) n_repr (by decide +kernel) (pa_cons (pe_call c_in_rank.G (hr.mono (by decide)) (by rfl) c_in_rank.m c_in_rank.k c_in_rank.b .nil pass0 (pa_cons (pv 4) (pa_cons (pe_revL (pv 5)) pa_nil))) pa_nil)) (pe_callB (Gd.call_reprG hG hr.units) (by rfl) n_repr (by decide +kernel) (pa_cons (pv 8) pa_nil)) (nomark _)) (pw_or1 (pt_cmpR op_ne (pe_callB (Gd.call_reprG hG hr.units) (by rfl) n_repr (by decide +kernel) (pa_cons (pv 5) pa_nil)) (pv 9) (nomark _))))) (pss_one (ps_ret pe_bl)) pss_nil)
    (pss_cons (ps_for PassesOwn.never rfl (pi_list (pe_slice sl_list (pv 8) po_none (po_some pe_int))) (pg_name (i := 10) sc_law.nd rfl (by first | exact .inl rfl | exact .inr rfl))
      (pss_one (ps_for PassesOwn.never rfl (pi_list (pe_slice sl_list (pv 8) po_none (po_some pe_int))) (pg_name (i := 11) sc_law.nd rfl (by first | exact .inl rfl | exact .inr rfl))
      (pss_cons (ps_set (i := 12) sc_law.nd rfl (by first | exact .inl rfl | exact .inr rfl) (pe_op op_sub (pe_callTy call_int1 (by rfl) n_int (by decide +kernel) (pa_cons (pe_call c_Lis_above.G (hr.mono (by decide)) (by rfl) c_Lis_above.m c_Lis_above.k c_Lis_above.b .nil pass0 (pa_cons (pv 4) (pa_cons (pv 10) (pa_cons (pv 11) pa_nil)))) pa_nil)) (pe_callTy call_int1 (by rfl) n_int (by decide +kernel) (pa_cons (pe_call c_Lis_above.G (hr.mono (by decide)) (by rfl) c_Lis_above.m c_Lis_above.k c_Lis_above.b .nil pass0 (pa_cons (pv 4) (pa_cons (pv 11) (pa_cons (pv 10) pa_nil)))) pa_nil))))
    (pss_one (ps_if (pt_cmpR op_ne (pe_callB (Gd.call_reprG hG hr.units) (by rfl) n_repr (by decide +kernel) (pa_cons (pe_lst (pa_cons (pe_call c_rank_compared.G (hr.mono (by decide)) (by rfl) c_rank_compared.m c_rank_compared.k c_rank_compared.b .nil pass0 (pa_cons (pv 4) (pa_cons (pv 10) (pa_cons (pv 11) pa_nil)))) (pa_cons (pe_callN c_rank_compared.G (hr.mono (by decide)) (by rfl) c_rank_compared.m c_rank_compared.k kb_rc pass0 (pa_cons (pv 4) (pa_cons (pv 10) pa_nil)) (pk_cons (pv 11) pk_nil)) pa_nil))) pa_nil)) (pe_callB (Gd.call_reprG hG hr.units) (by rfl) n_repr (by decide +kernel) (pa_cons (pe_op op_rep (pe_lst (pa_cons (pv 12) pa_nil)) pe_int) pa_nil)) (nomark _)) (pss_one (ps_ret pe_bl)) pss_nil))))))
    (pss_cons (ps_set (i := 13) sc_law.nd rfl (by first | exact .inl rfl | exact .inr rfl) (pe_call c_Ldigit.G (hr.mono (by decide)) (by rfl) c_Ldigit.m c_Ldigit.k c_Ldigit.b .nil pass0 (pa_cons (pv 3) (pa_cons pe_int pa_nil))))
    (pss_cons (ps_if (pt_cmpR op_ne (pe_callB (Gd.call_reprG hG hr.units) (by rfl) n_repr (by decide +kernel) (pa_cons (pe_call c_all_to.G (hr.mono (by decide)) (by rfl) c_all_to.m c_all_to.k c_all_to.b .nil pass0 (pa_cons (pv 4) (pa_cons (pv 13) pa_nil))) pa_nil)) (pe_callB (Gd.call_reprG hG hr.units) (by rfl) n_repr (by decide +kernel) (pa_cons (pe_call c_Lrising.G (hr.mono (by decide)) (by rfl) c_Lrising.m c_Lrising.k c_Lrising.b .nil pass0 (pa_cons (pv 4) (pa_cons (pe_call c_Lall.G (hr.mono (by decide)) (by rfl) c_Lall.m c_Lall.k c_Lall.b .nil pass0 (pa_cons (pv 4) (pa_cons (pv 13) pa_nil))) pa_nil))) pa_nil)) (nomark _)) (pss_one (ps_ret pe_bl)) pss_nil)
    (pss_cons (ps_if (pt_cmpR (op_neD hr.units) (Gd.pe_callN0 c_all_to.G (hr.mono (by decide)) (by rfl) c_all_to.m c_all_to.k kb_at pass0 (pk_cons pe_int (pk_cons (pv 4) pk_nil))) (pe_lc (own := [("_law_name", 14)]) rfl sc_law.nd (pi_tup (Gd.pe_revT (pe_ix ix_tup (pv 4) pe_int (fun _ _ => rfl)))) (blkOk_by (N := N_law) (sc := defScope s_law) (by decide +kernel)) (fun _ _ _ _ _ => (pg_name (i := 14) sc_law.nd rfl (Or.inl rfl))) (fun _ _ _ _ _ => pts_nil) (fun _ _ _ _ _ => (pe_tup (pa_cons (pv 14) (pa_cons pe_int (pa_cons pe_int pa_nil)))))) (nomark _)) (pss_one (ps_ret pe_bl)) pss_nil)
    (pss_one (ps_if (pt_cmpR op_ne (pe_callB call_len_seq (by rfl) n_len (by decide +kernel) (pa_cons (pe_call c_all_to.G (hr.mono (by decide)) (by rfl) c_all_to.m c_all_to.k c_all_to.b .nil pass0 (pa_cons (pv 4) (pa_cons pe_int pa_nil))) pa_nil)) (pe_op op_mul (pe_callB call_len_seq (by rfl) n_len (by decide +kernel) (pa_cons (pe_ix ix_tup (pv 4) pe_int (fun _ _ => rfl)) pa_nil)) (pe_ifExp (pt_cmpR op_eq (pe_callB call_len_seq (by rfl) n_len (by decide +kernel) (pa_cons (pe_ix ix_tup (pv 4) pe_int (fun _ _ => rfl)) pa_nil)) pe_int (nomark _)) pe_int pe_int)) (nomark _)) (pss_one (ps_ret pe_bl)) pss_nil)))))))))))))))
    (pss_one (ps_ret pe_bl))), ?_⟩
  walk_at "go"
  refine ⟨a, _, rfl, hS, fun p1 hp1 => ?_⟩
  walk_at "go"
  refine ⟨a, ns, rfl, (Same.seq (My.new hp1) hS), ?_⟩
  refine ⟨by show 1 ≤ sizeLine; decide, fun p2 hp2 => ?_⟩
  have n12 : p1 ≠ p2 := ne_of_none upd_same hp2
  refine ⟨p1, p2, _, _, rfl, rfl, by rw [upd_ne n12]; exact upd_same, upd_same, ?_, fun p3 hp3 => ?_⟩
  · have := My.cutTo (ns.map V.int) 8
    rw [show (8 : Int) = ((8 : Nat) : Int) from rfl, this, List.length_take]
    exact sz_of (by simp only [List.length_singleton]; omega)
  rw [show (8 : Int) = ((8 : Nat) : Int) from rfl, My.cutTo, ← List.map_take, show [V.int ns.sum] = [ns.sum].map V.int from rfl, ← List.map_append] at *
  have hT3 := ((hT.ext (Ex.new hp1)).ext (Ex.new hp2)).ext (Ex.new (o := .lst ((ns.take 8 ++ [ns.sum]).map V.int)) hp3)
  generalize hcs : ns.take 8 ++ [ns.sum] = cs at hT3
  have hcl : cs.length ≤ 9 := by
    rw [← hcs, List.length_append, List.length_take]
    simp only [List.length_singleton]
    omega
  refine ⟨p3, cs.map V.int, rfl, sq_of upd_same, for_it (walk_enum (K := K) (a := p3) (xs := cs.map V.int)) (fun i σ H' => Tabs (TN tb) H' ∧ H' p3 = some (.lst (cs.map V.int)) ∧ ∃ x1 x2 x3 x4 x5 x6 x7 x8 x9 x10 x11 x12 x13 x14 : Option V, σ = [some (.ref a), x1, x2, x3, x4, x5, x6, x7, x8, x9, x10, x11, x12, x13, x14])
    ⟨hT3, upd_same, none, none, none, none, none, none, none, none, none, none, none, none, none, none, rfl⟩ (fun i σ H' _ h => sq_of h.2.1) ?_ ?_⟩
  rotate_left
  · rintro σ H1 _
    exact q H1
  rintro i v σ H1 H2 hi ⟨t1, h3, x1, x2, x3, x4, x5, x6, x7, x8, x9, x10, x11, x12, x13, x14, rfl⟩ ⟨t, x, y, rfl, ht, rfl, hx, hy⟩
  obtain rfl := Option.some.inj hx
  rw [List.length_map] at hi
  obtain ⟨z, rfl⟩ : ∃ z : Int, y = V.int z := by
    have hy' : (cs.map V.int)[i]? = some y := hy
    rw [List.getElem?_map, List.getElem?_eq_getElem hi] at hy'
    exact ⟨_, (Option.some.inj hy').symm⟩
  have h3' : upd H1 t (HO.tup [V.int (i : Nat), V.int z]) p3 = some (.lst (cs.map V.int)) := by
    rw [upd_ne (ne_of_none h3 ht)]
    exact h3
  have T2 : Tabs (TN tb) (upd H1 t (HO.tup [V.int (i : Nat), V.int z])) := t1.ext (Ex.new ht)
  refine ⟨t, _, rfl, st_of upd_same, rfl, _, _, rfl, _, _, rfl, rfl, ?_⟩
  generalize upd H1 t (HO.tup [V.int (i : Nat), V.int z]) = H2 at h3' T2 ⊢
  walk_at "go"
  refine ⟨z, (i : Nat), rfl, by omega, by omega, fun d Hd hd0 hDS S => ?_⟩
  have hd3 := S _ _ h3'
  have nd3 : p3 ≠ d := ne_of_none h3' hd0
  have Td : Tabs (TN tb) Hd := T2.ext S
  walk_at "go"
  refine ⟨d, 1000000, rfl, hDS, by decide, fun vr r B0 H3 hok hR hE hNT hBd S1 hd1 => ?_⟩
  have j3 : H3 p3 = some (.lst (cs.map V.int)) := S1 _ _ nd3 hd3
  have T3 : Tabs (TN tb) H3 := by
    obtain ⟨_, _, _, hdk, _⟩ := hDS
    exact tabs_but Td hdk S1
  have e0 : Ex B0 (upd B0 p3 (.lst (cs.map V.int))) := fun b o e => by
    by_cases n : b = p3
    · subst n
      have := hE _ _ e
      rw [j3] at this
      rw [upd_same]
      exact this
    · rw [upd_ne n]
      exact e
  have c0 : Ex (upd B0 p3 (.lst (cs.map V.int))) H3 := fun b o e => by
    by_cases n : b = p3
    · subst n
      rw [upd_same] at e
      rw [j3]
      exact e
    · rw [upd_ne n] at e
      exact hE _ _ e
  have nt0 : NoTab (upd B0 p3 (.lst (cs.map V.int))) := nt_upd hNT fun _ z => nomatch z
  have cd0 : (upd B0 p3 (.lst (cs.map V.int))) d = none := by
    rw [upd_ne nd3.symm]
    exact hBd
  have hR0 := (RkP K r).m e0 hR
  have cp0 : (upd B0 p3 (.lst (cs.map V.int))) p3 = some (.lst (cs.map V.int)) := upd_same
  have J0 : Jn (TN tb) (upd B0 p3 (.lst (cs.map V.int))) d (1000000 + 300) H3 := ⟨c0, T3, hd1⟩
  generalize upd B0 p3 (.lst (cs.map V.int)) = C0 at hR0 J0 nt0 cd0 cp0
  -- the rows, drawn
  dsimp only [tSeq]
  refine ⟨.ref d, rfl, d, 9, _, rfl, by decide, by decide, J0.s, by omega, fun m H6 m0 m1 hd6 S6 => ?_⟩
  have J6 := J0.sb cd0 S6 hd6
  refine ⟨m, rfl, by omega, by omega, fun D hD => lc_range (lo := 0) (n := m.toNat) (fun j H' => ∃ Cj ws ys, Ex C0 Cj ∧ Ex Cj H' ∧ SameBut d H6 H' ∧ DSt H' d (1000304 + 20 * j) ∧ NoTab Cj ∧ Cj d = none ∧ Cj D = none ∧ H' D = some (.lst ys) ∧ AllP (ws.map DvP) ys Cj ∧ ws.length = j ∧ ∀ u ∈ ws, u.Of r ∧ u.i ≤ 20 ∧ u.j ≤ 20)
    ⟨C0, [], [], Ex.refl _, J6.e.trans (Ex.new hD), sb_same (Ex.new hD), J6.s.ex (Ex.new hD), nt0, cd0, fresh_back J6.e hD, upd_same, (show AllP [] [] C0 from trivial), rfl, fun u h => absurd h List.not_mem_nil⟩ ?_ ?_⟩
  · rintro j H7 hj ⟨Cj, ws, ys, c1, ej, Sj, dj, ntj, cdj, cDj, hDj, hys, hwl, hwo⟩
    refine ⟨rfl, ?_⟩
    dsimp only [tYes]
    refine iteT ?_
    have nDd : D ≠ d := fun e => by
      subst e
      obtain ⟨_, _, _, k, _⟩ := dj
      rw [hDj] at k
      cases k
    have hRj := (RkP K r).m c1 hR0
    have hRj2 := hRj
    obtain ⟨pr, vn, va, rfl, hpr, hn, ha⟩ := hRj2
    cases ha with
    | @tup pa as _ hpa has =>
      have hasl : as.length = r.axs.length := by rw [dps_len has, List.length_map]
      refine ⟨.ref d, rfl, .ref pr, rfl, pr, _, 1, vn, rfl, rfl, ex_t ej hpr, rfl, .ref pr, rfl, pr, _, 2, .ref pa, rfl, rfl, ex_t ej hpr, rfl, pa, as, rfl, .inr (ex_t ej hpa), Cj, d, _, 5, r, vn, by rw [hasl]; rfl, by decide, hok, hn, ej, cdj, dj, by omega, fun u B' H8 vu hu hij g8 hd8 hvu => ?_⟩
      have h8 := g8.s _ _ nDd hDj
      obtain ⟨pu, rfl, hpu⟩ := hvu
      have nu : pu ≠ D := fun e => by
        subst e
        have := g8.c _ _ hpu
        rw [h8] at this
        cases this
      refine ⟨ys, h8, small1000 (by have := hys.len; rw [List.length_map] at this; omega), wo D B', ws ++ [u], ys ++ [.ref pu], c1.trans (ex_wo g8.b cDj), fun b o e => ?_, sb_new (sb_trans Sj g8.s) hD, (hd8.upd nDd.symm).le (by omega), fun b ps e => g8.n ntj b ps (wo_some e).2, by rw [wo_ne nDd.symm]; exact g8.d, wo_same, upd_same, ?_, by rw [List.length_append, hwl]; rfl, fun x hx => ?_⟩
      · obtain ⟨n, q⟩ := wo_some e
        rw [upd_ne n]
        exact g8.c _ _ q
      · rw [List.map_append]
        exact (hys.m (ex_wo g8.b cDj)).app ⟨⟨pu, rfl, by rw [wo_ne nu]; exact hpu⟩, trivial⟩
      · rcases List.mem_append.mp hx with hx | hx
        · exact hwo x hx
        · rw [List.mem_singleton.mp hx]
          have := hu.i
          have := hu.j
          exact ⟨hu, by omega, by omega⟩
  rintro H7 ⟨Cj, ws, ys, c1, ej, Sj, dj, ntj, cdj, cDj, hDj, hys, hwl, hwo⟩
  have hyl : ys.length = m.toNat := by
    rw [hys.len, List.length_map, hwl]
  have nDd : D ≠ d := fun e => by
    subst e
    obtain ⟨_, _, _, k, _⟩ := dj
    rw [hDj] at k
    cases k
  have T7 : Tabs (TN tb) H7 := by
    obtain ⟨_, _, _, k, _⟩ := J6.s
    exact tabs_but J6.t k Sj
  -- rows + rows[:k]
  refine ⟨.ref D, rfl, .ref D, rfl, .ref d, rfl, d, 3, _, rfl, by decide, by decide, dj, by omega, fun k H8 k0 k1 hd8 S8 => ?_⟩
  obtain ⟨k, rfl⟩ : ∃ n : Nat, k = (n : Int) := ⟨k.toNat, by omega⟩
  have hD8 := S8 _ _ nDd hDj
  refine ⟨k, rfl, D, ys, rfl, sq_of hD8, fun s hs => ?_⟩
  rw [My.cutTo]
  have nDs : D ≠ s := ne_of_none hD8 hs
  refine ⟨D, s, ys, ys.take k, rfl, rfl, by rw [upd_ne nDs]; exact hD8, upd_same, sz_of (by rw [List.length_take]; omega), fun R hRn => ?_⟩
  have e8 := ex_sb ej cdj S8
  have T8 : Tabs (TN tb) H8 := by
    obtain ⟨_, _, _, k, _⟩ := dj
    exact tabs_but T7 k S8
  have eR : Ex Cj (upd (upd H8 s (.lst (ys.take k))) R (.lst (ys ++ ys.take k))) := (e8.trans (Ex.new hs)).trans (Ex.new hRn)
  have cR : Cj R = none := fresh_back (e8.trans (Ex.new hs)) hRn
  have J9 : Jn (TN tb) (upd Cj R (.lst (ys ++ ys.take k))) d 1001000 (upd (upd H8 s (.lst (ys.take k))) R (.lst (ys ++ ys.take k))) := ⟨fun b o e => by
      by_cases n : b = R
      · subst n
        rw [upd_same] at e ⊢
        exact e
      · rw [upd_ne n] at e
        exact eR b o e, (T8.ext (Ex.new hs)).ext (Ex.new hRn), ((hd8.ex (Ex.new hs)).ex (Ex.new hRn)).le (by omega)⟩
  have hrows : (LqP K ((ws ++ ws.take k).map DvP)).P (.ref R) (upd Cj R (.lst (ys ++ ys.take k))) := ⟨R, _, rfl, sq_of upd_same, by
    have h1 := hys.m (Ex.new (o := .lst (ys ++ ys.take k)) cR)
    rw [List.map_append, List.map_take]
    exact h1.app (h1.take k)⟩
  have nt9 : NoTab (upd Cj R (.lst (ys ++ ys.take k))) := nt_upd ntj fun _ z => nomatch z
  have cd9 : (upd Cj R (.lst (ys ++ ys.take k))) d = none := by
    have : d ≠ R := fun z => by
      subst z
      have := (hd8.ex (Ex.new (o := .lst (ys.take k)) hs))
      exact absurd hRn this.ne0
    rw [upd_ne this]
    exact cdj
  have C09 := c1.trans (Ex.new (o := .lst (ys ++ ys.take k)) cR)
  have hR9 := (RkP K r).m C09 hR0
  have cp9 := C09 _ _ cp0
  have hus : ∀ u ∈ ws ++ ws.take k, u.Of r ∧ u.i ≤ 20 ∧ u.j ≤ 20 := fun u hu => by
    rcases List.mem_append.mp hu with h | h
    · exact hwo u h
    · exact hwo u (List.mem_of_mem_take h)
  have hul : (ws ++ ws.take k).length ≤ 20 := by
    rw [List.length_append, List.length_take]
    omega
  generalize upd Cj R (.lst (ys ++ ys.take k)) = C at J9 hrows nt9 cd9 hR9 cp9
  generalize upd (upd H8 s (.lst (ys.take k))) R (.lst (ys ++ ys.take k)) = H9 at J9
  generalize ws ++ ws.take k = us at hrows hus hul
  have hof : ∀ u ∈ us, u.Of r := fun u hu => (hus u hu).1
  have hn : ∀ u ∈ us, u.n ∈ r.ns := fun u hu => (hof u hu).n
  have hris : r.sort (dedD us) = r.rise us := (r.rise_sort hn fun v => Iff.rfl).symm
  have memr : ∀ v, v ∈ r.rise us → v ∈ us := fun v hv => by
    rw [← hris] at hv
    exact ded_mem.mp ((r.sort_perm _).mem_iff.mp hv)
  have hrl : (r.rise us).length ≤ 20 := by
    rw [← hris, (r.sort_perm _).length_eq]
    exact Nat.le_trans (ded_len us) hul
  have hrus : ∀ u ∈ r.rise us, u.Of r ∧ u.i ≤ 20 ∧ u.j ≤ 20 := fun u hu => hus u (memr u hu)
  obtain ⟨w1, w2, w3⟩ := Gd.show_dvs hok hrus (by omega)
  obtain ⟨u1, u2, u3⟩ := Gd.show_dvs hok hus (by omega)
  -- told, due, kept
  refine ⟨vr, rfl, .ref R, rfl, (inr_use J9 nt9 cd9 hok hR9 hof (by omega) (.inl hrows) fun pt xs C3 H10 e3 J10 nt10 cd10 cpt hpt hxs => ?_).1 hrows⟩
  rw [hris] at hxs
  refine p_callP (ps := [RkP K r, LqP K (us.map DvP)]) (p := LsP ((r.rise us).map DvP)) (q_cons (p_var rfl ((RkP K r).m e3 hR9)) (q_cons (p_var rfl ((LqP K _).m e3 hrows)) q_nil)) ⟨r, us, hok, hof, by omega, rfl, rfl⟩ H10 J10.e _ fun vd C4 H11 g4 hdue => ?_
  have cpt4 : C4 pt = none := g4.d pt cpt (by rw [hpt]; exact fun z => nomatch z)
  have hR4 := (RkP K r).m (e3.trans g4.b) hR9
  have hrows4 := (LqP K _).m (e3.trans g4.b) hrows
  have J11 : Jn (TN tb) C4 d 1001000 H11 := ⟨g4.c, J10.t.ext g4.a, J10.s.ex g4.a⟩
  have nt11 := g4.e nt10
  have cd11 := g4.d d cd10 J10.s.ne0
  have hpt11 := g4.a _ _ hpt
  have hxs4 := hxs.m g4.b
  refine Gd.ev_repr (K := K) (d := .list (us.map Dv.D)) (p_var rfl (lq_dp hrows4)) u2 u3 u1 H11 J11.e _ fun H12 e12 => ?_
  have J12 := J11.ex e12
  have hpt12 := e12 _ _ hpt11
  refine ⟨_, _, _, rfl, ?_⟩
  have dptold : Dp K H12 (.ref pt) (.list ((r.rise us).map Dv.D)) := ls_dp0 ⟨pt, xs, rfl, hpt12, hxs4.m J12.e⟩
  have dpdue : ∀ {H' : Hp}, Ex C4 H' → Dp K H' vd (.list ((r.rise us).map Dv.D)) := fun e => ls_dp0 ((LsP _).m e hdue)
  dsimp only
  refine ⟨.ref pt, rfl, .ref pt, _, rfl, dptold, w2, w3, w1, vd, rfl, vd, _, rfl, dpdue J12.e, w2, w3, w1, rfl, false, ne_strs _, ?_⟩
  refine iteF ?_
  refine ⟨vr, rfl, ?_⟩
  refine p_tupOf (p_var rfl hrows4) H12 J12.e _ fun vt C5 H13 g5 htup => ?_
  have J13 : Jn (TN tb) C5 d 1001000 H13 := ⟨g5.c, J12.t.ext g5.a, J12.s.ex g5.a⟩
  have cpt5 : C5 pt = none := g5.d pt cpt4 (by rw [hpt12]; exact fun z => nomatch z)
  have C5p : Ex (upd C5 pt (.lst xs)) H13 := fun b o e => by
    by_cases n : b = pt
    · subst n
      rw [upd_same] at e
      rw [g5.a _ _ hpt12]
      exact e
    · rw [upd_ne n] at e
      exact g5.c _ _ e
  have ndpt : d ≠ pt := fun z => by
    subst z
    obtain ⟨_, _, _, k, _⟩ := J12.s
    rw [hpt12] at k
    cases k
  have e55 : Ex C5 (upd C5 pt (.lst xs)) := Ex.new cpt5
  have J13p : Jn (TN tb) (upd C5 pt (.lst xs)) d 1001000 H13 := ⟨C5p, J13.t, J13.s⟩
  have htupp := (TuP K _).m e55 htup
  refine (inr_use J13p (nt_upd (g5.e nt11) fun _ z => nomatch z) (by rw [upd_ne ndpt]; exact g5.d d cd11 J12.s.ne0) hok ((RkP K r).m (g5.b.trans e55) hR4) hof (by omega) (.inr htupp) fun pt2 xs2 C6 H14 e6 J14 nt14 cd14 cpt6 hpt6 hxs6 => ?_).2 htupp
  rw [hris] at hxs6
  refine ⟨.ref pt2, _, rfl, ls_dp0 ⟨pt2, xs2, rfl, hpt6, hxs6.m J14.e⟩, w2, w3, w1, vd, rfl, vd, _, rfl, dpdue (((g5.b.trans e55).trans e6).trans J14.e), w2, w3, w1, rfl, false, ne_strs _, ?_⟩
  refine iteF ?_
  -- the one told is changed
  have hpt14 := J14.e _ _ (e6 _ _ upd_same)
  refine ⟨.ref pt, rfl, .inl ⟨rfl, _, sq_of hpt14⟩, pt, xs, .non, rfl, rfl, hpt14, sz_lt (by have := hxs.len; rw [List.length_map] at this; omega), ?_⟩
  have e57 : Ex C5 (wo pt C6) := ex_wo (e55.trans e6) cpt5
  have J15 : Jn (TN tb) (wo pt C6) d 1001000 (upd H14 pt (.lst (xs ++ [.non]))) := ⟨Ex.mut (wo_ex.trans J14.e) wo_same, tabs_lst J14.t hpt14, J14.s.upd ndpt⟩
  have nt15 : NoTab (wo pt C6) := fun b ps e => nt14 b ps (wo_some e).2
  have cd15 : wo pt C6 d = none := by rw [wo_ne ndpt]; exact cd14
  have e47 := g5.b.trans e57
  have hR7 := (RkP K r).m e47 hR4
  have hrows7 := (LqP K _).m e47 hrows4
  have hdue7 := (LsP _).m e47 hdue
  have cp7 := e47 _ _ (g4.b _ _ (e3 _ _ cp9))
  generalize wo pt C6 = C7 at J15 nt15 cd15 hR7 hrows7 hdue7 cp7
  generalize upd H14 pt (.lst (xs ++ [.non])) = H15 at J15
  clear J12 J13 J14 J11 J10 J9 hpt14 hpt12 hpt11 hpt hpt6
  refine ⟨vr, rfl, ?_⟩
  refine p_revQ (p_var rfl hrows7) H15 J15.e _ fun vrev C8 H16 g8 hrev => ?_
  have J16 : Jn (TN tb) C8 d 1001000 H16 := ⟨g8.c, J15.t.ext g8.a, J15.s.ex g8.a⟩
  have hrev' : (LqP K (us.reverse.map DvP)).P vrev C8 := by rw [List.map_reverse]; exact lq_ls hrev
  refine (inr_use J16 (g8.e nt15) (g8.d d cd15 J15.s.ne0) hok ((RkP K r).m g8.b hR7) (us := us.reverse) (fun u hu => hof u (List.mem_reverse.mp hu)) (by rw [List.length_reverse]; omega) (.inl hrev') fun pt3 xs3 C9 H17 e9 J17 nt17 cd17 cpt9 hpt9 hxs9 => ?_).1 hrev'
  have hris2 : r.sort (dedD us.reverse) = r.rise us := (r.rise_sort hn fun v => List.mem_reverse.symm).symm
  rw [hris2] at hxs9
  have e79 := g8.b.trans e9
  refine ⟨.ref pt3, _, rfl, ls_dp0 ⟨pt3, xs3, rfl, hpt9, hxs9.m J17.e⟩, w2, w3, w1, vd, rfl, vd, _, rfl, ls_dp0 ((LsP _).m (e79.trans J17.e) hdue7), w2, w3, w1, rfl, false, ne_strs _, ?_⟩
  refine iteF ?_
  refine ⟨.ref R, rfl, .ref R, _, rfl, lq_dp ((LqP K _).m (e79.trans J17.e) hrows7), u2, u3, u1, _, rfl, rfl, false, ne_strs _, ?_⟩
  refine iteF ?_
  have hR9' := (RkP K r).m e79 hR7
  have hdue9 := (LsP _).m e79 hdue7
  have cp9' := e79 _ _ cp7
  generalize hkept : (PyData.list (us.map Dv.D)).shown = kept
  have sl6 : ∀ {σ : L2.St} {C' : Hp}, σ[8]? = some (some vd) → Ex C9 C' → EvP (tSl (rSlL K) (tVar 8) tNoPart (tPart (tC (.int 6)))) σ C' (LqP K (((r.rise us).take 6).map DvP)) := by
    intro σ C' s e
    rw [List.map_take]
    exact p_lq (p_sl (k := 6) (p_lq (p_var s ((LsP _).m e hdue9))) ev_c)
  have hv6 : ∀ u ∈ (r.rise us).take 6, u.Of r := fun u hu => (hrus u (List.mem_of_mem_take hu)).1
  have hl6 : ((r.rise us).take 6).length ≤ 6 := by rw [List.length_take]; omega
  generalize (r.rise us).take 6 = vs at sl6 hv6 hl6
  have getU : ∀ {k : Nat} (h : k < vs.length), (vs.map DvP).getD k (IsV .non) = DvP vs[k] := fun {k} h => by
    rw [List.getD_eq_getElem?_getD, List.getElem?_map, List.getElem?_eq_getElem h]
    rfl
  dsimp only [tSeq]
  refine ps_forS (B := C9) J17.e (src_lq (K := K) (sl6 rfl (Ex.refl _))) fun C10 H18 g10 => ?_
  have J18 : Jn (TN tb) C10 d 1001000 H18 := ⟨g10.c, J17.t.ext g10.a, J17.s.ex g10.a⟩
  have nt18 := g10.e nt17
  have cd18 := g10.d d cd17 J17.s.ne0
  have hR10 := (RkP K r).m g10.b hR9'
  have cp10 := g10.b _ _ cp9'
  refine ⟨fun mm σ' H' => Jn (TN tb) C10 d 1001000 H' ∧ ∃ xa xb xc, σ' = [some (.ref a), some (.int i), some (.int z), some (.ref d), some vr, some (.ref R), x6, some (.ref pt), some vd, some (.str kept), xa, xb, xc, x13, x14], ⟨J18, x10, x11, x12, rfl⟩, fun mm σ' H' _ h => h.1.e, fun mm va σ' H' hmm pv pa => ?_, fun σ' H' pv => ?_⟩
  · obtain ⟨Ja, xa, xb, xc, rfl⟩ := pv
    rw [List.length_map] at hmm
    rw [getU hmm] at pa
    refine ps_forS (B := C10) Ja.e (src_lq (K := K) (sl6 rfl g10.b)) fun C11 H19 g11 => ?_
    have J19 : Jn (TN tb) C11 d 1001000 H19 := ⟨g11.c, Ja.t.ext g11.a, Ja.s.ex g11.a⟩
    have pa11 := (DvP vs[mm]).m g11.b pa
    have hR11 := (RkP K r).m g11.b hR10
    refine ⟨fun kk σ' H' => Jn (TN tb) C11 d 1001000 H' ∧ ∃ xb xc, σ' = [some (.ref a), some (.int i), some (.int z), some (.ref d), some vr, some (.ref R), x6, some (.ref pt), some vd, some (.str kept), some va, xb, xc, x13, x14], ⟨J19, xb, xc, rfl⟩, fun kk σ' H' _ h => h.1.e, fun kk vb σ' H' hkk pv pb => ?_, fun σ' H' pv => ?_⟩
    · obtain ⟨Jb, xb, xc, rfl⟩ := pv
      rw [List.length_map] at hkk
      rw [getU hkk] at pb
      have oa := hv6 _ (List.getElem_mem hmm)
      have ob := hv6 _ (List.getElem_mem hkk)
      have ab : ∀ {σ : L2.St} (i j : Nat) {u v : Dv} {x y : V}, σ[4]? = some (some vr) → σ[i]? = some (some x) → σ[j]? = some (some y) → (DvP u).P x C11 → (DvP v).P y C11 → u.Of r → v.Of r → Ev (tCall (spP (Rab K)) [] E0 (tCons (tVar 4) (tCons (tVar i) (tCons (tVar j) tNil)))) σ C11 (.bl (decide (r.lt v u))) := by
        intro σ i j u v x y s4 si sj hx hy ou ov
        exact ev_p (p_callP (ps := [RkP K r, DvP u, DvP v]) (q_cons (p_var s4 hR11) (q_cons (p_var si hx) (q_cons (p_var sj hy) q_nil))) ⟨r, u, v, hok, ou, ov, rfl, rfl⟩)
      refine ps_asgN (fun x => [some (.ref a), some (.int i), some (.int z), some (.ref d), some vr, some (.ref R), x6, some (.ref pt), some vd, some (.str kept), some va, some vb, some x, x13, x14]) Jb.e (p_ev (v := .int (r.cmp vs[mm] vs[kk])) (ev_is (ev_op (ev_intB (ab 10 11 rfl rfl rfl pa11 pb oa ob)) (ev_intB (ab 11 10 rfl rfl rfl pb pa11 ob oa)) (rv_I0 (g := fun i j => .int (i - j)))) (congrArg V.int (cmp_ints r)))) (fun x C12 H20 g12 hx => ?_) (fun _ => rfl)
      obtain rfl : x = .int (r.cmp vs[mm] vs[kk]) := hx
      dsimp only
      have hR12 := (RkP K r).m g12.b hR11
      have pa12 := (DvP vs[mm]).m g12.b pa11
      have pb12 := (DvP vs[kk]).m g12.b pb
      have c3 := r.cmp_3 vs[mm] vs[kk]
      obtain ⟨z1, z2, z3⟩ := show_two (c := r.cmp vs[mm] vs[kk]) (by omega) (by omega)
      refine ps_ifN g12.c (et_is (et_test (ev_op (Gd.ev_repr (K := K) (d := .list [.int (r.cmp vs[mm] vs[kk]), .int (r.cmp vs[mm] vs[kk])]) (ed_lst (ds := [.int (r.cmp vs[mm] vs[kk]), .int (r.cmp vs[mm] vs[kk])]) (q_cons (d_int (p_callP (ps := [RkP K r, DvP vs[mm], DvP vs[kk]]) (q_cons (p_var rfl hR12) (q_cons (p_var rfl pa12) (q_cons (p_var rfl pb12) q_nil))) ⟨r, _, _, hok, oa, ob, rfl, rfl⟩)) (q_cons (d_int (p_callN (ps := [RkP K r, DvP vs[mm]]) (qs := [DvP vs[kk]]) (q_cons (p_var rfl hR12) (q_cons (p_var rfl pa12) q_nil)) (q_cons (p_var rfl pb12) q_nil) rfl rfl ⟨r, _, _, hok, oa, ob, rfl, rfl⟩)) q_nil)) (by show 2 ≤ 100000; decide)) z1 z2 z3)
          (Gd.ev_repr (K := K) (d := .list [.int (r.cmp vs[mm] vs[kk]), .int (r.cmp vs[mm] vs[kk])]) (p_to (p_rep (n := 2) (p_lst (ps := [IsV (.int (r.cmp vs[mm] vs[kk]))]) (q_cons (p_varV rfl) q_nil) (by show 1 ≤ 100000; decide)) p_c (by decide) (by show 1 * 2 ≤ 100000; decide)) (to_lst (.cons to_int (.cons to_int .nil)))) z1 z2 z3) (rv_ne rfl))) (by simp)) fun H21 e21 => ?_
      exact ⟨((⟨g12.b.trans (g12.c.trans e21), Jb.t.ext (g12.a.trans e21), Jb.s.ex (g12.a.trans e21)⟩ : Jn (TN tb) C11 d 1001000 H21)), _, _, rfl⟩
    · obtain ⟨Jb, xb, xc, rfl⟩ := pv
      exact ⟨Jb.down g11.b, _, _, _, rfl⟩
  obtain ⟨Je, xa, xb, xc, rfl⟩ := pv
  -- all to an order
  refine ⟨.ref d, rfl, d, 4, _, rfl, by decide, by decide, Je.s, by omega, fun o H20 o0 o1 hd20 S20 => ?_⟩
  obtain ⟨o, rfl⟩ : ∃ n : Nat, o = (n : Int) := ⟨o.toNat, by omega⟩
  have J20 := Je.sb cd18 S20 hd20
  refine ⟨vr, rfl, _, rfl, all_use J20 nt18 cd18 hok hR10 (o := o) (by omega) fun va C11 H21 e11 J21 nt21 cd21 hva => ?_⟩
  have hln : ∀ u ∈ r.lines o r.ns.length, u.Of r := fun u hu => Rk.mem_all ((r.mem_lines o u).mp hu)
  have heq : r.sort (r.all o) = r.rise (r.lines o r.ns.length) := by
    rw [r.rise_sort (fun u hu => (hln u hu).n) (r.mem_lines o), ded_same (r.all_nd o hok.nd)]
  have hlo : ∀ u ∈ r.sort (r.all o), u.Of r ∧ u.i ≤ 20 ∧ u.j ≤ 20 := fun u hu => by
    have := (r.sort_perm _).mem_iff.mp hu
    have h2 := all_low this
    exact ⟨Rk.mem_all this, by omega, by omega⟩
  obtain ⟨y1, y2, y3⟩ := Gd.show_dvs hok hlo (by
    rw [(r.sort_perm _).length_eq, ← r.rowsT_all]
    exact Nat.le_trans (r.rowsT_len (by omega) hok.le) (by decide))
  rw [heq] at hva y1 y2 y3
  refine ⟨va, _, rfl, ls_dp0 ((LsP _).m J21.e hva), y2, y3, y1, ?_⟩
  have hR11 := (RkP K r).m e11 hR10
  refine Gd.ev_repr (K := K) (d := .list ((r.rise (r.lines o r.ns.length)).map Dv.D)) ((p_callP (ps := [RkP K r, LqP K ((r.lines o r.ns.length).map DvP)]) (p := LsP ((r.rise (r.lines o r.ns.length)).map DvP)) (q_cons (p_var rfl hR11) (q_cons (p_lq (p_callP (ps := [RkP K r, IsV (.int (o : Nat))]) (p := LsP ((r.lines o r.ns.length).map DvP)) (q_cons (p_var rfl hR11) (q_cons (p_varV rfl) q_nil)) ⟨r, o, hok, by omega, rfl, rfl⟩)) q_nil)) ⟨r, _, hok, hln, Nat.le_trans (r.lines_len (by omega) hok.le) (by decide), rfl, rfl⟩).imp fun _ _ _ x => ls_dp0 x) y2 y3 y1 H21 J21.e _ fun H22 e22 => ?_
  refine ⟨rfl, false, ne_strs _, ?_⟩
  refine iteF ?_
  have J22 := J21.ex e22
  -- those of the order 0
  refine ⟨vr, rfl, rfl, rfl, all_use J22 nt21 cd21 hok hR11 (o := 0) (by decide) fun vz C12 H23 e12 J23 nt23 cd23 hvz => ?_⟩
  rw [r.zero hok.nd] at hvz
  have hR12 := (RkP K r).m e12 hR11
  have lcz := p_lcP (te := tTup (tCons (tVar 14) (tCons (tC (.int 0)) (tCons (tC (.int 0)) tNil)))) (g := gName 14) (vs := [14]) (σ := [some (.ref a), some (.int i), some (.int z), some (.ref d), some vr, some (.ref R), x6, some (.ref pt), some vd, some (.str kept), xa, xb, xc, some (.int (o : Nat)), x14]) (B := C12)
    (src_tq (K := K) (te := Gd.tRevT K (tOp (rIxT K) (tVar 4) (tC (.int 1)))) (p_revT (p_names rfl hR12))) (by rw [List.length_reverse, List.length_map]; have := hok.le; omega) (fun j => DvP ⟨r.ns.reverse.getD j "", 0, 0⟩) fun j v B5 hj e5 pv => by
      rw [List.length_reverse, List.length_map] at hj
      have hj2 : j < r.ns.reverse.length := by rw [List.length_reverse]; exact hj
      have hv : v = .str (r.ns.reverse.getD j "") := by
        have pv : (((r.ns.map fun x => IsV (.str x)).reverse).getD j (IsV .non)).P v B5 := pv
        rw [← List.map_reverse, List.getD_eq_getElem?_getD, List.getElem?_map, List.getElem?_eq_getElem hj2] at pv
        rw [List.getD_eq_getElem?_getD, List.getElem?_eq_getElem hj2]
        exact pv
      subst hv
      exact ⟨[some (.ref a), some (.int i), some (.int z), some (.ref d), some vr, some (.ref R), x6, some (.ref pt), some vd, some (.str kept), xa, xb, xc, some (.int (o : Nat)), some (.str (r.ns.reverse.getD j ""))], rfl, fun H2 Q e q => q, p_dv (u := ⟨r.ns.reverse.getD j "", 0, 0⟩) rfl rfl rfl (q_cons (p_varV rfl) (q_cons p_c (q_cons p_c q_nil)))⟩
  have hzl : (List.range ((r.ns.map fun x => IsV (.str x)).reverse).length).map (fun j => DvP ⟨r.ns.reverse.getD j "", 0, 0⟩) = (r.ns.reverse.map fun n => (⟨n, 0, 0⟩ : Dv)).map DvP := by
    rw [List.length_reverse, List.length_map]
    apply List.ext_getElem?
    intro j
    by_cases hj : j < r.ns.length
    · have hj2 : j < r.ns.reverse.length := by rw [List.length_reverse]; exact hj
      rw [List.getElem?_map, List.getElem?_range hj, List.getElem?_map, List.getElem?_map, List.getElem?_eq_getElem hj2, Option.map_some, List.getD_eq_getElem?_getD, List.getElem?_eq_getElem hj2]
      rfl
    · rw [List.getElem?_eq_none (by simp; omega), List.getElem?_eq_none (by simp; omega)]
  rw [hzl] at lcz
  refine lcz H23 J23.e _ fun v2 C13 H24 g13 hv2 => ?_
  have sh0 : SeqAt.shaped (.list ((r.ns.reverse.map fun n => (⟨n, 0, 0⟩ : Dv)).map Dv.D)) = true := sh_list fun u hu => shp_dv' hok (by
    obtain ⟨n, hn0, rfl⟩ := List.mem_map.mp hu
    exact ⟨List.mem_reverse.mp hn0, Int.le_refl 0, Int.le_refl 0, .inl rfl⟩)
  refine ⟨_, _, ls_dp0 ((LsP _).m (g13.b.trans g13.c) hvz), ls_dp0 ((LsP _).m g13.c hv2), sh0, sh0, false, ne_shape sh0, ?_⟩
  refine iteF ?_
  have J24 : Jn (TN tb) C12 d (1001000 + 4) H24 := ⟨g13.b.trans g13.c, J23.t.ext g13.a, J23.s.ex g13.a⟩
  -- how many to the order 12
  refine ⟨vr, rfl, all_use J24 nt23 cd23 hok hR12 (o := 12) (by decide) fun vl C14 H25 e14 J25 nt25 cd25 hvl => ?_⟩
  obtain ⟨pl, ls, rfl, hpl, hal⟩ := hvl
  have hll : ls.length = r.ns.length * (if r.axs.length = 2 then 91 else 13) := by
    rw [hal.len, List.length_map, (r.sort_perm _).length_eq, r.all12]
  refine ⟨pl, ls, rfl, .inl (sq_of (J25.e _ _ hpl)), ?_⟩
  have hR14 := (RkP K r).m e14 hR12
  have hle3 := hok.le
  have er : Ev (tOp (rI CMul fun i j => .int (i * j)) (tCB (rLenS K) (tCons (tOp (rIxT K) (tVar 4) (tC (.int 1))) tNil)) (tIf (tTest (tOp rEq (tCB (rLenS K) (tCons (tOp (rIxT K) (tVar 4) (tC (.int 2))) tNil)) (tC (.int 2)))) (tC (.int 91)) (tC (.int 13)))) [some (.ref a), some (.int i), some (.int z), some (.ref d), some vr, some (.ref R), x6, some (.ref pt), some vd, some (.str kept), xa, xb, xc, some (.int (o : Nat)), x14] C14 (.int ((r.ns.length : Nat) * ((if r.axs.length = 2 then 91 else 13 : Nat) : Int))) :=
    ev_op (ev_lenNames rfl hR14) (ev_if (v := .int ((if r.axs.length = 2 then 91 else 13 : Nat) : Int)) (b := decide (r.axs.length = 2)) (et_is (et_test (ev_op (ev_lenAxes rfl hR14) ev_c (rv_eq rfl))) (by
      by_cases e : r.axs.length = 2
      · rw [e]; rfl
      · rw [decide_eq_false e, decide_eq_false_iff_not]
        intro z
        injection z with z
        omega)) (fun hb => ev_is ev_c (by rw [if_pos (of_decide_eq_true hb)]; rfl)) fun hb => ev_is ev_c (by rw [if_neg (of_decide_eq_false hb)]; rfl)) fun H1 _ _ q => ⟨_, _, rfl, rfl, .inl ⟨by omega, by omega⟩, q H1 (Ex.refl H1)⟩
  refine er H25 J25.e _ fun H26 e26 => ?_
  refine ⟨rfl, false, by rw [hll]; simp, ?_⟩
  refine iteF ?_
  have J26 := J25.ex e26
  exact ⟨J26.t, J26.e _ _ (e14 _ _ (e12 _ _ (e11 _ _ cp10))), _, _, _, _, _, _, _, _, _, _, _, _, _, _, rfl⟩

end
end K12
namespace K12
open PySem PySem.W L2 Evl My LamX
set_option autoImplicit false
theorem dp_strK {K : PySem.W.Frag} {a : Addr} {od : Option Addr} {its : Array Value} {n : Nat} {sl : Array (Option Value)} {xs : List Str} (l : K.lookup a = some ⟨.type "tuple", od, .seq its n, sl⟩) (h : Vals (xs.map V.str) its.toList) (hz : xs.length ≤ 1000 := by decide) (H : Hp) : Dp K H (.ref a) (.tuple (xs.map .str)) :=
  .tup (.inr ⟨_, its, n, l, rfl, rfl, small (by have := h.length; rw [List.length_map] at this; simp at this; omega), h⟩) (dps_of_strs xs)

theorem all_mk {l : PySem.W.OpenLaw} {w : World} {K : PySem.W.Frag} {h : Heap} {mg : Str → Option Value} {fa c tb aA aS aL q1 q2 q3 f0 f1 f2 f3 f4 f5 f6 f7 f8 f9 f10 f11 f12 f13 f14 f15 f16 f17 f18 f19 f20 f21 f22 f23 f24 f25 f26 f27 : Addr} (X : K.In h) (G : h.Ns mainGlobals mg) (hfa : mg "law" = some (.ref fa)) (hT : h.get? tb = some (PySem.W.tabObj #[]))
    {od0 an0 od1 an1 od2 an2 od3 an3 od4 an4 od5 an5 od6 an6 od7 an7 od8 an8 od9 an9 od10 an10 od11 an11 od12 an12 od13 an13 od14 an14 od15 an15 od16 an16 od17 an17 od18 an18 od19 an19 od20 an20 od21 an21 od22 an22 od23 an23 od24 an24 od25 an25 od26 an26 od27 an27 dA0 dA1 dA2 dA3 dA4 dA5 : Option Addr} {sl0 sl1 sl2 sl3 sl4 sl5 sl6 sl7 sl8 sl9 sl10 sl11 sl12 sl13 sl14 sl15 sl16 sl17 sl18 sl19 sl20 sl21 sl22 sl23 sl24 sl25 sl26 sl27 sA0 sA1 sA2 sA3 sA4 sA5 : Array (Option Value)} {oc0 kV0 dc0 pm0 cd0 ct0 oc1 kV1 dc1 pm1 cd1 ct1 oc2 kV2 dc2 pm2 cd2 ct2 oc3 kV3 dc3 pm3 cd3 ct3 oc4 kV4 dc4 pm4 cd4 ct4 oc5 kV5 dc5 pm5 cd5 ct5 oc6 kV6 dc6 pm6 cd6 ct6 oc7 kV7 dc7 pm7 cd7 ct7 oc8 kV8 dc8 pm8 cd8 ct8 oc9 kV9 dc9 pm9 cd9 ct9 oc10 kV10 dc10 pm10 cd10 ct10 oc11 kV11 dc11 pm11 cd11 ct11 oc12 kV12 dc12 pm12 cd12 ct12 oc13 kV13 dc13 pm13 cd13 ct13 oc14 kV14 dc14 pm14 ct14 oc15 kV15 dc15 pm15 cd15 ct15 oc16 kV16 dc16 pm16 cd16 ct16 oc17 kV17 dc17 pm17 cd17 ct17 oc18 kV18 dc18 pm18 cd18 ct18 oc19 kV19 dc19 pm19 cd19 ct19 oc20 kV20 dc20 pm20 cd20 ct20 oc21 kV21 dc21 pm21 cd21 ct21 oc22 kV22 dc22 pm22 cd22 ct22 oc23 kV23 dc23 pm23 cd23 ct23 oc24 kV24 dc24 pm24 cd24 ct24 oc25 kV25 dc25 pm25 cd25 ct25 oc26 kV26 dc26 pm26 cd26 ct26 oc27 kV27 dc27 pm27 cd27 ct27 : Value} {nA0 nA1 nA2 nA3 nA4 nA5 : Nat} {tk1 tk2 tk3 tk4 tk5 tk6 tk7 tk8 tk9 tk10 tk11 tk12 tk13 : Nat}
    (a0 : PySem.W.nsIn K mainGlobals "is_whole" = some (some (.ref f0)))
    (l0 : K.lookup f0 = some ⟨oc0, od0, .func (PySem.W.fnOf "is_whole" "is_whole" (defArgs s_is_whole) (defBody s_is_whole) (defScope s_is_whole) .none kV0 dc0 pm0 an0 cd0 ct0), sl0⟩)
    (e0 : PySem.W.codeIn K cd0 "is_whole" = true)
    (k0 : PySem.W.keepIn K (.ref f0) = true)
    (a1 : PySem.W.nsIn K mainGlobals "is_among" = some (some (.ref f1)))
    (l1 : K.lookup f1 = some ⟨oc1, od1, .func (PySem.W.fnOf "is_among" "is_among" (defArgs s_is_among) (defBody s_is_among) (defScope s_is_among) .none kV1 dc1 pm1 an1 cd1 ct1), sl1⟩)
    (e1 : PySem.W.codeIn K cd1 "is_among" = true)
    (k1 : PySem.W.keepIn K (.ref f1) = true)
    (a2 : PySem.W.nsIn K mainGlobals "is_name" = some (some (.ref f2)))
    (l2 : K.lookup f2 = some ⟨oc2, od2, .func (PySem.W.fnOf "is_name" "is_name" (defArgs s_is_name) (defBody s_is_name) (defScope s_is_name) .none kV2 dc2 pm2 an2 cd2 ct2), sl2⟩)
    (e2 : PySem.W.codeIn K cd2 "is_name" = true)
    (k2 : PySem.W.keepIn K (.ref f2) = true)
    (a3 : PySem.W.nsIn K mainGlobals "is_axis" = some (some (.ref f3)))
    (l3 : K.lookup f3 = some ⟨oc3, od3, .func (PySem.W.fnOf "is_axis" "is_axis" (defArgs s_is_axis) (defBody s_is_axis) (defScope s_is_axis) .none kV3 dc3 pm3 an3 cd3 ct3), sl3⟩)
    (e3 : PySem.W.codeIn K cd3 "is_axis" = true)
    (k3 : PySem.W.keepIn K (.ref f3) = true)
    (a4 : PySem.W.nsIn K mainGlobals "is_derivative" = some (some (.ref f4)))
    (l4 : K.lookup f4 = some ⟨oc4, od4, .func (PySem.W.fnOf "is_derivative" "is_derivative" (defArgs s_is_derivative) (defBody s_is_derivative) (defScope s_is_derivative) .none kV4 dc4 pm4 an4 cd4 ct4), sl4⟩)
    (e4 : PySem.W.codeIn K cd4 "is_derivative" = true)
    (k4 : PySem.W.keepIn K (.ref f4) = true)
    (a5 : PySem.W.nsIn K mainGlobals "_are_names" = some (some (.ref f5)))
    (l5 : K.lookup f5 = some ⟨oc5, od5, .func (PySem.W.fnOf "_are_names" "_are_names" (defArgs s__are_names) (defBody s__are_names) (defScope s__are_names) .none kV5 dc5 pm5 an5 cd5 ct5), sl5⟩)
    (e5 : PySem.W.codeIn K cd5 "_are_names" = true)
    (k5 : PySem.W.keepIn K (.ref f5) = true)
    (a6 : PySem.W.nsIn K mainGlobals "_are_axes" = some (some (.ref f6)))
    (l6 : K.lookup f6 = some ⟨oc6, od6, .func (PySem.W.fnOf "_are_axes" "_are_axes" (defArgs s__are_axes) (defBody s__are_axes) (defScope s__are_axes) .none kV6 dc6 pm6 an6 cd6 ct6), sl6⟩)
    (e6 : PySem.W.codeIn K cd6 "_are_axes" = true)
    (k6 : PySem.W.keepIn K (.ref f6) = true)
    (a7 : PySem.W.nsIn K mainGlobals "need_ranking" = some (some (.ref f7)))
    (l7 : K.lookup f7 = some ⟨oc7, od7, .func (PySem.W.fnOf "need_ranking" "need_ranking" (defArgs s_need_ranking) (defBody s_need_ranking) (defScope s_need_ranking) .none kV7 dc7 pm7 an7 cd7 ct7), sl7⟩)
    (e7 : PySem.W.codeIn K cd7 "need_ranking" = true)
    (k7 : PySem.W.keepIn K (.ref f7) = true)
    (a8 : PySem.W.nsIn K mainGlobals "_stands_there" = some (some (.ref f8)))
    (l8 : K.lookup f8 = some ⟨oc8, od8, .func (PySem.W.fnOf "_stands_there" "_stands_there" (defArgs s__stands_there) (defBody s__stands_there) (defScope s__stands_there) .none kV8 dc8 pm8 an8 cd8 ct8), sl8⟩)
    (e8 : PySem.W.codeIn K cd8 "_stands_there" = true)
    (k8 : PySem.W.keepIn K (.ref f8) = true)
    (a9 : PySem.W.nsIn K mainGlobals "derivative_fits" = some (some (.ref f9)))
    (l9 : K.lookup f9 = some ⟨oc9, od9, .func (PySem.W.fnOf "derivative_fits" "derivative_fits" (defArgs s_derivative_fits) (defBody s_derivative_fits) (defScope s_derivative_fits) .none kV9 dc9 pm9 an9 cd9 ct9), sl9⟩)
    (e9 : PySem.W.codeIn K cd9 "derivative_fits" = true)
    (k9 : PySem.W.keepIn K (.ref f9) = true)
    (a10 : PySem.W.nsIn K mainGlobals "need_derivative" = some (some (.ref f10)))
    (l10 : K.lookup f10 = some ⟨oc10, od10, .func (PySem.W.fnOf "need_derivative" "need_derivative" (defArgs s_need_derivative) (defBody s_need_derivative) (defScope s_need_derivative) .none kV10 dc10 pm10 an10 cd10 ct10), sl10⟩)
    (e10 : PySem.W.codeIn K cd10 "need_derivative" = true)
    (k10 : PySem.W.keepIn K (.ref f10) = true)
    (a11 : PySem.W.nsIn K mainGlobals "rank_key" = some (some (.ref f11)))
    (l11 : K.lookup f11 = some ⟨oc11, od11, .func (PySem.W.fnOf "rank_key" "rank_key" (defArgs s_rank_key) (defBody s_rank_key) (defScope s_rank_key) .none kV11 dc11 pm11 an11 cd11 ct11), sl11⟩)
    (e11 : PySem.W.codeIn K cd11 "rank_key" = true)
    (k11 : PySem.W.keepIn K (.ref f11) = true)
    (a12 : PySem.W.nsIn K mainGlobals "compared" = some (some (.ref f12)))
    (l12 : K.lookup f12 = some ⟨oc12, od12, .func (PySem.W.fnOf "compared" "compared" (defArgs s_compared) (defBody s_compared) (defScope s_compared) .none kV12 dc12 pm12 an12 cd12 ct12), sl12⟩)
    (e12 : PySem.W.codeIn K cd12 "compared" = true)
    (k12 : PySem.W.keepIn K (.ref f12) = true)
    (a13 : PySem.W.nsIn K mainGlobals "rank_compared" = some (some (.ref f13)))
    (l13 : K.lookup f13 = some ⟨oc13, od13, .func (PySem.W.fnOf "rank_compared" "rank_compared" (defArgs s_rank_compared) (defBody s_rank_compared) (defScope s_rank_compared) .none kV13 dc13 pm13 an13 cd13 ct13), sl13⟩)
    (e13 : PySem.W.codeIn K cd13 "rank_compared" = true)
    (k13 : PySem.W.keepIn K (.ref f13) = true)
    (a14 : PySem.W.nsIn K mainGlobals "rising" = some (some (.ref f14)))
    (l14 : K.lookup f14 = some ⟨oc14, od14, .func (PySem.W.fnOf "rising" "rising" (defArgs s_rising) (defBody s_rising) (defScope s_rising) .none kV14 dc14 pm14 an14 (.ref c) ct14), sl14⟩)
    (e14 : PySem.W.codeIn K (.ref c) "rising" = true)
    (k14 : PySem.W.keepIn K (.ref f14) = true)
    (a15 : PySem.W.nsIn K mainGlobals "in_rank" = some (some (.ref f15)))
    (l15 : K.lookup f15 = some ⟨oc15, od15, .func (PySem.W.fnOf "in_rank" "in_rank" (defArgs s_in_rank) (defBody s_in_rank) (defScope s_in_rank) .none kV15 dc15 pm15 an15 cd15 ct15), sl15⟩)
    (e15 : PySem.W.codeIn K cd15 "in_rank" = true)
    (k15 : PySem.W.keepIn K (.ref f15) = true)
    (a16 : PySem.W.nsIn K mainGlobals "all_to" = some (some (.ref f16)))
    (l16 : K.lookup f16 = some ⟨oc16, od16, .func (PySem.W.fnOf "all_to" "all_to" (defArgs s_all_to) (defBody s_all_to) (defScope s_all_to) .none kV16 dc16 pm16 an16 cd16 ct16), sl16⟩)
    (e16 : PySem.W.codeIn K cd16 "all_to" = true)
    (k16 : PySem.W.keepIn K (.ref f16) = true)
    (a17 : PySem.W.nsIn K mainGlobals "_law_mixed" = some (some (.ref f17)))
    (l17 : K.lookup f17 = some ⟨oc17, od17, .func (PySem.W.fnOf "_law_mixed" "_law_mixed" (defArgs s_Lmixed) (defBody s_Lmixed) (defScope s_Lmixed) .none kV17 dc17 pm17 an17 cd17 ct17), sl17⟩)
    (e17 : PySem.W.codeIn K cd17 "_law_mixed" = true)
    (k17 : PySem.W.keepIn K (.ref f17) = true)
    (a18 : PySem.W.nsIn K mainGlobals "_law_draw" = some (some (.ref f18)))
    (l18 : K.lookup f18 = some ⟨oc18, od18, .func (PySem.W.fnOf "_law_draw" "_law_draw" (defArgs s_Ldraw) (defBody s_Ldraw) (defScope s_Ldraw) .none kV18 dc18 pm18 an18 cd18 ct18), sl18⟩)
    (e18 : PySem.W.codeIn K cd18 "_law_draw" = true)
    (k18 : PySem.W.keepIn K (.ref f18) = true)
    (a19 : PySem.W.nsIn K mainGlobals "_law_digit" = some (some (.ref f19)))
    (l19 : K.lookup f19 = some ⟨oc19, od19, .func (PySem.W.fnOf "_law_digit" "_law_digit" (defArgs s_Ldigit) (defBody s_Ldigit) (defScope s_Ldigit) .none kV19 dc19 pm19 an19 cd19 ct19), sl19⟩)
    (e19 : PySem.W.codeIn K cd19 "_law_digit" = true)
    (k19 : PySem.W.keepIn K (.ref f19) = true)
    (a20 : PySem.W.nsIn K mainGlobals "_law_word" = some (some (.ref f20)))
    (l20 : K.lookup f20 = some ⟨oc20, od20, .func (PySem.W.fnOf "_law_word" "_law_word" (defArgs s_Lword) (defBody s_Lword) (defScope s_Lword) .none kV20 dc20 pm20 an20 cd20 ct20), sl20⟩)
    (e20 : PySem.W.codeIn K cd20 "_law_word" = true)
    (k20 : PySem.W.keepIn K (.ref f20) = true)
    (a21 : PySem.W.nsIn K mainGlobals "_law_names" = some (some (.ref f21)))
    (l21 : K.lookup f21 = some ⟨oc21, od21, .func (PySem.W.fnOf "_law_names" "_law_names" (defArgs s_Lnames) (defBody s_Lnames) (defScope s_Lnames) .none kV21 dc21 pm21 an21 cd21 ct21), sl21⟩)
    (e21 : PySem.W.codeIn K cd21 "_law_names" = true)
    (k21 : PySem.W.keepIn K (.ref f21) = true)
    (a22 : PySem.W.nsIn K mainGlobals "_law_derivative" = some (some (.ref f22)))
    (l22 : K.lookup f22 = some ⟨oc22, od22, .func (PySem.W.fnOf "_law_derivative" "_law_derivative" (defArgs s_Lderivative) (defBody s_Lderivative) (defScope s_Lderivative) .none kV22 dc22 pm22 an22 cd22 ct22), sl22⟩)
    (e22 : PySem.W.codeIn K cd22 "_law_derivative" = true)
    (k22 : PySem.W.keepIn K (.ref f22) = true)
    (a23 : PySem.W.nsIn K mainGlobals "_law_by" = some (some (.ref f23)))
    (l23 : K.lookup f23 = some ⟨oc23, od23, .func (PySem.W.fnOf "_law_by" "_law_by" (defArgs s_Lby) (defBody s_Lby) (defScope s_Lby) .none kV23 dc23 pm23 an23 cd23 ct23), sl23⟩)
    (e23 : PySem.W.codeIn K cd23 "_law_by" = true)
    (k23 : PySem.W.keepIn K (.ref f23) = true)
    (a24 : PySem.W.nsIn K mainGlobals "_law_is_above" = some (some (.ref f24)))
    (l24 : K.lookup f24 = some ⟨oc24, od24, .func (PySem.W.fnOf "_law_is_above" "_law_is_above" (defArgs s_Lis_above) (defBody s_Lis_above) (defScope s_Lis_above) .none kV24 dc24 pm24 an24 cd24 ct24), sl24⟩)
    (e24 : PySem.W.codeIn K cd24 "_law_is_above" = true)
    (k24 : PySem.W.keepIn K (.ref f24) = true)
    (a25 : PySem.W.nsIn K mainGlobals "_law_rising" = some (some (.ref f25)))
    (l25 : K.lookup f25 = some ⟨oc25, od25, .func (PySem.W.fnOf "_law_rising" "_law_rising" (defArgs s_Lrising) (defBody s_Lrising) (defScope s_Lrising) .none kV25 dc25 pm25 an25 cd25 ct25), sl25⟩)
    (e25 : PySem.W.codeIn K cd25 "_law_rising" = true)
    (k25 : PySem.W.keepIn K (.ref f25) = true)
    (a26 : PySem.W.nsIn K mainGlobals "_law_all" = some (some (.ref f26)))
    (l26 : K.lookup f26 = some ⟨oc26, od26, .func (PySem.W.fnOf "_law_all" "_law_all" (defArgs s_Lall) (defBody s_Lall) (defScope s_Lall) .none kV26 dc26 pm26 an26 cd26 ct26), sl26⟩)
    (e26 : PySem.W.codeIn K cd26 "_law_all" = true)
    (k26 : PySem.W.keepIn K (.ref f26) = true)
    (a27 : PySem.W.nsIn K mainGlobals "law" = some (some (.ref f27)))
    (l27 : K.lookup f27 = some ⟨oc27, od27, .func (PySem.W.fnOf "law" "law" (defArgs s_law) (defBody s_law) (defScope s_law) .none kV27 dc27 pm27 an27 cd27 ct27), sl27⟩)
    (e27 : PySem.W.codeIn K cd27 "law" = true)
    (k27 : PySem.W.keepIn K (.ref f27) = true)
    (n_isinstance : PySem.W.nsIn K mainGlobals "isinstance" = some none)
    (n_int : PySem.W.nsIn K mainGlobals "int" = some none)
    (n_bool : PySem.W.nsIn K mainGlobals "bool" = some none)
    (n_str : PySem.W.nsIn K mainGlobals "str" = some none)
    (n_len : PySem.W.nsIn K mainGlobals "len" = some none)
    (n_all : PySem.W.nsIn K mainGlobals "all" = some none)
    (n_tuple : PySem.W.nsIn K mainGlobals "tuple" = some none)
    (n_set : PySem.W.nsIn K mainGlobals "set" = some none)
    (n_list : PySem.W.nsIn K mainGlobals "list" = some none)
    (n_sorted : PySem.W.nsIn K mainGlobals "sorted" = some none)
    (n_range : PySem.W.nsIn K mainGlobals "range" = some none)
    (n_enumerate : PySem.W.nsIn K mainGlobals "enumerate" = some none)
    (n_sum : PySem.W.nsIn K mainGlobals "sum" = some none)
    (n_repr : PySem.W.nsIn K mainGlobals "repr" = some none)
    (gML : PySem.W.nsIn K mainGlobals "MOST_LETTERS" = some (some (.int 8 tk1)))
    (gLE : PySem.W.nsIn K mainGlobals "LETTERS" = some (some (.str "abcdefghijklmnopqrstuvwxyz" tk2)))
    (gMN : PySem.W.nsIn K mainGlobals "MOST_NAMES" = some (some (.int 3 tk3)))
    (gMO : PySem.W.nsIn K mainGlobals "MOST_ORDER" = some (some (.int 12 tk4)))
    (gAX : PySem.W.nsIn K mainGlobals "AXES" = some (some (.ref aA)))
    (vAX : K.lookup aA = some ⟨.type "tuple", dA0, .seq #[.str "x" tk5, .str "y" tk6] nA0, sA0⟩)
    (gSO : PySem.W.nsIn K mainGlobals "SORTS" = some (some (.ref aS)))
    (vSO : K.lookup aS = some ⟨.type "tuple", dA1, .seq #[.str "total" tk7, .str "names" tk8] nA1, sA1⟩)
    (gAL : PySem.W.nsIn K mainGlobals "AXES_ALL" = some (some (.ref aL)))
    (vAL : K.lookup aL = some ⟨.type "tuple", dA2, .seq #[.ref q1, .ref q2, .ref q3] nA2, sA2⟩)
    (vb1 : K.lookup q1 = some ⟨.type "tuple", dA3, .seq #[.str "x" tk9] nA3, sA3⟩)
    (vb2 : K.lookup q2 = some ⟨.type "tuple", dA4, .seq #[.str "x" tk10, .str "y" tk11] nA4, sA4⟩)
    (vb3 : K.lookup q3 = some ⟨.type "tuple", dA5, .seq #[.str "y" tk12, .str "x" tk13] nA5, sA5⟩)
    (hcd : PySem.W.codeHdIn K c tb = true)
    (htn : K.lookup tb = none)
    : Gd.LawAtG l w K 9 63 "_law_script" mg fa h := by
  have e := hfa.symm.trans (PySem.W.mg_of X G a27)
  cases e
  have F0 := fun_mk (st := s_is_whole) l0 e0 k0
  have b0 := F0.binds (ps := ["thing"]) fun _ _ _ _ _ _ us hl => match us, hl with | [_], _ => rfl
  have F1 := fun_mk (st := s_is_among) l1 e1 k1
  have b1 := F1.binds (ps := ["thing", "least", "most"]) fun _ _ _ _ _ _ us hl => match us, hl with | [_, _, _], _ => rfl
  have F2 := fun_mk (st := s_is_name) l2 e2 k2
  have b2 := F2.binds (ps := ["thing"]) fun _ _ _ _ _ _ us hl => match us, hl with | [_], _ => rfl
  have F3 := fun_mk (st := s_is_axis) l3 e3 k3
  have b3 := F3.binds (ps := ["thing"]) fun _ _ _ _ _ _ us hl => match us, hl with | [_], _ => rfl
  have F4 := fun_mk (st := s_is_derivative) l4 e4 k4
  have b4 := F4.binds (ps := ["thing"]) fun _ _ _ _ _ _ us hl => match us, hl with | [_], _ => rfl
  have F5 := fun_mk (st := s__are_names) l5 e5 k5
  have b5 := F5.binds (ps := ["thing"]) fun _ _ _ _ _ _ us hl => match us, hl with | [_], _ => rfl
  have F6 := fun_mk (st := s__are_axes) l6 e6 k6
  have b6 := F6.binds (ps := ["thing"]) fun _ _ _ _ _ _ us hl => match us, hl with | [_], _ => rfl
  have F7 := fun_mk (st := s_need_ranking) l7 e7 k7
  have b7 := F7.binds (ps := ["ranking"]) fun _ _ _ _ _ _ us hl => match us, hl with | [_], _ => rfl
  have F8 := fun_mk (st := s__stands_there) l8 e8 k8
  have b8 := F8.binds (ps := ["ranking", "derivative"]) fun _ _ _ _ _ _ us hl => match us, hl with | [_, _], _ => rfl
  have F9 := fun_mk (st := s_derivative_fits) l9 e9 k9
  have b9 := F9.binds (ps := ["ranking", "thing"]) fun _ _ _ _ _ _ us hl => match us, hl with | [_, _], _ => rfl
  have F10 := fun_mk (st := s_need_derivative) l10 e10 k10
  have b10 := F10.binds (ps := ["ranking", "thing"]) fun _ _ _ _ _ _ us hl => match us, hl with | [_, _], _ => rfl
  have F11 := fun_mk (st := s_rank_key) l11 e11 k11
  have b11 := F11.binds (ps := ["ranking", "derivative"]) fun _ _ _ _ _ _ us hl => match us, hl with | [_, _], _ => rfl
  have F12 := fun_mk (st := s_compared) l12 e12 k12
  have b12 := F12.binds (ps := ["one", "other"]) fun _ _ _ _ _ _ us hl => match us, hl with | [_, _], _ => rfl
  have F13 := fun_mk (st := s_rank_compared) l13 e13 k13
  have b13 := F13.binds (ps := ["ranking", "one", "other"]) fun _ _ _ _ _ _ us hl => match us, hl with | [_, _, _], _ => rfl
  have F14 : FunC K "rising" "rising" s_rising c f14 _ := ⟨⟨oc14, od14, kV14, dc14, pm14, an14, ct14, sl14, rfl, l14, e14⟩⟩
  have b14 := (fun_mk (st := s_rising) l14 e14 k14).binds (ps := ["ranking", "derivatives"]) fun _ _ _ _ _ _ us hl => match us, hl with | [_, _], _ => rfl
  have F15 := fun_mk (st := s_in_rank) l15 e15 k15
  have b15 := F15.binds (ps := ["ranking", "some"]) fun _ _ _ _ _ _ us hl => match us, hl with | [_, _], _ => rfl
  have F16 := fun_mk (st := s_all_to) l16 e16 k16
  have b16 := F16.binds (ps := ["ranking", "order"]) fun _ _ _ _ _ _ us hl => match us, hl with | [_, _], _ => rfl
  have F17 := fun_mk (st := s_Lmixed) l17 e17 k17
  have b17 := F17.binds (ps := ["_law_cell", "_law_k"]) fun _ _ _ _ _ _ us hl => match us, hl with | [_, _], _ => rfl
  have F18 := fun_mk (st := s_Ldraw) l18 e18 k18
  have b18 := F18.binds (ps := ["_law_cell", "_law_k"]) fun _ _ _ _ _ _ us hl => match us, hl with | [_, _], _ => rfl
  have F19 := fun_mk (st := s_Ldigit) l19 e19 k19
  have b19 := F19.binds (ps := ["_law_state", "_law_size"]) fun _ _ _ _ _ _ us hl => match us, hl with | [_, _], _ => rfl
  have F20 := fun_mk (st := s_Lword) l20 e20 k20
  have b20 := F20.binds (ps := ["_law_state"]) fun _ _ _ _ _ _ us hl => match us, hl with | [_], _ => rfl
  have F21 := fun_mk (st := s_Lnames) l21 e21 k21
  have b21 := F21.binds (ps := ["_law_state", "_law_many"]) fun _ _ _ _ _ _ us hl => match us, hl with | [_, _], _ => rfl
  have F22 := fun_mk (st := s_Lderivative) l22 e22 k22
  have b22 := F22.binds (ps := ["_law_state", "_law_names_here", "_law_axes", "_law_high"]) fun _ _ _ _ _ _ us hl => match us, hl with | [_, _, _, _], _ => rfl
  have F23 := fun_mk (st := s_Lby) l23 e23 k23
  have b23 := F23.binds (ps := ["_law_state"]) fun _ _ _ _ _ _ us hl => match us, hl with | [_], _ => rfl
  have F24 := fun_mk (st := s_Lis_above) l24 e24 k24
  have b24 := F24.binds (ps := ["_law_by_here", "_law_a", "_law_b"]) fun _ _ _ _ _ _ us hl => match us, hl with | [_, _, _], _ => rfl
  have F25 := fun_mk (st := s_Lrising) l25 e25 k25
  have b25 := F25.binds (ps := ["_law_by_here", "_law_rows"]) fun _ _ _ _ _ _ us hl => match us, hl with | [_, _], _ => rfl
  have F26 := fun_mk (st := s_Lall) l26 e26 k26
  have b26 := F26.binds (ps := ["_law_by_here", "_law_high"]) fun _ _ _ _ _ _ us hl => match us, hl with | [_, _], _ => rfl
  have F27 := fun_mk (st := s_law) l27 e27 k27
  have m_isinstance := PySem.W.mg_none_of X G n_isinstance
  have m_int := PySem.W.mg_none_of X G n_int
  have m_bool := PySem.W.mg_none_of X G n_bool
  have m_str := PySem.W.mg_none_of X G n_str
  have m_len := PySem.W.mg_none_of X G n_len
  have m_all := PySem.W.mg_none_of X G n_all
  have m_tuple := PySem.W.mg_none_of X G n_tuple
  have m_set := PySem.W.mg_none_of X G n_set
  have m_list := PySem.W.mg_none_of X G n_list
  have m_sorted := PySem.W.mg_none_of X G n_sorted
  have m_range := PySem.W.mg_none_of X G n_range
  have m_enumerate := PySem.W.mg_none_of X G n_enumerate
  have m_sum := PySem.W.mg_none_of X G n_sum
  have m_repr := PySem.W.mg_none_of X G n_repr
  have vA := dp_strK (xs := ["x", "y"]) vAX (.cons ⟨_, rfl⟩ (.cons ⟨_, rfl⟩ .nil))
  have vS := dp_strK (xs := ["total", "names"]) vSO (.cons ⟨_, rfl⟩ (.cons ⟨_, rfl⟩ .nil))
  have v1 := dp_strK (xs := ["x"]) vb1 (.cons ⟨_, rfl⟩ .nil)
  have v2 := dp_strK (xs := ["x", "y"]) vb2 (.cons ⟨_, rfl⟩ (.cons ⟨_, rfl⟩ .nil))
  have v3 := dp_strK (xs := ["y", "x"]) vb3 (.cons ⟨_, rfl⟩ (.cons ⟨_, rfl⟩ .nil))
  have vL : ∀ H, Dp K H (.ref aL) (.tuple [PyData.tuple [.str "x"], .tuple [.str "x", .str "y"], .tuple [.str "y", .str "x"]]) := fun H =>
    .tup (xs := [V.ref q1, V.ref q2, V.ref q3]) (.inr ⟨_, _, nA2, vAL, rfl, rfl, (show 3 ≤ sizeLine by decide), .cons rfl (.cons rfl (.cons rfl .nil))⟩) (.cons (v1 H) (.cons (v2 H) (.cons (v3 H) .nil)))

  refine ⟨PySem.W.fnOf "law" "law" (defArgs s_law) (defBody s_law) (defScope s_law) .none kV27 dc27 pm27 an27 cd27 ct27, [(c, tb)], spLaw K (TN tb), fun p hp => ?_, fun p hp => ?_, fun p hp => ?_, fun s v => .of_eq rfl, fun H a ns hl _ hT hS => ⟨a, ns, rfl, hS, hl, fun p hp => ?_, fun _ => rfl⟩, fun base hKb hNb hTB => ?_⟩
  · rw [List.mem_singleton.mp hp]; exact hT
  · rw [List.mem_singleton.mp hp]; exact htn
  · rw [List.mem_singleton.mp hp]; exact PySem.W.codeHd_of_K X hcd
  · rw [List.mem_singleton.mp hp]; exact TabS.nil (hT _ (List.mem_singleton.mpr rfl))
  have TB := hTB _ (List.mem_singleton.mpr rfl)
  have C0 : Cal l.prog w K mg base "is_whole" 2 ["thing"] (spP Rwhole) f0 _ := ⟨ok_is_whole F0 m_isinstance m_int m_bool, PySem.W.mg_of X G a0, k0, b0⟩
  have C1 : Cal l.prog w K mg base "is_among" 3 ["thing", "least", "most"] (spP Ramong) f1 _ := ⟨ok_is_among F1 C0, PySem.W.mg_of X G a1, k1, b1⟩
  have C2 : Cal l.prog w K mg base "is_name" 2 ["thing"] (spP Rname) f2 _ := ⟨ok_is_name F2 m_isinstance m_str m_len m_all (PySem.W.mg_of X G gML) (PySem.W.mg_of X G gLE), PySem.W.mg_of X G a2, k2, b2⟩
  have C3 : Cal l.prog w K mg base "is_axis" 1 ["thing"] (spP Raxis) f3 _ := ⟨ok_is_axis F3 m_isinstance m_str (PySem.W.mg_of X G gAX) vA, PySem.W.mg_of X G a3, k3, b3⟩
  have C4 : Cal l.prog w K mg base "is_derivative" 3 ["thing"] (spP (Rdv (IsV (.bl true)))) f4 _ := ⟨ok_is_derivative F4 C2 C0 m_isinstance m_tuple m_len, PySem.W.mg_of X G a4, k4, b4⟩
  have C5 : Cal l.prog w K mg base "_are_names" 3 ["thing"] (spP (RnamesA K)) f5 _ := ⟨ok__are_names F5 C2 m_isinstance m_tuple m_len m_all m_set (PySem.W.mg_of X G gMN), PySem.W.mg_of X G a5, k5, b5⟩
  have C6 : Cal l.prog w K mg base "_are_axes" 2 ["thing"] (spP (RaxesA K)) f6 _ := ⟨ok__are_axes F6 C3 m_isinstance m_tuple m_all (PySem.W.mg_of X G gAL) vL, PySem.W.mg_of X G a6, k6, b6⟩
  have C7 : Cal l.prog w K mg base "need_ranking" 4 ["ranking"] (spP (Rrk K (IsV .non))) f7 _ := ⟨ok_need_ranking F7 C5 C6 m_isinstance m_tuple m_len m_str (PySem.W.mg_of X G gSO) vS, PySem.W.mg_of X G a7, k7, b7⟩
  have C8 : Cal l.prog w K mg base "_stands_there" 1 ["ranking", "derivative"] (spP (Rrd K fun _ _ => IsV (.bl true))) f8 _ := ⟨ok__stands_there F8, PySem.W.mg_of X G a8, k8, b8⟩
  have C9 : Cal l.prog w K mg base "derivative_fits" 4 ["ranking", "thing"] (spP (Rrd K fun _ _ => IsV (.bl true))) f9 _ := ⟨ok_derivative_fits F9 C4 C8, PySem.W.mg_of X G a9, k9, b9⟩
  have C10 : Cal l.prog w K mg base "need_derivative" 5 ["ranking", "thing"] (spP (Rrd K fun _ _ => IsV .non)) f10 _ := ⟨ok_need_derivative F10 C9, PySem.W.mg_of X G a10, k10, b10⟩
  have C11 : Cal l.prog w K mg base "rank_key" 1 ["ranking", "derivative"] (spP (Rrd K fun r u => IsD K (.tuple ((r.key u).map .int)))) f11 _ := ⟨ok_rank_key F11, PySem.W.mg_of X G a11, k11, b11⟩
  have C12 : Cal l.prog w K mg base "compared" 1 ["one", "other"] (spP (Rcmp K)) f12 _ := ⟨ok_compared F12, PySem.W.mg_of X G a12, k12, b12⟩
  have C13 : Cal l.prog w K mg base "rank_compared" 6 ["ranking", "one", "other"] (spP (Rrc K)) f13 _ := ⟨ok_rank_compared F13 C7 C10 C12 C11, PySem.W.mg_of X G a13, k13, b13⟩
  have C14 : Cal l.prog w K mg base "rising" 5 ["ranking", "derivatives"] (spRis K (TN tb)) f14 _ := ⟨ok_rising F14 C11 m_sorted TB, PySem.W.mg_of X G a14, k14, b14⟩
  have C15 : Cal l.prog w K mg base "in_rank" 6 ["ranking", "some"] (spInr K (TN tb)) f15 _ := ⟨ok_in_rank F15 C7 C10 C14 m_isinstance m_list m_tuple, PySem.W.mg_of X G a15, k15, b15⟩
  have C16 : Cal l.prog w K mg base "all_to" 6 ["ranking", "order"] (spAll K (TN tb)) f16 _ := ⟨ok_all_to F16 C7 C1 C14 m_range (PySem.W.mg_of X G gMO), PySem.W.mg_of X G a16, k16, b16⟩
  have gM := ok_Lmixed (P := l.prog) (w := w) (mg := mg) (base := base) F17
  have C18 : Cal l.prog w K mg base "_law_draw" 1 ["_law_cell", "_law_k"] spDraw f18 _ := ⟨ok_Ldraw F18, PySem.W.mg_of X G a18, k18, b18⟩
  have C19 : Cal l.prog w K mg base "_law_digit" 2 ["_law_state", "_law_size"] spDigit f19 _ := ⟨ok_Ldigit F19 gM m_range (PySem.W.mg_of X G a17) k17 b17, PySem.W.mg_of X G a19, k19, b19⟩
  have C20 : Cal l.prog w K mg base "_law_word" 3 ["_law_state"] spWord f20 _ := ⟨ok_Lword F20 C19.G m_range (PySem.W.mg_of X G a19) k19 b19, PySem.W.mg_of X G a20, k20, b20⟩
  have C21 : Cal l.prog w K mg base "_law_names" 4 ["_law_state", "_law_many"] spNames f21 _ := ⟨ok_Lnames F21 C20 m_range m_list, PySem.W.mg_of X G a21, k21, b21⟩
  have C22 : Cal l.prog w K mg base "_law_derivative" 3 ["_law_state", "_law_names_here", "_law_axes", "_law_high"] spDer f22 _ := ⟨ok_Lderivative F22 C19 m_len, PySem.W.mg_of X G a22, k22, b22⟩
  have C23 : Cal l.prog w K mg base "_law_by" 5 ["_law_state"] (spBy K) f23 _ := ⟨ok_Lby F23 C21 C19 m_tuple, PySem.W.mg_of X G a23, k23, b23⟩
  have C24 : Cal l.prog w K mg base "_law_is_above" 1 ["_law_by_here", "_law_a", "_law_b"] (spP (Rab K)) f24 _ := ⟨ok_Lis_above F24, PySem.W.mg_of X G a24, k24, b24⟩
  have C25 : Cal l.prog w K mg base "_law_rising" 2 ["_law_by_here", "_law_rows"] (spP (Rris K)) f25 _ := ⟨ok_Lrising F25 C24 m_len, PySem.W.mg_of X G a25, k25, b25⟩
  have C26 : Cal l.prog w K mg base "_law_all" 1 ["_law_by_here", "_law_high"] (spP (RallL K)) f26 _ := ⟨ok_Lall F26 m_len m_range, PySem.W.mg_of X G a26, k26, b26⟩
  have CT : Cal l.prog w K mg base "in_rank" 6 ["ranking", "some"] (spInrT K (TN tb)) f15 _ := ⟨ok_in_rankT F15 C7 C10 C14 m_isinstance m_list m_tuple, PySem.W.mg_of X G a15, k15, b15⟩
  have kb1 : KBn K _ ["ranking", "one", "other"] 2 ["other"] Gd.gKu Gd.gKs := Gd.kbn_of F13 Gd.relK fun _ _ _ _ _ _ us ws l1 l2 => match us, ws, l1, l2 with | [_, _], [_], _, _ => rfl
  have kb2 : KBn K _ ["ranking", "order"] 0 ["order", "ranking"] Gd.gRu Gd.gRs := Gd.kbn_of F16 Gd.relR fun _ _ _ _ _ _ us ws l1 l2 => match us, ws, l1, l2 with | [], [_, _], _, _ => rfl
  exact ok_law F27 C18 C23 C16 C19 C22 C15 C13 C24 C25 C26 m_len m_enumerate m_sum m_range m_repr m_int m_tuple CT kb1 kb2
theorem walk {l : PySem.W.OpenLaw} {q : Program} {loose : List Str} {XP : (Str → Option Value) → Heap → Prop} {YP : World → Heap → Prop} {d : DefRec} {K : Params → PySem.W.Frag} (hn : l.most = some 63) (hdf : d.params.defaults = [])
    (hY : ∀ (w : World) (h : Heap), YP w h → (K w.params).In h)
    (F : ∀ (w : World) (mg : Str → Option Value) (fa : Addr) (h : Heap), YP w h → (K w.params).In h → h.Ns mainGlobals mg → mg d.name = some (.ref fa) → Gd.LawAtG l w (K w.params) 9 63 "_law_script" mg fa h) :
    PySem.W.WalkO q loose XP YP l.row.toRowW d [] (fun f vs => PySem.call f vs) :=
  Gd.walkG hn (by decide) hdf ⟨rfl, by decide, by decide⟩ hY F
end K12
open PySem PySem.W PyProof.Rows
set_option maxRecDepth 100000 in
set_option maxHeartbeats 0 in
theorem PySem.Challenge.cw_rankedchains_k11_ranks_told_holds : PySem.Challenge.rw_rankedchains_k11_ranks_told.Holds := by
  w_on; o_law; k_head; (case hw => w_witness2)
  k_fill
  refine K12.walk (l := PySem.Challenge.rw_rankedchains_k11_ranks_told) rfl rfl (fun w h Y => PySem.W.km_in_of Y) ?F
  case F =>
    intro w mg fa h Y KX G hmg
    have hT8 := PySem.W.km_tabs_of Y
    refine' K12.all_mk KX G hmg (hT8 _ (List.mem_singleton.mpr rfl)) ?a0 ?l0 ?e0 ?k0 ?a1 ?l1 ?e1 ?k1 ?a2 ?l2 ?e2 ?k2 ?a3 ?l3 ?e3 ?k3 ?a4 ?l4 ?e4 ?k4 ?a5 ?l5 ?e5 ?k5 ?a6 ?l6 ?e6 ?k6 ?a7 ?l7 ?e7 ?k7 ?a8 ?l8 ?e8 ?k8 ?a9 ?l9 ?e9 ?k9 ?a10 ?l10 ?e10 ?k10 ?a11 ?l11 ?e11 ?k11 ?a12 ?l12 ?e12 ?k12 ?a13 ?l13 ?e13 ?k13 ?a14 ?l14 ?e14 ?k14 ?a15 ?l15 ?e15 ?k15 ?a16 ?l16 ?e16 ?k16 ?a17 ?l17 ?e17 ?k17 ?a18 ?l18 ?e18 ?k18 ?a19 ?l19 ?e19 ?k19 ?a20 ?l20 ?e20 ?k20 ?a21 ?l21 ?e21 ?k21 ?a22 ?l22 ?e22 ?k22 ?a23 ?l23 ?e23 ?k23 ?a24 ?l24 ?e24 ?k24 ?a25 ?l25 ?e25 ?k25 ?a26 ?l26 ?e26 ?k26 ?a27 ?l27 ?e27 ?k27 ?n_isinstance ?n_int ?n_bool ?n_str ?n_len ?n_all ?n_tuple ?n_set ?n_list ?n_sorted ?n_range ?n_enumerate ?n_sum ?n_repr ?gML ?gLE ?gMN ?gMO ?gAX ?vAX ?gSO ?vSO ?gAL ?vAL ?vb1 ?vb2 ?vb3 ?hcd ?htn
    (case a0 => k_is)
    (case l0 => k_is)
    (case e0 => k_is)
    (case k0 => k_is)
    (case a1 => k_is)
    (case l1 => k_is)
    (case e1 => k_is)
    (case k1 => k_is)
    (case a2 => k_is)
    (case l2 => k_is)
    (case e2 => k_is)
    (case k2 => k_is)
    (case a3 => k_is)
    (case l3 => k_is)
    (case e3 => k_is)
    (case k3 => k_is)
    (case a4 => k_is)
    (case l4 => k_is)
    (case e4 => k_is)
    (case k4 => k_is)
    (case a5 => k_is)
    (case l5 => k_is)
    (case e5 => k_is)
    (case k5 => k_is)
    (case a6 => k_is)
    (case l6 => k_is)
    (case e6 => k_is)
    (case k6 => k_is)
    (case a7 => k_is)
    (case l7 => k_is)
    (case e7 => k_is)
    (case k7 => k_is)
    (case a8 => k_is)
    (case l8 => k_is)
    (case e8 => k_is)
    (case k8 => k_is)
    (case a9 => k_is)
    (case l9 => k_is)
    (case e9 => k_is)
    (case k9 => k_is)
    (case a10 => k_is)
    (case l10 => k_is)
    (case e10 => k_is)
    (case k10 => k_is)
    (case a11 => k_is)
    (case l11 => k_is)
    (case e11 => k_is)
    (case k11 => k_is)
    (case a12 => k_is)
    (case l12 => k_is)
    (case e12 => k_is)
    (case k12 => k_is)
    (case a13 => k_is)
    (case l13 => k_is)
    (case e13 => k_is)
    (case k13 => k_is)
    (case a14 => k_is)
    (case l14 => k_is)
    (case e14 => k_is)
    (case k14 => k_is)
    (case a15 => k_is)
    (case l15 => k_is)
    (case e15 => k_is)
    (case k15 => k_is)
    (case a16 => k_is)
    (case l16 => k_is)
    (case e16 => k_is)
    (case k16 => k_is)
    (case a17 => k_is)
    (case l17 => k_is)
    (case e17 => k_is)
    (case k17 => k_is)
    (case a18 => k_is)
    (case l18 => k_is)
    (case e18 => k_is)
    (case k18 => k_is)
    (case a19 => k_is)
    (case l19 => k_is)
    (case e19 => k_is)
    (case k19 => k_is)
    (case a20 => k_is)
    (case l20 => k_is)
    (case e20 => k_is)
    (case k20 => k_is)
    (case a21 => k_is)
    (case l21 => k_is)
    (case e21 => k_is)
    (case k21 => k_is)
    (case a22 => k_is)
    (case l22 => k_is)
    (case e22 => k_is)
    (case k22 => k_is)
    (case a23 => k_is)
    (case l23 => k_is)
    (case e23 => k_is)
    (case k23 => k_is)
    (case a24 => k_is)
    (case l24 => k_is)
    (case e24 => k_is)
    (case k24 => k_is)
    (case a25 => k_is)
    (case l25 => k_is)
    (case e25 => k_is)
    (case k25 => k_is)
    (case a26 => k_is)
    (case l26 => k_is)
    (case e26 => k_is)
    (case k26 => k_is)
    (case a27 => k_is)
    (case l27 => k_is)
    (case e27 => k_is)
    (case k27 => k_is)
    (case n_isinstance => k_is)
    (case n_int => k_is)
    (case n_bool => k_is)
    (case n_str => k_is)
    (case n_len => k_is)
    (case n_all => k_is)
    (case n_tuple => k_is)
    (case n_set => k_is)
    (case n_list => k_is)
    (case n_sorted => k_is)
    (case n_range => k_is)
    (case n_enumerate => k_is)
    (case n_sum => k_is)
    (case n_repr => k_is)
    (case gML => k_is)
    (case gLE => k_is)
    (case gMN => k_is)
    (case gMO => k_is)
    (case gAX => k_is)
    (case vAX => k_is)
    (case gSO => k_is)
    (case vSO => k_is)
    (case gAL => k_is)
    (case vAL => k_is)
    (case vb1 => k_is)
    (case vb2 => k_is)
    (case vb3 => k_is)
    (case hcd => kernel_rfl)
    (case htn => first | rfl | kernel_rfl | decide +kernel)
#print axioms PySem.Challenge.cw_rankedchains_k11_ranks_told_holds
