import PyProof.Rows.All
import Wide.All
import OpenK.AllK
import Wide.FinOn
import HandS.ForMost
import HandS.ForExc
import HandS.ExcInit
import HandS.Wide
import KE.KExcInit
import KE.KExcIs
import HandS.Defaults
import HandS.New
import HandS.ExcValue
import HandS.Evl
import HandS.Walk
import HandS.MakeKw
import PySem.Challenge.RW_rankedchains_k05_refusals_by_hand
set_option Elab.async false
set_option maxRecDepth 100000
set_option maxHeartbeats 4000000
namespace My
open PySem L2
theorem isP {p : Prop} (h : p) : p := h
theorem new {H : Hp} {p : Addr} {o : HO} (hp : H p = none) : Same H (upd H p o) := fun b u e => by
  rw [upd_ne (ne_of_none e hp)]
  exact e
theorem new2 {H : Hp} {p : Addr} {o o' : HO} (hp : H p = none) : Same H (upd (upd H p o) p o') := fun b u e => by
  rw [upd_ne (ne_of_none e hp), upd_ne (ne_of_none e hp)]
  exact e
theorem sqt {K : PySem.W.Frag} {H H' : Hp} {a : Addr} {xs : List V} (e : Same H H') (h : SqT K H a xs) : SqT K H' a xs := by
  rcases h with (h | ⟨o, h⟩) | h
  · exact .inl (.inl (e _ _ h))
  · exact .inl (.inr ⟨o, e _ _ h⟩)
  · exact .inr h
theorem lstNew {K : PySem.W.Frag} {H : Hp} {p : Addr} {xs : List V} : SqL K (upd H p (.lst xs)) p xs := .inl (.inl upd_same)
theorem tupNew {K : PySem.W.Frag} {H : Hp} {p : Addr} {xs : List V} : SqT K (upd H p (.tup xs)) p xs := .inl (.inl upd_same)
theorem atIn {α : Type} (xs : List α) (i : Int) (h0 : 0 ≤ i) (h1 : i < xs.length) : ∃ v, v ∈ xs ∧ atI xs i = some v := by
  obtain ⟨n, rfl⟩ : ∃ n : Nat, i = (n : Int) := ⟨i.toNat, by omega⟩
  have hn : n < xs.length := by omega
  exact ⟨xs[n], List.getElem_mem hn, atI_nat (List.getElem?_eq_getElem hn)⟩
theorem cutTo (xs : List V) (k : Nat) : cutV xs none (some (k : Int)) = xs.take k := by
  unfold cutV
  rw [HT.sIx_none, HT.sIx_nat, List.drop_zero, Nat.sub_zero]
  by_cases h : k ≤ xs.length
  · rw [Nat.min_eq_left h]
  · rw [Nat.min_eq_right (by omega), List.take_length, List.take_of_length_le (by omega)]
theorem small {n : Nat} (h : n ≤ 1000) : n ≤ sizeLine := Nat.le_of_lt (small1000 h)
end My

namespace My
set_option autoImplicit false
open PySem L2 Evl
/-- what is known of a value, whatever is made beside -/
structure Pr where
  P : V → Hp → Prop
  m : ∀ {v : V} {H H' : Hp}, Ex H H' → P v H → P v H'
def AllP : List Pr → List V → Hp → Prop
  | [], [], _ => True
  | p :: ps, v :: vs, H => p.P v H ∧ AllP ps vs H
  | [], _ :: _, _ => False
  | _ :: _, [], _ => False
theorem AllP.m {H H' : Hp} (e : Ex H H') : ∀ {ps : List Pr} {vs : List V}, AllP ps vs H → AllP ps vs H'
  | [], [], _ => trivial
  | _ :: _, _ :: _, h => ⟨Pr.m _ e h.1, AllP.m e h.2⟩
theorem AllP.len {H : Hp} : ∀ {ps : List Pr} {vs : List V}, AllP ps vs H → vs.length = ps.length
  | [], [], _ => rfl
  | _ :: _, _ :: _, h => congrArg Nat.succ (AllP.len h.2)
theorem AllP.app {H : Hp} : ∀ {ps qs : List Pr} {vs ws : List V}, AllP ps vs H → AllP qs ws H → AllP (ps ++ qs) (vs ++ ws) H
  | [], _, [], _, _, h => h
  | _ :: _, _, _ :: _, _, a, h => ⟨a.1, AllP.app a.2 h⟩
theorem AllP.get {H : Hp} : ∀ {ps : List Pr} {vs : List V} {i : Nat} {v : V}, AllP ps vs H → vs[i]? = some v → ∃ p, ps[i]? = some p ∧ p.P v H
  | [], [], i, v, _, h => by simp at h
  | p :: _, w :: _, 0, v, a, h => by
    obtain rfl : w = v := Option.some.inj h
    exact ⟨p, rfl, a.1⟩
  | _ :: _, _ :: _, i + 1, v, a, h => AllP.get (i := i) a.2 h
theorem AllP.at {H : Hp} : ∀ {ps : List Pr} {vs : List V} {i : Nat} {p : Pr}, AllP ps vs H → ps[i]? = some p → ∃ v, vs[i]? = some v ∧ p.P v H
  | [], [], i, v, _, h => by simp at h
  | q :: _, w :: _, 0, p, a, h => by
    obtain rfl : q = p := Option.some.inj h
    exact ⟨w, rfl, a.1⟩
  | _ :: _, _ :: _, i + 1, v, a, h => AllP.at (i := i) a.2 h
/-- from what is known, B, within the heap H, to B' within H': what is known of B' leans on nothing else that stood in H -/
structure Gr (B H B' H' : Hp) : Prop where
  a : Ex H H'
  b : Ex B B'
  c : Ex B' H'
  d : ∀ x, B x = none → H x ≠ none → B' x = none
theorem Gr.refl {B H : Hp} (e : Ex B H) : Gr B H B H := ⟨Ex.refl H, Ex.refl B, e, fun _ h _ => h⟩
theorem has {H H' : Hp} {x : Addr} (e : Ex H H') (h : H x ≠ none) : H' x ≠ none := by
  cases q : H x with
  | none => exact absurd q h
  | some o =>
    rw [e x o q]
    exact fun z => nomatch z
theorem Gr.trans {B H B1 H1 B2 H2 : Hp} (g : Gr B H B1 H1) (k : Gr B1 H1 B2 H2) : Gr B H B2 H2 :=
  ⟨g.a.trans k.a, g.b.trans k.b, k.c, fun x hb hh => k.d x (g.d x hb hh) (has g.a hh)⟩
/-- nothing new is known -/
theorem Gr.wide {B H H1 : Hp} (e : Ex B H) (k : Ex H H1) : Gr B H B H1 := ⟨k, Ex.refl B, e.trans k, fun _ h _ => h⟩
/-- a new object -/
theorem Gr.new {B H : Hp} {r : Addr} (o : HO) (e : Ex B H) (hr : H r = none) : Gr B H (upd B r o) (upd H r o) :=
  ⟨Ex.new hr, Ex.new (fresh_back e hr), fun a u h => by
    by_cases q : a = r
    · subst q
      rw [upd_same] at h ⊢
      exact h
    · rw [upd_ne q] at h ⊢
      exact e a u h, fun x hb hh => by
    by_cases q : x = r
    · subst q
      exact absurd hr hh
    · rw [upd_ne q]
      exact hb⟩
/-- two parts of one heap together -/
def both (B C : Hp) : Hp := fun b => match B b with
  | some o => some o
  | none => C b
theorem both_l {B C : Hp} : Ex B (both B C) := fun a o h => by
  unfold both
  rw [h]
theorem both_r {B C H : Hp} (e : Ex B H) (k : Ex C H) : Ex C (both B C) := fun a o h => by
  unfold both
  cases q : B a with
  | none => exact h
  | some u =>
    have h1 := e a u q
    have h2 := k a o h
    rw [h1] at h2
    exact h2
theorem both_in {B C H : Hp} (e : Ex B H) (k : Ex C H) : Ex (both B C) H := fun a o h => by
  unfold both at h
  cases q : B a with
  | none =>
    rw [q] at h
    exact k a o h
  | some u =>
    rw [q] at h
    obtain rfl : u = o := Option.some.inj h
    exact e a u q
theorem both_none {B C : Hp} {x : Addr} (h : B x = none) (k : C x = none) : both B C x = none := by
  unfold both
  rw [h]
  exact k
/-- one behind the other, each from the same B -/
theorem Gr.join {B H B1 H1 B2 H2 : Hp} (g : Gr B H B1 H1) (k : Gr B H1 B2 H2) : Gr B H (both B1 B2) H2 :=
  ⟨g.a.trans k.a, g.b.trans both_l, both_in (g.c.trans k.a) k.c, fun x hb hh => both_none (g.d x hb hh) (k.d x hb (has g.a hh))⟩
/-- without D -/
def wo (D : Addr) (H : Hp) : Hp := fun b => if b = D then none else H b
theorem wo_ne {D b : Addr} {H : Hp} (n : b ≠ D) : wo D H b = H b := if_neg n
theorem wo_same {D : Addr} {H : Hp} : wo D H D = none := if_pos rfl
theorem wo_some {D b : Addr} {H : Hp} {o : HO} (h : wo D H b = some o) : b ≠ D ∧ H b = some o := by
  by_cases n : b = D
  · rw [n, wo_same] at h
    exact nomatch h
  · rw [wo_ne n] at h
    exact ⟨n, h⟩
theorem wo_ex {D : Addr} {H : Hp} : Ex (wo D H) H := fun _ _ e => (wo_some e).2
theorem ex_wo {B H : Hp} {D : Addr} (e : Ex B H) (h : B D = none) : Ex B (wo D H) := fun b o k => by
  rw [wo_ne (ne_of_none k h)]
  exact e b o k
theorem wo_none {B H : Hp} {D : Addr} (e : Ex B (wo D H)) : B D = none := by
  cases q : B D with
  | none => rfl
  | some o =>
    have := e _ _ q
    rw [wo_same] at this
    exact nomatch this
theorem wo_new {H : Hp} {D : Addr} {o : HO} (h : H D = none) : wo D (upd H D o) = H := funext fun b => by
  by_cases n : b = D
  · rw [n, wo_same, h]
  · rw [wo_ne n, upd_ne n]
theorem wo_upd {H : Hp} {D : Addr} {o : HO} : wo D (upd H D o) = wo D H := funext fun b => by
  by_cases n : b = D
  · rw [n, wo_same, wo_same]
  · rw [wo_ne n, wo_ne n, upd_ne n]
theorem wo_mono {H H' : Hp} {D : Addr} (e : Ex H H') : Ex (wo D H) (wo D H') := fun b o k => by
  obtain ⟨n, q⟩ := wo_some k
  rw [wo_ne n]
  exact e b o q
/-- what a turn adds, the list at D left aside -/
theorem Gr.side {B H B1 H1 B2 H2 : Hp} {D : Addr} (g : Gr B H B1 (wo D H1)) (hD : H1 D ≠ none) (k : Gr B1 H1 B2 H2) : Gr B H B2 (wo D H2) :=
  ⟨fun b o e => by
    obtain ⟨n, q⟩ := wo_some (g.a b o e)
    rw [wo_ne n]
    exact k.a b o q, g.b.trans k.b, ex_wo k.c (k.d D (wo_none g.c) hD), fun x hb hh => k.d x (g.d x hb hh) (has wo_ex (has g.a hh))⟩
/-- just this value -/
def IsV (x : V) : Pr := ⟨fun v _ => v = x, fun _ h => h⟩
/-- a new list | a list | a tuple, of what -/
def LsP (ps : List Pr) : Pr := ⟨fun v H => ∃ p xs, v = .ref p ∧ H p = some (.lst xs) ∧ AllP ps xs H, fun e ⟨p, xs, a, b, c⟩ => ⟨p, xs, a, e _ _ b, c.m e⟩⟩
def LqP (K : PySem.W.Frag) (ps : List Pr) : Pr := ⟨fun v H => ∃ p xs, v = .ref p ∧ SqL K H p xs ∧ AllP ps xs H, fun e ⟨p, xs, a, b, c⟩ => ⟨p, xs, a, ex_l e b, c.m e⟩⟩
def TuP (K : PySem.W.Frag) (ps : List Pr) : Pr := ⟨fun v H => ∃ p xs, v = .ref p ∧ SqT K H p xs ∧ AllP ps xs H, fun e ⟨p, xs, a, b, c⟩ => ⟨p, xs, a, ex_t e b, c.m e⟩⟩
theorem lq_ls {K : PySem.W.Frag} {ps : List Pr} {v : V} {H : Hp} (h : (LsP ps).P v H) : (LqP K ps).P v H := by
  obtain ⟨p, xs, a, b, c⟩ := h
  exact ⟨p, xs, a, sq_of b, c⟩
mutual
theorem dp_m {K : PySem.W.Frag} {H H' : Hp} (e : Ex H H') : ∀ {d : PyData} {v : V}, Dp K H v d → Dp K H' v d
  | _, _, .non => .non
  | _, _, .bl b => .bl b
  | _, _, .int i => .int i
  | _, _, .str x => .str x
  | _, _, .lst a b => .lst (ex_l e a) (dps_m e b)
  | _, _, .tup a b => .tup (ex_t e a) (dps_m e b)
theorem dps_m {K : PySem.W.Frag} {H H' : Hp} (e : Ex H H') : ∀ {ds : List PyData} {vs : List V}, DpAll K H vs ds → DpAll K H' vs ds
  | _, _, .nil => .nil
  | _, _, .cons a b => .cons (dp_m e a) (dps_m e b)
end
/-- plain data -/
def IsD (K : PySem.W.Frag) (d : PyData) : Pr := ⟨fun v H => Dp K H v d, fun e h => dp_m e h⟩
theorem dps_of {K : PySem.W.Frag} {H : Hp} : ∀ {ds : List PyData} {vs : List V}, AllP (ds.map (IsD K)) vs H → DpAll K H vs ds
  | [], [], _ => .nil
  | _ :: _, _ :: _, h => .cons h.1 (dps_of h.2)
theorem dps_to {K : PySem.W.Frag} {H : Hp} : ∀ {ds : List PyData} {vs : List V}, DpAll K H vs ds → AllP (ds.map (IsD K)) vs H
  | [], [], _ => trivial
  | _ :: _, _ :: _, .cons a b => ⟨a, dps_to b⟩
/-- an expression gives such a value, over all that stands beside -/
def EvP (te : TE) (σ : L2.St) (B : Hp) (p : Pr) : Prop := ∀ H1, Ex B H1 → ∀ Q : VK, (∀ v B' H2, Gr B H1 B' H2 → p.P v B' → Q v H2) → te σ H1 Q
def EvPs (ta : TA) (σ : L2.St) (B : Hp) (ps : List Pr) : Prop := ∀ H1, Ex B H1 → ∀ Q : List V → Hp → Prop, (∀ vs B' H2, Gr B H1 B' H2 → AllP ps vs B' → Q vs H2) → ta σ H1 Q
section
variable {te ta tb : TE} {t tr : TA} {σ : L2.St} {B B' H : Hp} {p q : Pr} {ps qs : List Pr} {v : V} {K : PySem.W.Frag} {D : Ends}
theorem EvP.mono (e : Ex B B') (h : EvP te σ B p) : EvP te σ B' p := fun H1 a Q k => h H1 (e.trans a) Q fun v C H2 g b =>
  k v (both B' C) H2 ⟨g.a, both_l, both_in (a.trans g.a) g.c, fun x hb hh => both_none hb (g.d x (fresh_back e hb) hh)⟩ (p.m (both_r (a.trans g.a) g.c) b)
theorem EvP.imp (h : EvP te σ B p) (i : ∀ v B1, Ex B B1 → p.P v B1 → q.P v B1) : EvP te σ B q := fun H1 a _ k => h H1 a _ fun v B2 H2 g b => k v B2 H2 g (i v B2 g.b b)
theorem p_var {i : Nat} (h : σ[i]? = some (some v)) (hp : p.P v B) : EvP (tVar i) σ B p := fun H1 a _ k => ⟨v, h, k v B H1 (Gr.refl a) hp⟩
theorem p_c : EvP (tC v) σ B (IsV v) := fun H1 a _ k => k v B H1 (Gr.refl a) rfl
theorem p_ev (h : Ev te σ B v) : EvP te σ B (IsV v) := fun H1 a _ k => h H1 a _ fun H2 e => k v B H2 (Gr.wide a e) rfl
theorem ev_p (h : EvP te σ B (IsV v)) : Ev te σ B v := fun H1 a _ k => h H1 a _ fun w B2 H2 g b => by
  obtain rfl : w = v := b
  exact k H2 g.a
theorem q_nil : EvPs tNil σ B [] := fun H1 a _ k => k [] B H1 (Gr.refl a) trivial
theorem q_cons (h : EvP te σ B p) (hr : EvPs tr σ B ps) : EvPs (tCons te tr) σ B (p :: ps) := fun H1 a _ k =>
  h H1 a _ fun v B2 H2 g b => hr H2 (g.b.trans g.c) _ fun vs B3 H3 g3 b3 => k (v :: vs) (both B2 B3) H3 (g.join g3) ⟨p.m both_l b, b3.m (both_r (g.c.trans g3.a) g3.c)⟩
theorem p_lst (h : EvPs t σ B ps) (hl : ps.length ≤ 100000) : EvP (tLst t) σ B (LsP ps) := fun H1 a _ k =>
  h H1 a _ fun vs B2 H2 g b => ⟨sz_of (by rw [b.len]; exact hl), fun r hr => k _ _ _ (g.trans (Gr.new _ g.c hr)) ⟨r, vs, rfl, upd_same, b.m (Ex.new (fresh_back g.c hr))⟩⟩
theorem p_tup (h : EvPs t σ B ps) (hl : ps.length ≤ 100000) : EvP (tTup t) σ B (TuP K ps) := fun H1 a _ k =>
  h H1 a _ fun vs B2 H2 g b => ⟨sz_of (by rw [b.len]; exact hl), fun r hr => k _ _ _ (g.trans (Gr.new _ g.c hr)) ⟨r, vs, rfl, st_of upd_same, b.m (Ex.new (fresh_back g.c hr))⟩⟩
theorem p_cat (ha : EvP ta σ B (LsP ps)) (hb : EvP tb σ B (LsP qs)) (hl : ps.length + qs.length ≤ 100000) : EvP (tOp rCat ta tb) σ B (LsP (ps ++ qs)) := fun H1 a Q k =>
  ha H1 a _ fun v B2 H2 g b => hb H2 (g.b.trans g.c) _ fun w B3 H3 g3 b3 => by
    obtain ⟨p, xs, rfl, hp, hx⟩ := b
    obtain ⟨q, ys, rfl, hq, hy⟩ := b3
    have l1 := hx.len
    have l2 := hy.len
    have gj := g.join g3
    refine ⟨p, q, xs, ys, rfl, rfl, g3.a _ _ (g.c _ _ hp), g3.c _ _ hq, sz_of (by omega), fun r hr => k _ _ _ (gj.trans (Gr.new _ gj.c hr)) ⟨r, xs ++ ys, rfl, upd_same, ?_⟩⟩
    have en : Ex (both B2 B3) (upd (both B2 B3) r (.lst (xs ++ ys))) := Ex.new (fresh_back gj.c hr)
    exact (hx.m (both_l.trans en)).app (hy.m ((both_r (g.c.trans g3.a) g3.c).trans en))
/-- of data -/
theorem d_lst {ds : List PyData} (h : EvP te σ B (LsP (ds.map (IsD K)))) : EvP te σ B (IsD K (.list ds)) := h.imp fun v H1 _ b => by
  obtain ⟨r, xs, rfl, hr, hx⟩ := b
  exact .lst (sq_of hr) (dps_of hx)
theorem d_tup {ds : List PyData} (h : EvP te σ B (TuP K (ds.map (IsD K)))) : EvP te σ B (IsD K (.tuple ds)) := h.imp fun v H1 _ b => by
  obtain ⟨r, xs, rfl, hr, hx⟩ := b
  exact .tup hr (dps_of hx)
theorem d_int {i : Int} (h : EvP te σ B (IsV (.int i))) : EvP te σ B (IsD K (.int i)) := h.imp fun v H1 _ b => by
  obtain rfl : v = V.int i := b
  exact .int i
theorem d_str {x : Str} (h : EvP te σ B (IsV (.str x))) : EvP te σ B (IsD K (.str x)) := h.imp fun v H1 _ b => by
  obtain rfl : v = V.str x := b
  exact .str x
theorem d_bl {x : Bool} (h : EvP te σ B (IsV (.bl x))) : EvP te σ B (IsD K (.bool x)) := h.imp fun v H1 _ b => by
  obtain rfl : v = V.bl x := b
  exact .bl x
theorem d_non (h : EvP te σ B (IsV .non)) : EvP te σ B (IsD K .none) := h.imp fun v H1 _ b => by
  obtain rfl : v = V.non := b
  exact .non
theorem ev_eqD {d e : PyData} (ha : EvP ta σ B (IsD K d)) (hb : EvP tb σ B (IsD K e)) (hd : SeqAt.shaped d = true) (he : SeqAt.shaped e = true) : Ev (tOp (rEqD K) ta tb) σ B (.bl (PyData.eqv d e)) := fun H1 a Q k =>
  ha H1 a _ fun v B2 H2 g b => hb H2 (g.b.trans g.c) _ fun w B3 H3 g3 b3 => ⟨d, e, dp_m (g.c.trans g3.a) b, dp_m g3.c b3, hd, he, k H3 (g.a.trans g3.a)⟩
theorem ev_neD {d e : PyData} (ha : EvP ta σ B (IsD K d)) (hb : EvP tb σ B (IsD K e)) (hd : SeqAt.shaped d = true) (he : SeqAt.shaped e = true) : Ev (tOp (rNeD K) ta tb) σ B (.bl (!PyData.eqv d e)) := fun H1 a Q k =>
  ha H1 a _ fun v B2 H2 g b => hb H2 (g.b.trans g.c) _ fun w B3 H3 g3 b3 => ⟨d, e, dp_m (g.c.trans g3.a) b, dp_m g3.c b3, hd, he, k H3 (g.a.trans g3.a)⟩
theorem ps_asg {i : Nat} (a : Ex B H) (h : EvP te σ B p) (k : ∀ v B1 H1, Gr B H B1 H1 → p.P v B1 → D.nx (σ.set i (some v)) H1) : tAsg te (gName i) D σ H := h H a _ k
theorem ps_asgN {i : Nat} (σ' : V → L2.St) (a : Ex B H) (h : EvP te σ B p) (k : ∀ v B1 H1, Gr B H B1 H1 → p.P v B1 → D.nx (σ' v) H1) (e : ∀ v, σ.set i (some v) = σ' v := by intro _; rfl) : tAsg te (gName i) D σ H := h H a _ fun v B1 H1 g b => by
  have := k v B1 H1 g b
  rw [← e v] at this
  exact this
theorem ps_ret (a : Ex B H) (h : EvP te σ B p) (k : ∀ v B1 H1, Gr B H B1 H1 → p.P v B1 → D.rt v H1) : tRet te D σ H := h H a _ k
/-- a call: what the def is handed, what it tells -/
def SpOk (sp : Sp) (ps : List Pr) (p : Pr) : Prop := ∀ vs B H Q E, Ex B H → AllP ps vs B → (∀ u B' H', Gr B H B' H' → p.P u B' → Q u H') → sp vs H Q E
theorem p_call {sp : Sp} (h : EvPs t σ B ps) (hs : SpOk sp ps p) : EvP (tCall sp [] E0 t) σ B p := fun H1 a Q k =>
  h H1 a _ fun vs B2 H2 g b => by
    rw [List.append_nil]
    exact hs vs B2 H2 Q E0 g.c b fun u B3 H3 g3 c => k u B3 H3 (g.trans g3) c
/-- a comprehension over a list, some items left out -/
theorem p_lc {g : TG} {tt : TT} {vs : List Nat} (h : EvP ta σ B (LqP K ps)) (hl : ps.length ≤ 100000) (keep : Nat → Bool) (res : Nat → Pr)
    (step : ∀ i p v B1, ps[i]? = some p → Ex B B1 → p.P v B1 → ∃ σ2, wipe σ2 vs = wipe σ vs ∧ (∀ H2 Q, Ex B1 H2 → Q σ2 H2 → g v (wipe σ vs) H2 Q) ∧ EvT tt σ2 B1 (keep i) ∧ (keep i = true → EvP te σ2 B1 (res i))) :
    EvP (tLc (iList K ta) g tt te vs) σ B (LsP (((List.range ps.length).filter keep).map res)) := fun H1 a Q k =>
  h H1 a _ fun v B2 H2 gr b => by
    obtain ⟨l, xs, rfl, hx, hal⟩ := b
    have hlen := hal.len
    refine ⟨l, rfl, ⟨xs, ex_l gr.c hx⟩, fun Dd hD => ?_⟩
    refine lc_list (K := K) (a := l) (xs := xs) (fun i H3 => ∃ B3 acc, Gr B2 H2 B3 (wo Dd H3) ∧ H3 Dd = some (.lst acc) ∧ AllP (((List.range i).filter keep).map res) acc B3) ?_ ?_ ?_ ?_
    · exact ⟨B2, [], by rw [wo_new hD]; exact Gr.refl gr.c, upd_same, trivial⟩
    · rintro i H3 _ ⟨B3, acc, g3, _, _⟩
      exact ex_l (g3.b.trans (g3.c.trans wo_ex)) hx
    · rintro i x H3 hi ⟨B3, acc, g3, hDd, hacc⟩
      obtain ⟨p, hp, px⟩ := hal.get hi
      have hil : i < xs.length := (List.getElem?_eq_some_iff.mp hi).1
      have exB : Ex B3 H3 := g3.c.trans wo_ex
      have hB3 : B3 Dd = none := wo_none g3.c
      have some3 : H3 Dd ≠ none := by
        rw [hDd]
        exact fun z => nomatch z
      obtain ⟨σ2, hw, hg, ht, he⟩ := step i p x B3 hp (gr.b.trans g3.b) (p.m g3.b px)
      refine hg H3 _ exB ⟨hw, ht H3 exB _ fun H4 e4 => ?_⟩
      have e34 : Ex B3 H4 := exB.trans e4
      have hD4 := e4 _ _ hDd
      have g4 : Gr B2 H2 B3 (wo Dd H4) := g3.side some3 (Gr.wide exB e4)
      have some4 : H4 Dd ≠ none := has e4 some3
      cases hk : keep i with
      | true =>
        rw [if_pos rfl]
        refine he hk H4 e34 _ fun y B5 H5 g5 hy => ?_
        have la : acc.length ≤ i := by
          rw [hacc.len, List.length_map]
          exact Nat.le_trans (List.length_filter_le _ _) (by rw [List.length_range]; exact Nat.le_refl _)
        refine ⟨acc, g5.a _ _ hD4, sz_lt (by omega), B5, acc ++ [y], by rw [wo_upd]; exact g4.side some4 g5, upd_same, ?_⟩
        rw [List.range_succ, List.filter_append, List.map_append]
        refine (hacc.m g5.b).app ?_
        have : List.filter keep [i] = [i] := by simp [hk]
        rw [this]
        exact ⟨hy, trivial⟩
      | false =>
        rw [if_neg Bool.false_ne_true]
        refine ⟨B3, acc, g4, hD4, ?_⟩
        rw [List.range_succ, List.filter_append, List.map_append]
        have : List.filter keep [i] = [] := by simp [hk]
        rw [this, List.map_nil, List.append_nil]
        exact hacc
    · rintro H3 ⟨B3, acc, g3, hDd, hacc⟩
      have hB3 : B3 Dd = none := wo_none g3.c
      rw [hlen] at hacc
      refine k (.ref Dd) (upd B3 Dd (.lst acc)) H3 ⟨gr.a.trans (g3.a.trans wo_ex), gr.b.trans (g3.b.trans (Ex.new hB3)), fun b o e => ?_, fun x hb hh => ?_⟩ ⟨Dd, acc, rfl, upd_same, hacc.m (Ex.new hB3)⟩
      · by_cases n : b = Dd
        · subst n
          rw [upd_same] at e
          rw [hDd]
          exact e
        · rw [upd_ne n] at e
          exact g3.c.trans wo_ex _ _ e
      · have n : x ≠ Dd := fun z => by
          subst z
          exact has gr.a hh hD
        rw [upd_ne n]
        exact g3.d x (gr.d x hb hh) (has gr.a hh)
end
end My

namespace My
set_option autoImplicit false
open PySem L2 Evl
/-- what is known says which data it is -/
def To (K : PySem.W.Frag) (p : Pr) (d : PyData) : Prop := ∀ v H, p.P v H → Dp K H v d
inductive ToAll (K : PySem.W.Frag) : List Pr → List PyData → Prop
  | nil : ToAll K [] []
  | cons {p : Pr} {d : PyData} {ps : List Pr} {ds : List PyData} : To K p d → ToAll K ps ds → ToAll K (p :: ps) (d :: ds)
section
variable {te ta tb : TE} {t tr : TA} {σ : L2.St} {B B' H : Hp} {p q : Pr} {ps qs : List Pr} {v : V} {K : PySem.W.Frag} {D : Ends} {d e : PyData} {ds : List PyData}
theorem to_int {i : Int} : To K (IsV (.int i)) (.int i) := fun v H h => by
  obtain rfl : v = _ := h
  exact .int i
theorem to_str {x : Str} : To K (IsV (.str x)) (.str x) := fun v H h => by
  obtain rfl : v = _ := h
  exact .str x
theorem to_bl {b : Bool} : To K (IsV (.bl b)) (.bool b) := fun v H h => by
  obtain rfl : v = _ := h
  exact .bl b
theorem to_non : To K (IsV .non) .none := fun v H h => by
  obtain rfl : v = _ := h
  exact .non
theorem to_d : To K (IsD K d) d := fun _ _ h => h
theorem toAll_all {H : Hp} : ∀ {ps : List Pr} {ds : List PyData} {vs : List V}, ToAll K ps ds → AllP ps vs H → DpAll K H vs ds
  | [], _, [], .nil, _ => .nil
  | _ :: _, _, _ :: _, .cons a b, h => .cons (a _ _ h.1) (toAll_all b h.2)
theorem to_lst (h : ToAll K ps ds) : To K (LsP ps) (.list ds) := fun v H hv => by
  obtain ⟨r, xs, rfl, hr, hx⟩ := hv
  exact .lst (sq_of hr) (toAll_all h hx)
theorem to_lq (h : ToAll K ps ds) : To K (LqP K ps) (.list ds) := fun v H hv => by
  obtain ⟨r, xs, rfl, hr, hx⟩ := hv
  exact .lst hr (toAll_all h hx)
theorem to_tup (h : ToAll K ps ds) : To K (TuP K ps) (.tuple ds) := fun v H hv => by
  obtain ⟨r, xs, rfl, hr, hx⟩ := hv
  exact .tup hr (toAll_all h hx)
theorem toAll_map {α : Type} {f : α → Pr} {g : α → PyData} (l : List α) (h : ∀ x, To K (f x) (g x)) : ToAll K (l.map f) (l.map g) := by
  induction l with
  | nil => exact .nil
  | cons x r ih => exact .cons (h x) ih
theorem p_to (h : EvP te σ B p) (k : To K p d) : EvP te σ B (IsD K d) := h.imp fun v B1 _ b => k v B1 b
theorem p_varV {i : Nat} (h : σ[i]? = some (some v)) : EvP (tVar i) σ B (IsV v) := p_var h rfl
theorem p_lq (h : EvP te σ B (LsP ps)) : EvP te σ B (LqP K ps) := h.imp fun _ _ _ b => lq_ls b
/-- an item at a written place -/
theorem p_ix {j : Int} (h : EvP ta σ B (LqP K ps)) (hj : EvP tb σ B (IsV (.int j))) (hp : atI ps j = some p) : EvP (tOp (rIxL K) ta tb) σ B p := fun H1 a Q k =>
  h H1 a _ fun v B2 H2 g b => hj H2 (g.b.trans g.c) _ fun w B3 H3 g3 b3 => by
    obtain ⟨l, xs, rfl, hx, hal⟩ := b
    obtain rfl : w = _ := b3
    have hlen := hal.len
    unfold atI at hp
    rw [← hlen] at hp
    obtain ⟨n, hn, hq⟩ := Option.bind_eq_some_iff.mp hp
    obtain ⟨z, hz, pz⟩ := hal.at hq
    have gj := g.join g3
    refine ⟨l, xs, j, z, rfl, rfl, ex_l (g.c.trans g3.a) hx, ?_, k z _ _ gj (p.m both_l pz)⟩
    unfold atI
    rw [hn]
    exact hz
theorem p_ixT {j : Int} (h : EvP ta σ B (TuP K ps)) (hj : EvP tb σ B (IsV (.int j))) (hp : atI ps j = some p) : EvP (tOp (rIxT K) ta tb) σ B p := fun H1 a Q k =>
  h H1 a _ fun v B2 H2 g b => hj H2 (g.b.trans g.c) _ fun w B3 H3 g3 b3 => by
    obtain ⟨l, xs, rfl, hx, hal⟩ := b
    obtain rfl : w = _ := b3
    have hlen := hal.len
    unfold atI at hp
    rw [← hlen] at hp
    obtain ⟨n, hn, hq⟩ := Option.bind_eq_some_iff.mp hp
    obtain ⟨z, hz, pz⟩ := hal.at hq
    have gj := g.join g3
    refine ⟨l, xs, j, z, rfl, rfl, ex_t (g.c.trans g3.a) hx, ?_, k z _ _ gj (p.m both_l pz)⟩
    unfold atI
    rw [hn]
    exact hz
theorem AllP.rep {H : Hp} {vs : List V} (h : AllP ps vs H) : ∀ n, AllP (List.replicate n ps).flatten (List.replicate n vs).flatten H
  | 0 => trivial
  | n + 1 => by
    rw [List.replicate_succ, List.replicate_succ, List.flatten_cons, List.flatten_cons]
    exact h.app (AllP.rep h n)
theorem p_rep {n : Nat} (h : EvP ta σ B (LsP ps)) (hb : EvP tb σ B (IsV (.int (n : Int)))) (hn : n ≤ 100000) (hl : ps.length * n ≤ 100000) : EvP (tOp rRep ta tb) σ B (LsP (List.replicate n ps).flatten) := fun H1 a Q k =>
  h H1 a _ fun v B2 H2 g b => hb H2 (g.b.trans g.c) _ fun w B3 H3 g3 b3 => by
    obtain ⟨l, xs, rfl, hx, hal⟩ := b
    obtain rfl : w = _ := b3
    have gj := g.join g3
    have hlen := hal.len
    refine ⟨l, (n : Int), xs, rfl, rfl, g3.a _ _ (g.c _ _ hx), by omega, by omega, sz_of (by rw [hlen]; exact hl), fun r hr => k _ _ _ (gj.trans (Gr.new _ gj.c hr)) ⟨r, _, rfl, upd_same, ?_⟩⟩
    exact (AllP.rep (hal.m both_l) n).m (Ex.new (fresh_back gj.c hr))
theorem et_yes : EvT tYes σ B true := fun H1 _ _ q => q H1 (Ex.refl H1)
theorem p_lcM {g : TG} {tt : TT} {vs : List Nat} (h : EvP ta σ B (LqP K ps)) (hl : ps.length ≤ 100000) (res : Nat → Pr)
    (step : ∀ i p v B1, ps[i]? = some p → Ex B B1 → p.P v B1 → ∃ σ2, wipe σ2 vs = wipe σ vs ∧ (∀ H2 Q, Ex B1 H2 → Q σ2 H2 → g v (wipe σ vs) H2 Q) ∧ EvT tt σ2 B1 true ∧ EvP te σ2 B1 (res i)) :
    EvP (tLc (iList K ta) g tt te vs) σ B (LsP ((List.range ps.length).map res)) := by
  have := p_lc h hl (fun _ => true) res fun i p v B1 hp e pv => by
    obtain ⟨σ2, a, b, c, d⟩ := step i p v B1 hp e pv
    exact ⟨σ2, a, b, c, fun _ => d⟩
  rw [List.filter_eq_self.mpr (fun _ _ => rfl)] at this
  exact this
/-- a test whose answer is known -/
theorem ps_ifF {t : TT} {tu tw : TS} (a : Ex B H) (h : EvT t σ B false) (k : ∀ H1, Ex H H1 → tw D σ H1) : tIfS t tu tw D σ H := h H a _ fun H1 e => by
  rw [if_neg Bool.false_ne_true]
  exact k H1 e
theorem ps_ifT {t : TT} {tu tw : TS} (a : Ex B H) (h : EvT t σ B true) (k : ∀ H1, Ex H H1 → tu D σ H1) : tIfS t tu tw D σ H := h H a _ fun H1 e => by
  rw [if_pos rfl]
  exact k H1 e
theorem et_ne {d : PyData} (ha : EvP ta σ B (IsD K d)) (hb : EvP tb σ B (IsD K d)) (hd : SeqAt.shaped d = true) : EvT (tTest (tOp (rNeD K) ta tb)) σ B false :=
  et_is (et_test (ev_neD ha hb hd hd)) (by rw [SeqAt.eqv_refl d (Bool.and_eq_true_iff.mp hd).1]; rfl)
theorem ev_notN (h : EvP ta σ B (IsV .non)) : Ev (tOp (fun x y H Q => y = V.non ∧ Q (.bl (!decide (x = V.non))) H) ta (tC .non)) σ B (.bl false) := fun H1 a Q k =>
  h H1 a _ fun v B2 H2 g b => by
    obtain rfl : v = V.non := b
    exact ⟨rfl, k H2 g.a⟩
end
end My

/-! own exceptions as values: made with an __init__ of their own, their fields read, their classes asked -/
namespace XV
open PySem PySem.W PySem.Calls PyProof.Rows Builtin Builtin.ObjectAttr
section
variable {prog : Program} {w : World} {A : Around} {E : Value → Shared → Prop} {R : Result → Shared → Prop} {hp : Heap} {g : Array GenState} {d : Drawn} {t : Nat} {os : OsState}
variable {K : Frag} {name : Str} {tk : Tok} {v : Value} {x C dx : Addr} {fv : Array Value} {cd : ClassData} {B : String} {bmB : List Value} {m0 : Str → Option Value} {nl : List Str}
theorem mro_obj (hm : excTail bmB cd.mro = true) (hbo : bmB.contains (.type "object") = true) : cd.mro.contains (.type "object") = true :=
  Eq.trans (excTail_contains "object" _ hm) hbo
theorem mro_some {l : List Value} (h : l.contains (.type "object") = true) : l.isEmpty = false := by
  cases l with
  | nil => cases h
  | cons _ _ => rfl
/-- the first field that is set -/
theorem setFirst (SF : StoreFacts B bmB "object.__setattr__" "object") (hbo : bmB.contains (.type "object") = true) (XK : K.In hp)
    (hx : hp.get? x = some { cls := .ref C, data := .fields fv }) (hc : clsIn K C = some cd) (hm : excTail bmB cd.mro = true) (hh : cd.hasDict = true) (hn : findIn K (.ref C) name = some none)
    (hq : ∀ h' tk' dx, (∀ b o, b ≠ x → hp.get? b = some o → h'.get? b = some o) → hp.objs.size ≤ dx → dx ≠ x →
      h'.get? x = some { cls := .ref C, dict := some dx, data := .fields fv } → h'.Ns1 dx (fun y => if y = name then some v else none) → R (.ok (.ret .none)) ⟨h', g, d, tk', os⟩) :
    codeAny (model prog w) A (.call (.builtin "object.__setattr__") ⟨[.ref x, .str name tk, v], []⟩) R ⟨hp, g, d, t, os⟩ := by
  have inst : InstAt hp x { cls := .ref C, data := .fields fv } C none := ⟨hx, rfl, rfl, trivial⟩
  have SO := F.store_object
  have hob := mro_obj hm hbo
  have hne := mro_some hob
  have hxs : x ≠ hp.objs.size := Nat.ne_of_lt (Heap.lt_size hx)
  have isO : Looks (model prog w) hp (isInstance (.ref x) (.type "object")) true :=
    inst.type.andThen (looks_mroIn XK (by unfold mroIn; rw [hc, Option.bind_some, if_neg (by rw [hne]; decide), hob]))
  refine codeAny_call_builtin SO.slot.plain SO.entry
    (@check_slot (model prog w) _ _ ⟨hp, g, d, t, os⟩ "object.__setattr__" "object" "__setattr__" (.ref x) [.str name tk, v] [] _ SO.kind SO.split isO
      (SO.args (.ref x) (.str name tk) v) ?_)
  have seesMro : Looks (model prog w) hp (mroOf (.ref C)) cd.mro := (looks_clsIn XK hc).andThen .now
  have noTaker : Looks (model prog w) hp (storeTaker? none) none := .now
  have seesCls : Looks (model prog w) hp (classData C) cd := looks_clsIn XK hc
  rw [osa_eq, refuse_eq]
  refine wpAny_bind (wpAny_bind (inst.type.at (wpAny_bind (seesMro.at ?_))))
  rw [excTail_pass (.ref x) (SF.passes _) _ hm]
  refine wpAny_pure (wpAny_bind (inst.type.at
    (wpAny_bind ((looks_findIn XK hn).at (wpAny_bind (noTaker.at ?_))))))
  show wpAny _ _ (storeInOwnDict (.ref x) (.ref C) (.str name tk) name v false) _ _ _
  obtain ⟨_, _, _, _, _, hd, _, _, _, _, _⟩ := cd
  dsimp only at hh
  subst hh
  unfold storeInOwnDict ownDictForStores
  repeat (first
    | with_reducible refine HandSPX.store_in_new ?_ ?_
    | with_reducible refine wpAny_loadPart_at hx ?_
    | with_reducible refine seesCls.at ?_
    | wp_step)
  · exact ⟨_, #[], _, Eq.trans (Heap.get?_update_ne _ _ _ _ hxs.symm) (Heap.get?_push_at rfl rfl), rfl, fun e he => absurd he (by simp), fun _ => rfl⟩
  · intro h' tk' hn' hs
    have hx1 : (hp.push { cls := .type "dict", data := .dict #[] }).get? x = some { cls := .ref C, data := .fields fv } := Heap.get?_push_of_some _ hx
    exact hq h' tk' hp.objs.size
      (fun b o hb ho => Eq.trans (hs.2 b (Nat.ne_of_lt (Heap.lt_size ho))) (Eq.trans (Heap.get?_update_ne _ _ _ _ hb) (Heap.get?_push_of_some _ ho)))
      (Nat.le_refl _) hxs.symm (Eq.trans (hs.2 x hxs) (Heap.get?_update_self _ hx1 rfl)) hn'
/-- a further field -/
theorem setMore (SF : StoreFacts B bmB "object.__setattr__" "object") (hbo : bmB.contains (.type "object") = true) (XK : K.In hp)
    (hx : hp.get? x = some { cls := .ref C, dict := some dx, data := .fields fv }) (hns : hp.Ns1 dx m0) (hw : Within m0 nl) (hz : nl.length ≤ 1000)
    (hc : clsIn K C = some cd) (hm : excTail bmB cd.mro = true) (hh : cd.hasDict = true) (hn : findIn K (.ref C) name = some none)
    (hq : ∀ h' tk', (∀ b o, b ≠ dx → hp.get? b = some o → h'.get? b = some o) →
      h'.Ns1 dx (fun y => if y = name then some v else m0 y) → R (.ok (.ret .none)) ⟨h', g, d, tk', os⟩) :
    codeAny (model prog w) A (.call (.builtin "object.__setattr__") ⟨[.ref x, .str name tk, v], []⟩) R ⟨hp, g, d, t, os⟩ := by
  obtain ⟨oD, _, _, hoD, _, _⟩ := hns.count hw
  have inst : InstAt hp x { cls := .ref C, dict := some dx, data := .fields fv } C (some oD) := ⟨hx, rfl, rfl, hoD⟩
  have SO := F.store_object
  have hob := mro_obj hm hbo
  have hne := mro_some hob
  have isO : Looks (model prog w) hp (isInstance (.ref x) (.type "object")) true :=
    inst.type.andThen (looks_mroIn XK (by unfold mroIn; rw [hc, Option.bind_some, if_neg (by rw [hne]; decide), hob]))
  refine codeAny_call_builtin SO.slot.plain SO.entry
    (@check_slot (model prog w) _ _ ⟨hp, g, d, t, os⟩ "object.__setattr__" "object" "__setattr__" (.ref x) [.str name tk, v] [] _ SO.kind SO.split isO
      (SO.args (.ref x) (.str name tk) v) ?_)
  have seesMro : Looks (model prog w) hp (mroOf (.ref C)) cd.mro := (looks_clsIn XK hc).andThen .now
  have noTaker : Looks (model prog w) hp (storeTaker? none) none := .now
  have seesCls : Looks (model prog w) hp (classData C) cd := looks_clsIn XK hc
  rw [osa_eq, refuse_eq]
  refine wpAny_bind (wpAny_bind (inst.type.at (wpAny_bind (seesMro.at ?_))))
  rw [excTail_pass (.ref x) (SF.passes _) _ hm]
  refine wpAny_pure (wpAny_bind (inst.type.at
    (wpAny_bind ((looks_findIn XK hn).at (wpAny_bind (noTaker.at ?_))))))
  show wpAny _ _ (storeInOwnDict (.ref x) (.ref C) (.str name tk) name v false) _ _ _
  obtain ⟨_, _, _, _, _, hd, _, _, _, _, _⟩ := cd
  dsimp only at hh
  subst hh
  unfold storeInOwnDict ownDictForStores
  repeat (first
    | with_reducible refine OEX.store_in_old hns hw hz ?_
    | with_reducible refine wpAny_loadPart_at hx ?_
    | with_reducible refine seesCls.at ?_
    | wp_step)
  intro h' tk' hn' hs
  exact hq h' tk' (fun b o hb ho => Eq.trans (hs.2 b hb) ho) hn'
end
end XV
namespace L2
open PySem PySem.Spec PyProof.Rows
/-- what the written part says of an own exception class at C, over the built-in B -/
structure XC (K : PySem.W.Frag) (C : Addr) (bmB : List Value) (newId : String) : Prop where
  q : PySem.W.excInitIn K C bmB newId = true
  hd : PySem.W.hasDictIn K C = true
  sa : PySem.W.findIn K (.ref C) "__setattr__" = some (some (.builtin "object.__setattr__"))
  ga : PySem.W.findIn K (.ref C) "__getattribute__" = some (some (.builtin "BaseException.__getattribute__"))
  gt : PySem.W.findIn K (.ref C) "__getattr__" = some none
  ex : PySem.W.subIn K (.ref C) (.type "BaseException") = some true
  ca : PySem.W.findIn K (.ref C) "__class__" = some (some (.builtin "object.__class__"))
  cn : PySem.W.specialIn K (.builtin "object.__class__") "__get__" = some (some (.builtin "getset_descriptor.__get__"))
  ct : PySem.W.takesIn K (.builtin "object.__class__") = some true
  cm : PySem.W.mroIn K C (.type "object") = some true
  kC : PySem.W.keepIn K (.ref C) = true
/-- what is known of the built-in below -/
structure XB (B : String) (bmB : List Value) (newId initId : String) : Prop where
  base : ExcBaseFacts B newId initId bmB
  store : StoreFacts B bmB "object.__setattr__" "object"
  obj : bmB.contains (.type "object") = true
theorem xbV : XB "ValueError" [.type "ValueError", .type "Exception", .type "BaseException", .type "object"] "ValueError.__new__" "ValueError.__init__" := ⟨F.excBase_ValueError, F.store_ValueError, by decide +kernel⟩
theorem xbL : XB "LookupError" [.type "LookupError", .type "Exception", .type "BaseException", .type "object"] "LookupError.__new__" "LookupError.__init__" := ⟨F.excBase_LookupError, F.store_LookupError, by decide +kernel⟩
theorem xbR : XB "RuntimeError" [.type "RuntimeError", .type "Exception", .type "BaseException", .type "object"] "RuntimeError.__new__" "RuntimeError.__init__" := ⟨F.excBase_RuntimeError, F.store_RuntimeError, by decide +kernel⟩
theorem XC.cls {K : PySem.W.Frag} {C : Addr} {bmB : List Value} {newId : String} (T : XC K C bmB newId) : ∃ cd, PySem.W.clsIn K C = some cd ∧ PySem.W.excTail bmB cd.mro = true ∧ cd.hasDict = true := by
  obtain ⟨cd, hc, hh⟩ := PySem.W.any_some T.hd
  refine ⟨cd, hc, ?_, hh⟩
  have q := T.q
  unfold PySem.W.excInitIn at q
  unfold PySem.W.clsIn at hc
  split at q
  · rename_i ho
    rw [ho] at hc
    cases hc
    split at q
    · rename_i hm _
      simp only [Bool.and_eq_true] at q
      rw [hm]
      exact q.2
    · cases q
  · cases q
end L2

namespace L2
open PySem PySem.Spec PyProof.Rows
section
variable {X : Cx} {pins : List (Addr × Obj)} {σ : St} {H : Hp} {s : Shared} {a C dx : Addr} {f : Str} {y : V} {u : Value} {fs : List (Str × V)} {E : Value → Shared → Prop} {A : Around}
variable {B newId initId : String} {bmB : List Value}
theorem xset1 {Q : Unit → Shared → Prop} (T : XC X.K C bmB newId) (Y : XB B bmB newId initId) (I : Inv X pins σ H s) (e : H a = some (exo a C none)) (hno : PySem.W.findIn X.K (.ref C) f = some none) (ry : RelV y u)
    (h : ∀ dx s', H dx = none → dx ≠ a → Inv X pins σ (upd (upd H dx (exd dx [(f, y)])) a (exo a C (some dx))) s' → Q () s') :
    wpAny (model X.prog X.w) A (setAttr (.ref a) f u) Q E s := by
  obtain ⟨cd, hcl, hmr, hh⟩ := T.cls
  obtain ⟨t1, ho⟩ := exo_at I.hok e
  obtain ⟨hp, g, d, t, os⟩ := s
  refine PySem.W.set_plain I.kIn (od := none) ⟨ho, rfl, rfl, trivial⟩ T.sa ?_
  refine XV.setFirst Y.store Y.obj I.kIn ho hcl hmr hh hno (fun h' tk' dx k dn dne hx hn => ?_)
  have hnd : H dx = none := I.hok.fresh dn
  have far : ∀ {b : Addr} {o : Obj}, hp.get? b = some o → b ≠ dx := fun {b o} q => Nat.ne_of_lt (Nat.lt_of_lt_of_le (Heap.lt_size q) dn)
  have na : ∀ {b : Addr}, H b = none → b ≠ a := fun {b} n z => by
    rw [z, e] at n
    exact nomatch n
  have U : Un X.fs [] H (upd (upd H dx (exd dx [(f, y)])) a (exo a C (some dx))) hp h' := {
    keep := fun b o q n _ _ => k b o (na n) q
    slot := fun b o q n _ _ => ⟨o.slots, k b o (na n) q⟩
    free := fun b o q n _ => Eq.trans (upd_ne (na n)) (Eq.trans (upd_ne (far q)) n)
    there := fun b o q _ => by
      rcases Nat.decEq b a with hb | hb
      · exact ⟨o, k b o hb q⟩
      · exact ⟨_, Eq.trans (congrArg h'.get? hb) hx⟩
    tups := fun b xs q => Eq.trans (upd_ne (at_ne e q exo_tup)) (Eq.trans (upd_ne (ne_of_none q hnd)) q)
    frzs := fun b o v q => Eq.trans (upd_ne (at_ne e q exo_frz)) (Eq.trans (upd_ne (ne_of_none q hnd)) q)
    tbls := fun b ps q => ⟨#[], Eq.trans (upd_ne (at_ne e q exo_tbl)) (Eq.trans (upd_ne (ne_of_none q hnd)) (by rw [q]; simp))⟩ }
  refine h dx _ hnd dne (I.un (t' := tk') U fun b o q => ?_)
  rcases Nat.decEq b a with hb | hb
  · rw [upd_ne hb] at q
    rcases Nat.decEq b dx with hd | hd
    · rw [upd_ne hd] at q
      refine (I.hok b o q).stay (fun c v hc z => k c v ?_ z) (fun c hc => ?_) (fun c xs hc => ?_)
      · rcases hc with hc | hc
        · exact hc ▸ hb
        · exact at_ne e hc exo_own
      · exact Eq.trans (upd_ne (at_ne e hc exo_own)) (Eq.trans (upd_ne (ne_of_none hc hnd)) hc)
      · exact Eq.trans (upd_ne (at_ne e hc exo_tup)) (Eq.trans (upd_ne (ne_of_none hc hnd)) hc)
    · subst hd
      rw [upd_same] at q
      cases q
      exact exd_ok hn (relO_put (fs := []) ry fun _ => trivial)
  · subst hb
    rw [upd_same] at q
    cases q
    exact exo_ok hx
theorem xset2 {Q : Unit → Shared → Prop} (T : XC X.K C bmB newId) (Y : XB B bmB newId initId) (I : Inv X pins σ H s) (e : H a = some (exo a C (some dx))) (ed : H dx = some (exd dx fs)) (hl : fs.length ≤ 900)
    (hno : PySem.W.findIn X.K (.ref C) f = some none) (ry : RelV y u) (h : ∀ s', Inv X pins σ (upd H dx (exd dx ((f, y) :: fs))) s' → Q () s') :
    wpAny (model X.prog X.w) A (setAttr (.ref a) f u) Q E s := by
  obtain ⟨cd, hcl, hmr, hh⟩ := T.cls
  obtain ⟨t1, ho⟩ := exo_at I.hok e
  obtain ⟨mA, hns, rel⟩ := exd_at I.hok ed
  obtain ⟨hp, g, d, t, os⟩ := s
  have hw := within_of rel
  obtain ⟨oD, _, _, hoD, _, _⟩ := hns.count hw
  refine PySem.W.set_plain I.kIn (od := some oD) ⟨ho, rfl, rfl, hoD⟩ T.sa ?_
  refine XV.setMore Y.store Y.obj I.kIn ho hns hw (by rw [List.length_map]; omega) hcl hmr hh hno (fun h' tk' k hn => ?_)
  obtain ⟨o1, _, _, e1, _⟩ := id hn
  exact h _ (I.write (t' := tk') (x := dx) (e := dx) (o := exd dx ((f, y) :: fs)) (by rw [ed]; trivial) (.inl rfl) k ⟨o1, e1⟩ (exd_ok hn (relO_put ry rel)))
/-- the built-in's __init__ of an exception that is being made: nothing of it is told -/
theorem xinit {us : List Value} {Q : Value → Shared → Prop} (T : XC X.K C bmB newId) (Y : XB B bmB newId initId) (I : Inv X pins σ H s) (e : H a = some (exo a C none)) (hl : us.length ≤ sizeLine)
    (h : ∀ s', Inv X pins σ H s' → Q .none s') : wpAny (model X.prog X.w) A (call (.builtin initId) (.ref a :: us)) Q E s := by
  obtain ⟨nm, N, qn, bs, bm, hdct, sn, sub, ab, col, dd, k0, k1, k2, k3, k5, hC, hbm⟩ := PySem.W.excInit_of I.kIn T.q
  obtain ⟨t1, ho⟩ := exo_at I.hok e
  obtain ⟨hp, g, d, t, os⟩ := s
  refine wpAny_call (PySem.HandSPX.init_base Y.base hbm hC ho hl fun h' t2 k hx => ?_)
  have J := I.write (t' := t) (x := a) (e := a) (o := exo a C none) (by rw [e]; trivial) (.inl rfl) k ⟨_, hx⟩ (exo_ok hx)
  have eu : upd H a (exo a C none) = H := funext fun b => by
    rcases Nat.decEq b a with hb | hb
    · exact upd_ne hb
    · subst hb
      exact Eq.trans upd_same e.symm
  rw [eu] at J
  exact h _ J
end
/-- D.__init__(self, ..), D an own class below which stands the built-in with that __init__ -/
def tXInit (K : PySem.W.Frag) (bmB : List Value) (newId : String) (ta : TA) : TE := fun σ H Q => ta σ H fun vs H1 => ∃ (a C : Addr) (ws : List V), vs = .ref a :: ws ∧ ws.length ≤ 1000 ∧ XC K C bmB newId ∧ H1 a = some (exo a C none) ∧ Q .non H1
/-- self.f = e -/
def tXSet (K : PySem.W.Frag) (bmB : List Value) (newId : String) (f : Str) (to te : TE) : TS := fun D σ H => te σ H fun y H1 => to σ H1 fun x H2 => ∃ a C : Addr, x = .ref a ∧ XC K C bmB newId ∧ PySem.W.findIn K (.ref C) f = some none ∧
  ((H2 a = some (exo a C none) ∧ ∀ dx, H2 dx = none → dx ≠ a → D.nx σ (upd (upd H2 dx (exd dx [(f, y)])) a (exo a C (some dx)))) ∨
    ∃ (dx : Addr) (fs : List (Str × V)), H2 a = some (exo a C (some dx)) ∧ H2 dx = some (exd dx fs) ∧ fs.length ≤ 900 ∧ D.nx σ (upd H2 dx (exd dx ((f, y) :: fs))))
/-- C(e, ..) as a value, C's own __init__ keeping sp -/
def tXNew (C : Addr) (sp : Sp) (dvs : List V) (ta : TA) : TE := fun σ H Q => ta σ H fun vs H1 => vs.length ≤ 1000 ∧ ∀ a, H1 a = none → sp (.ref a :: (vs ++ dvs)) (upd H1 a (exo a C none)) (fun v H2 => v = .non ∧ Q (.ref a) H2) (fun _ _ _ => False)
/-- e.f of such a value -/
def tXAt (K : PySem.W.Frag) (bmB : List Value) (newId : String) (f : Str) (te : TE) : TE := fun σ H Q => te σ H fun x H1 => ∃ (a C dx : Addr) (fs : List (Str × V)) (v : V), x = .ref a ∧ XC K C bmB newId ∧ PySem.W.findIn K (.ref C) f = some none ∧
  H1 a = some (exo a C (some dx)) ∧ H1 dx = some (exd dx fs) ∧ fs.lookup f = some v ∧ Q v H1
/-- isinstance(e, c) of such a value -/
def rXIs (K : PySem.W.Frag) : List V → Hp → VK → Prop := fun xs H Q => ∃ (a C : Addr) (bmB : List Value) (newId : String) (c : V) (cv : Value) (b : Bool), xs = [.ref a, c] ∧ XC K C bmB newId ∧
  (H a = some (exo a C none) ∨ ∃ dx fs, H a = some (exo a C (some dx)) ∧ H dx = some (exd dx fs)) ∧ (∀ u, RelV c u → u = cv) ∧ PySem.W.kitOne K (.ref C) cv = some b ∧ Q (.bl b) H
section
variable {X : Cx} {o e : Expr} {es : List Expr} {to te : TE} {ta : TA} {f x : Str} {p p' p1 p2 pos : Pos} {B newId initId : String} {bmB : List Value} {D C : Addr}
theorem pe_xinit {pl : Sem Bool} (Y : XB B bmB newId initId) (hg : Gl X x) (hm : X.mg x = some (.ref D)) (sD : PySem.W.specialIn X.K (.ref D) "__getattribute__" = some (some (.builtin "type.__getattribute__")))
    (rD : PySem.W.readsIn X.K D (.type "type") = true) (fD : PySem.W.findCls X.K (.ref D) (.type "type") "__init__" = some (.val (.builtin initId))) (hh : PySem.W.handedIn (.builtin initId) = true) (ha : PA X (e :: es) ta)
    (hc : eval (.Call (.Attribute (.Name x p1) "__init__" p2) (e :: es) [] pos) X.env = (do
      let ov ← eval (.Name x p1) X.env
      standAt p2.atName
      let (f, first) ← holding [ov] (getMethod ov "__init__" pl)
      callWith pos f first (backTo pos (starEach (e :: es) X.env)) (backToKw pos (keywordEach [] X.env))) := by rfl)
    (he : starEach (e :: es) X.env = (false, eval e X.env) :: starEach es X.env := by rfl) (hpl : (backTo pos (starEach es X.env)).any (·.1) = false := by rfl) (hd : (x == ("__debug__" : Str)) = false := by decide) :
    PE X (.Call (.Attribute (.Name x p1) "__init__" p2) (e :: es) [] pos) (tXInit X.K bmB newId ta) := by
  refine ⟨fun pins s σ H Q I h => ?_⟩
  refine PySem.W.methodCall_KW (ld_glob I hg hm ?_ hd) hc
  refine PySem.W.method_cls I.kIn sD (PySem.W.cls_value I.kIn rD fD hh ?_)
  show wpAny _ _ (callWith pos (Value.builtin initId) [] (backTo pos (starEach (e :: es) X.env)) []) _ _ _
  refine PyProof.Rows.callWith_method1 (thn (ha.run pos pins _ σ H _ (I.tok _) h) fun us s1 hh1 => ?_) he hpl
  obtain ⟨vs, H1, I1, r1, a, C, ws, ev, hl, T, ea, q⟩ := hh1
  subst ev
  cases r1 with
  | @cons _ u0 _ ur ra rw' =>
    obtain rfl : u0 = Value.ref a := ra
    have hlen : ur.length ≤ sizeLine := by
      have := Paired.length rw'
      rw [sizeLine_eq]
      omega
    exact xinit T Y I1 ea hlen fun s' J => ⟨.non, H1, J, rfl, q⟩
theorem ps_xset (Y : XB B bmB newId initId) (ho : PE X o to) (he : PE X e te) (hs : swapsWith e (some (.Attribute o f p')) pos.line X.env = pure false := by rfl) : PS X (.Assign [.Attribute o f p'] e pos) (tXSet X.K bmB newId f to te) := by
  refine ⟨fun pins s σ H D I h => ?_⟩
  refine plainObj_wpAny_Assign_Attribute (thn (he.run pins s σ H _ I h) fun v s1 h1 => ?_) hs
  obtain ⟨y, H1, I1, r1, q1⟩ := h1
  refine thn (ho.run pins s1 σ H1 _ I1 q1) fun u s2 h2 => ?_
  obtain ⟨x, H2, I2, r2, a, C, ex, T, hno, q⟩ := h2
  subst ex
  obtain rfl : u = Value.ref a := r2
  rcases q with ⟨ea, q⟩ | ⟨dx, fs, ea, ed, hl, q⟩
  · exact xset1 T Y I2 ea hno r1 fun dx s' n ne J => ⟨σ, _, J, q dx n ne⟩
  · exact xset2 T Y I2 ea ed hl hno r1 fun s' J => ⟨σ, _, J, q⟩
theorem pe_xat (he : PE X e te) (hb : attributeBase e f X.env (eval e X.env) = eval e X.env := by rfl) : PE X (.Attribute e f pos) (tXAt X.K bmB newId f te) := by
  refine ⟨fun pins s σ H Q I h => ?_⟩
  refine attr_of hb (thn (he.run pins s σ H _ I h) fun u s1 hh => ?_)
  obtain ⟨x, H1, I1, rx, a, C, dx, fs, v, ex, T, hno, ea, ed, hl, q⟩ := hh
  subst ex
  obtain rfl : u = Value.ref a := rx
  obtain ⟨t1, ho⟩ := exo_at I1.hok ea
  obtain ⟨mA, hns, rel⟩ := exd_at I1.hok ed
  obtain ⟨od, hod, look⟩ := lookIn_ns hns
  obtain ⟨z, hz, rz⟩ := RelO.some_of (v := v) (o := mA f) (by have := rel f; rw [hl] at this; exact this)
  have J : PySem.W.InstAt s1.heap a _ C (some od) := ⟨ho, rfl, rfl, hod⟩
  exact HandSPX.exc_get I1.kIn J T.ga T.gt T.ex (PySem.W.findObj_own T.hd hno rfl (by rw [look, hz])) (handed_of rz) ⟨v, H1, I1.tok _, rz, q⟩
theorem call_xis : CallR X (.builtin "isinstance") (rXIs X.K) := by
  intro pins s σ H xs us Q I r h
  obtain ⟨a, C, bmB, newId, c, cv, b, rfl, T, hx, hcv, e, q⟩ := h
  cases r with
  | cons rx rr =>
    cases rr with
    | cons rt rr =>
      cases rr
      cases rx
      have ec := hcv _ rt
      subst ec
      have hcl : (PySem.W.clsIn X.K C).isSome = true := by
        obtain ⟨cd, hc, _⟩ := T.cls
        rw [hc]; rfl
      rcases hx with hx | ⟨dx, fs, hx, hdx⟩
      · obtain ⟨t1, ho⟩ := exo_at I.hok hx
        have J : PySem.W.InstAt s.heap a _ C none := ⟨ho, rfl, rfl, trivial⟩
        exact PySem.W.kia_one (PySem.W.kitx_exc hcl T.ga T.gt T.ex T.ca T.cn T.ct T.cm) I.kIn J e (fun z => nomatch z) fun tk => ⟨.bl b, H, I.kept (t' := tk) fun _ _ z => z, rfl, q⟩
      · obtain ⟨t1, ho⟩ := exo_at I.hok hx
        obtain ⟨mA, hns, rel⟩ := exd_at I.hok hdx
        obtain ⟨od, hod, look⟩ := lookIn_ns hns
        have J : PySem.W.InstAt s.heap a _ C (some od) := ⟨ho, rfl, rfl, hod⟩
        exact PySem.W.kia_one (PySem.W.kitx_exc hcl T.ga T.gt T.ex T.ca T.cn T.ct T.cm) I.kIn J e (fun z => nomatch z) fun tk => ⟨.bl b, H, I.kept (t' := tk) fun _ _ z => z, rfl, q⟩
end
end L2

namespace XV
open PySem PySem.W PySem.Calls PyProof.Rows Builtin Builtin.ObjectAttr HandSPX
section
variable {prog : Program} {w : World} {A : Around} {E : Value → Shared → Prop} {R : Result → Shared → Prop} {h : Heap} {g : Array GenState} {d : Drawn} {t : Nat} {os : OsState}
variable {nm q : Str} {C N : Addr} {bs bm bmB : List Value} {hdct : Bool} {sn : List Str} {sub : List Value} {ab : Bool} {col : Option Bool} {dd : Option Addr} {k0 k1 k2 k3 k5 : Option Value} {B newId initId : String} {kw : List (Str × Value)} {rest : List Value}
theorem newLook {M : Model} {Q : Unit → Shared → Prop} (F : ExcBaseFacts B newId initId bmB) (hT : ∀ X : String, bm.contains (.type X) = bmB.contains (.type X))
    (hC : h.get? C = some (excClassObj nm q C N bs bm hdct sn sub ab col dd k0 k1 k2 k3 k5 newId)) (hq : Q () ⟨h, g, d, t, os⟩) :
    wpAny M A (checkBuiltinCall newId ⟨.ref C :: rest, kw⟩) Q E ⟨h, g, d, t, os⟩ := by
  have hB : (Value.ref C :: bm).contains (.type B) = true := by rw [List.contains_cons, hT, F.hasB, Bool.or_true]
  have star := F.noStar
  simp only [checkBuiltinCall, F.newKind, F.newSplit, F.newRow]
  repeat (first
    | refine wpAny_loadPart_at hC ?_
    | (refine wpAny_isSubtype_exc hC ?_; rw [hB])
    | refine wpAny_staticBase_exc hC ?_
    | refine wpAny_madeBy_exc hC ?_
    | simp only [bne_self_eq_false, Bool.false_eq_true, if_false]
    | wp_step)
  exact hq

theorem newRun (F : ExcBaseFacts B newId initId bmB) (hT : ∀ X : String, bm.contains (.type X) = bmB.contains (.type X))
    (hC : h.get? C = some (excClassObj nm q C N bs bm hdct sn sub ab col dd k0 k1 k2 k3 k5 newId))
    (hq : R (.ok (.ret (.ref (h.objs.size + 1)))) ⟨(h.push { cls := .type "tuple", data := .seq rest.toArray }).push
      { cls := .ref C, data := .fields #[.ref h.objs.size, .none, .none, .none, .bool false, .none] }, g, d, t, os⟩) (hrest : rest.length ≤ sizeLine) :
    codeAny (model prog w) A (.builtin newId ⟨.ref C :: rest, kw⟩) R ⟨h, g, d, t, os⟩ := by
  have ends := F.ends
  have hB : (Value.ref C :: bm).contains (.type B) = true := by rw [List.contains_cons, hT, F.hasB, Bool.or_true]
  have hA : (Value.ref C :: bm).contains (.type "AttributeError") = false := by rw [List.contains_cons, hT, F.noAttr]; rfl
  have hN : (Value.ref C :: bm).contains (.type "NameError") = false := by rw [List.contains_cons, hT, F.noName]; rfl
  refine codeAny_builtinAt F.entry ?_
  unfold Builtin.«BaseException.__new__»
  refine PySem.wpAt_bind ?_
  show PySem.wpAt _ _ _ (stack >>= _) _ _ _
  refine PySem.wpAt_bind (PySem.wpAt_stack fun p below => PySem.wpAt_of_wpAny ?_)
  wp_walk
  refine PySem.wpAt_of_wpAny ?_
  rw [F.owner]
  repeat (first
    | with_reducible refine wpAny_madeHere_exc F.canon hC ?_
    | with_reducible refine wpAny_loadPart_at hC ?_
    | (with_reducible refine wpAny_isSubtype_exc hC ?_; first | rw [hB] | rw [hA] | rw [hN])
    | wp_step)
  show R _ _
  rw [Heap.size_push]
  exact hq
theorem typeCall (F : ExcBaseFacts B newId initId bmB) (hT : ∀ X : String, bm.contains (.type X) = bmB.contains (.type X)) {fI : Addr} {Q : Fin → Shared → Prop}
    (hC : h.get? C = some (excClassObj nm q C N bs bm hdct sn sub ab col dd k0 k1 k2 k3 k5 newId))
    (hi : Looks (model prog w) h (typeLookup (.ref C) "__init__") (some (.ref fI))) (hb : ∀ self, Looks (model prog w) h (bindSpecial (.ref fI) self) (.ref fI, [self])) (hrest : rest.length ≤ sizeLine)
    (hq : codeAny (model prog w) A (.call (.ref fI) ⟨.ref (h.objs.size + 1) :: rest, kw⟩)
      (fun r s' => match r with
        | .ok (.ret v) => v = .none ∧ Q (.done (.ret (.ref (h.objs.size + 1)))) s'
        | .ok _ => False
        | .error e => E e s')
      ⟨(h.push (kdv_tup rest)).push (excO C h.objs.size), g, d, t, os⟩) :
    wpAny (model prog w) A (Builtin.«type.__call__» ⟨.ref C :: rest, kw⟩) Q E ⟨h, g, d, t, os⟩ := by
  repeat (first
    | with_reducible refine wpAny_loadPart_at hC ?_
    | with_reducible refine wpAny_madeBy_exc hC ?_
    | wp_step)
  refine codeAny_call_builtin_code (Code.quiet_builtin _ F.quiet) (newLook F hT hC ?_)
  refine newRun F hT hC ?_ hrest
  show wpAny _ _ _ _ _ _
  have k : ∀ b o, h.get? b = some o → ((h.push (kdv_tup rest)).push (excO C h.objs.size)).get? b = some o :=
    fun b o e => Heap.get?_push_of_some _ (Heap.get?_push_of_some _ e)
  have hC1 := k _ _ hC
  have got : ((h.push (kdv_tup rest)).push (excO C h.objs.size)).get? (h.objs.size + 1) = some (excO C h.objs.size) := by heap_get
  have hCC : (Value.ref C :: bm).contains (.ref C) = true := by simp
  unfold isInstance
  repeat (first
    | with_reducible refine wpAny_loadPart_at got ?_
    | (with_reducible refine wpAny_isSubtype_exc hC1 ?_; rw [hCC])
    | wp_step)
  show wpAny _ _ (typeLookup (.ref C) _) _ _ _
  refine (hi.keeps k).at ?_
  refine wpAny_holding (wpAny_bind (((hb (.ref (h.objs.size + 1))).keeps k).at ?_))
  refine wpAny_bind (wpAny_call (codeAny_mono hq fun r s' z => ?_))
  rcases r with er | (v | _ | _ | _) <;> first
    | exact z
    | exact z.elim
    | skip
  obtain ⟨rfl, z⟩ := z
  first
    | exact wpAny_pure (wpAny_pure z)
    | (wp_walk
       exact z)
theorem callX (F : ExcBaseFacts B newId initId bmB) (hT : ∀ X : String, bm.contains (.type X) = bmB.contains (.type X)) {fI : Addr}
    (hC : h.get? C = some (excClassObj nm q C N bs bm hdct sn sub ab col dd k0 k1 k2 k3 k5 newId))
    (hi : Looks (model prog w) h (typeLookup (.ref C) "__init__") (some (.ref fI))) (hb : ∀ self, Looks (model prog w) h (bindSpecial (.ref fI) self) (.ref fI, [self])) (hrest : rest.length ≤ sizeLine)
    (hq : codeAny (model prog w) (A.under (.builtin "type.__call__" ⟨.ref C :: rest, kw⟩)) (.call (.ref fI) ⟨.ref (h.objs.size + 1) :: rest, kw⟩) (InitBack (h.objs.size + 1) R)
      ⟨(h.push (kdv_tup rest)).push (excO C h.objs.size), g, d, t, os⟩) :
    codeAny (model prog w) A (.call (.ref C) ⟨rest, kw⟩) R ⟨h, g, d, t, os⟩ := by
  have f1 := tc_lookup
  have f2 := tc_bind (.ref C)
  have isT : (⟨h, g, d, t, os⟩ : Shared).TypeIs (.ref C) "type" := ⟨_, hC, rfl⟩
  refine codeAny_of_tree ?_
  show wpAny _ _ (callAny (.ref C) _) _ _ _
  repeat (any_goals (first
    | assumption
    | with_reducible refine wpAny_loadPart_at hC ?_
    | wp_step))
  refine ⟨rfl, ?_⟩
  refine codeAny_call_builtin_at (Code.quiet_builtin _ (by decide +kernel)) entry_typeCall
    (wpAny_check_type_call_sub hC (typeCall F hT hC hi hb hrest ?_))
  refine codeAny_mono hq fun r s' z => ?_
  rcases r with e | (v | _ | _ | _) <;> exact z
end
end XV

namespace L2
open PySem PySem.Spec PyProof.Rows
/-- C(e, .., k = v, ..) of an own exception class with an __init__ of its own, as a value: n values, keywords by their names -/
def tXNewN (C : Addr) (n m : Nat) (sp : Sp) (gV : List V → List V → List V) (t tk : TA) : TE := fun σ H Q => t σ H fun vs H1 => tk σ H1 fun zs H2 => vs.length = n ∧ zs.length = m ∧
  ∀ a, H2 a = none → sp (gV (.ref a :: vs) zs) (upd H2 a (exo a C none)) (fun v H3 => v = .non ∧ Q (.ref a) H3) E0
section
variable {X : Cx} {k n : Nat} {fI C : Addr} {fd : FuncData} {ps ks : List Str} {sp : Sp} {x : Str} {p pos : Pos} {e : Expr} {es : List Expr} {kws : List Keyword} {t tk : TA} {g : List Value → List Value → List Value} {gV : List V → List V → List V}
variable {B newId initId : String} {bmB : List Value}
theorem run_xnew {pins : List (Addr × Obj)} {σ : St} {H : Hp} {s : Shared} {Q : VK} {us ws : List Value} {vs zs : List V} (T : XC X.K C bmB newId) (Y : XB B bmB newId initId) (iC : PySem.W.findIn X.K (.ref C) "__init__" = some (some (.ref fI)))
    (tI : PySem.W.typeIn X.K (.ref fI) = some (.type "function")) (F1 : FnOk X.prog X.w X.K X.mg X.base CX0 k fI fd ps sp) (hr : Room (k + 1) X.A) (hb : KBn X.K fd ps (n + 1) ks g gV)
    (I : Inv X pins σ H s) (r : Vals vs us) (rz : Vals zs ws) (l1 : vs.length = n) (l2 : zs.length = ks.length) (hn : n ≤ 1000)
    (h : ∀ a, H a = none → sp (gV (.ref a :: vs) zs) (upd H a (exo a C none)) (fun v H3 => v = .non ∧ Q (.ref a) H3) E0) :
    wpAny (model X.prog X.w) X.A (call (.ref C) us (ks.zip ws)) (EP X pins σ Q) X.xe s := by
  obtain ⟨nm, N, qn, bs, bm, hdct, sn, sub, ab, col, dd, k0, k1, k2, k3, k5, hC, hbm⟩ := PySem.W.excInit_of I.kIn T.q
  obtain ⟨hp, gs, dr, tk, os⟩ := s
  have above : hp.objs.size ≤ hp.objs.size + 1 := Nat.le_succ _
  have hq := h (hp.objs.size + 1) (I.hok.fresh above)
  have kk : ∀ b o, hp.get? b = some o → ((hp.push (PySem.W.kdv_tup us)).push (PySem.HandSPX.excO C hp.objs.size)).get? b = some o :=
    fun b o e => Heap.get?_push_of_some _ (Heap.get?_push_of_some _ e)
  have got : ((hp.push (PySem.W.kdv_tup us)).push (PySem.HandSPX.excO C hp.objs.size)).get? (hp.objs.size + 1) = some (PySem.HandSPX.excO C hp.objs.size) := by heap_get
  have I2 : Inv X pins σ (upd H (hp.objs.size + 1) (exo (hp.objs.size + 1) C none)) ⟨(hp.push (PySem.W.kdv_tup us)).push (PySem.HandSPX.excO C hp.objs.size), gs, dr, tk, os⟩ :=
    I.laid (t' := tk) (a := hp.objs.size + 1) (o := exo (hp.objs.size + 1) C none) kk above (exo_ok got)
  have r1 : Vals (V.ref (hp.objs.size + 1) :: vs) (Value.ref (hp.objs.size + 1) :: us) := .cons rfl r
  have r2 := hb.rel r1 rz
  have e1 : (Value.ref (hp.objs.size + 1) :: us).length = n + 1 := r1.length.symm.trans (congrArg Nat.succ l1)
  have e2 : ws.length = ks.length := rz.length.symm.trans l2
  have hus : us.length ≤ sizeLine := by
    have := r.length
    rw [sizeLine_eq]
    omega
  refine wpAny_call (XV.callX Y.base hbm hC (PySem.W.looks_findIn I.kIn iC) (fun self => PySem.W.bind_fn I.kIn self tI) hus
    (codeAny_mono (F1.run _ X.stack _ _ ⟨Value.ref (hp.objs.size + 1) :: us, ks.zip ws⟩ (g (Value.ref (hp.objs.size + 1) :: us) ws) _ _ E0
      (hr.make C us (ks.zip ws)) (I2.env0.make C us (ks.zip ws)) (hb.to _ (Value.ref (hp.objs.size + 1) :: us) ws I2.kIn e1 e2) r2 hq) fun r s' hq' => ?_))
  cases r with
  | error er => exact False.elim hq'
  | ok fl =>
    cases fl with
    | ret u =>
      obtain ⟨v, H', I3, rv, ev, q3⟩ := I2.after hq'
      subst ev
      exact ⟨rv, ⟨V.ref (hp.objs.size + 1), H', I3, rfl, q3⟩⟩
    | next => exact False.elim hq'
    | brk => exact False.elim hq'
    | cont => exact False.elim hq'
theorem pe_xnewP (T : XC X.K C bmB newId) (Y : XB B bmB newId initId) (iC : PySem.W.findIn X.K (.ref C) "__init__" = some (some (.ref fI)))
    (tI : PySem.W.typeIn X.K (.ref fI) = some (.type "function")) (F1 : FnOk X.prog X.w X.K X.mg X.base CX0 k fI fd ps sp) (hr : Room (k + 1) X.A) (hb : KBn X.K fd ps (n + 1) [] g gV) (hn : n ≤ 1000) (hg : Gl X x) (hm : X.mg x = some (.ref C))
    (ha : PA X (e :: es) t) (hdb : (x == ("__debug__" : Str)) = false := by decide) (he : starEach (e :: es) X.env = (false, eval e X.env) :: starEach es X.env := by rfl) (hpl : (backTo pos (starEach es X.env)).any (·.1) = false := by rfl) :
    PE X (.Call (.Name x p) (e :: es) [] pos) (tXNewN C n 0 sp gV t tNil) := by
  refine ⟨fun pins s σ H Q I h => ?_⟩
  refine wpAny_Call_Name_kw (ld_glob I hg hm ?_ hdb)
  refine PySem.W.callWith_K (h₀ := X.base) I.ok.mod.kin T.kC (thn (ha.run pos pins s σ H _ I h) fun us s1 h1 => ?_) he hpl
  obtain ⟨vs, H1, I1, r, l1, l2, q⟩ := h1
  exact ⟨I1.kIn, run_xnew (ks := []) T Y iC tI F1 hr hb I1 r .nil l1 rfl hn q⟩
theorem pe_xnewZ (T : XC X.K C bmB newId) (Y : XB B bmB newId initId) (iC : PySem.W.findIn X.K (.ref C) "__init__" = some (some (.ref fI)))
    (tI : PySem.W.typeIn X.K (.ref fI) = some (.type "function")) (F1 : FnOk X.prog X.w X.K X.mg X.base CX0 k fI fd ps sp) (hr : Room (k + 1) X.A) (hb : KBn X.K fd ps (0 + 1) [] g gV) (hg : Gl X x) (hm : X.mg x = some (.ref C))
    (hdb : (x == ("__debug__" : Str)) = false := by decide) : PE X (.Call (.Name x p) [] [] pos) (tXNewN C 0 0 sp gV tNil tNil) := by
  refine ⟨fun pins s σ H Q I h => ?_⟩
  refine wpAny_Call_Name_kw (ld_glob I hg hm ?_ hdb)
  obtain ⟨_, _, q⟩ := h
  exact PySem.W.callWith_K0 I.kIn T.kC (run_xnew (us := []) (ks := []) T Y iC tI F1 hr hb I .nil .nil rfl rfl (by decide) q)
theorem pe_xnewK (T : XC X.K C bmB newId) (Y : XB B bmB newId initId) (iC : PySem.W.findIn X.K (.ref C) "__init__" = some (some (.ref fI)))
    (tI : PySem.W.typeIn X.K (.ref fI) = some (.type "function")) (F1 : FnOk X.prog X.w X.K X.mg X.base CX0 k fI fd ps sp) (hr : Room (k + 1) X.A) (hb : KBn X.K fd ps (0 + 1) ks g gV) (hg : Gl X x) (hm : X.mg x = some (.ref C))
    (hkw : PK X kws tk) (hall : (backToKw pos (keywordEach kws X.env)).all (·.1.isSome) = true := by rfl) (hks : (backToKw pos (keywordEach kws X.env)).filterMap (·.1) = ks := by rfl)
    (hpl : ((backTo pos (starEach [] X.env)).any (·.1) || (backToKw pos (keywordEach kws X.env)).any (·.1.isNone)) = false := by rfl)
    (hdb : (x == ("__debug__" : Str)) = false := by decide) : PE X (.Call (.Name x p) [] kws pos) (tXNewN C 0 ks.length sp gV tNil tk) := by
  refine ⟨fun pins s σ H Q I h => ?_⟩
  refine wpAny_Call_Name_kw (ld_glob I hg hm ?_ hdb)
  refine PySem.W.callWith_KW0 (h₀ := X.base) I.ok.mod.kin T.kC hall (thn (hkw.run pos pins s σ H _ I h) fun ws s2 h2 => ?_) hpl
  obtain ⟨zs, H2, I2, rz, _, l2, q⟩ := h2
  rw [hks]
  exact ⟨I2.kIn, run_xnew (us := []) (vs := []) T Y iC tI F1 hr hb I2 .nil rz rfl l2 (by decide) q⟩
/-- C(e) of an own exception class without an __init__ of its own, as a value -/
theorem pe_xplain {te : TE} (T : XC X.K C bmB newId) (Y : XB B bmB newId initId) (qC : PySem.W.excIn X.K C bmB newId = true) (hg : Gl X x) (hm : X.mg x = some (.ref C)) (he : PE X e te)
    (hs : starEach [e] X.env = (false, eval e X.env) :: starEach [] X.env := by rfl) (hdb : (x == ("__debug__" : Str)) = false := by decide) :
    PE X (.Call (.Name x p) [e] [] pos) (fun σ H Q => te σ H fun _ H1 => ∀ a, H1 a = none → Q (.ref a) (upd H1 a (exo a C none))) := by
  refine ⟨fun pins s σ H Q I h => ?_⟩
  refine wpAny_Call_Name_kw (ld_glob I hg hm ?_ hdb)
  refine PySem.W.callWith_K (h₀ := X.base) I.ok.mod.kin T.kC ?_ hs (by rfl)
  rw [hs]
  show wpAny _ _ (spliced ((false, eval e X.env) :: backTo pos (starEach [] X.env))) _ _ s
  refine Calls.spliced_cons (thn (he.run pins s σ H _ I h) fun u s1 h1 => ?_)
  obtain ⟨v, H1, I1, r1, q1⟩ := h1
  refine Calls.spliced_nil ⟨I1.kIn, ?_⟩
  show wpAny _ _ (call (.ref C) [u]) _ _ _
  obtain ⟨bm, N, nm, qn, bs, hdct, sn, sub, ab, col, dd, k0, k1, k2, k3, k5, mN, hC, hN, hni, hT⟩ := exc_obj I1.kIn qC
  refine wpAny_call_exc_subT Y.base hT hC hN hni (fun h' a hm => ?_) (by show 1 ≤ sizeLine; rw [sizeLine_eq]; omega)
  have hn : H1 a = none := I1.hok.gone hm.new
  obtain ⟨t, ht, _, _⟩ := hm.there
  exact ⟨.ref a, upd H1 a (exo a C none), I1.laidN hm.keeps hm.new hn (exo_ok ht), rfl, q1 a hn⟩
end
end L2

namespace My
open PySem L2 Evl
set_option autoImplicit false
/-- an exception of the class at C with fields of which this is known | one without fields | one of these -/
def XF (C : Addr) (fs : List (Str × Pr)) : Pr := ⟨fun v H => ∃ (a dx : Addr) (vs : List (Str × V)), v = .ref a ∧ H a = some (exo a C (some dx)) ∧ H dx = some (exd dx vs) ∧ vs.map Prod.fst = fs.map Prod.fst ∧ AllP (fs.map Prod.snd) (vs.map Prod.snd) H,
  fun e ⟨a, dx, vs, h1, h2, h3, h4, h5⟩ => ⟨a, dx, vs, h1, e _ _ h2, e _ _ h3, h4, AllP.m e h5⟩⟩
def X0 (C : Addr) : Pr := ⟨fun v H => ∃ a : Addr, v = .ref a ∧ H a = some (exo a C none), fun e ⟨a, h1, h2⟩ => ⟨a, h1, e _ _ h2⟩⟩
def XK (C : Addr) : Pr := ⟨fun v H => ∃ a : Addr, v = .ref a ∧ (H a = some (exo a C none) ∨ ∃ dx fs, H a = some (exo a C (some dx)) ∧ H dx = some (exd dx fs)),
  fun e ⟨a, h1, h2⟩ => ⟨a, h1, h2.elim (fun h => .inl (e _ _ h)) fun ⟨dx, fs, h3, h4⟩ => .inr ⟨dx, fs, e _ _ h3, e _ _ h4⟩⟩⟩
theorem xk_f {C : Addr} {fs : List (Str × Pr)} {v : V} {H : Hp} (h : (XF C fs).P v H) : (XK C).P v H := by
  obtain ⟨a, dx, vs, h1, h2, h3, _⟩ := h
  exact ⟨a, h1, .inr ⟨dx, vs, h2, h3⟩⟩
theorem xk_0 {C : Addr} {v : V} {H : Hp} (h : (X0 C).P v H) : (XK C).P v H := by
  obtain ⟨a, h1, h2⟩ := h
  exact ⟨a, h1, .inl h2⟩
/-- what an __init__ of one field promises; of two -/
def spI1 (C : Addr) (f : Str) : Sp := fun vs H Q _ => ∃ (a : Addr) (v : V), vs = [.ref a, v] ∧ H a = some (exo a C none) ∧ ∀ dx, H dx = none → dx ≠ a → Q .non (upd (upd H dx (exd dx [(f, v)])) a (exo a C (some dx)))
def spI2 (C : Addr) (f g : Str) : Sp := fun vs H Q _ => ∃ (a : Addr) (v w : V), vs = [.ref a, v, w] ∧ H a = some (exo a C none) ∧
  ∀ dx, H dx = none → dx ≠ a → Q .non (upd (upd (upd H dx (exd dx [(f, v)])) a (exo a C (some dx))) dx (exd dx [(g, w), (f, v)]))
/-- an exception and its fields laid -/
theorem gr_two {B H : Hp} {a dx : Addr} {o1 o2 o3 : HO} (e : Ex B H) (ha : H a = none) (hd : upd H a o1 dx = none) (ne : dx ≠ a) : Gr B H (upd (upd B dx o2) a o3) (upd (upd (upd H a o1) dx o2) a o3) := by
  have hdx : H dx = none := by
    rw [← upd_ne (H := H) (o := o1) ne]
    exact hd
  refine ⟨fun b u h => ?_, fun b u h => ?_, fun b u h => ?_, fun x hb hh => ?_⟩
  · have n1 := ne_of_none h ha
    have n2 := ne_of_none h hdx
    rw [upd_ne n1, upd_ne n2, upd_ne n1]
    exact h
  · have h' := e _ _ h
    have n1 := ne_of_none h' ha
    have n2 := ne_of_none h' hdx
    rw [upd_ne n1, upd_ne n2]
    exact h
  · by_cases n1 : b = a
    · subst n1
      rw [upd_same] at h ⊢
      exact h
    · rw [upd_ne n1] at h ⊢
      by_cases n2 : b = dx
      · subst n2
        rw [upd_same] at h ⊢
        exact h
      · rw [upd_ne n2] at h ⊢
        rw [upd_ne n1]
        exact e _ _ h
  · have n1 : x ≠ a := fun z => by
      rw [z] at hh
      exact hh ha
    have n2 : x ≠ dx := fun z => by
      rw [z] at hh
      exact hh hdx
    rw [upd_ne n1, upd_ne n2]
    exact hb
section
variable {te ta tb : TE} {t tk : TA} {σ : L2.St} {B : Hp} {p q : Pr} {ps qs : List Pr} {v : V} {K : PySem.W.Frag} {D : Ends} {C : Addr} {f g : Str} {n m : Nat} {gV : List V → List V → List V}
/-- C(..) : the values that reach __init__ -/
theorem p_new1 {ps zs : List Pr} (h : EvPs t σ B ps) (hk : EvPs tk σ B zs) (hn : ps.length = n) (hm : zs.length = m) (hg : ∀ (a : Addr) (vs ws : List V) (B1 : Hp), AllP ps vs B1 → AllP zs ws B1 → ∃ v, gV (.ref a :: vs) ws = [.ref a, v] ∧ p.P v B1) :
    EvP (tXNewN C n m (spI1 C f) gV t tk) σ B (XF C [(f, p)]) := fun H1 e Q k =>
  h H1 e _ fun vs B2 H2 g2 b2 => hk H2 (g2.b.trans g2.c) _ fun ws B3 H3 g3 b3 => ⟨by rw [b2.len, hn], by rw [b3.len, hm], fun a ha => by
    have gj := g2.join g3
    obtain ⟨v, ev, pv⟩ := hg a vs ws (both B2 B3) (b2.m both_l) (b3.m (both_r (g2.c.trans g3.a) g3.c))
    refine ⟨a, v, ev, upd_same, fun dx hd ne => ⟨rfl, ?_⟩⟩
    have gg := gr_two (o1 := exo a C none) (o2 := exd dx [(f, v)]) (o3 := exo a C (some dx)) gj.c ha hd ne
    refine k _ _ _ (gj.trans gg) ⟨a, dx, [(f, v)], rfl, upd_same, ?_, rfl, p.m gg.b pv, trivial⟩
    rw [upd_ne ne]
    exact upd_same⟩
theorem p_new2 {ps zs : List Pr} (h : EvPs t σ B ps) (hk : EvPs tk σ B zs) (hn : ps.length = n) (hm : zs.length = m) (hg : ∀ (a : Addr) (vs ws : List V) (B1 : Hp), AllP ps vs B1 → AllP zs ws B1 → ∃ v w, gV (.ref a :: vs) ws = [.ref a, v, w] ∧ p.P v B1 ∧ q.P w B1) :
    EvP (tXNewN C n m (spI2 C f g) gV t tk) σ B (XF C [(g, q), (f, p)]) := fun H1 e Q k =>
  h H1 e _ fun vs B2 H2 g2 b2 => hk H2 (g2.b.trans g2.c) _ fun ws B3 H3 g3 b3 => ⟨by rw [b2.len, hn], by rw [b3.len, hm], fun a ha => by
    have gj := g2.join g3
    obtain ⟨v, w, ev, pv, qw⟩ := hg a vs ws (both B2 B3) (b2.m both_l) (b3.m (both_r (g2.c.trans g3.a) g3.c))
    refine ⟨a, v, w, ev, upd_same, fun dx hd ne => ⟨rfl, ?_⟩⟩
    have gg := gr_two (o1 := exo a C none) (o2 := exd dx [(g, w), (f, v)]) (o3 := exo a C (some dx)) gj.c ha hd ne
    have same : upd (upd (upd (upd H3 a (exo a C none)) dx (exd dx [(f, v)])) a (exo a C (some dx))) dx (exd dx [(g, w), (f, v)]) = upd (upd (upd H3 a (exo a C none)) dx (exd dx [(g, w), (f, v)])) a (exo a C (some dx)) := funext fun b => by
      by_cases n1 : b = dx
      · subst n1
        rw [upd_same, upd_ne ne, upd_same]
      · by_cases n2 : b = a
        · subst n2
          rw [upd_ne n1, upd_same, upd_same]
        · simp only [upd_ne n1, upd_ne n2]
    rw [same]
    refine k _ _ _ (gj.trans gg) ⟨a, dx, [(g, w), (f, v)], rfl, upd_same, ?_, rfl, q.m gg.b qw, p.m gg.b pv, trivial⟩
    rw [upd_ne ne]
    exact upd_same⟩
theorem p_plain (h : EvP te σ B p) : EvP (fun σ H Q => te σ H fun _ H1 => ∀ a, H1 a = none → Q (.ref a) (upd H1 a (exo a C none))) σ B (X0 C) := fun H1 e Q k =>
  h H1 e _ fun v B2 H2 g2 _ a ha => k _ _ _ (g2.trans (Gr.new _ g2.c ha)) ⟨a, rfl, upd_same⟩
theorem look_all {H : Hp} : ∀ {fs : List (Str × Pr)} {vs : List (Str × V)}, vs.map Prod.fst = fs.map Prod.fst → AllP (fs.map Prod.snd) (vs.map Prod.snd) H → fs.lookup f = some p → ∃ v, vs.lookup f = some v ∧ p.P v H
  | [], _, _, _, h => by cases h
  | (g, r) :: fs, [], e, _, _ => by cases e
  | (g, r) :: fs, (g', w) :: vs, e, a, h => by
    obtain ⟨rfl, e'⟩ := List.cons.inj e
    rw [List.lookup_cons] at h ⊢
    by_cases c : (f == g') = true
    · rw [c] at h ⊢
      cases h
      exact ⟨w, rfl, a.1⟩
    · have c' : (f == g') = false := by simpa using c
      rw [c'] at h ⊢
      exact look_all e' a.2 h
theorem p_xat {fs : List (Str × Pr)} {bmB : List Value} {newId : String} (T : XC K C bmB newId) (hno : PySem.W.findIn K (.ref C) f = some none) (h : EvP te σ B (XF C fs)) (hl : fs.lookup f = some p) : EvP (tXAt K bmB newId f te) σ B p := fun H1 e Q k =>
  h H1 e _ fun v B2 H2 g2 b => by
    obtain ⟨a, dx, vs, rfl, h2, h3, h4, h5⟩ := b
    obtain ⟨w, hw, pw⟩ := look_all h4 h5 hl
    exact ⟨a, C, dx, vs, w, rfl, T, hno, g2.c _ _ h2, g2.c _ _ h3, hw, k w B2 H2 g2 pw⟩
theorem p_xis {bmB : List Value} {newId : String} {c : V} {cv : Value} {b : Bool} (T : XC K C bmB newId) (h : EvP te σ B (XK C)) (hc : EvP ta σ B (IsV c)) (hcv : ∀ u, RelV c u → u = cv) (hk : PySem.W.kitOne K (.ref C) cv = some b) :
    EvP (tCB (rXIs K) (tCons te (tCons ta tNil))) σ B (IsV (.bl b)) := fun H1 e Q k =>
  h H1 e _ fun v B2 H2 g2 b2 => hc H2 (g2.b.trans g2.c) _ fun w B3 H3 g3 b3 => by
    obtain rfl : w = c := b3
    obtain ⟨a, rfl, hx⟩ := (XK C).m (g2.c.trans g3.a) b2
    exact ⟨a, C, bmB, newId, w, cv, b, rfl, T, hx, hcv, hk, k _ _ _ (g2.join g3) rfl⟩
end
/-- the class D of the module, over which the built-in stands with that __init__ -/
structure XD (K : PySem.W.Frag) (mg : Str → Option Value) (x : Str) (D : Addr) (initId : String) : Prop where
  m : mg x = some (.ref D)
  s : PySem.W.specialIn K (.ref D) "__getattribute__" = some (some (.builtin "type.__getattribute__"))
  r : PySem.W.readsIn K D (.type "type") = true
  f : PySem.W.findCls K (.ref D) (.type "type") "__init__" = some (.val (.builtin initId))
  h : PySem.W.handedIn (.builtin initId) = true
end My
namespace L2
open PySem PySem.Spec PyProof.Rows
theorem pe_globR {X : Cx} {x : Str} {C : Addr} {p : Pos} (hg : Gl X x) (hm : X.mg x = some (.ref C)) (hd : (x == ("__debug__" : Str)) = false := by decide) : PE X (.Name x p) (tC (.ref C)) := by
  refine ⟨fun pins s σ H Q I h => ?_⟩
  exact ld_glob I hg hm ⟨.ref C, H, I, rfl, h⟩ hd
end L2

local macro_rules | `(tactic| walk_at "cond") => `(tactic| (refine My.isP ?_; first
  | decide
  | omega
  | (dsimp only; first | omega | decide)
  | exact ⟨by decide, by decide, by decide⟩
  | exact ⟨by decide, by decide⟩
  | exact ⟨by omega, by omega⟩
  | exact Or.inl ⟨by omega, by omega⟩
  | exact Or.inr ⟨by omega, by omega⟩))
local macro_rules | `(tactic| walk_at "go") => `(tactic| repeat (first
  | refine ⟨_, _, rfl, rfl, (by (walk_at "cond"); done), ?_⟩
  | refine ⟨_, _, rfl, rfl, ?_⟩
  | refine ⟨_, rfl, ?_⟩
  | refine ⟨rfl, ?_⟩
  | refine ⟨⟨_, rfl⟩, ?_⟩))

namespace K5
open PySem L2
def topS (i : Nat) : Stmt := PySem.Challenge.pw_rankedchains_k05_refusals_by_hand.main.body.getD i (.Pass ⟨0, 0, 0, 0⟩)
/-- a draw's state at d -/
def DSt (H : Hp) (d : Addr) (n : Nat) : Prop := ∃ l c t : Int, H d = some (.dK [(.inr "left", .int l), (.inr "cell", .int c), (.inr "turns", .int t)]) ∧ 0 ≤ l ∧ 0 ≤ t ∧ t ≤ n
/-- all but d as it was -/
def SameBut (d : Addr) (H H' : Hp) : Prop := ∀ b o, b ≠ d → H b = some o → H' b = some o
def spMixed : Sp := fun vs H Q _ => ∃ c k : Int, vs = [.int c, .int k] ∧ 0 ≤ k ∧ k ≤ 2 ^ 40 ∧ ∀ (m : Int) (H' : Hp), 0 ≤ m → m < 2147483647 → Same H H' → Q (.int m) H'
def spDraw : Sp := fun vs H Q _ => ∃ c k : Int, vs = [.int c, .int k] ∧ 0 ≤ k ∧ k ≤ 1000 ∧ ∀ (d : Addr) (H' : Hp), H d = none → DSt H' d 1000000 → Same H H' → Q (.ref d) H'
def spDigit : Sp := fun vs H Q _ => ∃ (d : Addr) (z : Int) (n : Nat), vs = [.ref d, .int z] ∧ 0 < z ∧ z < 1073741824 ∧ DSt H d n ∧ n ≤ 2 ^ 39 ∧ ∀ (m : Int) (H' : Hp), 0 ≤ m → m < z → DSt H' d (n + 4) → SameBut d H H' → Q (.int m) H'

abbrev s_Lmixed : Stmt := topS 21
abbrev N_Lmixed : List Str := ["_law_cell", "_law_k", "_law_mixed_here"]
theorem sc_Lmixed : FnScope N_Lmixed ["_law_cell", "_law_k"] (defScope s_Lmixed) := ⟨rfl, rfl, rfl, by decide +kernel, rfl, by decide +kernel, by decide +kernel⟩
abbrev s_Ldraw : Stmt := topS 22
abbrev N_Ldraw : List Str := ["_law_cell", "_law_k"]
theorem sc_Ldraw : FnScope N_Ldraw ["_law_cell", "_law_k"] (defScope s_Ldraw) := ⟨rfl, rfl, rfl, by decide +kernel, rfl, by decide +kernel, by decide +kernel⟩
section
variable {P : Program} {w : World} {K : PySem.W.Frag} {mg : Str → Option Value} {base : Heap}
theorem ok_Lmixed {f : Addr} {fd : FuncData} (F : Fun K "_law_mixed" "_law_mixed" s_Lmixed f fd) : FnOk P w K mg base CX0 1 f fd ["_law_cell", "_law_k"] spMixed := by
  refine F.ok sc_Lmixed (fun vs H Q E h => ?_) (fun cdv A outer s H vs Q E hr h => ?_)
  · obtain ⟨c, k, rfl, _⟩ := h
    rfl
  · obtain ⟨c, k, rfl, hk0, hk, q⟩ := h
    refine ⟨_, (pss_cons (ps_set (i := 2) sc_Lmixed.nd rfl (by first | exact .inl rfl | exact .inr rfl) (pe_op op_add (pe_op op_add (pe_op op_mod (pv 0) (pe_ix ix_list (pe_lst (pa_cons pe_int (pa_cons pe_int (pa_cons pe_int (pa_cons pe_int pa_nil))))) (pe_op op_mod (pv 1) pe_int) (fun _ _ => rfl))) (pe_op op_mul pe_int (pv 1))) pe_int))
    (pss_one (ps_ret (pe_op op_mod (pe_op op_mul (pe_op op_mod (pe_op op_mul (pv 2) (pv 2)) pe_int) pe_int) pe_int)))), ?_⟩
    walk_at "go"
    refine ⟨My.small (by decide), fun p hp => ?_⟩
    walk_at "go"
    obtain ⟨v, hv, e⟩ := My.atIn [V.int 1000000007, V.int 998244353, V.int 2147483629, V.int 1000000009] (k % 4) (by omega) (by show k % 4 < 4; omega)
    obtain ⟨y, rfl, hy⟩ : ∃ y, v = V.int y ∧ 0 < y ∧ y < 2147483647 := by
      simp only [List.mem_cons, List.not_mem_nil, or_false] at hv
      rcases hv with rfl | rfl | rfl | rfl <;> exact ⟨_, rfl, by decide⟩

    refine ⟨p, _, _, _, rfl, rfl, My.lstNew, e, ?_⟩
    have h1 := Int.emod_nonneg c (b := y) (by omega)
    have h2 := Int.emod_lt_of_pos c (b := y) (by omega)
    refine ⟨_, _, rfl, rfl, hy.1, ?_⟩
    walk_at "go"
    exact q _ _ (Int.emod_nonneg _ (by decide)) (Int.emod_lt_of_pos _ (by decide)) (My.new hp)
theorem ok_Ldraw {f : Addr} {fd : FuncData} (F : Fun K "_law_draw" "_law_draw" s_Ldraw f fd) : FnOk P w K mg base CX0 1 f fd ["_law_cell", "_law_k"] spDraw := by
  refine F.ok sc_Ldraw (fun vs H Q E h => ?_) (fun cdv A outer s H vs Q E hr h => ?_)
  · obtain ⟨c, k, rfl, _⟩ := h
    rfl
  · obtain ⟨c, k, rfl, hk0, hk, q⟩ := h
    have hu := hu_of hr
    refine ⟨_, (pss_one (ps_ret (pe_disp (pps_cons pe_str (pe_ifExp (pt_cmpR op_ge (pv 0) (pe_op op_pow pe_int pe_int) (nomark _)) (pv 0) pe_int) (pps_cons pe_str (pv 0) (pps_cons pe_str (pe_op op_mul pe_int (pv 1)) pps_nil))) rfl rfl (by simp) (by decide)))), ?_⟩
    intro p hp
    walk_at "go"
    refine ite2 (fun h => ?_) (fun h => ?_)
    · walk_at "go"
      refine ⟨upd_same, [(.inr "left", .int c), (.inr "cell", .int c), (.inr "turns", .int (1000 * k))], rfl, (by show 3 ≤ 15; decide), ?_⟩
      refine q _ _ hp ⟨c, c, 1000 * k, ?_, ?_, by omega, by omega⟩ ?_
      · rw [upd_same]; rfl
      · have := of_decide_eq_true h
        simp at this
        omega
      · exact My.new2 hp
    · walk_at "go"
      refine ⟨upd_same, [(.inr "left", .int 0), (.inr "cell", .int c), (.inr "turns", .int (1000 * k))], rfl, (by show 3 ≤ 15; decide), ?_⟩
      refine q _ _ hp ⟨0, c, 1000 * k, ?_, by omega, by omega, by omega⟩ ?_
      · rw [upd_same]; rfl
      · exact My.new2 hp
theorem sb_trans {d : Addr} {H H1 H2 : Hp} (a : SameBut d H H1) (b : SameBut d H1 H2) : SameBut d H H2 := fun c o n e => b c o n (a c o n e)
theorem sb_same {d : Addr} {H H1 : Hp} (a : Same H H1) : SameBut d H H1 := fun c o _ e => a c o e
theorem sb_upd {d : Addr} {H : Hp} {o : HO} : SameBut d H (upd H d o) := fun c u n e => by rw [upd_ne n]; exact e
theorem dget_left {H : Hp} {d : Addr} {a b c : V} (h : H d = some (.dK [(.inr "left", a), (.inr "cell", b), (.inr "turns", c)])) : DGet H d (.str "left") (some a) := DGet.k (k := .inr "left") h
theorem dget_cell {H : Hp} {d : Addr} {a b c : V} (h : H d = some (.dK [(.inr "left", a), (.inr "cell", b), (.inr "turns", c)])) : DGet H d (.str "cell") (some b) := DGet.k (k := .inr "cell") h
theorem dget_turns {H : Hp} {d : Addr} {a b c : V} (h : H d = some (.dK [(.inr "left", a), (.inr "cell", b), (.inr "turns", c)])) : DGet H d (.str "turns") (some c) := DGet.k (k := .inr "turns") h
theorem put_left {a b c v : V} : putK [((.inr "left" : Key), a), (.inr "cell", b), (.inr "turns", c)] (.inr "left") v = [(.inr "left", v), (.inr "cell", b), (.inr "turns", c)] := rfl
theorem put_turns {a b c v : V} : putK [((.inr "left" : Key), a), (.inr "cell", b), (.inr "turns", c)] (.inr "turns") v = [(.inr "left", a), (.inr "cell", b), (.inr "turns", v)] := rfl
theorem dput_left {H : Hp} {d : Addr} {a b c v : V} (h : H d = some (.dK [(.inr "left", a), (.inr "cell", b), (.inr "turns", c)])) : DPut H d (.str "left") v (upd H d (.dK [(.inr "left", v), (.inr "cell", b), (.inr "turns", c)])) := DPut.k (k := .inr "left") h (by show 3 < sizeLine; decide)
theorem dput_turns {H : Hp} {d : Addr} {a b c v : V} (h : H d = some (.dK [(.inr "left", a), (.inr "cell", b), (.inr "turns", c)])) : DPut H d (.str "turns") v (upd H d (.dK [(.inr "left", a), (.inr "cell", b), (.inr "turns", v)])) := DPut.k (k := .inr "turns") h (by show 3 < sizeLine; decide)

abbrev s_Ldigit : Stmt := topS 23
abbrev N_Ldigit : List Str := ["_law_state", "_law_size", "_law_j", "_law_found"]
theorem sc_Ldigit : FnScope N_Ldigit ["_law_state", "_law_size"] (defScope s_Ldigit) := ⟨rfl, rfl, rfl, by decide +kernel, rfl, by decide +kernel, by decide +kernel⟩
theorem ok_Ldigit {f fM : Addr} {fd fdM : FuncData} (F : Fun K "_law_digit" "_law_digit" s_Ldigit f fd) (G : FnOk P w K mg base CX0 1 fM fdM ["_law_cell", "_law_k"] spMixed)
    (n_range : mg "range" = none) (m_Lmixed : mg "_law_mixed" = some (.ref fM)) (k_Lmixed : PySem.W.keepIn K (.ref fM) = true) (b_Lmixed : Binds K fdM ["_law_cell", "_law_k"] []) : FnOk P w K mg base CX0 2 f fd ["_law_state", "_law_size"] spDigit := by
  refine F.ok sc_Ldigit (fun vs H Q E h => ?_) (fun cdv A outer s H vs Q E hr h => ?_)
  · obtain ⟨d, z, n, rfl, _⟩ := h
    rfl
  · obtain ⟨d, z, n, rfl, hz, hz2, ⟨l, c, t, hd, hl, ht, htn⟩, hn, q⟩ := h
    have hu := hu_of hr
    refine ⟨_, (pss_cons (ps_if (pt_cmpR op_eq (pe_dget hu (pv 0) pe_str (fun _ _ => rfl)) pe_int (nomark _)) (pss_one (ps_for PassesOwn.never rfl (pi_range1 (by rfl) n_range (pa_cons pe_int pa_nil)) (pg_name (i := 2) sc_Ldigit.nd rfl (by first | exact .inl rfl | exact .inr rfl))
      (pss_cons (ps_dput hu (pv 0) pe_str (pe_op op_add (pe_dget hu (pv 0) pe_str (fun _ _ => rfl)) pe_int) rfl)
    (pss_one (ps_dput hu (pv 0) pe_str (pe_op op_add (pe_op op_mul (pe_dget hu (pv 0) pe_str (fun _ _ => rfl)) pe_int) (pe_call G (hr.mono (by decide)) (by rfl) m_Lmixed k_Lmixed b_Lmixed .nil pass0 (pa_cons (pe_dget hu (pv 0) pe_str (fun _ _ => rfl)) (pa_cons (pe_dget hu (pv 0) pe_str (fun _ _ => rfl)) pa_nil)))) rfl))))) pss_nil)
    (pss_cons (ps_set (i := 3) sc_Ldigit.nd rfl (by first | exact .inl rfl | exact .inr rfl) (pe_op op_mod (pe_dget hu (pv 0) pe_str (fun _ _ => rfl)) (pv 1)))
    (pss_cons (ps_dput hu (pv 0) pe_str (pe_op op_fdiv (pe_dget hu (pv 0) pe_str (fun _ _ => rfl)) (pv 1)) rfl)
    (pss_one (ps_ret (pv 3)))))), ?_⟩
    -- what follows the if, from any state
    have rest : ∀ (x : Option V) (l t : Int) (H1 : Hp), H1 d = some (.dK [(.inr "left", .int l), (.inr "cell", .int c), (.inr "turns", .int t)]) → 0 ≤ l → 0 ≤ t → t ≤ (n + 4 : Nat) → SameBut d H H1 →
      ∀ D : Ends, D.rt = Q → tSeq (tAsg (tOp (rI (fun _ j => 0 < j) fun i j => .int (i % j)) (tDGet (tVar 0) (tC (.str "left"))) (tVar 1)) (gName 3)) (tSeq (sDPut (tVar 0) (tC (.str "left")) (tOp (rI CDiv fun i j => .int (i / j)) (tDGet (tVar 0) (tC (.str "left"))) (tVar 1))) (tRet (tVar 3))) D [some (.ref d), some (.int z), x, none] H1 := by
      intro x l t H1 h1 hl ht htn sb D hD
      walk_at "go"
      refine ⟨_, _, rfl, dget_left h1, ?_⟩
      walk_at "go"
      refine ⟨_, _, rfl, dget_left h1, ?_⟩
      walk_at "go"
      refine ⟨_, _, rfl, dput_left h1, ?_⟩
      walk_at "go"
      show D.rt _ _
      rw [hD]
      exact q _ _ (Int.emod_nonneg _ (by omega)) (Int.emod_lt_of_pos _ hz) ⟨_, _, _, upd_same, Int.ediv_nonneg hl (by omega), ht, htn⟩ (sb_trans sb sb_upd)
    walk_at "go"
    refine ⟨_, _, rfl, dget_left hd, ?_⟩
    walk_at "go"
    refine ite2 (fun h => ?_) (fun h => ?_)
    · walk_at "go"
      refine ⟨by decide, by decide, for_range (lo := 0) (n := 4) (fun i σ H1 => ∃ (x : Option V) (l t : Int), σ = [some (.ref d), some (.int z), x, none] ∧ H1 d = some (.dK [(.inr "left", .int l), (.inr "cell", .int c), (.inr "turns", .int t)]) ∧ 0 ≤ l ∧ 0 ≤ t ∧ t ≤ (n + i : Nat) ∧ SameBut d H H1)
        ⟨none, l, t, rfl, hd, hl, ht, by omega, fun c o n e => e⟩ ?_ ?_⟩
      · rintro i σ H1 hi ⟨x, l1, t1, rfl, h1, hl1, ht1, ht2, sb⟩
        walk_at "go"
        refine ⟨_, _, rfl, dget_turns h1, ?_⟩
        walk_at "go"
        refine ⟨_, _, rfl, dput_turns h1, ?_⟩
        walk_at "go"
        refine ⟨_, _, rfl, dget_left upd_same, ?_⟩
        walk_at "go"
        refine ⟨_, _, rfl, dget_cell upd_same, ?_⟩
        walk_at "go"
        refine ⟨_, _, rfl, dget_turns upd_same, ?_⟩
        refine ⟨c, t1 + 1, rfl, by omega, by omega, fun m H2 hm0 hm1 S => ?_⟩
        walk_at "go"
        refine ⟨_, _, rfl, dput_left (S _ _ upd_same), ?_⟩
        refine ⟨_, _, _, rfl, upd_same, ?_, by omega, by omega, sb_trans sb (sb_trans sb_upd (sb_trans (sb_same S) sb_upd))⟩
        have := Int.mul_nonneg hl1 (by decide : (0 : Int) ≤ 2147483647)
        omega
      · rintro σ H1 ⟨x, l1, t1, rfl, h1, hl1, ht1, ht2, sb⟩
        exact rest x l1 t1 H1 h1 hl1 ht1 ht2 sb _ rfl
    · exact rest none l t H hd hl ht (by omega) (fun c o n e => e) _ rfl
end
end K5

namespace K5
open PySem L2
def isNmB (x : Str) : Bool := decide (1 ≤ x.length) && decide (x.length ≤ 8) && x.cps.toList.all fun c => decide (97 ≤ c) && decide (c ≤ 122)
def IsNm (x : Str) : Prop := isNmB x = true
def one (c : Nat) : Str := ⟨#[c]⟩
theorem strExt {x y : Str} (h : x.cps.toList = y.cps.toList) : x = y := by
  obtain ⟨a⟩ := x
  obtain ⟨b⟩ := y
  exact congrArg Str.mk (Array.toList_inj.mp h)
theorem append_list (x y : Str) : (x ++ y).cps.toList = x.cps.toList ++ y.cps.toList := by
  show (x.cps ++ y.cps).toList = _
  exact Array.toList_append
theorem join_ones : ∀ cs : List Nat, Str.join (Str.ofString "") (cs.map one) = ⟨cs.toArray⟩
  | [] => rfl
  | [c] => rfl
  | c :: c' :: cs => by
    have ih := join_ones (c' :: cs)
    show one c ++ Str.ofString "" ++ Str.join (Str.ofString "") ((c' :: cs).map one) = _
    rw [ih]
    apply strExt
    rw [append_list, append_list]
    have : (Str.ofString "").cps.toList = [] := by decide +kernel
    rw [this]
    simp [one]
theorem txt_ones (cs : List Nat) : Txt.join (Str.ofString "") (cs.map one) = ⟨cs.toArray⟩ := by
  show Builtin.Str.glued _ _ = _
  rw [StrLaws.glued_eq_join]
  exact join_ones cs
theorem nm_ones {cs : List Nat} (h1 : 1 ≤ cs.length) (h2 : cs.length ≤ 8) (h3 : ∀ c ∈ cs, 97 ≤ c ∧ c ≤ 122) : IsNm ⟨cs.toArray⟩ := by
  unfold IsNm isNmB
  have : (Str.mk cs.toArray).length = cs.length := by show cs.toArray.size = _; simp
  rw [this]
  simp only [Bool.and_eq_true, decide_eq_true_eq, List.all_eq_true]
  exact ⟨⟨h1, h2⟩, fun c hc => h3 c (by simpa using hc)⟩
def spWord : Sp := fun vs H Q _ => ∃ (d : Addr) (n : Nat), vs = [.ref d] ∧ DSt H d n ∧ n ≤ 2 ^ 38 ∧ ∀ (x : Str) (H' : Hp), IsNm x → DSt H' d (n + 50) → SameBut d H H' → Q (.str x) H'
theorem DSt.le {H : Hp} {d : Addr} {n m : Nat} (h : DSt H d n) (k : n ≤ m) : DSt H d m := by
  obtain ⟨l, c, t, a, b, e, f⟩ := h
  exact ⟨l, c, t, a, b, e, by omega⟩
theorem DSt.same {H H' : Hp} {d : Addr} {n : Nat} (h : DSt H d n) (k : Same H H') : DSt H' d n := by
  obtain ⟨l, c, t, a, b⟩ := h
  exact ⟨l, c, t, k _ _ a, b⟩
theorem DSt.ne {H : Hp} {d p : Addr} {n : Nat} (h : DSt H d n) (k : H p = none) : d ≠ p := by
  obtain ⟨l, c, t, a, b⟩ := h
  exact ne_of_none a k
theorem DSt.upd {H : Hp} {d p : Addr} {n : Nat} {o : HO} (h : DSt H d n) (k : d ≠ p) : DSt (upd H p o) d n := by
  obtain ⟨l, c, t, a, b⟩ := h
  exact ⟨l, c, t, by rw [upd_ne k]; exact a, b⟩
theorem len_ones (cs : List Nat) : ((cs.map one).map (·.length)).sum = cs.length := by
  induction cs with
  | nil => rfl
  | cons c r ih =>
    simp only [List.map_cons, List.sum_cons, List.length_cons, ih]
    show 1 + r.length = _
    omega
theorem sb_new {d p : Addr} {H H1 : Hp} {o : HO} (a : SameBut d H H1) (h : H p = none) : SameBut d H (upd H1 p o) := fun c u n e => by
  rw [upd_ne (ne_of_none e h)]
  exact a c u n e
theorem sb_free {d p : Addr} {H H1 : Hp} (a : SameBut d H H1) (n : p ≠ d) (h : H1 p = none) : H p = none := by
  cases e : H p with
  | none => rfl
  | some o =>
    rw [a p o n e] at h
    cases h
abbrev s_Lword : Stmt := topS 24
abbrev N_Lword : List Str := ["_law_state", "_law_signs", "_law_j", "_law_some"]
theorem sc_Lword : FnScope N_Lword ["_law_state"] (defScope s_Lword) := ⟨rfl, rfl, rfl, by decide +kernel, rfl, by decide +kernel, by decide +kernel⟩
section
variable {P : Program} {w : World} {K : PySem.W.Frag} {mg : Str → Option Value} {base : Heap}
theorem ok_Lword {f fD : Addr} {fd fdD : FuncData} (F : Fun K "_law_word" "_law_word" s_Lword f fd) (G : FnOk P w K mg base CX0 2 fD fdD ["_law_state", "_law_size"] spDigit)
    (n_range : mg "range" = none) (m_Ldigit : mg "_law_digit" = some (.ref fD)) (k_Ldigit : PySem.W.keepIn K (.ref fD) = true) (b_Ldigit : Binds K fdD ["_law_state", "_law_size"] []) : FnOk P w K mg base CX0 3 f fd ["_law_state"] spWord := by
  refine F.ok sc_Lword (fun vs H Q E h => ?_) (fun cdv A outer s H vs Q E hr h => ?_)
  · obtain ⟨d, n, rfl, _⟩ := h
    rfl
  · obtain ⟨d, n, rfl, hd, hn, q⟩ := h
    have hu := hu_of hr
    refine ⟨_, (pss_cons (ps_setLc (i := 1) (own := [("_law_j", 2)]) rfl sc_Lword.nd rfl rfl (sw_true rfl rfl rfl (by decide +kernel)) (pi_range1 (by rfl) n_range (pa_cons (pe_op op_add pe_int (pe_call G (hr.mono (by decide)) (by rfl) m_Ldigit k_Ldigit b_Ldigit .nil pass0 (pa_cons (pv 0) (pa_cons pe_int pa_nil)))) pa_nil)) (blkOk_by (N := N_Lword) (sc := defScope s_Lword) (by decide +kernel)) (fun _ _ _ _ _ => (pg_name (i := 2) sc_Lword.nd rfl (by first | exact .inl rfl | exact .inr rfl))) (fun _ _ _ _ _ => pts_nil) (fun _ _ _ _ _ => (pe_ix ix_str pe_str (pe_call G (hr.mono (by decide)) (by rfl) m_Ldigit k_Ldigit b_Ldigit .nil pass0 (pa_cons (pv 0) (pa_cons pe_int pa_nil))) (fun _ _ => rfl))))
    (pss_cons (ps_set (i := 3) sc_Lword.nd rfl (by first | exact .inl rfl | exact .inr rfl) (pe_lst (pa_cons (pe_join pe_str (pv 1)) (pa_cons (pe_join pe_str (pe_slice sl_list (pv 1) po_none (po_some pe_int))) (pa_cons pe_str (pa_cons pe_str (pa_cons pe_str (pa_cons pe_str (pa_cons pe_str (pa_cons pe_str (pa_cons pe_str (pa_cons pe_str (pa_cons pe_str (pa_cons pe_str pa_nil))))))))))))))
    (pss_one (ps_ret (pe_ix ix_list (pv 3) (pe_call G (hr.mono (by decide)) (by rfl) m_Ldigit k_Ldigit b_Ldigit .nil pass0 (pa_cons (pv 0) (pa_cons pe_int pa_nil))) (fun _ _ => rfl)))))), ?_⟩
    walk_at "go"
    refine ⟨d, 8, n, rfl, by decide, by decide, hd, by omega, fun m H1 m0 m1 hd1 S1 => ?_⟩
    walk_at "go"
    have hdD : ∀ {D : Addr}, H1 D = none → d ≠ D := fun e => hd1.ne e
    refine ⟨by omega, by omega, fun D hD => lc_range (lo := 0) (n := (1 + m).toNat) (fun i H2 => DSt H2 d (n + 4 + 4 * i) ∧ SameBut d H H2 ∧ ∃ cs : List Nat, H2 D = some (.lst ((cs.map one).map V.str)) ∧ cs.length = i ∧ ∀ c ∈ cs, 97 ≤ c ∧ c ≤ 122)
      ⟨hd1.upd (hdD hD), sb_trans S1 (sb_same (My.new hD)), [], upd_same, rfl, fun c h => absurd h (List.not_mem_nil)⟩ ?_ ?_⟩
    · rintro i H2 hi ⟨h1, S2, cs, h2, h3, h4⟩
      walk_at "go"
      dsimp only [tYes]
      walk_at "go"
      refine ⟨d, 26, _, rfl, by decide, by decide, h1, by omega, fun c H3 c0 c1 hd3 S3 => ?_⟩
      have h26 : (Str.ofString "abcdefghijklmnopqrstuvwxyz").cps.toList.length = 26 := by decide +kernel
      obtain ⟨u, hu1, e⟩ := My.atIn ((Str.ofString "abcdefghijklmnopqrstuvwxyz").cps.toList) c c0 (by omega)
      have hu2 : ∀ u ∈ (Str.ofString "abcdefghijklmnopqrstuvwxyz").cps.toList, 97 ≤ u ∧ u ≤ 122 := by decide +kernel
      refine ⟨_, _, u, rfl, rfl, by decide +kernel, e, ?_⟩
      have hne : D ≠ d := (hdD hD).symm
      refine ⟨_, S3 _ _ hne h2, by rw [List.length_map, List.length_map, h3]; exact small1000 (by omega), (hd3.upd hne.symm).le (by omega), sb_new (sb_trans S2 S3) (sb_free S1 hne hD), cs ++ [u], by rw [upd_same, List.map_append, List.map_append]; rfl, by rw [List.length_append, h3]; rfl, ?_⟩
      intro c hc
      rcases List.mem_append.mp hc with hc | hc
      · exact h4 c hc
      · rw [List.mem_singleton.mp hc]
        exact hu2 _ hu1
    · rintro H2 ⟨h1, S2, cs, h2, h3, h4⟩
      have hne : D ≠ d := (hdD hD).symm
      have hDH := sb_free S1 hne hD
      walk_at "go"
      refine ⟨_, _, cs.map one, rfl, rfl, .inl (SqL.of h2), ?_, ?_⟩
      · rw [len_ones, h3]
        have : (Str.ofString "").length = 0 := by decide +kernel
        rw [this]
        omega
      rw [txt_ones]
      walk_at "go"
      refine ⟨_, _, rfl, SqL.of h2, fun p hp => ?_⟩
      rw [show (2 : Int) = ((2 : Nat) : Int) from rfl, My.cutTo, ← List.map_take, ← List.map_take]
      walk_at "go"
      refine ⟨_, _, (cs.take 2).map one, rfl, rfl, .inl My.lstNew, ?_, ?_⟩
      · rw [len_ones, List.length_take]
        have : (Str.ofString "").length = 0 := by decide +kernel
        rw [this]
        omega
      rw [txt_ones]
      walk_at "go"
      refine ⟨My.small (by show 12 ≤ 1000; decide), fun r hr' => ?_⟩
      walk_at "go"
      have hpH : H p = none := sb_free S2 (h1.ne hp).symm hp
      have h1' := h1.upd (o := .lst (((cs.take 2).map one).map V.str)) (h1.ne hp)
      have hrH : H r = none := sb_free (sb_new S2 hpH) (h1'.ne hr').symm hr'
      refine ⟨d, 12, _, rfl, by decide, by decide, h1'.upd (h1'.ne hr'), by omega, fun c H3 c0 c1 hd3 S3 => ?_⟩
      obtain ⟨v, hv, e⟩ := My.atIn [V.str ⟨cs.toArray⟩, V.str ⟨(cs.take 2).toArray⟩, V.str "u", V.str "v", V.str "w", V.str "x", V.str "y", V.str "total", V.str "names", V.str "case", V.str "axes", V.str "tell"] c c0 c1
      refine ⟨r, _, _, _, rfl, rfl, SqL.of (S3 _ _ (h1'.ne hr').symm upd_same), e, ?_⟩
      obtain ⟨x, rfl, hx⟩ : ∃ x, v = V.str x ∧ IsNm x := by
        simp only [List.mem_cons, List.not_mem_nil, or_false] at hv
        rcases hv with rfl | rfl | rfl | rfl | rfl | rfl | rfl | rfl | rfl | rfl | rfl | rfl
        · exact ⟨_, rfl, nm_ones (by omega) (by omega) h4⟩
        · exact ⟨_, rfl, nm_ones (by rw [List.length_take]; omega) (by rw [List.length_take]; omega) fun c hc => h4 c (List.mem_of_mem_take hc)⟩
        all_goals exact ⟨_, rfl, (by unfold IsNm; decide +kernel)⟩
      exact q x H3 hx (hd3.le (by omega)) (sb_trans (sb_new (sb_new S2 hpH) hrH) S3)
end
end K5

namespace K5
open PySem L2 My
set_option autoImplicit false
def bmOf (b : String) : List Value := [.type b, .type "Exception", .type "BaseException", .type "object"]
abbrev s_BadRow : Stmt := inClass (topS 2) 0
theorem sc_BadRow : FnScope ["self", "row", "word"] ["self", "row", "word"] (defScope s_BadRow) := ⟨rfl, rfl, rfl, by decide +kernel, rfl, by decide +kernel, by decide +kernel⟩
theorem ok_BadRow {P : Program} {w : World} {K : PySem.W.Frag} {mg : Str → Option Value} {base : Heap} {f C D : Addr} {fd : FuncData} (F : Fun K "__init__" "BadRow.__init__" s_BadRow f fd) (T : XC K C (bmOf "ValueError") "ValueError.__new__") (Z : XD K mg "ChainError" D "ValueError.__init__") (no0 : PySem.W.findIn K (.ref C) "row" = some none) (no1 : PySem.W.findIn K (.ref C) "word" = some none) : FnOk P w K mg base CX0 1 f fd ["self", "row", "word"] (spI2 C "row" "word") := by
  refine F.ok sc_BadRow (fun vs H Q E h => ?_) (fun cdv A outer s H vs Q E hr h => ?_)
  · obtain ⟨a, v, w, rfl, _⟩ := h
    rfl
  · obtain ⟨a, v, w', rfl, ha, q⟩ := h
    refine ⟨_, (pss_cons (ps_expr (pe_xinit xbV (by rfl) Z.m Z.s Z.r Z.f Z.h (pa_cons (pv 0) (pa_cons pe_str pa_nil)))) (pss_cons (ps_xset xbV (pv 0) (pv 1)) (pss_one (ps_xset xbV (pv 0) (pv 2))))), ?_⟩
    refine ⟨_, rfl, a, C, _, rfl, by decide, T, ha, ?_⟩
    refine ⟨_, rfl, _, rfl, a, C, rfl, T, no0, .inl ⟨ha, fun dx hd ne => ?_⟩⟩
    exact ⟨_, rfl, _, rfl, a, C, rfl, T, no1, .inr ⟨dx, _, upd_same, Eq.trans (upd_ne ne) upd_same, (by show 1 ≤ 900; decide), q dx hd ne⟩⟩
abbrev s_BadPolynomial : Stmt := inClass (topS 3) 0
theorem sc_BadPolynomial : FnScope ["self", "number"] ["self", "number"] (defScope s_BadPolynomial) := ⟨rfl, rfl, rfl, by decide +kernel, rfl, by decide +kernel, by decide +kernel⟩
theorem ok_BadPolynomial {P : Program} {w : World} {K : PySem.W.Frag} {mg : Str → Option Value} {base : Heap} {f C D : Addr} {fd : FuncData} (F : FunD K "__init__" "BadPolynomial.__init__" (defArgs s_BadPolynomial) (defBody s_BadPolynomial) (defScope s_BadPolynomial) [.non] [] f fd) (T : XC K C (bmOf "ValueError") "ValueError.__new__") (Z : XD K mg "ChainError" D "ValueError.__init__") (no0 : PySem.W.findIn K (.ref C) "number" = some none) : FnOk P w K mg base CX0 1 f fd ["self", "number"] (spI1 C "number") := by
  refine F.ok sc_BadPolynomial (fun vs H Q E h => ?_) (fun cdv A outer s H vs Q E hr h => ?_)
  · obtain ⟨a, v, rfl, _⟩ := h
    rfl
  · obtain ⟨a, v, rfl, ha, q⟩ := h
    refine ⟨_, (pss_cons (ps_expr (pe_xinit xbV (by rfl) Z.m Z.s Z.r Z.f Z.h (pa_cons (pv 0) (pa_cons pe_str pa_nil)))) (pss_one (ps_xset xbV (pv 0) (pv 1)))), ?_⟩
    refine ⟨_, rfl, a, C, _, rfl, by decide, T, ha, ?_⟩
    exact ⟨_, rfl, _, rfl, a, C, rfl, T, no0, .inl ⟨ha, fun dx hd ne => q dx hd ne⟩⟩
abbrev s_BadRanking : Stmt := inClass (topS 4) 0
theorem sc_BadRanking : FnScope ["self", "place"] ["self", "place"] (defScope s_BadRanking) := ⟨rfl, rfl, rfl, by decide +kernel, rfl, by decide +kernel, by decide +kernel⟩
theorem ok_BadRanking {P : Program} {w : World} {K : PySem.W.Frag} {mg : Str → Option Value} {base : Heap} {f C D : Addr} {fd : FuncData} (F : FunD K "__init__" "BadRanking.__init__" (defArgs s_BadRanking) (defBody s_BadRanking) (defScope s_BadRanking) [.non] [] f fd) (T : XC K C (bmOf "ValueError") "ValueError.__new__") (Z : XD K mg "ChainError" D "ValueError.__init__") (no0 : PySem.W.findIn K (.ref C) "place" = some none) : FnOk P w K mg base CX0 1 f fd ["self", "place"] (spI1 C "place") := by
  refine F.ok sc_BadRanking (fun vs H Q E h => ?_) (fun cdv A outer s H vs Q E hr h => ?_)
  · obtain ⟨a, v, rfl, _⟩ := h
    rfl
  · obtain ⟨a, v, rfl, ha, q⟩ := h
    refine ⟨_, (pss_cons (ps_expr (pe_xinit xbV (by rfl) Z.m Z.s Z.r Z.f Z.h (pa_cons (pv 0) (pa_cons pe_str pa_nil)))) (pss_one (ps_xset xbV (pv 0) (pv 1)))), ?_⟩
    refine ⟨_, rfl, a, C, _, rfl, by decide, T, ha, ?_⟩
    exact ⟨_, rfl, _, rfl, a, C, rfl, T, no0, .inl ⟨ha, fun dx hd ne => q dx hd ne⟩⟩
abbrev s_BadChain : Stmt := inClass (topS 5) 0
theorem sc_BadChain : FnScope ["self", "place"] ["self", "place"] (defScope s_BadChain) := ⟨rfl, rfl, rfl, by decide +kernel, rfl, by decide +kernel, by decide +kernel⟩
theorem ok_BadChain {P : Program} {w : World} {K : PySem.W.Frag} {mg : Str → Option Value} {base : Heap} {f C D : Addr} {fd : FuncData} (F : FunD K "__init__" "BadChain.__init__" (defArgs s_BadChain) (defBody s_BadChain) (defScope s_BadChain) [.non] [] f fd) (T : XC K C (bmOf "ValueError") "ValueError.__new__") (Z : XD K mg "ChainError" D "ValueError.__init__") (no0 : PySem.W.findIn K (.ref C) "place" = some none) : FnOk P w K mg base CX0 1 f fd ["self", "place"] (spI1 C "place") := by
  refine F.ok sc_BadChain (fun vs H Q E h => ?_) (fun cdv A outer s H vs Q E hr h => ?_)
  · obtain ⟨a, v, rfl, _⟩ := h
    rfl
  · obtain ⟨a, v, rfl, ha, q⟩ := h
    refine ⟨_, (pss_cons (ps_expr (pe_xinit xbV (by rfl) Z.m Z.s Z.r Z.f Z.h (pa_cons (pv 0) (pa_cons pe_str pa_nil)))) (pss_one (ps_xset xbV (pv 0) (pv 1)))), ?_⟩
    refine ⟨_, rfl, a, C, _, rfl, by decide, T, ha, ?_⟩
    exact ⟨_, rfl, _, rfl, a, C, rfl, T, no0, .inl ⟨ha, fun dx hd ne => q dx hd ne⟩⟩
abbrev s_BadData : Stmt := inClass (topS 6) 0
theorem sc_BadData : FnScope ["self", "place"] ["self", "place"] (defScope s_BadData) := ⟨rfl, rfl, rfl, by decide +kernel, rfl, by decide +kernel, by decide +kernel⟩
theorem ok_BadData {P : Program} {w : World} {K : PySem.W.Frag} {mg : Str → Option Value} {base : Heap} {f C D : Addr} {fd : FuncData} (F : FunD K "__init__" "BadData.__init__" (defArgs s_BadData) (defBody s_BadData) (defScope s_BadData) [.non] [] f fd) (T : XC K C (bmOf "ValueError") "ValueError.__new__") (Z : XD K mg "ChainError" D "ValueError.__init__") (no0 : PySem.W.findIn K (.ref C) "place" = some none) : FnOk P w K mg base CX0 1 f fd ["self", "place"] (spI1 C "place") := by
  refine F.ok sc_BadData (fun vs H Q E h => ?_) (fun cdv A outer s H vs Q E hr h => ?_)
  · obtain ⟨a, v, rfl, _⟩ := h
    rfl
  · obtain ⟨a, v, rfl, ha, q⟩ := h
    refine ⟨_, (pss_cons (ps_expr (pe_xinit xbV (by rfl) Z.m Z.s Z.r Z.f Z.h (pa_cons (pv 0) (pa_cons pe_str pa_nil)))) (pss_one (ps_xset xbV (pv 0) (pv 1)))), ?_⟩
    refine ⟨_, rfl, a, C, _, rfl, by decide, T, ha, ?_⟩
    exact ⟨_, rfl, _, rfl, a, C, rfl, T, no0, .inl ⟨ha, fun dx hd ne => q dx hd ne⟩⟩
abbrev s_BadJet : Stmt := inClass (topS 7) 0
theorem sc_BadJet : FnScope ["self", "place"] ["self", "place"] (defScope s_BadJet) := ⟨rfl, rfl, rfl, by decide +kernel, rfl, by decide +kernel, by decide +kernel⟩
theorem ok_BadJet {P : Program} {w : World} {K : PySem.W.Frag} {mg : Str → Option Value} {base : Heap} {f C D : Addr} {fd : FuncData} (F : FunD K "__init__" "BadJet.__init__" (defArgs s_BadJet) (defBody s_BadJet) (defScope s_BadJet) [.non] [] f fd) (T : XC K C (bmOf "ValueError") "ValueError.__new__") (Z : XD K mg "ChainError" D "ValueError.__init__") (no0 : PySem.W.findIn K (.ref C) "place" = some none) : FnOk P w K mg base CX0 1 f fd ["self", "place"] (spI1 C "place") := by
  refine F.ok sc_BadJet (fun vs H Q E h => ?_) (fun cdv A outer s H vs Q E hr h => ?_)
  · obtain ⟨a, v, rfl, _⟩ := h
    rfl
  · obtain ⟨a, v, rfl, ha, q⟩ := h
    refine ⟨_, (pss_cons (ps_expr (pe_xinit xbV (by rfl) Z.m Z.s Z.r Z.f Z.h (pa_cons (pv 0) (pa_cons pe_str pa_nil)))) (pss_one (ps_xset xbV (pv 0) (pv 1)))), ?_⟩
    refine ⟨_, rfl, a, C, _, rfl, by decide, T, ha, ?_⟩
    exact ⟨_, rfl, _, rfl, a, C, rfl, T, no0, .inl ⟨ha, fun dx hd ne => q dx hd ne⟩⟩
abbrev s_BadPaper : Stmt := inClass (topS 8) 0
theorem sc_BadPaper : FnScope ["self", "place"] ["self", "place"] (defScope s_BadPaper) := ⟨rfl, rfl, rfl, by decide +kernel, rfl, by decide +kernel, by decide +kernel⟩
theorem ok_BadPaper {P : Program} {w : World} {K : PySem.W.Frag} {mg : Str → Option Value} {base : Heap} {f C D : Addr} {fd : FuncData} (F : FunD K "__init__" "BadPaper.__init__" (defArgs s_BadPaper) (defBody s_BadPaper) (defScope s_BadPaper) [.non] [] f fd) (T : XC K C (bmOf "ValueError") "ValueError.__new__") (Z : XD K mg "ChainError" D "ValueError.__init__") (no0 : PySem.W.findIn K (.ref C) "place" = some none) : FnOk P w K mg base CX0 1 f fd ["self", "place"] (spI1 C "place") := by
  refine F.ok sc_BadPaper (fun vs H Q E h => ?_) (fun cdv A outer s H vs Q E hr h => ?_)
  · obtain ⟨a, v, rfl, _⟩ := h
    rfl
  · obtain ⟨a, v, rfl, ha, q⟩ := h
    refine ⟨_, (pss_cons (ps_expr (pe_xinit xbV (by rfl) Z.m Z.s Z.r Z.f Z.h (pa_cons (pv 0) (pa_cons pe_str pa_nil)))) (pss_one (ps_xset xbV (pv 0) (pv 1)))), ?_⟩
    refine ⟨_, rfl, a, C, _, rfl, by decide, T, ha, ?_⟩
    exact ⟨_, rfl, _, rfl, a, C, rfl, T, no0, .inl ⟨ha, fun dx hd ne => q dx hd ne⟩⟩
abbrev s_NoUnknown : Stmt := inClass (topS 13) 0
theorem sc_NoUnknown : FnScope ["self", "name"] ["self", "name"] (defScope s_NoUnknown) := ⟨rfl, rfl, rfl, by decide +kernel, rfl, by decide +kernel, by decide +kernel⟩
theorem ok_NoUnknown {P : Program} {w : World} {K : PySem.W.Frag} {mg : Str → Option Value} {base : Heap} {f C D : Addr} {fd : FuncData} (F : Fun K "__init__" "NoUnknown.__init__" s_NoUnknown f fd) (T : XC K C (bmOf "LookupError") "LookupError.__new__") (Z : XD K mg "MissError" D "LookupError.__init__") (no0 : PySem.W.findIn K (.ref C) "name" = some none) : FnOk P w K mg base CX0 1 f fd ["self", "name"] (spI1 C "name") := by
  refine F.ok sc_NoUnknown (fun vs H Q E h => ?_) (fun cdv A outer s H vs Q E hr h => ?_)
  · obtain ⟨a, v, rfl, _⟩ := h
    rfl
  · obtain ⟨a, v, rfl, ha, q⟩ := h
    refine ⟨_, (pss_cons (ps_expr (pe_xinit xbL (by rfl) Z.m Z.s Z.r Z.f Z.h (pa_cons (pv 0) (pa_cons pe_str pa_nil)))) (pss_one (ps_xset xbL (pv 0) (pv 1)))), ?_⟩
    refine ⟨_, rfl, a, C, _, rfl, by decide, T, ha, ?_⟩
    exact ⟨_, rfl, _, rfl, a, C, rfl, T, no0, .inl ⟨ha, fun dx hd ne => q dx hd ne⟩⟩
abbrev s_NoEquation : Stmt := inClass (topS 14) 0
theorem sc_NoEquation : FnScope ["self", "number"] ["self", "number"] (defScope s_NoEquation) := ⟨rfl, rfl, rfl, by decide +kernel, rfl, by decide +kernel, by decide +kernel⟩
theorem ok_NoEquation {P : Program} {w : World} {K : PySem.W.Frag} {mg : Str → Option Value} {base : Heap} {f C D : Addr} {fd : FuncData} (F : Fun K "__init__" "NoEquation.__init__" s_NoEquation f fd) (T : XC K C (bmOf "LookupError") "LookupError.__new__") (Z : XD K mg "MissError" D "LookupError.__init__") (no0 : PySem.W.findIn K (.ref C) "number" = some none) : FnOk P w K mg base CX0 1 f fd ["self", "number"] (spI1 C "number") := by
  refine F.ok sc_NoEquation (fun vs H Q E h => ?_) (fun cdv A outer s H vs Q E hr h => ?_)
  · obtain ⟨a, v, rfl, _⟩ := h
    rfl
  · obtain ⟨a, v, rfl, ha, q⟩ := h
    refine ⟨_, (pss_cons (ps_expr (pe_xinit xbL (by rfl) Z.m Z.s Z.r Z.f Z.h (pa_cons (pv 0) (pa_cons pe_str pa_nil)))) (pss_one (ps_xset xbL (pv 0) (pv 1)))), ?_⟩
    refine ⟨_, rfl, a, C, _, rfl, by decide, T, ha, ?_⟩
    exact ⟨_, rfl, _, rfl, a, C, rfl, T, no0, .inl ⟨ha, fun dx hd ne => q dx hd ne⟩⟩
abbrev s_NoCase : Stmt := inClass (topS 15) 0
theorem sc_NoCase : FnScope ["self", "number"] ["self", "number"] (defScope s_NoCase) := ⟨rfl, rfl, rfl, by decide +kernel, rfl, by decide +kernel, by decide +kernel⟩
theorem ok_NoCase {P : Program} {w : World} {K : PySem.W.Frag} {mg : Str → Option Value} {base : Heap} {f C D : Addr} {fd : FuncData} (F : Fun K "__init__" "NoCase.__init__" s_NoCase f fd) (T : XC K C (bmOf "LookupError") "LookupError.__new__") (Z : XD K mg "MissError" D "LookupError.__init__") (no0 : PySem.W.findIn K (.ref C) "number" = some none) : FnOk P w K mg base CX0 1 f fd ["self", "number"] (spI1 C "number") := by
  refine F.ok sc_NoCase (fun vs H Q E h => ?_) (fun cdv A outer s H vs Q E hr h => ?_)
  · obtain ⟨a, v, rfl, _⟩ := h
    rfl
  · obtain ⟨a, v, rfl, ha, q⟩ := h
    refine ⟨_, (pss_cons (ps_expr (pe_xinit xbL (by rfl) Z.m Z.s Z.r Z.f Z.h (pa_cons (pv 0) (pa_cons pe_str pa_nil)))) (pss_one (ps_xset xbL (pv 0) (pv 1)))), ?_⟩
    refine ⟨_, rfl, a, C, _, rfl, by decide, T, ha, ?_⟩
    exact ⟨_, rfl, _, rfl, a, C, rfl, T, no0, .inl ⟨ha, fun dx hd ne => q dx hd ne⟩⟩
abbrev s_Contradicted : Stmt := inClass (topS 18) 0
theorem sc_Contradicted : FnScope ["self", "number"] ["self", "number"] (defScope s_Contradicted) := ⟨rfl, rfl, rfl, by decide +kernel, rfl, by decide +kernel, by decide +kernel⟩
theorem ok_Contradicted {P : Program} {w : World} {K : PySem.W.Frag} {mg : Str → Option Value} {base : Heap} {f C D : Addr} {fd : FuncData} (F : Fun K "__init__" "Contradicted.__init__" s_Contradicted f fd) (T : XC K C (bmOf "RuntimeError") "RuntimeError.__new__") (Z : XD K mg "CaseError" D "RuntimeError.__init__") (no0 : PySem.W.findIn K (.ref C) "number" = some none) : FnOk P w K mg base CX0 1 f fd ["self", "number"] (spI1 C "number") := by
  refine F.ok sc_Contradicted (fun vs H Q E h => ?_) (fun cdv A outer s H vs Q E hr h => ?_)
  · obtain ⟨a, v, rfl, _⟩ := h
    rfl
  · obtain ⟨a, v, rfl, ha, q⟩ := h
    refine ⟨_, (pss_cons (ps_expr (pe_xinit xbR (by rfl) Z.m Z.s Z.r Z.f Z.h (pa_cons (pv 0) (pa_cons pe_str pa_nil)))) (pss_one (ps_xset xbR (pv 0) (pv 1)))), ?_⟩
    refine ⟨_, rfl, a, C, _, rfl, by decide, T, ha, ?_⟩
    exact ⟨_, rfl, _, rfl, a, C, rfl, T, no0, .inl ⟨ha, fun dx hd ne => q dx hd ne⟩⟩
abbrev s_Knotted : Stmt := inClass (topS 19) 0
theorem sc_Knotted : FnScope ["self", "number"] ["self", "number"] (defScope s_Knotted) := ⟨rfl, rfl, rfl, by decide +kernel, rfl, by decide +kernel, by decide +kernel⟩
theorem ok_Knotted {P : Program} {w : World} {K : PySem.W.Frag} {mg : Str → Option Value} {base : Heap} {f C D : Addr} {fd : FuncData} (F : Fun K "__init__" "Knotted.__init__" s_Knotted f fd) (T : XC K C (bmOf "RuntimeError") "RuntimeError.__new__") (Z : XD K mg "CaseError" D "RuntimeError.__init__") (no0 : PySem.W.findIn K (.ref C) "number" = some none) : FnOk P w K mg base CX0 1 f fd ["self", "number"] (spI1 C "number") := by
  refine F.ok sc_Knotted (fun vs H Q E h => ?_) (fun cdv A outer s H vs Q E hr h => ?_)
  · obtain ⟨a, v, rfl, _⟩ := h
    rfl
  · obtain ⟨a, v, rfl, ha, q⟩ := h
    refine ⟨_, (pss_cons (ps_expr (pe_xinit xbR (by rfl) Z.m Z.s Z.r Z.f Z.h (pa_cons (pv 0) (pa_cons pe_str pa_nil)))) (pss_one (ps_xset xbR (pv 0) (pv 1)))), ?_⟩
    refine ⟨_, rfl, a, C, _, rfl, by decide, T, ha, ?_⟩
    exact ⟨_, rfl, _, rfl, a, C, rfl, T, no0, .inl ⟨ha, fun dx hd ne => q dx hd ne⟩⟩
end K5

namespace K5
open PySem L2 My Evl
set_option autoImplicit false
def testsOf (cx : Nat → Addr) : List Value := [.ref (cx 0), .ref (cx 1), .ref (cx 2), .ref (cx 3), .ref (cx 4), .ref (cx 5), .ref (cx 6), .ref (cx 12), .ref (cx 13), .ref (cx 14), .ref (cx 7), .ref (cx 8), .ref (cx 9), .ref (cx 15), .ref (cx 10), .ref (cx 11), .ref (cx 16), .type "ValueError", .ref (cx 17), .type "LookupError", .ref (cx 18), .type "RuntimeError"]
def nmOf : List Str := ["row", "polynomial", "ranking", "chain", "data", "jet", "paper", "twice", "place", "great", "unknown", "equation", "case", "nothing", "contradicted", "knotted", "ours", "value", "miss", "lookup", "end", "runtime"]
def kb : Nat → List Bool
  | 0 => [true, false, false, false, false, false, false, false, false, false, false, false, false, false, false, false, true, true, false, false, false, false]
  | 1 => [false, true, false, false, false, false, false, false, false, false, false, false, false, false, false, false, true, true, false, false, false, false]
  | 2 => [false, false, true, false, false, false, false, false, false, false, false, false, false, false, false, false, true, true, false, false, false, false]
  | 3 => [false, false, false, true, false, false, false, false, false, false, false, false, false, false, false, false, true, true, false, false, false, false]
  | 4 => [false, false, false, false, true, false, false, false, false, false, false, false, false, false, false, false, true, true, false, false, false, false]
  | 5 => [false, false, false, false, false, true, false, false, false, false, false, false, false, false, false, false, true, true, false, false, false, false]
  | 6 => [false, false, false, false, false, false, true, false, false, false, false, false, false, false, false, false, true, true, false, false, false, false]
  | 7 => [false, false, false, false, false, false, false, false, false, false, true, false, false, false, false, false, false, false, true, true, false, false]
  | 8 => [false, false, false, false, false, false, false, false, false, false, false, true, false, false, false, false, false, false, true, true, false, false]
  | 9 => [false, false, false, false, false, false, false, false, false, false, false, false, true, false, false, false, false, false, true, true, false, false]
  | 10 => [false, false, false, false, false, false, false, false, false, false, false, false, false, false, true, false, false, false, false, false, true, true]
  | 11 => [false, false, false, false, false, false, false, false, false, false, false, false, false, false, false, true, false, false, false, false, true, true]
  | 12 => [false, false, false, false, false, false, false, true, false, false, false, false, false, false, false, false, true, true, false, false, false, false]
  | 13 => [false, false, false, false, false, false, false, false, true, false, false, false, false, false, false, false, true, true, false, false, false, false]
  | 14 => [false, false, false, false, false, false, false, false, false, true, false, false, false, false, false, false, true, true, false, false, false, false]
  | 15 => [false, false, false, false, false, false, false, false, false, false, false, false, false, true, false, false, false, false, true, true, false, false]
  | _ => []
def bmI : Nat → List Value
  | 0 => [.type "ValueError", .type "Exception", .type "BaseException", .type "object"]
  | 1 => [.type "ValueError", .type "Exception", .type "BaseException", .type "object"]
  | 2 => [.type "ValueError", .type "Exception", .type "BaseException", .type "object"]
  | 3 => [.type "ValueError", .type "Exception", .type "BaseException", .type "object"]
  | 4 => [.type "ValueError", .type "Exception", .type "BaseException", .type "object"]
  | 5 => [.type "ValueError", .type "Exception", .type "BaseException", .type "object"]
  | 6 => [.type "ValueError", .type "Exception", .type "BaseException", .type "object"]
  | 7 => [.type "LookupError", .type "Exception", .type "BaseException", .type "object"]
  | 8 => [.type "LookupError", .type "Exception", .type "BaseException", .type "object"]
  | 9 => [.type "LookupError", .type "Exception", .type "BaseException", .type "object"]
  | 10 => [.type "RuntimeError", .type "Exception", .type "BaseException", .type "object"]
  | 11 => [.type "RuntimeError", .type "Exception", .type "BaseException", .type "object"]
  | 12 => [.type "ValueError", .type "Exception", .type "BaseException", .type "object"]
  | 13 => [.type "ValueError", .type "Exception", .type "BaseException", .type "object"]
  | 14 => [.type "ValueError", .type "Exception", .type "BaseException", .type "object"]
  | 15 => [.type "LookupError", .type "Exception", .type "BaseException", .type "object"]
  | _ => []
def nwI : Nat → String
  | 0 => "ValueError.__new__"
  | 1 => "ValueError.__new__"
  | 2 => "ValueError.__new__"
  | 3 => "ValueError.__new__"
  | 4 => "ValueError.__new__"
  | 5 => "ValueError.__new__"
  | 6 => "ValueError.__new__"
  | 7 => "LookupError.__new__"
  | 8 => "LookupError.__new__"
  | 9 => "LookupError.__new__"
  | 10 => "RuntimeError.__new__"
  | 11 => "RuntimeError.__new__"
  | 12 => "ValueError.__new__"
  | 13 => "ValueError.__new__"
  | 14 => "ValueError.__new__"
  | 15 => "LookupError.__new__"
  | _ => ""
/-- the module's classes: where they stand, what is known of them -/
structure XT (K : PySem.W.Frag) (mg : Str → Option Value) (cx : Nat → Addr) : Prop where
  xc : ∀ i, i < 16 → XC K (cx i) (bmI i) (nwI i)
  qc : ∀ i, i < 16 → 12 ≤ i → PySem.W.excIn K (cx i) (bmI i) (nwI i) = true
  f_0_row : PySem.W.findIn K (.ref (cx 0)) "row" = some none
  f_0_word : PySem.W.findIn K (.ref (cx 0)) "word" = some none
  f_1_number : PySem.W.findIn K (.ref (cx 1)) "number" = some none
  f_2_place : PySem.W.findIn K (.ref (cx 2)) "place" = some none
  f_3_place : PySem.W.findIn K (.ref (cx 3)) "place" = some none
  f_4_place : PySem.W.findIn K (.ref (cx 4)) "place" = some none
  f_5_place : PySem.W.findIn K (.ref (cx 5)) "place" = some none
  f_6_place : PySem.W.findIn K (.ref (cx 6)) "place" = some none
  f_7_name : PySem.W.findIn K (.ref (cx 7)) "name" = some none
  f_8_number : PySem.W.findIn K (.ref (cx 8)) "number" = some none
  f_9_number : PySem.W.findIn K (.ref (cx 9)) "number" = some none
  f_10_number : PySem.W.findIn K (.ref (cx 10)) "number" = some none
  f_11_number : PySem.W.findIn K (.ref (cx 11)) "number" = some none
  kt : ∀ i, i < 16 → (testsOf cx).map (PySem.W.kitOne K (.ref (cx i))) = (kb i).map some
  g_BadRow : mg "BadRow" = some (.ref (cx 0))
  g_BadPolynomial : mg "BadPolynomial" = some (.ref (cx 1))
  g_BadRanking : mg "BadRanking" = some (.ref (cx 2))
  g_BadChain : mg "BadChain" = some (.ref (cx 3))
  g_BadData : mg "BadData" = some (.ref (cx 4))
  g_BadJet : mg "BadJet" = some (.ref (cx 5))
  g_BadPaper : mg "BadPaper" = some (.ref (cx 6))
  g_NoUnknown : mg "NoUnknown" = some (.ref (cx 7))
  g_NoEquation : mg "NoEquation" = some (.ref (cx 8))
  g_NoCase : mg "NoCase" = some (.ref (cx 9))
  g_Contradicted : mg "Contradicted" = some (.ref (cx 10))
  g_Knotted : mg "Knotted" = some (.ref (cx 11))
  g_Twice : mg "Twice" = some (.ref (cx 12))
  g_OutOfPlace : mg "OutOfPlace" = some (.ref (cx 13))
  g_TooGreat : mg "TooGreat" = some (.ref (cx 14))
  g_Nothing : mg "Nothing" = some (.ref (cx 15))
  g_ChainError : mg "ChainError" = some (.ref (cx 16))
  g_MissError : mg "MissError" = some (.ref (cx 17))
  g_CaseError : mg "CaseError" = some (.ref (cx 18))
  n_isinstance : mg "isinstance" = none
  n_ValueError : mg "ValueError" = none
  n_LookupError : mg "LookupError" = none
  n_RuntimeError : mg "RuntimeError" = none
/-- _law_kinds -/
abbrev s_Lkinds : Stmt := topS 26
abbrev N_Lkinds : List Str := ["_law_error", "_law_kinds_here", "_law_kind", "_law_holds"]
theorem sc_Lkinds : FnScope N_Lkinds ["_law_error"] (defScope s_Lkinds) := ⟨rfl, rfl, rfl, by decide +kernel, rfl, by decide +kernel, by decide +kernel⟩
theorem kb_len {i : Nat} (hi : i < 16) : (kb i).length = 22 := (by decide : ∀ i, i < 16 → (kb i).length = 22) i hi
theorem XT.k {K : PySem.W.Frag} {mg : Str → Option Value} {cx : Nat → Addr} (T : XT K mg cx) {i : Nat} (hi : i < 16) (j : Nat) (hj : j < 22) : PySem.W.kitOne K (.ref (cx i)) ((testsOf cx).getD j .none) = some ((kb i).getD j false) := by
  have h := congrArg (fun l => l[j]?) (T.kt i hi)
  have l1 : j < (testsOf cx).length := hj
  have l2 : j < (kb i).length := by rw [kb_len hi]; exact hj
  simp only [List.getElem?_map, List.getElem?_eq_getElem l1, List.getElem?_eq_getElem l2, Option.map_some] at h
  rw [List.getD_eq_getElem?_getD, List.getD_eq_getElem?_getD, List.getElem?_eq_getElem l1, List.getElem?_eq_getElem l2]
  exact Option.some.inj h
/-- what is told of the kinds of the i-th -/
def kinds (i : Nat) : List Str := ((List.range 22).filter fun j => (kb i).getD j false).map fun j => nmOf.getD j Str.empty
def txts (l : List Str) : Pr := LsP (l.map fun x => IsV (.str x))
def spKinds (cx : Nat → Addr) : Sp := fun vs H Q _ => ∃ (i : Nat) (v : V) (B : Hp), i < 16 ∧ vs = [v] ∧ Ex B H ∧ (XK (cx i)).P v B ∧ ∀ u B' H', Gr B H B' H' → (txts (kinds i)).P u B' → Q u H'
section
variable {P : Program} {w : World} {K : PySem.W.Frag} {mg : Str → Option Value} {base : Heap}
def tPair (K : PySem.W.Frag) (nm : Str) (c : V) : TE := tTup (tCons (tC (.str nm)) (tCons (tCB (rXIs K) (tCons (tVar 0) (tCons (tC c) tNil))) tNil))
def prPair (K : PySem.W.Frag) (i j : Nat) : Pr := TuP K [IsV (.str (nmOf.getD j Str.empty)), IsV (.bl ((kb i).getD j false))]
theorem p_pair {cx : Nat → Addr} (T : XT K mg cx) {i : Nat} (hi : i < 16) (j : Nat) (hj : j < 22) {c : V} {σ : L2.St} {H : Hp} {v : V} (h0 : σ[0]? = some (some v)) (hv : (XK (cx i)).P v H) (hc : ∀ u, RelV c u → u = (testsOf cx).getD j .none) :
    EvP (tPair K (nmOf.getD j Str.empty) c) σ H (prPair K i j) :=
  p_tup (q_cons p_c (q_cons (p_xis (T.xc i hi) (p_var h0 hv) p_c hc (T.k hi j hj)) q_nil)) (by show 2 ≤ 100000; decide)
theorem ok_Lkinds {f : Addr} {fd : FuncData} {cx : Nat → Addr} (F : Fun K "_law_kinds" "_law_kinds" s_Lkinds f fd) (T : XT K mg cx) : FnOk P w K mg base CX0 1 f fd ["_law_error"] (spKinds cx) := by
  refine F.ok sc_Lkinds (fun vs H Q E h => ?_) (fun cdv A outer s H vs Q E hr h => ?_)
  · obtain ⟨i, v, B, _, rfl, _⟩ := h
    rfl
  · obtain ⟨i, v, B, hi, rfl, eB, hv, q⟩ := h
    have hu := hu_of hr
    refine ⟨_, (pss_cons (ps_set (i := 1) sc_Lkinds.nd rfl (by first | exact .inl rfl | exact .inr rfl) (pe_lst (pa_cons (pe_tup (pa_cons pe_str (pa_cons (pe_callB call_xis (by rfl) T.n_isinstance (by decide +kernel) (pa_cons (pv 0) (pa_cons (pe_globR (by rfl) T.g_BadRow) pa_nil))) pa_nil))) (pa_cons (pe_tup (pa_cons pe_str (pa_cons (pe_callB call_xis (by rfl) T.n_isinstance (by decide +kernel) (pa_cons (pv 0) (pa_cons (pe_globR (by rfl) T.g_BadPolynomial) pa_nil))) pa_nil))) pa_nil))))
    (pss_cons (ps_set (i := 1) sc_Lkinds.nd rfl (by first | exact .inl rfl | exact .inr rfl) (pe_op op_cat (pv 1) (pe_lst (pa_cons (pe_tup (pa_cons pe_str (pa_cons (pe_callB call_xis (by rfl) T.n_isinstance (by decide +kernel) (pa_cons (pv 0) (pa_cons (pe_globR (by rfl) T.g_BadRanking) pa_nil))) pa_nil))) (pa_cons (pe_tup (pa_cons pe_str (pa_cons (pe_callB call_xis (by rfl) T.n_isinstance (by decide +kernel) (pa_cons (pv 0) (pa_cons (pe_globR (by rfl) T.g_BadChain) pa_nil))) pa_nil))) pa_nil)))))
    (pss_cons (ps_set (i := 1) sc_Lkinds.nd rfl (by first | exact .inl rfl | exact .inr rfl) (pe_op op_cat (pv 1) (pe_lst (pa_cons (pe_tup (pa_cons pe_str (pa_cons (pe_callB call_xis (by rfl) T.n_isinstance (by decide +kernel) (pa_cons (pv 0) (pa_cons (pe_globR (by rfl) T.g_BadData) pa_nil))) pa_nil))) (pa_cons (pe_tup (pa_cons pe_str (pa_cons (pe_callB call_xis (by rfl) T.n_isinstance (by decide +kernel) (pa_cons (pv 0) (pa_cons (pe_globR (by rfl) T.g_BadJet) pa_nil))) pa_nil))) pa_nil)))))
    (pss_cons (ps_set (i := 1) sc_Lkinds.nd rfl (by first | exact .inl rfl | exact .inr rfl) (pe_op op_cat (pv 1) (pe_lst (pa_cons (pe_tup (pa_cons pe_str (pa_cons (pe_callB call_xis (by rfl) T.n_isinstance (by decide +kernel) (pa_cons (pv 0) (pa_cons (pe_globR (by rfl) T.g_BadPaper) pa_nil))) pa_nil))) (pa_cons (pe_tup (pa_cons pe_str (pa_cons (pe_callB call_xis (by rfl) T.n_isinstance (by decide +kernel) (pa_cons (pv 0) (pa_cons (pe_globR (by rfl) T.g_Twice) pa_nil))) pa_nil))) pa_nil)))))
    (pss_cons (ps_set (i := 1) sc_Lkinds.nd rfl (by first | exact .inl rfl | exact .inr rfl) (pe_op op_cat (pv 1) (pe_lst (pa_cons (pe_tup (pa_cons pe_str (pa_cons (pe_callB call_xis (by rfl) T.n_isinstance (by decide +kernel) (pa_cons (pv 0) (pa_cons (pe_globR (by rfl) T.g_OutOfPlace) pa_nil))) pa_nil))) (pa_cons (pe_tup (pa_cons pe_str (pa_cons (pe_callB call_xis (by rfl) T.n_isinstance (by decide +kernel) (pa_cons (pv 0) (pa_cons (pe_globR (by rfl) T.g_TooGreat) pa_nil))) pa_nil))) pa_nil)))))
    (pss_cons (ps_set (i := 1) sc_Lkinds.nd rfl (by first | exact .inl rfl | exact .inr rfl) (pe_op op_cat (pv 1) (pe_lst (pa_cons (pe_tup (pa_cons pe_str (pa_cons (pe_callB call_xis (by rfl) T.n_isinstance (by decide +kernel) (pa_cons (pv 0) (pa_cons (pe_globR (by rfl) T.g_NoUnknown) pa_nil))) pa_nil))) (pa_cons (pe_tup (pa_cons pe_str (pa_cons (pe_callB call_xis (by rfl) T.n_isinstance (by decide +kernel) (pa_cons (pv 0) (pa_cons (pe_globR (by rfl) T.g_NoEquation) pa_nil))) pa_nil))) pa_nil)))))
    (pss_cons (ps_set (i := 1) sc_Lkinds.nd rfl (by first | exact .inl rfl | exact .inr rfl) (pe_op op_cat (pv 1) (pe_lst (pa_cons (pe_tup (pa_cons pe_str (pa_cons (pe_callB call_xis (by rfl) T.n_isinstance (by decide +kernel) (pa_cons (pv 0) (pa_cons (pe_globR (by rfl) T.g_NoCase) pa_nil))) pa_nil))) (pa_cons (pe_tup (pa_cons pe_str (pa_cons (pe_callB call_xis (by rfl) T.n_isinstance (by decide +kernel) (pa_cons (pv 0) (pa_cons (pe_globR (by rfl) T.g_Nothing) pa_nil))) pa_nil))) pa_nil)))))
    (pss_cons (ps_set (i := 1) sc_Lkinds.nd rfl (by first | exact .inl rfl | exact .inr rfl) (pe_op op_cat (pv 1) (pe_lst (pa_cons (pe_tup (pa_cons pe_str (pa_cons (pe_callB call_xis (by rfl) T.n_isinstance (by decide +kernel) (pa_cons (pv 0) (pa_cons (pe_globR (by rfl) T.g_Contradicted) pa_nil))) pa_nil))) (pa_cons (pe_tup (pa_cons pe_str (pa_cons (pe_callB call_xis (by rfl) T.n_isinstance (by decide +kernel) (pa_cons (pv 0) (pa_cons (pe_globR (by rfl) T.g_Knotted) pa_nil))) pa_nil))) pa_nil)))))
    (pss_cons (ps_set (i := 1) sc_Lkinds.nd rfl (by first | exact .inl rfl | exact .inr rfl) (pe_op op_cat (pv 1) (pe_lst (pa_cons (pe_tup (pa_cons pe_str (pa_cons (pe_callB call_xis (by rfl) T.n_isinstance (by decide +kernel) (pa_cons (pv 0) (pa_cons (pe_globR (by rfl) T.g_ChainError) pa_nil))) pa_nil))) (pa_cons (pe_tup (pa_cons pe_str (pa_cons (pe_callB call_xis (by rfl) T.n_isinstance (by decide +kernel) (pa_cons (pv 0) (pa_cons (pe_bltn (v := .ty "ValueError") (by rfl) T.n_ValueError (by decide +kernel) rfl) pa_nil))) pa_nil))) pa_nil)))))
    (pss_cons (ps_set (i := 1) sc_Lkinds.nd rfl (by first | exact .inl rfl | exact .inr rfl) (pe_op op_cat (pv 1) (pe_lst (pa_cons (pe_tup (pa_cons pe_str (pa_cons (pe_callB call_xis (by rfl) T.n_isinstance (by decide +kernel) (pa_cons (pv 0) (pa_cons (pe_globR (by rfl) T.g_MissError) pa_nil))) pa_nil))) (pa_cons (pe_tup (pa_cons pe_str (pa_cons (pe_callB call_xis (by rfl) T.n_isinstance (by decide +kernel) (pa_cons (pv 0) (pa_cons (pe_bltn (v := .ty "LookupError") (by rfl) T.n_LookupError (by decide +kernel) rfl) pa_nil))) pa_nil))) pa_nil)))))
    (pss_cons (ps_set (i := 1) sc_Lkinds.nd rfl (by first | exact .inl rfl | exact .inr rfl) (pe_op op_cat (pv 1) (pe_lst (pa_cons (pe_tup (pa_cons pe_str (pa_cons (pe_callB call_xis (by rfl) T.n_isinstance (by decide +kernel) (pa_cons (pv 0) (pa_cons (pe_globR (by rfl) T.g_CaseError) pa_nil))) pa_nil))) (pa_cons (pe_tup (pa_cons pe_str (pa_cons (pe_callB call_xis (by rfl) T.n_isinstance (by decide +kernel) (pa_cons (pv 0) (pa_cons (pe_bltn (v := .ty "RuntimeError") (by rfl) T.n_RuntimeError (by decide +kernel) rfl) pa_nil))) pa_nil))) pa_nil)))))
    (pss_one (ps_ret (pe_lc (own := [("_law_kind", 2), ("_law_holds", 3)]) (g := (gTup K 2 (gCons (gName 2) (gCons (gName 3) gNil)))) rfl sc_Lkinds.nd (pi_list (pv 1)) (blkOk_by (N := N_Lkinds) (sc := defScope s_Lkinds) (by decide +kernel)) (fun _ _ _ _ _ => (pg_tup (by rfl) (pgs_cons (pg_name (i := 2) sc_Lkinds.nd rfl (Or.inl rfl)) (pgs_cons (pg_name (i := 3) sc_Lkinds.nd rfl (Or.inl rfl)) pgs_nil)))) (fun _ _ _ _ _ => (pts_one (pt_val (pv 3)))) (fun _ _ _ _ _ => (pv 2)))))))))))))))), ?_⟩
    refine My.ps_asgN (fun z => [some v, some z, none, none]) eB (p_lst (q_cons (p_pair (c := .ref (cx 0)) T hi 0 (by decide) rfl hv (fun u r => r)) (q_cons (p_pair (c := .ref (cx 1)) T hi 1 (by decide) rfl hv (fun u r => r)) q_nil)) (by show 2 ≤ 100000; decide)) fun v0 B0 H0 g0 h0 => ?_
    have hv := (XK (cx i)).m g0.b hv
    refine My.ps_asgN (fun z => [some v, some z, none, none]) g0.c (p_cat (p_var rfl h0) (p_lst (q_cons (p_pair (c := .ref (cx 2)) T hi 2 (by decide) rfl hv (fun u r => r)) (q_cons (p_pair (c := .ref (cx 3)) T hi 3 (by decide) rfl hv (fun u r => r)) q_nil)) (by show 2 ≤ 100000; decide)) (by show 2 + 2 ≤ 100000; decide)) fun v1 B1 H1 k1 h1 => ?_
    have g1 := g0.trans k1
    have hv := (XK (cx i)).m k1.b hv
    refine My.ps_asgN (fun z => [some v, some z, none, none]) g1.c (p_cat (p_var rfl h1) (p_lst (q_cons (p_pair (c := .ref (cx 4)) T hi 4 (by decide) rfl hv (fun u r => r)) (q_cons (p_pair (c := .ref (cx 5)) T hi 5 (by decide) rfl hv (fun u r => r)) q_nil)) (by show 2 ≤ 100000; decide)) (by show 4 + 2 ≤ 100000; decide)) fun v2 B2 H2 k2 h2 => ?_
    have g2 := g1.trans k2
    have hv := (XK (cx i)).m k2.b hv
    refine My.ps_asgN (fun z => [some v, some z, none, none]) g2.c (p_cat (p_var rfl h2) (p_lst (q_cons (p_pair (c := .ref (cx 6)) T hi 6 (by decide) rfl hv (fun u r => r)) (q_cons (p_pair (c := .ref (cx 12)) T hi 7 (by decide) rfl hv (fun u r => r)) q_nil)) (by show 2 ≤ 100000; decide)) (by show 6 + 2 ≤ 100000; decide)) fun v3 B3 H3 k3 h3 => ?_
    have g3 := g2.trans k3
    have hv := (XK (cx i)).m k3.b hv
    refine My.ps_asgN (fun z => [some v, some z, none, none]) g3.c (p_cat (p_var rfl h3) (p_lst (q_cons (p_pair (c := .ref (cx 13)) T hi 8 (by decide) rfl hv (fun u r => r)) (q_cons (p_pair (c := .ref (cx 14)) T hi 9 (by decide) rfl hv (fun u r => r)) q_nil)) (by show 2 ≤ 100000; decide)) (by show 8 + 2 ≤ 100000; decide)) fun v4 B4 H4 k4 h4 => ?_
    have g4 := g3.trans k4
    have hv := (XK (cx i)).m k4.b hv
    refine My.ps_asgN (fun z => [some v, some z, none, none]) g4.c (p_cat (p_var rfl h4) (p_lst (q_cons (p_pair (c := .ref (cx 7)) T hi 10 (by decide) rfl hv (fun u r => r)) (q_cons (p_pair (c := .ref (cx 8)) T hi 11 (by decide) rfl hv (fun u r => r)) q_nil)) (by show 2 ≤ 100000; decide)) (by show 10 + 2 ≤ 100000; decide)) fun v5 B5 H5 k5 h5 => ?_
    have g5 := g4.trans k5
    have hv := (XK (cx i)).m k5.b hv
    refine My.ps_asgN (fun z => [some v, some z, none, none]) g5.c (p_cat (p_var rfl h5) (p_lst (q_cons (p_pair (c := .ref (cx 9)) T hi 12 (by decide) rfl hv (fun u r => r)) (q_cons (p_pair (c := .ref (cx 15)) T hi 13 (by decide) rfl hv (fun u r => r)) q_nil)) (by show 2 ≤ 100000; decide)) (by show 12 + 2 ≤ 100000; decide)) fun v6 B6 H6 k6 h6 => ?_
    have g6 := g5.trans k6
    have hv := (XK (cx i)).m k6.b hv
    refine My.ps_asgN (fun z => [some v, some z, none, none]) g6.c (p_cat (p_var rfl h6) (p_lst (q_cons (p_pair (c := .ref (cx 10)) T hi 14 (by decide) rfl hv (fun u r => r)) (q_cons (p_pair (c := .ref (cx 11)) T hi 15 (by decide) rfl hv (fun u r => r)) q_nil)) (by show 2 ≤ 100000; decide)) (by show 14 + 2 ≤ 100000; decide)) fun v7 B7 H7 k7 h7 => ?_
    have g7 := g6.trans k7
    have hv := (XK (cx i)).m k7.b hv
    refine My.ps_asgN (fun z => [some v, some z, none, none]) g7.c (p_cat (p_var rfl h7) (p_lst (q_cons (p_pair (c := .ref (cx 16)) T hi 16 (by decide) rfl hv (fun u r => r)) (q_cons (p_pair (c := .ty "ValueError") T hi 17 (by decide) rfl hv (fun u r => r)) q_nil)) (by show 2 ≤ 100000; decide)) (by show 16 + 2 ≤ 100000; decide)) fun v8 B8 H8 k8 h8 => ?_
    have g8 := g7.trans k8
    have hv := (XK (cx i)).m k8.b hv
    refine My.ps_asgN (fun z => [some v, some z, none, none]) g8.c (p_cat (p_var rfl h8) (p_lst (q_cons (p_pair (c := .ref (cx 17)) T hi 18 (by decide) rfl hv (fun u r => r)) (q_cons (p_pair (c := .ty "LookupError") T hi 19 (by decide) rfl hv (fun u r => r)) q_nil)) (by show 2 ≤ 100000; decide)) (by show 18 + 2 ≤ 100000; decide)) fun v9 B9 H9 k9 h9 => ?_
    have g9 := g8.trans k9
    have hv := (XK (cx i)).m k9.b hv
    refine My.ps_asgN (fun z => [some v, some z, none, none]) g9.c (p_cat (p_var rfl h9) (p_lst (q_cons (p_pair (c := .ref (cx 18)) T hi 20 (by decide) rfl hv (fun u r => r)) (q_cons (p_pair (c := .ty "RuntimeError") T hi 21 (by decide) rfl hv (fun u r => r)) q_nil)) (by show 2 ≤ 100000; decide)) (by show 20 + 2 ≤ 100000; decide)) fun v10 B10 H10 k10 h10 => ?_
    have g10 := g9.trans k10
    have hv := (XK (cx i)).m k10.b hv
    have hq : (LsP ((List.range 22).map (prPair K i))).P v10 B10 := h10
    refine My.ps_ret g10.c (p_lc (p_var rfl (lq_ls hq)) (by simp) (fun j => (kb i).getD j false) (fun j => IsV (.str (nmOf.getD j Str.empty))) ?_) fun u B' H' g h => ?_
    · rintro j p x B1 hj e1 hp
      have hj' : j < 22 := by
        have := (List.getElem?_eq_some_iff.mp hj).1
        simpa using this
      obtain rfl : p = prPair K i j := by
        rw [List.getElem?_map, List.getElem?_range hj'] at hj
        exact (Option.some.inj hj).symm
      obtain ⟨r, ys, rfl, hr, hys⟩ := hp
      match ys, hys with
      | [y, z], ⟨hy, hz, _⟩ =>
        obtain rfl : y = _ := hy
        obtain rfl : z = _ := hz
        refine ⟨_, ?_, fun H2 Q eH hQ => ⟨r, _, rfl, ex_t eH hr, rfl, _, _, rfl, _, _, rfl, rfl, hQ⟩, ?_, fun _ => p_ev (ev_var ?_)⟩
        · rfl
        · exact et_B (ev_var rfl)
        · rfl
    · refine q u B' H' (g10.trans g) ?_
      have e : (txts (kinds i)) = LsP (((List.range ((List.range 22).map (prPair K i)).length).filter fun j => (kb i).getD j false).map fun j => IsV (.str (nmOf.getD j Str.empty))) := by
        unfold txts kinds
        rw [List.map_map, List.length_map, List.length_range]
        rfl
      rw [e]
      exact h
end
end K5

namespace K5
open PySem L2 My Evl
set_option autoImplicit false
/-- what the i-th class's __init__ promises -/
def spI (cx : Nat → Addr) : Nat → Sp
  | 0 => spI2 (cx 0) "row" "word"
  | 1 => spI1 (cx 1) "number"
  | 2 => spI1 (cx 2) "place"
  | 3 => spI1 (cx 3) "place"
  | 4 => spI1 (cx 4) "place"
  | 5 => spI1 (cx 5) "place"
  | 6 => spI1 (cx 6) "place"
  | 7 => spI1 (cx 7) "name"
  | 8 => spI1 (cx 8) "number"
  | 9 => spI1 (cx 9) "number"
  | 10 => spI1 (cx 10) "number"
  | 11 => spI1 (cx 11) "number"
  | _ => fun _ _ _ _ => False
def psI : Nat → List Str
  | 0 => ["self", "row", "word"]
  | 1 => ["self", "number"]
  | 2 => ["self", "place"]
  | 3 => ["self", "place"]
  | 4 => ["self", "place"]
  | 5 => ["self", "place"]
  | 6 => ["self", "place"]
  | 7 => ["self", "name"]
  | 8 => ["self", "number"]
  | 9 => ["self", "number"]
  | 10 => ["self", "number"]
  | 11 => ["self", "number"]
  | _ => []
structure MkC (P : Program) (w : World) (K : PySem.W.Frag) (mg : Str → Option Value) (base : Heap) (C fI : Addr) (fd : FuncData) (ps : List Str) (sp : Sp) : Prop where
  iC : PySem.W.findIn K (.ref C) "__init__" = some (some (.ref fI))
  tI : PySem.W.typeIn K (.ref fI) = some (.type "function")
  G : FnOk P w K mg base CX0 1 fI fd ps sp
def gP : List Value → List Value → List Value := fun us _ => us
def gPV : List V → List V → List V := fun vs _ => vs
def gK : List Value → List Value → List Value := fun us ws => us ++ ws
def gKV : List V → List V → List V := fun vs zs => vs ++ zs
def gR : List Value → List Value → List Value := fun us ws => us ++ ws.reverse
def gRV : List V → List V → List V := fun vs zs => vs ++ zs.reverse
def gZV : List V → List V → List V := fun vs _ => vs ++ [.non]
theorem one_of {p : Pr} {vs : List V} {H : Hp} (h : AllP [p] vs H) : ∃ v, vs = [v] ∧ p.P v H := by
  match vs, h with
  | [v], ⟨a, _⟩ => exact ⟨v, rfl, a⟩
theorem two_of {p q : Pr} {vs : List V} {H : Hp} (h : AllP [p, q] vs H) : ∃ v w, vs = [v, w] ∧ p.P v H ∧ q.P w H := by
  match vs, h with
  | [v, w], ⟨a, b, _⟩ => exact ⟨v, w, rfl, a, b⟩
section
variable {te : TE} {t : TA} {σ : L2.St} {B : Hp} {p q : Pr} {C : Addr} {f g : Str}
theorem n1P (h : EvPs t σ B [p]) : EvP (tXNewN C 1 0 (spI1 C f) gPV t tNil) σ B (XF C [(f, p)]) := p_new1 h q_nil rfl rfl fun a vs ws B1 hv _ => by
  obtain ⟨v, rfl, pv⟩ := one_of hv
  exact ⟨v, rfl, pv⟩
theorem n1Z : EvP (tXNewN C 0 0 (spI1 C f) gZV tNil tNil) σ B (XF C [(f, IsV .non)]) := p_new1 q_nil q_nil rfl rfl fun a vs ws B1 hv _ => by
  match vs, hv with
  | [], _ => exact ⟨.non, rfl, rfl⟩
theorem n1K (h : EvPs t σ B [p]) : EvP (tXNewN C 0 1 (spI1 C f) gKV tNil t) σ B (XF C [(f, p)]) := p_new1 q_nil h rfl rfl fun a vs ws B1 hv hw => by
  match vs, hv with
  | [], _ =>
    obtain ⟨v, rfl, pv⟩ := one_of hw
    exact ⟨v, rfl, pv⟩
theorem n2P (h : EvPs t σ B [p, q]) : EvP (tXNewN C 2 0 (spI2 C f g) gPV t tNil) σ B (XF C [(g, q), (f, p)]) := p_new2 h q_nil rfl rfl fun a vs ws B1 hv _ => by
  obtain ⟨v, w, rfl, pv, qw⟩ := two_of hv
  exact ⟨v, w, rfl, pv, qw⟩
theorem n2R (h : EvPs t σ B [q, p]) : EvP (tXNewN C 0 2 (spI2 C f g) gRV tNil t) σ B (XF C [(g, q), (f, p)]) := p_new2 q_nil h rfl rfl fun a vs ws B1 hv hw => by
  match vs, hv with
  | [], _ =>
    obtain ⟨v, w, rfl, qv, pw⟩ := two_of hw
    exact ⟨w, v, rfl, pw, qv⟩
end
def spBool : Sp := fun vs H Q _ => ∃ (i : Int) (x : Str), vs = [.int i, .str x] ∧ PyData.strOk x = true ∧ ∀ H', Ex H H' → Q (.bl true) H'
theorem get_map {α : Type} {l : List α} {f : α → Pr} {i : Nat} {p : Pr} (d : α) (h : (l.map f)[i]? = some p) : i < l.length ∧ p = f (l.getD i d) := by
  rw [List.getElem?_map] at h
  obtain ⟨x, hx, rfl⟩ := Option.map_eq_some_iff.mp h
  obtain ⟨hi, e⟩ := List.getElem?_eq_some_iff.mp hx
  refine ⟨hi, ?_⟩
  rw [List.getD_eq_getElem?_getD, hx]
  rfl
theorem range_map {α β : Type} (l : List α) (f : α → β) (d : α) : (List.range l.length).map (fun k => f (l.getD k d)) = l.map f := by
  apply List.ext_getElem
  · simp
  · intro i h1 h2
    simp at h1
    simp [List.getD_eq_getElem?_getD, h1]
theorem wipe1 (σ : L2.St) (j : Nat) (v : V) : wipe ((wipe σ [j]).set j (some v)) [j] = wipe σ [j] := by
  show ((σ.set j none).set j (some v)).set j none = σ.set j none
  rw [List.set_set, List.set_set]
theorem at1 (σ : L2.St) (j : Nat) (v : V) (h : j < σ.length) : ((wipe σ [j]).set j (some v))[j]? = some (some v) := by
  show ((σ.set j none).set j (some v))[j]? = some (some v)
  simp [h]
theorem p_due {K : PySem.W.Frag} {σ : L2.St} {B : Hp} {l : List Str} (a b : Str) {j : Nat} {ta : TE} (hj : j < σ.length) (h : EvP ta σ B (LqP K (l.map fun x => IsV (.str x)))) (hl : l.length ≤ 100000) :
    EvP (tLc (iList K ta) (gName j) tYes (tLst (tCons (tVar j) (tCons (tC (.str a)) (tCons (tC (.str b)) tNil)))) [j]) σ B (LsP (l.map fun x => LsP [IsV (.str x), IsV (.str a), IsV (.str b)])) := by
  have r := p_lcM (g := gName j) (tt := tYes) (te := tLst (tCons (tVar j) (tCons (tC (.str a)) (tCons (tC (.str b)) tNil)))) (vs := [j]) h (by rw [List.length_map]; exact hl) (fun k => LsP [IsV (.str (l.getD k Str.empty)), IsV (.str a), IsV (.str b)]) fun i p v B1 hp e pv => by
    obtain ⟨hi, rfl⟩ := get_map Str.empty hp
    refine ⟨(wipe σ [j]).set j (some v), wipe1 σ j v, fun H2 Q _ hQ => hQ, et_yes, ?_⟩
    exact p_lst (q_cons (p_var (at1 σ j v hj) pv) (q_cons p_c (q_cons p_c q_nil))) (by show 3 ≤ 100000; decide)
  rw [List.length_map, range_map l (fun y => LsP [IsV (.str y), IsV (.str a), IsV (.str b)])] at r
  exact r
def madeP (K : PySem.W.Frag) (cx : Nat → Addr) (i : Int) (x : Str) : List Pr :=
  [XF (cx 0) [("word", IsV (.int 3)), ("row", IsV (.int i))], XF (cx 1) [("number", IsV (.int i))], XF (cx 2) [("place", IsV (.int i))], XF (cx 3) [("place", IsV (.int i))],
   XF (cx 4) [("place", TuP K [IsV (.str x), IsV (.int i)])], XF (cx 5) [("place", TuP K [IsV (.str x), IsV (.int i)])], XF (cx 6) [("place", TuP K [IsV (.str x), IsV (.int i)])],
   XF (cx 7) [("name", IsV (.str x))], XF (cx 8) [("number", IsV (.int i))], XF (cx 9) [("number", IsV (.int i))], XF (cx 10) [("number", IsV (.int i))], XF (cx 11) [("number", IsV (.int i))],
   X0 (cx 12), X0 (cx 13), X0 (cx 14), X0 (cx 15)]
theorem madeK {K : PySem.W.Frag} {cx : Nat → Addr} {i : Int} {x : Str} {j : Nat} {p : Pr} {v : V} {B : Hp} (hj : (madeP K cx i x)[j]? = some p) (pv : p.P v B) : j < 16 ∧ (XK (cx j)).P v B := by
  have h16 : j < 16 := (List.getElem?_eq_some_iff.mp hj).1
  refine ⟨h16, ?_⟩
  match j, h16, hj with
  | 0, _, hj | 1, _, hj | 2, _, hj | 3, _, hj | 4, _, hj | 5, _, hj | 6, _, hj | 7, _, hj | 8, _, hj | 9, _, hj | 10, _, hj | 11, _, hj =>
    obtain rfl := Option.some.inj hj
    exact xk_f pv
  | 12, _, hj | 13, _, hj | 14, _, hj | 15, _, hj =>
    obtain rfl := Option.some.inj hj
    exact xk_0 pv
theorem toAll_app {K : PySem.W.Frag} : ∀ {ps qs : List Pr} {ds es : List PyData}, ToAll K ps ds → ToAll K qs es → ToAll K (ps ++ qs) (ds ++ es)
  | [], _, _, _, .nil, h => h
  | _ :: _, _, _, _, .cons a b, h => .cons a (toAll_app b h)
def kindsD : PyData := .list ((List.range 16).map fun j => .list ((kinds j).map PyData.str))
theorem kindsTo {K : PySem.W.Frag} : To K (LsP ((List.range 16).map fun j => txts (kinds j))) kindsD := to_lst (toAll_map _ fun j => to_lst (toAll_map _ fun x => to_str))
def row3 (a b : Str) (x : Str) : PyData := .list [.str x, .str a, .str b]
def dueD : PyData := .list ((((["row", "polynomial", "ranking", "chain", "data", "jet", "paper"] : List Str).map (row3 "ours" "value") ++ (["unknown", "equation", "case"] : List Str).map (row3 "miss" "lookup")) ++ (["contradicted", "knotted"] : List Str).map (row3 "end" "runtime")) ++
  (["twice", "place", "great"] : List Str).map (row3 "ours" "value") ++ [row3 "miss" "lookup" "nothing"])
theorem row3To {K : PySem.W.Frag} (a b x : Str) : To K (LsP [IsV (.str x), IsV (.str a), IsV (.str b)]) (row3 a b x) := to_lst (.cons to_str (.cons to_str (.cons to_str .nil)))
theorem dueTo {K : PySem.W.Frag} : To K (LsP ((((["row", "polynomial", "ranking", "chain", "data", "jet", "paper"] : List Str).map (fun x => LsP [IsV (.str x), IsV (.str "ours"), IsV (.str "value")]) ++
  (["unknown", "equation", "case"] : List Str).map (fun x => LsP [IsV (.str x), IsV (.str "miss"), IsV (.str "lookup")])) ++ (["contradicted", "knotted"] : List Str).map (fun x => LsP [IsV (.str x), IsV (.str "end"), IsV (.str "runtime")])) ++
  (["twice", "place", "great"] : List Str).map (fun x => LsP [IsV (.str x), IsV (.str "ours"), IsV (.str "value")]) ++ [LsP [IsV (.str "nothing"), IsV (.str "miss"), IsV (.str "lookup")]])) dueD :=
  to_lst (toAll_app (toAll_app (toAll_app (toAll_app (toAll_map _ (row3To "ours" "value")) (toAll_map _ (row3To "miss" "lookup"))) (toAll_map _ (row3To "end" "runtime"))) (toAll_map _ (row3To "ours" "value"))) (.cons (row3To "miss" "lookup" "nothing") .nil))

/-- _law_by_hand -/
abbrev s_Lby_hand : Stmt := topS 27
abbrev N_Lby_hand : List Str := ["_law_figure", "_law_sign", "_law_made", "_law_told", "_law_more", "_law_names_here", "_law_due", "_law_kind", "_law_error"]
theorem sc_Lby_hand : FnScope N_Lby_hand ["_law_figure", "_law_sign"] (defScope s_Lby_hand) := ⟨rfl, rfl, rfl, by decide +kernel, rfl, by decide +kernel, by decide +kernel⟩
/-- _law_left_out -/
abbrev s_Lleft_out : Stmt := topS 28
abbrev N_Lleft_out : List Str := ["_law_figure", "_law_sign", "_law_told"]
theorem sc_Lleft_out : FnScope N_Lleft_out ["_law_figure", "_law_sign"] (defScope s_Lleft_out) := ⟨rfl, rfl, rfl, by decide +kernel, rfl, by decide +kernel, by decide +kernel⟩
section
variable {P : Program} {w : World} {K : PySem.W.Frag} {mg : Str → Option Value} {base : Heap} {cx fx : Nat → Addr} {fdx : Nat → FuncData}
theorem ok_Lby_hand {f fk : Addr} {fd fdk : FuncData} (F : Fun K "_law_by_hand" "_law_by_hand" s_Lby_hand f fd) (T : XT K mg cx) (M : ∀ i, i < 12 → MkC P w K mg base (cx i) (fx i) (fdx i) (psI i) (spI cx i))
    (kP0 : KBn K (fdx 0) (psI 0) 3 [] gP gPV)
    (kP1 : KBn K (fdx 1) (psI 1) 2 [] gP gPV)
    (kP2 : KBn K (fdx 2) (psI 2) 2 [] gP gPV)
    (kP3 : KBn K (fdx 3) (psI 3) 2 [] gP gPV)
    (kP4 : KBn K (fdx 4) (psI 4) 2 [] gP gPV)
    (kP5 : KBn K (fdx 5) (psI 5) 2 [] gP gPV)
    (kP6 : KBn K (fdx 6) (psI 6) 2 [] gP gPV)
    (kP7 : KBn K (fdx 7) (psI 7) 2 [] gP gPV)
    (kP8 : KBn K (fdx 8) (psI 8) 2 [] gP gPV)
    (kP9 : KBn K (fdx 9) (psI 9) 2 [] gP gPV)
    (kP10 : KBn K (fdx 10) (psI 10) 2 [] gP gPV)
    (kP11 : KBn K (fdx 11) (psI 11) 2 [] gP gPV)
    (G : FnOk P w K mg base CX0 1 fk fdk ["_law_error"] (spKinds cx)) (m_Lkinds : mg "_law_kinds" = some (.ref fk)) (k_Lkinds : PySem.W.keepIn K (.ref fk) = true) (b_Lkinds : Binds K fdk ["_law_error"] []) : FnOk P w K mg base CX0 3 f fd ["_law_figure", "_law_sign"] spBool := by
  refine F.ok sc_Lby_hand (fun vs H Q E h => ?_) (fun cdv A outer s H vs Q E hr h => ?_)
  · obtain ⟨i, x, rfl, _⟩ := h
    rfl
  · obtain ⟨i, x, rfl, hx, q⟩ := h
    have hu := hu_of hr
    refine ⟨_, (pss_cons (ps_set (i := 2) sc_Lby_hand.nd rfl (by first | exact .inl rfl | exact .inr rfl) (pe_lst (pa_cons (pe_xnewP (T.xc 0 (by decide)) xbV (M 0 (by decide)).iC (M 0 (by decide)).tI (M 0 (by decide)).G (hr.mono (by decide)) kP0 (by decide) (by rfl) T.g_BadRow (pa_cons (pv 0) (pa_cons pe_int pa_nil))) (pa_cons (pe_xnewP (T.xc 1 (by decide)) xbV (M 1 (by decide)).iC (M 1 (by decide)).tI (M 1 (by decide)).G (hr.mono (by decide)) kP1 (by decide) (by rfl) T.g_BadPolynomial (pa_cons (pv 0) pa_nil)) (pa_cons (pe_xnewP (T.xc 2 (by decide)) xbV (M 2 (by decide)).iC (M 2 (by decide)).tI (M 2 (by decide)).G (hr.mono (by decide)) kP2 (by decide) (by rfl) T.g_BadRanking (pa_cons (pv 0) pa_nil)) (pa_cons (pe_xnewP (T.xc 3 (by decide)) xbV (M 3 (by decide)).iC (M 3 (by decide)).tI (M 3 (by decide)).G (hr.mono (by decide)) kP3 (by decide) (by rfl) T.g_BadChain (pa_cons (pv 0) pa_nil)) (pa_cons (pe_xnewP (T.xc 4 (by decide)) xbV (M 4 (by decide)).iC (M 4 (by decide)).tI (M 4 (by decide)).G (hr.mono (by decide)) kP4 (by decide) (by rfl) T.g_BadData (pa_cons (pe_tup (pa_cons (pv 1) (pa_cons (pv 0) pa_nil))) pa_nil)) pa_nil)))))))
    (pss_cons (ps_set (i := 3) sc_Lby_hand.nd rfl (by first | exact .inl rfl | exact .inr rfl) (pe_lst (pa_cons (pe_xat (bmB := bmI 0) (newId := nwI 0) (pe_ix ix_list (pv 2) pe_int (fun _ _ => rfl))) (pa_cons (pe_xat (bmB := bmI 0) (newId := nwI 0) (pe_ix ix_list (pv 2) pe_int (fun _ _ => rfl))) (pa_cons (pe_xat (bmB := bmI 1) (newId := nwI 1) (pe_ix ix_list (pv 2) pe_int (fun _ _ => rfl))) (pa_cons (pe_xat (bmB := bmI 2) (newId := nwI 2) (pe_ix ix_list (pv 2) pe_int (fun _ _ => rfl))) (pa_cons (pe_xat (bmB := bmI 3) (newId := nwI 3) (pe_ix ix_list (pv 2) pe_int (fun _ _ => rfl))) (pa_cons (pe_xat (bmB := bmI 4) (newId := nwI 4) (pe_ix ix_list (pv 2) pe_int (fun _ _ => rfl))) pa_nil))))))))
    (pss_cons (ps_if (pt_cmpR (op_neD hr.units) (pv 3) (pe_lst (pa_cons (pv 0) (pa_cons pe_int (pa_cons (pv 0) (pa_cons (pv 0) (pa_cons (pv 0) (pa_cons (pe_tup (pa_cons (pv 1) (pa_cons (pv 0) pa_nil))) pa_nil))))))) (nomark _)) (pss_one (ps_ret pe_bl)) pss_nil)
    (pss_cons (ps_set (i := 4) sc_Lby_hand.nd rfl (by first | exact .inl rfl | exact .inr rfl) (pe_lst (pa_cons (pe_xnewP (T.xc 5 (by decide)) xbV (M 5 (by decide)).iC (M 5 (by decide)).tI (M 5 (by decide)).G (hr.mono (by decide)) kP5 (by decide) (by rfl) T.g_BadJet (pa_cons (pe_tup (pa_cons (pv 1) (pa_cons (pv 0) pa_nil))) pa_nil)) (pa_cons (pe_xnewP (T.xc 6 (by decide)) xbV (M 6 (by decide)).iC (M 6 (by decide)).tI (M 6 (by decide)).G (hr.mono (by decide)) kP6 (by decide) (by rfl) T.g_BadPaper (pa_cons (pe_tup (pa_cons (pv 1) (pa_cons (pv 0) pa_nil))) pa_nil)) (pa_cons (pe_xnewP (T.xc 7 (by decide)) xbL (M 7 (by decide)).iC (M 7 (by decide)).tI (M 7 (by decide)).G (hr.mono (by decide)) kP7 (by decide) (by rfl) T.g_NoUnknown (pa_cons (pv 1) pa_nil)) (pa_cons (pe_xnewP (T.xc 8 (by decide)) xbL (M 8 (by decide)).iC (M 8 (by decide)).tI (M 8 (by decide)).G (hr.mono (by decide)) kP8 (by decide) (by rfl) T.g_NoEquation (pa_cons (pv 0) pa_nil)) (pa_cons (pe_xnewP (T.xc 9 (by decide)) xbL (M 9 (by decide)).iC (M 9 (by decide)).tI (M 9 (by decide)).G (hr.mono (by decide)) kP9 (by decide) (by rfl) T.g_NoCase (pa_cons (pv 0) pa_nil)) pa_nil)))))))
    (pss_cons (ps_set (i := 4) sc_Lby_hand.nd rfl (by first | exact .inl rfl | exact .inr rfl) (pe_op op_cat (pv 4) (pe_lst (pa_cons (pe_xnewP (T.xc 10 (by decide)) xbR (M 10 (by decide)).iC (M 10 (by decide)).tI (M 10 (by decide)).G (hr.mono (by decide)) kP10 (by decide) (by rfl) T.g_Contradicted (pa_cons (pv 0) pa_nil)) (pa_cons (pe_xnewP (T.xc 11 (by decide)) xbR (M 11 (by decide)).iC (M 11 (by decide)).tI (M 11 (by decide)).G (hr.mono (by decide)) kP11 (by decide) (by rfl) T.g_Knotted (pa_cons (pv 0) pa_nil)) pa_nil)))))
    (pss_cons (ps_set (i := 3) sc_Lby_hand.nd rfl (by first | exact .inl rfl | exact .inr rfl) (pe_lst (pa_cons (pe_xat (bmB := bmI 5) (newId := nwI 5) (pe_ix ix_list (pv 4) pe_int (fun _ _ => rfl))) (pa_cons (pe_xat (bmB := bmI 6) (newId := nwI 6) (pe_ix ix_list (pv 4) pe_int (fun _ _ => rfl))) (pa_cons (pe_xat (bmB := bmI 7) (newId := nwI 7) (pe_ix ix_list (pv 4) pe_int (fun _ _ => rfl))) (pa_cons (pe_xat (bmB := bmI 8) (newId := nwI 8) (pe_ix ix_list (pv 4) pe_int (fun _ _ => rfl))) (pa_cons (pe_xat (bmB := bmI 9) (newId := nwI 9) (pe_ix ix_list (pv 4) pe_int (fun _ _ => rfl))) (pa_cons (pe_xat (bmB := bmI 10) (newId := nwI 10) (pe_ix ix_list (pv 4) pe_int (fun _ _ => rfl))) (pa_cons (pe_xat (bmB := bmI 11) (newId := nwI 11) (pe_ix ix_list (pv 4) pe_int (fun _ _ => rfl))) pa_nil)))))))))
    (pss_cons (ps_if (pt_cmpR (op_neD hr.units) (pv 3) (pe_lst (pa_cons (pe_tup (pa_cons (pv 1) (pa_cons (pv 0) pa_nil))) (pa_cons (pe_tup (pa_cons (pv 1) (pa_cons (pv 0) pa_nil))) (pa_cons (pv 1) (pa_cons (pv 0) (pa_cons (pv 0) (pa_cons (pv 0) (pa_cons (pv 0) pa_nil)))))))) (nomark _)) (pss_one (ps_ret pe_bl)) pss_nil)
    (pss_cons (ps_set (i := 2) sc_Lby_hand.nd rfl (by first | exact .inl rfl | exact .inr rfl) (pe_op op_cat (pe_op op_cat (pv 2) (pv 4)) (pe_lst (pa_cons (pe_xplain (T.xc 12 (by decide)) xbV (T.qc 12 (by decide) (by decide)) (by rfl) T.g_Twice pe_str) (pa_cons (pe_xplain (T.xc 13 (by decide)) xbV (T.qc 13 (by decide) (by decide)) (by rfl) T.g_OutOfPlace pe_str) (pa_cons (pe_xplain (T.xc 14 (by decide)) xbV (T.qc 14 (by decide) (by decide)) (by rfl) T.g_TooGreat pe_str) (pa_cons (pe_xplain (T.xc 15 (by decide)) xbL (T.qc 15 (by decide) (by decide)) (by rfl) T.g_Nothing pe_str) pa_nil)))))))
    (pss_cons (ps_set (i := 5) sc_Lby_hand.nd rfl (by first | exact .inl rfl | exact .inr rfl) (pe_lst (pa_cons pe_str (pa_cons pe_str (pa_cons pe_str (pa_cons pe_str (pa_cons pe_str (pa_cons pe_str (pa_cons pe_str pa_nil)))))))))
    (pss_cons (ps_setLc (i := 6) (own := [("_law_kind", 7)]) rfl sc_Lby_hand.nd rfl rfl (sw_true rfl rfl rfl (by decide +kernel)) (pi_list (pv 5)) (blkOk_by (N := N_Lby_hand) (sc := defScope s_Lby_hand) (by decide +kernel)) (fun _ _ _ _ _ => (pg_name (i := 7) sc_Lby_hand.nd rfl (Or.inl rfl))) (fun _ _ _ _ _ => pts_nil) (fun _ _ _ _ _ => (pe_lst (pa_cons (pv 7) (pa_cons pe_str (pa_cons pe_str pa_nil))))))
    (pss_cons (ps_set (i := 6) sc_Lby_hand.nd rfl (by first | exact .inl rfl | exact .inr rfl) (pe_op op_cat (pv 6) (pe_lc (own := [("_law_kind", 7)]) rfl sc_Lby_hand.nd (pi_list (pe_lst (pa_cons pe_str (pa_cons pe_str (pa_cons pe_str pa_nil))))) (blkOk_by (N := N_Lby_hand) (sc := defScope s_Lby_hand) (by decide +kernel)) (fun _ _ _ _ _ => (pg_name (i := 7) sc_Lby_hand.nd rfl (Or.inl rfl))) (fun _ _ _ _ _ => pts_nil) (fun _ _ _ _ _ => (pe_lst (pa_cons (pv 7) (pa_cons pe_str (pa_cons pe_str pa_nil))))))))
    (pss_cons (ps_set (i := 6) sc_Lby_hand.nd rfl (by first | exact .inl rfl | exact .inr rfl) (pe_op op_cat (pv 6) (pe_lc (own := [("_law_kind", 7)]) rfl sc_Lby_hand.nd (pi_list (pe_lst (pa_cons pe_str (pa_cons pe_str pa_nil)))) (blkOk_by (N := N_Lby_hand) (sc := defScope s_Lby_hand) (by decide +kernel)) (fun _ _ _ _ _ => (pg_name (i := 7) sc_Lby_hand.nd rfl (Or.inl rfl))) (fun _ _ _ _ _ => pts_nil) (fun _ _ _ _ _ => (pe_lst (pa_cons (pv 7) (pa_cons pe_str (pa_cons pe_str pa_nil))))))))
    (pss_cons (ps_set (i := 6) sc_Lby_hand.nd rfl (by first | exact .inl rfl | exact .inr rfl) (pe_op op_cat (pe_op op_cat (pv 6) (pe_lc (own := [("_law_kind", 7)]) rfl sc_Lby_hand.nd (pi_list (pe_lst (pa_cons pe_str (pa_cons pe_str (pa_cons pe_str pa_nil))))) (blkOk_by (N := N_Lby_hand) (sc := defScope s_Lby_hand) (by decide +kernel)) (fun _ _ _ _ _ => (pg_name (i := 7) sc_Lby_hand.nd rfl (Or.inl rfl))) (fun _ _ _ _ _ => pts_nil) (fun _ _ _ _ _ => (pe_lst (pa_cons (pv 7) (pa_cons pe_str (pa_cons pe_str pa_nil))))))) (pe_lst (pa_cons (pe_lst (pa_cons pe_str (pa_cons pe_str (pa_cons pe_str pa_nil)))) pa_nil))))
    (pss_one (ps_ret (pe_cmpR (op_eqD hr.units) (pe_lc (own := [("_law_error", 8)]) rfl sc_Lby_hand.nd (pi_list (pv 2)) (blkOk_by (N := N_Lby_hand) (sc := defScope s_Lby_hand) (by decide +kernel)) (fun _ _ _ _ _ => (pg_name (i := 8) sc_Lby_hand.nd rfl (Or.inl rfl))) (fun _ _ _ _ _ => pts_nil) (fun _ _ _ _ _ => (pe_call G (hr.mono (by decide)) (by rfl) m_Lkinds k_Lkinds b_Lkinds .nil pass0 (pa_cons (pv 8) pa_nil)))) (pv 6) (nomark _))))))))))))))))), ?_⟩

    refine ps_asgN (fun z => [some (.int i), some (.str x), some z, none, none, none, none, none, none]) (Ex.refl H) (p_lst (q_cons (n2P (q_cons (p_varV (v := .int i) rfl) (q_cons p_c q_nil))) (q_cons (n1P (q_cons (p_varV (v := .int i) rfl) q_nil)) (q_cons (n1P (q_cons (p_varV (v := .int i) rfl) q_nil)) (q_cons (n1P (q_cons (p_varV (v := .int i) rfl) q_nil)) (q_cons (n1P (q_cons (p_tup (K := K) (q_cons (p_varV (v := .str x) rfl) (q_cons (p_varV (v := .int i) rfl) q_nil)) (by show 2 ≤ 100000; decide)) q_nil)) q_nil))))) (by show 5 ≤ 100000; decide)) fun v2 B1 H1 g1 h2 => ?_
    refine ps_asgN (fun z => [some (.int i), some (.str x), some v2, some z, none, none, none, none, none]) g1.c (p_lst (q_cons (p_xat (T.xc 0 (by decide)) T.f_0_row (p_ix (p_lq (p_var rfl h2)) p_c rfl) rfl) (q_cons (p_xat (T.xc 0 (by decide)) T.f_0_word (p_ix (p_lq (p_var rfl h2)) p_c rfl) rfl) (q_cons (p_xat (T.xc 1 (by decide)) T.f_1_number (p_ix (p_lq (p_var rfl h2)) p_c rfl) rfl) (q_cons (p_xat (T.xc 2 (by decide)) T.f_2_place (p_ix (p_lq (p_var rfl h2)) p_c rfl) rfl) (q_cons (p_xat (T.xc 3 (by decide)) T.f_3_place (p_ix (p_lq (p_var rfl h2)) p_c rfl) rfl) (q_cons (p_xat (T.xc 4 (by decide)) T.f_4_place (p_ix (p_lq (p_var rfl h2)) p_c rfl) rfl) q_nil)))))) (by show 6 ≤ 100000; decide)) fun v3 B2 H2 k2 h3 => ?_
    have g2 := g1.trans k2
    have h2 := (LsP _).m k2.b h2
    refine ps_ifF g2.c (et_ne (d := .list [.int i, .int 3, .int i, .int i, .int i, .tuple [.str x, .int i]]) (p_to (p_var rfl h3) (to_lst (.cons to_int (.cons to_int (.cons to_int (.cons to_int (.cons to_int (.cons (to_tup (.cons to_str (.cons to_int .nil))) .nil)))))))) (p_to (p_lst (q_cons (p_varV (v := .int i) rfl) (q_cons p_c (q_cons (p_varV (v := .int i) rfl) (q_cons (p_varV (v := .int i) rfl) (q_cons (p_varV (v := .int i) rfl) (q_cons (p_tup (K := K) (q_cons (p_varV (v := .str x) rfl) (q_cons (p_varV (v := .int i) rfl) q_nil)) (by show 2 ≤ 100000; decide)) q_nil)))))) (by show 6 ≤ 100000; decide)) (to_lst (.cons to_int (.cons to_int (.cons to_int (.cons to_int (.cons to_int (.cons (to_tup (.cons to_str (.cons to_int .nil))) .nil)))))))) (by simp [SeqAt.shaped, PyData.canLay0, PyData.canLayAll0, PyData.depth, PyData.depthAll, hx])) fun H3 e3 => ?_
    have g3 := g2.trans (Gr.wide g2.c e3)
    refine ps_asgN (fun z => [some (.int i), some (.str x), some v2, some v3, some z, none, none, none, none]) g3.c (p_lst (q_cons (n1P (q_cons (p_tup (K := K) (q_cons (p_varV (v := .str x) rfl) (q_cons (p_varV (v := .int i) rfl) q_nil)) (by show 2 ≤ 100000; decide)) q_nil)) (q_cons (n1P (q_cons (p_tup (K := K) (q_cons (p_varV (v := .str x) rfl) (q_cons (p_varV (v := .int i) rfl) q_nil)) (by show 2 ≤ 100000; decide)) q_nil)) (q_cons (n1P (q_cons (p_varV (v := .str x) rfl) q_nil)) (q_cons (n1P (q_cons (p_varV (v := .int i) rfl) q_nil)) (q_cons (n1P (q_cons (p_varV (v := .int i) rfl) q_nil)) q_nil))))) (by show 5 ≤ 100000; decide)) fun v4 B4 H4 k4 h4 => ?_
    have g4 := g3.trans k4
    have h2 := (LsP _).m k4.b h2
    refine ps_asgN (fun z => [some (.int i), some (.str x), some v2, some v3, some z, none, none, none, none]) g4.c (p_cat (p_var rfl h4) (p_lst (q_cons (n1P (q_cons (p_varV (v := .int i) rfl) q_nil)) (q_cons (n1P (q_cons (p_varV (v := .int i) rfl) q_nil)) q_nil)) (by show 2 ≤ 100000; decide)) (by show 5 + 2 ≤ 100000; decide)) fun v5 B5 H5 k5 h5 => ?_
    have g5 := g4.trans k5
    have h2 := (LsP _).m k5.b h2
    refine ps_asgN (fun z => [some (.int i), some (.str x), some v2, some z, some v5, none, none, none, none]) g5.c (p_lst (q_cons (p_xat (T.xc 5 (by decide)) T.f_5_place (p_ix (p_lq (p_var rfl h5)) p_c rfl) rfl) (q_cons (p_xat (T.xc 6 (by decide)) T.f_6_place (p_ix (p_lq (p_var rfl h5)) p_c rfl) rfl) (q_cons (p_xat (T.xc 7 (by decide)) T.f_7_name (p_ix (p_lq (p_var rfl h5)) p_c rfl) rfl) (q_cons (p_xat (T.xc 8 (by decide)) T.f_8_number (p_ix (p_lq (p_var rfl h5)) p_c rfl) rfl) (q_cons (p_xat (T.xc 9 (by decide)) T.f_9_number (p_ix (p_lq (p_var rfl h5)) p_c rfl) rfl) (q_cons (p_xat (T.xc 10 (by decide)) T.f_10_number (p_ix (p_lq (p_var rfl h5)) p_c rfl) rfl) (q_cons (p_xat (T.xc 11 (by decide)) T.f_11_number (p_ix (p_lq (p_var rfl h5)) p_c rfl) rfl) q_nil))))))) (by show 7 ≤ 100000; decide)) fun v6 B6 H6 k6 h6 => ?_
    have g6 := g5.trans k6
    have h2 := (LsP _).m k6.b h2
    have h5 := (LsP _).m k6.b h5
    refine ps_ifF g6.c (et_ne (d := .list [.tuple [.str x, .int i], .tuple [.str x, .int i], .str x, .int i, .int i, .int i, .int i]) (p_to (p_var rfl h6) (to_lst (.cons (to_tup (.cons to_str (.cons to_int .nil))) (.cons (to_tup (.cons to_str (.cons to_int .nil))) (.cons to_str (.cons to_int (.cons to_int (.cons to_int (.cons to_int .nil))))))))) (p_to (p_lst (q_cons (p_tup (K := K) (q_cons (p_varV (v := .str x) rfl) (q_cons (p_varV (v := .int i) rfl) q_nil)) (by show 2 ≤ 100000; decide)) (q_cons (p_tup (K := K) (q_cons (p_varV (v := .str x) rfl) (q_cons (p_varV (v := .int i) rfl) q_nil)) (by show 2 ≤ 100000; decide)) (q_cons (p_varV (v := .str x) rfl) (q_cons (p_varV (v := .int i) rfl) (q_cons (p_varV (v := .int i) rfl) (q_cons (p_varV (v := .int i) rfl) (q_cons (p_varV (v := .int i) rfl) q_nil))))))) (by show 7 ≤ 100000; decide)) (to_lst (.cons (to_tup (.cons to_str (.cons to_int .nil))) (.cons (to_tup (.cons to_str (.cons to_int .nil))) (.cons to_str (.cons to_int (.cons to_int (.cons to_int (.cons to_int .nil))))))))) (by simp [SeqAt.shaped, PyData.canLay0, PyData.canLayAll0, PyData.depth, PyData.depthAll, hx])) fun H7 e7 => ?_
    have g7 := g6.trans (Gr.wide g6.c e7)
    refine ps_asgN (fun z => [some (.int i), some (.str x), some z, some v6, some v5, none, none, none, none]) g7.c (p_cat (p_cat (p_var rfl h2) (p_var rfl h5) (by show 5 + 7 ≤ 100000; decide)) (p_lst (q_cons (p_plain p_c) (q_cons (p_plain p_c) (q_cons (p_plain p_c) (q_cons (p_plain p_c) q_nil)))) (by show 4 ≤ 100000; decide)) (by show 12 + 4 ≤ 100000; decide)) fun v8 B8 H8 k8 h8 => ?_
    have g8 := g7.trans k8
    refine ps_asgN (fun z => [some (.int i), some (.str x), some v8, some v6, some v5, some z, none, none, none]) g8.c (p_lst (q_cons p_c (q_cons p_c (q_cons p_c (q_cons p_c (q_cons p_c (q_cons p_c (q_cons p_c q_nil))))))) (by show 7 ≤ 100000; decide)) fun v9 B9 H9 k9 h9 => ?_
    have g9 := g8.trans k9
    have h8 := (LsP _).m k9.b h8
    let l1 : List Str := ["row", "polynomial", "ranking", "chain", "data", "jet", "paper"]
    refine ps_asgN (fun z => [some (.int i), some (.str x), some v8, some v6, some v5, some v9, some z, none, none]) g9.c (p_due (l := l1) "ours" "value" (by show 7 < 9; decide) (p_lq (p_var rfl h9)) (by decide)) fun v10 B10 H10 k10 h10 => ?_
    have g10 := g9.trans k10
    have h8 := (LsP _).m k10.b h8
    refine ps_asgN (fun z => [some (.int i), some (.str x), some v8, some v6, some v5, some v9, some z, none, none]) g10.c (p_cat (p_var rfl h10) (p_due (l := ["unknown", "equation", "case"]) "miss" "lookup" (by show 7 < 9; decide) (p_lq (p_lst (q_cons p_c (q_cons p_c (q_cons p_c q_nil))) (by show 3 ≤ 100000; decide))) (by decide)) (by show 7 + 3 ≤ 100000; decide)) fun v11 B11 H11 k11 h11 => ?_
    have g11 := g10.trans k11
    have h8 := (LsP _).m k11.b h8
    refine ps_asgN (fun z => [some (.int i), some (.str x), some v8, some v6, some v5, some v9, some z, none, none]) g11.c (p_cat (p_var rfl h11) (p_due (l := ["contradicted", "knotted"]) "end" "runtime" (by show 7 < 9; decide) (p_lq (p_lst (q_cons p_c (q_cons p_c q_nil)) (by show 2 ≤ 100000; decide))) (by decide)) (by show 10 + 2 ≤ 100000; decide)) fun v12 B12 H12 k12 h12 => ?_
    have g12 := g11.trans k12
    have h8 := (LsP _).m k12.b h8
    refine ps_asgN (fun z => [some (.int i), some (.str x), some v8, some v6, some v5, some v9, some z, none, none]) g12.c (p_cat (p_cat (p_var rfl h12) (p_due (l := ["twice", "place", "great"]) "ours" "value" (by show 7 < 9; decide) (p_lq (p_lst (q_cons p_c (q_cons p_c (q_cons p_c q_nil))) (by show 3 ≤ 100000; decide))) (by decide)) (by show 12 + 3 ≤ 100000; decide))
      (p_lst (q_cons (p_lst (q_cons p_c (q_cons p_c (q_cons p_c q_nil))) (by show 3 ≤ 100000; decide)) q_nil) (by show 1 ≤ 100000; decide)) (by show 15 + 1 ≤ 100000; decide)) fun v13 B13 H13 k13 h13 => ?_
    have g13 := g12.trans k13
    have h8 := (LsP _).m k13.b h8
    have kx : ∀ (j : Nat) (p : Pr) (v : V) (B : Hp), (madeP K cx i x)[j]? = some p → p.P v B → j < 16 ∧ (XK (cx j)).P v B := fun j p v B hj pv => madeK hj pv
    have eqd : PyData.eqv kindsD dueD = true := by decide +kernel
    refine My.ps_ret (p := IsV (.bl true)) g13.c (p_ev (ev_is (ev_eqD (d := kindsD) (e := dueD) (p_to (p_lcM (g := gName 8) (tt := tYes) (vs := [8]) (p_lq (p_var (p := LsP (madeP K cx i x)) rfl h8)) (by show 16 ≤ 100000; decide) (fun j => txts (kinds j)) ?_) kindsTo) (p_to (p_var rfl h13) dueTo) (by decide +kernel) (by decide +kernel)) (congrArg V.bl eqd))) fun u B' H' g hu => ?_
    · intro j p v B1 hj e1 pv
      obtain ⟨hj16, hk⟩ := kx j p v B1 hj pv
      refine ⟨(wipe _ [8]).set 8 (some v), wipe1 _ 8 v, fun H2 Q _ hQ => hQ, et_yes, p_call (q_cons (p_var (p := XK (cx j)) (at1 _ 8 v (by show 8 < 9; decide)) hk) q_nil) ?_⟩
      intro vs B H Q E eB hall kk
      obtain ⟨w', rfl, hw⟩ := one_of hall
      exact ⟨j, w', B, hj16, rfl, eB, hw, kk⟩
    · obtain rfl : u = V.bl true := hu
      exact q H' (g13.a.trans g.a)

theorem ok_Lleft_out {f : Addr} {fd : FuncData} (F : Fun K "_law_left_out" "_law_left_out" s_Lleft_out f fd) (T : XT K mg cx) (M : ∀ i, i < 12 → MkC P w K mg base (cx i) (fx i) (fdx i) (psI i) (spI cx i))
    {gz1 : List Value → List Value → List Value} (kZ1 : KBn K (fdx 1) (psI 1) (0 + 1) [] gz1 gZV) {gz2 : List Value → List Value → List Value} (kZ2 : KBn K (fdx 2) (psI 2) (0 + 1) [] gz2 gZV) {gz3 : List Value → List Value → List Value} (kZ3 : KBn K (fdx 3) (psI 3) (0 + 1) [] gz3 gZV) {gz4 : List Value → List Value → List Value} (kZ4 : KBn K (fdx 4) (psI 4) (0 + 1) [] gz4 gZV) {gz5 : List Value → List Value → List Value} (kZ5 : KBn K (fdx 5) (psI 5) (0 + 1) [] gz5 gZV) {gz6 : List Value → List Value → List Value} (kZ6 : KBn K (fdx 6) (psI 6) (0 + 1) [] gz6 gZV)
    (kK0 : KBn K (fdx 0) (psI 0) (0 + 1) ["word", "row"] gR gRV) {gk1 : List Value → List Value → List Value} (kK1 : KBn K (fdx 1) (psI 1) (0 + 1) ["number"] gk1 gKV) {gk2 : List Value → List Value → List Value} (kK2 : KBn K (fdx 2) (psI 2) (0 + 1) ["place"] gk2 gKV) {gk3 : List Value → List Value → List Value} (kK3 : KBn K (fdx 3) (psI 3) (0 + 1) ["place"] gk3 gKV) {gk4 : List Value → List Value → List Value} (kK4 : KBn K (fdx 4) (psI 4) (0 + 1) ["place"] gk4 gKV) {gk5 : List Value → List Value → List Value} (kK5 : KBn K (fdx 5) (psI 5) (0 + 1) ["place"] gk5 gKV) {gk6 : List Value → List Value → List Value} (kK6 : KBn K (fdx 6) (psI 6) (0 + 1) ["place"] gk6 gKV) {gk7 : List Value → List Value → List Value} (kK7 : KBn K (fdx 7) (psI 7) (0 + 1) ["name"] gk7 gKV) {gk8 : List Value → List Value → List Value} (kK8 : KBn K (fdx 8) (psI 8) (0 + 1) ["number"] gk8 gKV) {gk9 : List Value → List Value → List Value} (kK9 : KBn K (fdx 9) (psI 9) (0 + 1) ["number"] gk9 gKV) {gk10 : List Value → List Value → List Value} (kK10 : KBn K (fdx 10) (psI 10) (0 + 1) ["number"] gk10 gKV) {gk11 : List Value → List Value → List Value} (kK11 : KBn K (fdx 11) (psI 11) (0 + 1) ["number"] gk11 gKV) : FnOk P w K mg base CX0 3 f fd ["_law_figure", "_law_sign"] spBool := by
  refine F.ok sc_Lleft_out (fun vs H Q E h => ?_) (fun cdv A outer s H vs Q E hr h => ?_)
  · obtain ⟨i, x, rfl, _⟩ := h
    rfl
  · obtain ⟨i, x, rfl, hx, q⟩ := h
    have hu := hu_of hr
    refine ⟨_, (pss_cons (ps_if (pt_cmpR (op_neD hr.units) (pe_lst (pa_cons (pe_xat (bmB := bmI 1) (newId := nwI 1) (pe_xnewZ (T.xc 1 (by decide)) xbV (M 1 (by decide)).iC (M 1 (by decide)).tI (M 1 (by decide)).G (hr.mono (by decide)) kZ1 (by rfl) T.g_BadPolynomial)) (pa_cons (pe_xat (bmB := bmI 2) (newId := nwI 2) (pe_xnewZ (T.xc 2 (by decide)) xbV (M 2 (by decide)).iC (M 2 (by decide)).tI (M 2 (by decide)).G (hr.mono (by decide)) kZ2 (by rfl) T.g_BadRanking)) (pa_cons (pe_xat (bmB := bmI 3) (newId := nwI 3) (pe_xnewZ (T.xc 3 (by decide)) xbV (M 3 (by decide)).iC (M 3 (by decide)).tI (M 3 (by decide)).G (hr.mono (by decide)) kZ3 (by rfl) T.g_BadChain)) (pa_cons (pe_xat (bmB := bmI 4) (newId := nwI 4) (pe_xnewZ (T.xc 4 (by decide)) xbV (M 4 (by decide)).iC (M 4 (by decide)).tI (M 4 (by decide)).G (hr.mono (by decide)) kZ4 (by rfl) T.g_BadData)) pa_nil))))) (pe_op op_rep (pe_lst (pa_cons pe_non pa_nil)) pe_int) (nomark _)) (pss_one (ps_ret pe_bl)) pss_nil)
    (pss_cons (ps_if (PW.pt (pw_or (pt_cmpR op_notN (pe_xat (bmB := bmI 5) (newId := nwI 5) (pe_xnewZ (T.xc 5 (by decide)) xbV (M 5 (by decide)).iC (M 5 (by decide)).tI (M 5 (by decide)).G (hr.mono (by decide)) kZ5 (by rfl) T.g_BadJet)) pe_non (nomark _)) (pw_or1 (pt_cmpR op_notN (pe_xat (bmB := bmI 6) (newId := nwI 6) (pe_xnewZ (T.xc 6 (by decide)) xbV (M 6 (by decide)).iC (M 6 (by decide)).tI (M 6 (by decide)).G (hr.mono (by decide)) kZ6 (by rfl) T.g_BadPaper)) pe_non (nomark _))))) (pss_one (ps_ret pe_bl)) pss_nil)
    (pss_cons (ps_set (i := 2) sc_Lleft_out.nd rfl (by first | exact .inl rfl | exact .inr rfl) (pe_lst (pa_cons (pe_xat (bmB := bmI 0) (newId := nwI 0) (pe_xnewK (T.xc 0 (by decide)) xbV (M 0 (by decide)).iC (M 0 (by decide)).tI (M 0 (by decide)).G (hr.mono (by decide)) kK0 (by rfl) T.g_BadRow (pk_cons (pv 0) (pk_cons pe_int pk_nil)))) (pa_cons (pe_xat (bmB := bmI 0) (newId := nwI 0) (pe_xnewK (T.xc 0 (by decide)) xbV (M 0 (by decide)).iC (M 0 (by decide)).tI (M 0 (by decide)).G (hr.mono (by decide)) kK0 (by rfl) T.g_BadRow (pk_cons (pv 0) (pk_cons pe_int pk_nil)))) (pa_cons (pe_xat (bmB := bmI 1) (newId := nwI 1) (pe_xnewK (T.xc 1 (by decide)) xbV (M 1 (by decide)).iC (M 1 (by decide)).tI (M 1 (by decide)).G (hr.mono (by decide)) kK1 (by rfl) T.g_BadPolynomial (pk_cons (pv 0) pk_nil))) pa_nil)))))
    (pss_cons (ps_set (i := 2) sc_Lleft_out.nd rfl (by first | exact .inl rfl | exact .inr rfl) (pe_op op_cat (pv 2) (pe_lst (pa_cons (pe_xat (bmB := bmI 2) (newId := nwI 2) (pe_xnewK (T.xc 2 (by decide)) xbV (M 2 (by decide)).iC (M 2 (by decide)).tI (M 2 (by decide)).G (hr.mono (by decide)) kK2 (by rfl) T.g_BadRanking (pk_cons (pv 0) pk_nil))) (pa_cons (pe_xat (bmB := bmI 3) (newId := nwI 3) (pe_xnewK (T.xc 3 (by decide)) xbV (M 3 (by decide)).iC (M 3 (by decide)).tI (M 3 (by decide)).G (hr.mono (by decide)) kK3 (by rfl) T.g_BadChain (pk_cons (pv 0) pk_nil))) (pa_cons (pe_xat (bmB := bmI 4) (newId := nwI 4) (pe_xnewK (T.xc 4 (by decide)) xbV (M 4 (by decide)).iC (M 4 (by decide)).tI (M 4 (by decide)).G (hr.mono (by decide)) kK4 (by rfl) T.g_BadData (pk_cons (pv 0) pk_nil))) pa_nil))))))
    (pss_cons (ps_set (i := 2) sc_Lleft_out.nd rfl (by first | exact .inl rfl | exact .inr rfl) (pe_op op_cat (pv 2) (pe_lst (pa_cons (pe_xat (bmB := bmI 5) (newId := nwI 5) (pe_xnewK (T.xc 5 (by decide)) xbV (M 5 (by decide)).iC (M 5 (by decide)).tI (M 5 (by decide)).G (hr.mono (by decide)) kK5 (by rfl) T.g_BadJet (pk_cons (pv 0) pk_nil))) (pa_cons (pe_xat (bmB := bmI 6) (newId := nwI 6) (pe_xnewK (T.xc 6 (by decide)) xbV (M 6 (by decide)).iC (M 6 (by decide)).tI (M 6 (by decide)).G (hr.mono (by decide)) kK6 (by rfl) T.g_BadPaper (pk_cons (pv 0) pk_nil))) (pa_cons (pe_xat (bmB := bmI 8) (newId := nwI 8) (pe_xnewK (T.xc 8 (by decide)) xbL (M 8 (by decide)).iC (M 8 (by decide)).tI (M 8 (by decide)).G (hr.mono (by decide)) kK8 (by rfl) T.g_NoEquation (pk_cons (pv 0) pk_nil))) pa_nil))))))
    (pss_cons (ps_set (i := 2) sc_Lleft_out.nd rfl (by first | exact .inl rfl | exact .inr rfl) (pe_op op_cat (pv 2) (pe_lst (pa_cons (pe_xat (bmB := bmI 9) (newId := nwI 9) (pe_xnewK (T.xc 9 (by decide)) xbL (M 9 (by decide)).iC (M 9 (by decide)).tI (M 9 (by decide)).G (hr.mono (by decide)) kK9 (by rfl) T.g_NoCase (pk_cons (pv 0) pk_nil))) (pa_cons (pe_xat (bmB := bmI 10) (newId := nwI 10) (pe_xnewK (T.xc 10 (by decide)) xbR (M 10 (by decide)).iC (M 10 (by decide)).tI (M 10 (by decide)).G (hr.mono (by decide)) kK10 (by rfl) T.g_Contradicted (pk_cons (pv 0) pk_nil))) (pa_cons (pe_xat (bmB := bmI 11) (newId := nwI 11) (pe_xnewK (T.xc 11 (by decide)) xbR (M 11 (by decide)).iC (M 11 (by decide)).tI (M 11 (by decide)).G (hr.mono (by decide)) kK11 (by rfl) T.g_Knotted (pk_cons (pv 0) pk_nil))) pa_nil))))))
    (pss_one (ps_ret (pe_and (pe_cmpR (op_eqD hr.units) (pv 2) (pe_op op_cat (pe_lst (pa_cons (pv 0) (pa_cons pe_int pa_nil))) (pe_op op_rep (pe_lst (pa_cons (pv 0) pa_nil)) pe_int)) (nomark _)) (pe_one (pe_cmpR op_eq (pe_xat (bmB := bmI 7) (newId := nwI 7) (pe_xnewK (T.xc 7 (by decide)) xbL (M 7 (by decide)).iC (M 7 (by decide)).tI (M 7 (by decide)).G (hr.mono (by decide)) kK7 (by rfl) T.g_NoUnknown (pk_cons (pv 1) pk_nil))) (pv 1) (nomark _)))))))))))), ?_⟩
    refine ps_ifF (B := H) (Ex.refl H) (et_ne (d := .list [.none, .none, .none, .none]) (p_to (p_lst (q_cons (p_xat (T.xc 1 (by decide)) T.f_1_number n1Z rfl) (q_cons (p_xat (T.xc 2 (by decide)) T.f_2_place n1Z rfl) (q_cons (p_xat (T.xc 3 (by decide)) T.f_3_place n1Z rfl) (q_cons (p_xat (T.xc 4 (by decide)) T.f_4_place n1Z rfl) q_nil)))) (by show 4 ≤ 100000; decide)) (to_lst (.cons to_non (.cons to_non (.cons to_non (.cons to_non .nil)))))) (p_to (p_rep (n := 4) (p_lst (q_cons p_c q_nil) (by show 1 ≤ 100000; decide)) p_c (by decide) (by decide)) (to_lst (show ToAll K [IsV .non, IsV .non, IsV .non, IsV .non] _ from (.cons to_non (.cons to_non (.cons to_non (.cons to_non .nil))))))) (by decide +kernel)) fun H1 e1 => ?_
    refine ps_ifF (B := H) e1 (et_or (a := false) (b := false) (et_test (ev_notN (p_xat (T.xc 5 (by decide)) T.f_5_place n1Z rfl))) fun _ => et_test (ev_notN (p_xat (T.xc 6 (by decide)) T.f_6_place n1Z rfl))) fun H2 e2 => ?_
    refine ps_asgN (fun z => [some (.int i), some (.str x), some z]) (e1.trans e2) (p_lst (q_cons (p_xat (T.xc 0 (by decide)) T.f_0_word (n2R (q_cons (p_varV (v := .int i) rfl) (q_cons p_c q_nil))) rfl) (q_cons (p_xat (T.xc 0 (by decide)) T.f_0_row (n2R (q_cons (p_varV (v := .int i) rfl) (q_cons p_c q_nil))) rfl) (q_cons (p_xat (T.xc 1 (by decide)) T.f_1_number (n1K (q_cons (p_varV (v := .int i) rfl) q_nil)) rfl) q_nil))) (by show 3 ≤ 100000; decide)) fun v3 B3 H3 g3 h3 => ?_
    refine ps_asgN (fun z => [some (.int i), some (.str x), some z]) g3.c (p_cat (p_var rfl h3) (p_lst (q_cons (p_xat (T.xc 2 (by decide)) T.f_2_place (n1K (q_cons (p_varV (v := .int i) rfl) q_nil)) rfl) (q_cons (p_xat (T.xc 3 (by decide)) T.f_3_place (n1K (q_cons (p_varV (v := .int i) rfl) q_nil)) rfl) (q_cons (p_xat (T.xc 4 (by decide)) T.f_4_place (n1K (q_cons (p_varV (v := .int i) rfl) q_nil)) rfl) q_nil))) (by show 3 ≤ 100000; decide)) (by show 3 + 3 ≤ 100000; decide)) fun v4 B4 H4 g4 h4 => ?_
    refine ps_asgN (fun z => [some (.int i), some (.str x), some z]) g4.c (p_cat (p_var rfl h4) (p_lst (q_cons (p_xat (T.xc 5 (by decide)) T.f_5_place (n1K (q_cons (p_varV (v := .int i) rfl) q_nil)) rfl) (q_cons (p_xat (T.xc 6 (by decide)) T.f_6_place (n1K (q_cons (p_varV (v := .int i) rfl) q_nil)) rfl) (q_cons (p_xat (T.xc 8 (by decide)) T.f_8_number (n1K (q_cons (p_varV (v := .int i) rfl) q_nil)) rfl) q_nil))) (by show 3 ≤ 100000; decide)) (by show 6 + 3 ≤ 100000; decide)) fun v5 B5 H5 g5 h5 => ?_
    refine ps_asgN (fun z => [some (.int i), some (.str x), some z]) g5.c (p_cat (p_var rfl h5) (p_lst (q_cons (p_xat (T.xc 9 (by decide)) T.f_9_number (n1K (q_cons (p_varV (v := .int i) rfl) q_nil)) rfl) (q_cons (p_xat (T.xc 10 (by decide)) T.f_10_number (n1K (q_cons (p_varV (v := .int i) rfl) q_nil)) rfl) (q_cons (p_xat (T.xc 11 (by decide)) T.f_11_number (n1K (q_cons (p_varV (v := .int i) rfl) q_nil)) rfl) q_nil))) (by show 3 ≤ 100000; decide)) (by show 9 + 3 ≤ 100000; decide)) fun v6 B6 H6 g6 h6 => ?_
    have ed : PyData.eqv (.list [.int i, .int 7, .int i, .int i, .int i, .int i, .int i, .int i, .int i, .int i, .int i, .int i]) (.list [.int i, .int 7, .int i, .int i, .int i, .int i, .int i, .int i, .int i, .int i, .int i, .int i]) = true := SeqAt.eqv_refl _ (by simp [PyData.canLay0, PyData.canLayAll0])
    have e16 : Ex H H6 := e1.trans (e2.trans (g3.a.trans (g4.a.trans (g5.a.trans g6.a))))
    refine My.ps_ret (p := IsV (.bl true)) g6.c (p_ev (ev_is (ev_andV (a := true) (b := true) (ev_is (ev_eqD (d := .list [.int i, .int 7, .int i, .int i, .int i, .int i, .int i, .int i, .int i, .int i, .int i, .int i]) (e := .list [.int i, .int 7, .int i, .int i, .int i, .int i, .int i, .int i, .int i, .int i, .int i, .int i])
      (p_to (p_var rfl h6) (to_lst (show ToAll K [IsV (.int i), IsV (.int 7), IsV (.int i), IsV (.int i), IsV (.int i), IsV (.int i), IsV (.int i), IsV (.int i), IsV (.int i), IsV (.int i), IsV (.int i), IsV (.int i)] _ from (.cons to_int (.cons to_int (.cons to_int (.cons to_int (.cons to_int (.cons to_int (.cons to_int (.cons to_int (.cons to_int (.cons to_int (.cons to_int (.cons to_int .nil)))))))))))))))
      (p_to (p_cat (p_lst (q_cons (p_varV (v := .int i) rfl) (q_cons p_c q_nil)) (by show 2 ≤ 100000; decide)) (p_rep (n := 10) (p_lst (q_cons (p_varV (v := .int i) rfl) q_nil) (by show 1 ≤ 100000; decide)) p_c (by decide) (by show 1 * 10 ≤ 100000; decide)) (by show 2 + 10 ≤ 100000; decide)) (to_lst (show ToAll K [IsV (.int i), IsV (.int 7), IsV (.int i), IsV (.int i), IsV (.int i), IsV (.int i), IsV (.int i), IsV (.int i), IsV (.int i), IsV (.int i), IsV (.int i), IsV (.int i)] _ from (.cons to_int (.cons to_int (.cons to_int (.cons to_int (.cons to_int (.cons to_int (.cons to_int (.cons to_int (.cons to_int (.cons to_int (.cons to_int (.cons to_int .nil))))))))))))))) (by simp [SeqAt.shaped, PyData.canLay0, PyData.canLayAll0, PyData.depth, PyData.depthAll]) (by simp [SeqAt.shaped, PyData.canLay0, PyData.canLayAll0, PyData.depth, PyData.depthAll])) (congrArg V.bl ed))
      fun _ => ev_is (ev_op (ev_p (p_xat (T.xc 7 (by decide)) T.f_7_name (n1K (q_cons (p_varV (v := .str x) rfl) q_nil)) rfl)) (ev_var rfl) (rv_eq (x := .str x) (y := .str x) rfl)) (by rw [decide_eq_true rfl])) rfl)) fun u B' H' g hu => ?_
    obtain rfl : u = V.bl true := hu
    exact q H' (e16.trans g.a)
end
end K5

namespace K5
open PySem L2 My Evl
set_option autoImplicit false
/-- law -/
abbrev s_law : Stmt := topS 29
abbrev N_law : List Str := ["_law_script", "_law_k", "_law_cell", "_law_state", "_law_figure", "_law_sign"]
theorem sc_law : FnScope N_law ["_law_script"] (defScope s_law) := ⟨rfl, rfl, rfl, by decide +kernel, rfl, by decide +kernel, by decide +kernel⟩
def spLaw (K : PySem.W.Frag) : Sp := fun vs H Q _ => ∃ (a : Addr) (ns : List Int), vs = [.ref a] ∧ SqL K H a (ns.map V.int) ∧ ns.length ≤ 63 ∧ ∀ H', Q (.bl true) H'
theorem nm_ok {x : Str} (h : IsNm x) : PyData.strOk x = true := by
  unfold IsNm isNmB at h
  simp only [Bool.and_eq_true, List.all_eq_true, decide_eq_true_eq] at h
  unfold PyData.strOk
  rw [Array.all_eq_true']
  intro c hc
  have := h.2 c (by simpa using hc)
  simp
  omega
theorem ex_sb {d : Addr} {H H1 H2 : Hp} (e : Ex H H1) (s : SameBut d H1 H2) (h : H d = none) : Ex H H2 := fun b o k => s b o (ne_of_none k h) (e b o k)
section
variable {P : Program} {w : World} {K : PySem.W.Frag} {mg : Str → Option Value} {base : Heap}
theorem ok_law {f f1 f2 f3 f4 f5 : Addr} {fd d1 d2 d3 d4 d5 : FuncData} (F : Fun K "law" "law" s_law f fd) (nE : mg "enumerate" = none) (nS : mg "sum" = none)
    (GW : FnOk P w K mg base CX0 1 f1 d1 ["_law_cell", "_law_k"] spDraw) (mW : mg "_law_draw" = some (.ref f1)) (kW : PySem.W.keepIn K (.ref f1) = true) (bW : Binds K d1 ["_law_cell", "_law_k"] [])
    (GD : FnOk P w K mg base CX0 2 f2 d2 ["_law_state", "_law_size"] spDigit) (mD : mg "_law_digit" = some (.ref f2)) (kD : PySem.W.keepIn K (.ref f2) = true) (bD : Binds K d2 ["_law_state", "_law_size"] [])
    (GR : FnOk P w K mg base CX0 3 f3 d3 ["_law_state"] spWord) (mR : mg "_law_word" = some (.ref f3)) (kR : PySem.W.keepIn K (.ref f3) = true) (bR : Binds K d3 ["_law_state"] [])
    (GY : FnOk P w K mg base CX0 3 f4 d4 ["_law_figure", "_law_sign"] spBool) (mY : mg "_law_by_hand" = some (.ref f4)) (kY : PySem.W.keepIn K (.ref f4) = true) (bY : Binds K d4 ["_law_figure", "_law_sign"] [])
    (GZ : FnOk P w K mg base CX0 3 f5 d5 ["_law_figure", "_law_sign"] spBool) (mZ : mg "_law_left_out" = some (.ref f5)) (kZ : PySem.W.keepIn K (.ref f5) = true) (bZ : Binds K d5 ["_law_figure", "_law_sign"] []) :
    FnOk P w K mg base CX0 5 f fd ["_law_script"] (spLaw K) := by
  refine F.ok sc_law (fun vs H Q E h => ?_) (fun cdv A outer s H vs Q E hr h => ?_)
  · obtain ⟨a, ns, rfl, _⟩ := h
    rfl
  · obtain ⟨a, ns, rfl, hS, hlen, q⟩ := h
    have hu := hu_of hr
    refine ⟨_, (pss_cons (ps_for PassesOwn.never rfl (pi_enum (by rfl) nE (pa_cons (pe_op op_cat (pe_slice sl_list (pv 0) po_none (po_some pe_int)) (pe_lst (pa_cons (pe_callB (cr_sum rfl) (by rfl) nS (by decide +kernel) (pa_cons (pv 0) pa_nil)) pa_nil))) pa_nil)) (pg_tup (by rfl) (pgs_cons (pg_name (i := 1) sc_law.nd rfl (by first | exact .inl rfl | exact .inr rfl)) (pgs_cons (pg_name (i := 2) sc_law.nd rfl (by first | exact .inl rfl | exact .inr rfl)) pgs_nil)))
      (pss_cons (ps_set (i := 3) sc_law.nd rfl (by first | exact .inl rfl | exact .inr rfl) (pe_call GW (hr.mono (by decide)) (by rfl) mW kW bW .nil pass0 (pa_cons (pv 2) (pa_cons (pv 1) pa_nil))))
    (pss_cons (ps_set (i := 4) sc_law.nd rfl (by first | exact .inl rfl | exact .inr rfl) (pe_ix ix_list (pe_lst (pa_cons (pe_op op_sub (pe_call GD (hr.mono (by decide)) (by rfl) mD kD bD .nil pass0 (pa_cons (pv 3) (pa_cons (pe_op op_pow pe_int pe_int) pa_nil))) pe_int) (pa_cons (pe_op op_mod (pv 2) (pe_op op_pow pe_int pe_int)) pa_nil))) (pe_call GD (hr.mono (by decide)) (by rfl) mD kD bD .nil pass0 (pa_cons (pv 3) (pa_cons pe_int pa_nil))) (fun _ _ => rfl)))
    (pss_cons (ps_set (i := 5) sc_law.nd rfl (by first | exact .inl rfl | exact .inr rfl) (pe_call GR (hr.mono (by decide)) (by rfl) mR kR bR .nil pass0 (pa_cons (pv 3) pa_nil)))
    (pss_one (ps_if (PW.pt (pw_or (pt_not (pt_val (pe_call GY (hr.mono (by decide)) (by rfl) mY kY bY .nil pass0 (pa_cons (pv 4) (pa_cons (pv 5) pa_nil))))) (pw_or1 (pt_not (pt_val (pe_call GZ (hr.mono (by decide)) (by rfl) mZ kZ bZ .nil pass0 (pa_cons (pv 4) (pa_cons (pv 5) pa_nil)))))))) (pss_one (ps_ret pe_bl)) pss_nil))))))
    (pss_one (ps_ret pe_bl))), ?_⟩
    walk_at "go"
    refine ⟨a, _, rfl, hS, fun p1 hp1 => ?_⟩
    walk_at "go"
    refine ⟨a, ns, rfl, (Same.seq (My.new hp1) hS), ?_⟩
    refine ⟨by show 1 ≤ sizeLine; decide, fun p2 hp2 => ?_⟩
    have n12 : p1 ≠ p2 := ne_of_none upd_same hp2
    refine ⟨p1, p2, _, _, rfl, rfl, by rw [upd_ne n12]; exact upd_same, upd_same, ?_, fun p3 hp3 => ?_⟩
    · have := My.cutTo (ns.map V.int) 12
      rw [show (12 : Int) = ((12 : Nat) : Int) from rfl, this, List.length_take]
      exact sz_of (by simp only [List.length_singleton]; omega)
    rw [show (12 : Int) = ((12 : Nat) : Int) from rfl, My.cutTo, ← List.map_take, show [V.int ns.sum] = [ns.sum].map V.int from rfl, ← List.map_append] at *
    generalize hcs : ns.take 12 ++ [ns.sum] = cs
    have hcl : cs.length ≤ 13 := by
      rw [← hcs, List.length_append, List.length_take]
      simp only [List.length_singleton]
      omega
    refine ⟨p3, cs.map V.int, rfl, sq_of upd_same, for_it (walk_enum (K := K) (a := p3) (xs := cs.map V.int)) (fun i σ H' => H' p3 = some (.lst (cs.map V.int)) ∧ ∃ k c st fg sg : Option V, σ = [some (.ref a), k, c, st, fg, sg])
      ⟨upd_same, none, none, none, none, none, rfl⟩ (fun i σ H' _ h => sq_of h.1) ?_ ?_⟩
    · rintro i v σ H1 H2 hi ⟨h3, k, c, st, fg, sg, rfl⟩ ⟨t, x, y, rfl, ht, rfl, hx, hy⟩
      obtain rfl := Option.some.inj hx
      rw [List.length_map] at hi
      obtain ⟨z, rfl⟩ : ∃ z : Int, y = V.int z := by
        have hy' : (cs.map V.int)[i]? = some y := hy
        rw [List.getElem?_map, List.getElem?_eq_getElem hi] at hy'
        exact ⟨_, (Option.some.inj hy').symm⟩
      have h3' : upd H1 t (HO.tup [V.int (i : Nat), V.int z]) p3 = some (.lst (cs.map V.int)) := by
        rw [upd_ne (ne_of_none h3 ht)]
        exact h3
      refine ⟨t, _, rfl, st_of upd_same, rfl, _, _, rfl, _, _, rfl, rfl, ?_⟩
      generalize upd H1 t (HO.tup [V.int (i : Nat), V.int z]) = H2 at *
      walk_at "go"
      refine ⟨z, (i : Nat), rfl, by omega, by omega, fun d Hd hd0 hDS S => ?_⟩
      have hd3 := S _ _ h3'
      have nd3 : p3 ≠ d := ne_of_none h3' hd0
      walk_at "go"
      refine ⟨d, _, _, rfl, by decide, by decide, hDS, by decide, fun m H4 m0 m1 hD4 S4 => ?_⟩
      walk_at "go"
      refine ⟨by show 2 ≤ sizeLine; decide, fun p hp => ?_⟩
      walk_at "go"
      have ndp := hD4.ne hp
      refine ⟨d, 2, _, rfl, by decide, by decide, hD4.upd ndp, by decide, fun m2 H5 m20 m21 hD5 S5 => ?_⟩
      obtain ⟨u, hu1, e⟩ := My.atIn [V.int (m - 400), V.int (z % 10 ^ Int.toNat 60)] m2 m20 m21
      obtain ⟨fig, rfl⟩ : ∃ fig, u = V.int fig := by
        simp only [List.mem_cons, List.not_mem_nil, or_false] at hu1
        rcases hu1 with rfl | rfl <;> exact ⟨_, rfl⟩
      refine ⟨p, _, _, _, rfl, rfl, SqL.of (S5 _ _ ndp.symm upd_same), e, ?_⟩
      walk_at "go"
      refine ⟨d, _, rfl, hD5, by decide, fun sg H6 hsg hD6 S6 => ?_⟩
      have p3n : p3 ≠ p := ne_of_none (S4 _ _ nd3 hd3) hp
      have h6 : H6 p3 = some (.lst (cs.map V.int)) := by
        refine S6 _ _ nd3 (S5 _ _ nd3 ?_)
        rw [upd_ne p3n]
        exact S4 _ _ nd3 hd3
      have ok := nm_ok hsg
      walk_at "go"
      refine ⟨fig, sg, rfl, ok, fun H7 e7 => ?_⟩
      refine ⟨true, rfl, ?_⟩
      refine iteF ?_
      walk_at "go"
      refine ⟨fig, sg, rfl, ok, fun H8 e8 => ?_⟩
      refine ⟨true, rfl, ?_⟩
      refine iteF ?_
      exact ⟨e8 _ _ (e7 _ _ h6), _, _, _, _, _, rfl⟩
    · rintro σ H1 _
      exact q H1
end
end K5

namespace K5
open PySem L2 My Evl
set_option autoImplicit false
def cxOfL (l : List Addr) : Nat → Addr := fun i => l.getD i 0
/-- the facts of an own exception class, asked at once -/
def xcB (K : PySem.W.Frag) (C : Addr) (bmB : List Value) (newId : String) : Bool :=
  PySem.W.excInitIn K C bmB newId && PySem.W.hasDictIn K C && decide (PySem.W.findIn K (.ref C) "__setattr__" = some (some (.builtin "object.__setattr__"))) && decide (PySem.W.findIn K (.ref C) "__getattribute__" = some (some (.builtin "BaseException.__getattribute__"))) &&
  decide (PySem.W.findIn K (.ref C) "__getattr__" = some none) && decide (PySem.W.subIn K (.ref C) (.type "BaseException") = some true) && decide (PySem.W.findIn K (.ref C) "__class__" = some (some (.builtin "object.__class__"))) &&
  decide (PySem.W.specialIn K (.builtin "object.__class__") "__get__" = some (some (.builtin "getset_descriptor.__get__"))) && decide (PySem.W.takesIn K (.builtin "object.__class__") = some true) && decide (PySem.W.mroIn K C (.type "object") = some true) && PySem.W.keepIn K (.ref C)
theorem xc_of {K : PySem.W.Frag} {C : Addr} {bmB : List Value} {newId : String} (h : xcB K C bmB newId = true) : XC K C bmB newId := by
  unfold xcB at h
  simp only [Bool.and_eq_true, decide_eq_true_eq] at h
  obtain ⟨⟨⟨⟨⟨⟨⟨⟨⟨⟨h1, h2⟩, h3⟩, h4⟩, h5⟩, h6⟩, h7⟩, h8⟩, h9⟩, h10⟩, h11⟩ := h
  exact ⟨h1, h2, h3, h4, h5, h6, h7, h8, h9, h10, h11⟩
section
variable {K : PySem.W.Frag} {x qual : Str} {st : Stmt} {f : Addr} {fd : FuncData} {ps ks : List Str} {n : Nat}
theorem kbn_fun {g : List Value → List Value → List Value} {gV : List V → List V → List V} (F : Fun K x qual st f fd) (hr : ∀ {vs : List V} {us : List Value} {zs : List V} {ws : List Value}, Vals vs us → Vals zs ws → Vals (gV vs zs) (g us ws))
    (h : ∀ (kV doc pm : Value) (an : Option Addr) (cdv ct : Value) (us ws : List Value), us.length = n → ws.length = ks.length → bindArgs (PySem.W.fnOf x qual (defArgs st) (defBody st) (defScope st) .none kV doc pm an cdv ct) ⟨us, ks.zip ws⟩ = pure (ps.zip (g us ws))) : KBn K fd ps n ks g gV := by
  obtain ⟨oc, od, kV, doc, pm, an, cdv, ct, osl, rfl, _⟩ := F.ex
  exact ⟨fun s us ws _ l1 l2 => .of_eq (h kV doc pm an cdv ct us ws l1 l2), hr⟩
theorem rel_l {vs : List V} {us : List Value} {zs : List V} {ws : List Value} (a : Vals vs us) (_ : Vals zs ws) : Vals (gPV vs zs) (gP us ws) := a
theorem rel_k {vs : List V} {us : List Value} {zs : List V} {ws : List Value} (a : Vals vs us) (b : Vals zs ws) : Vals (gKV vs zs) (gK us ws) := a.append b
theorem vals_rev : ∀ {vs : List V} {us : List Value}, Vals vs us → Vals vs.reverse us.reverse
  | [], [], .nil => .nil
  | _ :: _, _ :: _, .cons a b => by
    rw [List.reverse_cons, List.reverse_cons]
    exact (vals_rev b).append (.cons a .nil)
theorem rel_r {vs : List V} {us : List Value} {zs : List V} {ws : List Value} (a : Vals vs us) (b : Vals zs ws) : Vals (gRV vs zs) (gR us ws) := a.append (vals_rev b)
end
theorem all_mk {l : PySem.W.OpenLaw} {w : World} {K : PySem.W.Frag} {h : Heap} {mg : Str → Option Value} {fa C0 C1 C2 C3 C4 C5 C6 C7 C8 C9 C10 C11 C12 C13 C14 C15 C16 C17 C18 f0 f1 f2 f3 f4 f5 f6 f7 f100 f101 f102 f103 f104 f105 f106 f107 f108 f109 f110 f111 T1 T2 T3 T4 T5 T6 : Addr} (X : K.In h) (G : h.Ns mainGlobals mg) (hfa : mg "law" = some (.ref fa))
    {od0 an0 od1 an1 od2 an2 od3 an3 od4 an4 od5 an5 od6 an6 od7 an7 od100 an100 od101 an101 od102 an102 od103 an103 od104 an104 od105 an105 od106 an106 od107 an107 od108 an108 od109 an109 od110 an110 od111 an111 dd1 dd2 dd3 dd4 dd5 dd6 : Option Addr} {sl0 sl1 sl2 sl3 sl4 sl5 sl6 sl7 sl100 sl101 sl102 sl103 sl104 sl105 sl106 sl107 sl108 sl109 sl110 sl111 ss1 ss2 ss3 ss4 ss5 ss6 : Array (Option Value)} {oc0 kV0 dc0 pm0 cd0 ct0 oc1 kV1 dc1 pm1 cd1 ct1 oc2 kV2 dc2 pm2 cd2 ct2 oc3 kV3 dc3 pm3 cd3 ct3 oc4 kV4 dc4 pm4 cd4 ct4 oc5 kV5 dc5 pm5 cd5 ct5 oc6 kV6 dc6 pm6 cd6 ct6 oc7 kV7 dc7 pm7 cd7 ct7 oc100 kV100 dc100 pm100 cd100 ct100 oc101 kV101 dc101 pm101 cd101 ct101 oc102 kV102 dc102 pm102 cd102 ct102 oc103 kV103 dc103 pm103 cd103 ct103 oc104 kV104 dc104 pm104 cd104 ct104 oc105 kV105 dc105 pm105 cd105 ct105 oc106 kV106 dc106 pm106 cd106 ct106 oc107 kV107 dc107 pm107 cd107 ct107 oc108 kV108 dc108 pm108 cd108 ct108 oc109 kV109 dc109 pm109 cd109 ct109 oc110 kV110 dc110 pm110 cd110 ct110 oc111 kV111 dc111 pm111 cd111 ct111 ot1 ot2 ot3 ot4 ot5 ot6 : Value} {nn1 nn2 nn3 nn4 nn5 nn6 : Nat}
    (c0 : PySem.W.nsIn K mainGlobals "BadRow" = some (some (.ref C0)))
    (c1 : PySem.W.nsIn K mainGlobals "BadPolynomial" = some (some (.ref C1)))
    (c2 : PySem.W.nsIn K mainGlobals "BadRanking" = some (some (.ref C2)))
    (c3 : PySem.W.nsIn K mainGlobals "BadChain" = some (some (.ref C3)))
    (c4 : PySem.W.nsIn K mainGlobals "BadData" = some (some (.ref C4)))
    (c5 : PySem.W.nsIn K mainGlobals "BadJet" = some (some (.ref C5)))
    (c6 : PySem.W.nsIn K mainGlobals "BadPaper" = some (some (.ref C6)))
    (c7 : PySem.W.nsIn K mainGlobals "NoUnknown" = some (some (.ref C7)))
    (c8 : PySem.W.nsIn K mainGlobals "NoEquation" = some (some (.ref C8)))
    (c9 : PySem.W.nsIn K mainGlobals "NoCase" = some (some (.ref C9)))
    (c10 : PySem.W.nsIn K mainGlobals "Contradicted" = some (some (.ref C10)))
    (c11 : PySem.W.nsIn K mainGlobals "Knotted" = some (some (.ref C11)))
    (c12 : PySem.W.nsIn K mainGlobals "Twice" = some (some (.ref C12)))
    (c13 : PySem.W.nsIn K mainGlobals "OutOfPlace" = some (some (.ref C13)))
    (c14 : PySem.W.nsIn K mainGlobals "TooGreat" = some (some (.ref C14)))
    (c15 : PySem.W.nsIn K mainGlobals "Nothing" = some (some (.ref C15)))
    (c16 : PySem.W.nsIn K mainGlobals "ChainError" = some (some (.ref C16)))
    (c17 : PySem.W.nsIn K mainGlobals "MissError" = some (some (.ref C17)))
    (c18 : PySem.W.nsIn K mainGlobals "CaseError" = some (some (.ref C18)))
    (a0 : PySem.W.nsIn K mainGlobals "_law_mixed" = some (some (.ref f0)))
    (l0 : K.lookup f0 = some ⟨oc0, od0, .func (PySem.W.fnOf "_law_mixed" "_law_mixed" (defArgs s_Lmixed) (defBody s_Lmixed) (defScope s_Lmixed) .none kV0 dc0 pm0 an0 cd0 ct0), sl0⟩)
    (e0 : PySem.W.codeIn K cd0 "_law_mixed" = true)
    (k0 : PySem.W.keepIn K (.ref f0) = true)
    (a1 : PySem.W.nsIn K mainGlobals "_law_draw" = some (some (.ref f1)))
    (l1 : K.lookup f1 = some ⟨oc1, od1, .func (PySem.W.fnOf "_law_draw" "_law_draw" (defArgs s_Ldraw) (defBody s_Ldraw) (defScope s_Ldraw) .none kV1 dc1 pm1 an1 cd1 ct1), sl1⟩)
    (e1 : PySem.W.codeIn K cd1 "_law_draw" = true)
    (k1 : PySem.W.keepIn K (.ref f1) = true)
    (a2 : PySem.W.nsIn K mainGlobals "_law_digit" = some (some (.ref f2)))
    (l2 : K.lookup f2 = some ⟨oc2, od2, .func (PySem.W.fnOf "_law_digit" "_law_digit" (defArgs s_Ldigit) (defBody s_Ldigit) (defScope s_Ldigit) .none kV2 dc2 pm2 an2 cd2 ct2), sl2⟩)
    (e2 : PySem.W.codeIn K cd2 "_law_digit" = true)
    (k2 : PySem.W.keepIn K (.ref f2) = true)
    (a3 : PySem.W.nsIn K mainGlobals "_law_word" = some (some (.ref f3)))
    (l3 : K.lookup f3 = some ⟨oc3, od3, .func (PySem.W.fnOf "_law_word" "_law_word" (defArgs s_Lword) (defBody s_Lword) (defScope s_Lword) .none kV3 dc3 pm3 an3 cd3 ct3), sl3⟩)
    (e3 : PySem.W.codeIn K cd3 "_law_word" = true)
    (k3 : PySem.W.keepIn K (.ref f3) = true)
    (a4 : PySem.W.nsIn K mainGlobals "_law_kinds" = some (some (.ref f4)))
    (l4 : K.lookup f4 = some ⟨oc4, od4, .func (PySem.W.fnOf "_law_kinds" "_law_kinds" (defArgs s_Lkinds) (defBody s_Lkinds) (defScope s_Lkinds) .none kV4 dc4 pm4 an4 cd4 ct4), sl4⟩)
    (e4 : PySem.W.codeIn K cd4 "_law_kinds" = true)
    (k4 : PySem.W.keepIn K (.ref f4) = true)
    (a5 : PySem.W.nsIn K mainGlobals "_law_by_hand" = some (some (.ref f5)))
    (l5 : K.lookup f5 = some ⟨oc5, od5, .func (PySem.W.fnOf "_law_by_hand" "_law_by_hand" (defArgs s_Lby_hand) (defBody s_Lby_hand) (defScope s_Lby_hand) .none kV5 dc5 pm5 an5 cd5 ct5), sl5⟩)
    (e5 : PySem.W.codeIn K cd5 "_law_by_hand" = true)
    (k5 : PySem.W.keepIn K (.ref f5) = true)
    (a6 : PySem.W.nsIn K mainGlobals "_law_left_out" = some (some (.ref f6)))
    (l6 : K.lookup f6 = some ⟨oc6, od6, .func (PySem.W.fnOf "_law_left_out" "_law_left_out" (defArgs s_Lleft_out) (defBody s_Lleft_out) (defScope s_Lleft_out) .none kV6 dc6 pm6 an6 cd6 ct6), sl6⟩)
    (e6 : PySem.W.codeIn K cd6 "_law_left_out" = true)
    (k6 : PySem.W.keepIn K (.ref f6) = true)
    (a7 : PySem.W.nsIn K mainGlobals "law" = some (some (.ref f7)))
    (l7 : K.lookup f7 = some ⟨oc7, od7, .func (PySem.W.fnOf "law" "law" (defArgs s_law) (defBody s_law) (defScope s_law) .none kV7 dc7 pm7 an7 cd7 ct7), sl7⟩)
    (e7 : PySem.W.codeIn K cd7 "law" = true)
    (k7 : PySem.W.keepIn K (.ref f7) = true)
    (i0 : PySem.W.findIn K (.ref C0) "__init__" = some (some (.ref f100)))
    (l100 : K.lookup f100 = some ⟨oc100, od100, .func (PySem.W.fnOf "__init__" "BadRow.__init__" (defArgs s_BadRow) (defBody s_BadRow) (defScope s_BadRow) .none kV100 dc100 pm100 an100 cd100 ct100), sl100⟩)
    (e100 : PySem.W.codeIn K cd100 "BadRow.__init__" = true)
    (k100 : PySem.W.keepIn K (.ref f100) = true)
    (t100 : PySem.W.typeIn K (.ref f100) = some (.type "function"))
    (n0_row : PySem.W.findIn K (.ref C0) "row" = some none)
    (n0_word : PySem.W.findIn K (.ref C0) "word" = some none)
    (i1 : PySem.W.findIn K (.ref C1) "__init__" = some (some (.ref f101)))
    (l101 : K.lookup f101 = some ⟨oc101, od101, .func (PySem.W.fnOf "__init__" "BadPolynomial.__init__" (defArgs s_BadPolynomial) (defBody s_BadPolynomial) (defScope s_BadPolynomial) (.ref T1) kV101 dc101 pm101 an101 cd101 ct101), sl101⟩)
    (e101 : PySem.W.codeIn K cd101 "BadPolynomial.__init__" = true)
    (k101 : PySem.W.keepIn K (.ref f101) = true)
    (t101 : PySem.W.typeIn K (.ref f101) = some (.type "function"))
    (dt1 : K.lookup T1 = some ⟨ot1, dd1, .seq #[.none] nn1, ss1⟩)
    (n1_number : PySem.W.findIn K (.ref C1) "number" = some none)
    (i2 : PySem.W.findIn K (.ref C2) "__init__" = some (some (.ref f102)))
    (l102 : K.lookup f102 = some ⟨oc102, od102, .func (PySem.W.fnOf "__init__" "BadRanking.__init__" (defArgs s_BadRanking) (defBody s_BadRanking) (defScope s_BadRanking) (.ref T2) kV102 dc102 pm102 an102 cd102 ct102), sl102⟩)
    (e102 : PySem.W.codeIn K cd102 "BadRanking.__init__" = true)
    (k102 : PySem.W.keepIn K (.ref f102) = true)
    (t102 : PySem.W.typeIn K (.ref f102) = some (.type "function"))
    (dt2 : K.lookup T2 = some ⟨ot2, dd2, .seq #[.none] nn2, ss2⟩)
    (n2_place : PySem.W.findIn K (.ref C2) "place" = some none)
    (i3 : PySem.W.findIn K (.ref C3) "__init__" = some (some (.ref f103)))
    (l103 : K.lookup f103 = some ⟨oc103, od103, .func (PySem.W.fnOf "__init__" "BadChain.__init__" (defArgs s_BadChain) (defBody s_BadChain) (defScope s_BadChain) (.ref T3) kV103 dc103 pm103 an103 cd103 ct103), sl103⟩)
    (e103 : PySem.W.codeIn K cd103 "BadChain.__init__" = true)
    (k103 : PySem.W.keepIn K (.ref f103) = true)
    (t103 : PySem.W.typeIn K (.ref f103) = some (.type "function"))
    (dt3 : K.lookup T3 = some ⟨ot3, dd3, .seq #[.none] nn3, ss3⟩)
    (n3_place : PySem.W.findIn K (.ref C3) "place" = some none)
    (i4 : PySem.W.findIn K (.ref C4) "__init__" = some (some (.ref f104)))
    (l104 : K.lookup f104 = some ⟨oc104, od104, .func (PySem.W.fnOf "__init__" "BadData.__init__" (defArgs s_BadData) (defBody s_BadData) (defScope s_BadData) (.ref T4) kV104 dc104 pm104 an104 cd104 ct104), sl104⟩)
    (e104 : PySem.W.codeIn K cd104 "BadData.__init__" = true)
    (k104 : PySem.W.keepIn K (.ref f104) = true)
    (t104 : PySem.W.typeIn K (.ref f104) = some (.type "function"))
    (dt4 : K.lookup T4 = some ⟨ot4, dd4, .seq #[.none] nn4, ss4⟩)
    (n4_place : PySem.W.findIn K (.ref C4) "place" = some none)
    (i5 : PySem.W.findIn K (.ref C5) "__init__" = some (some (.ref f105)))
    (l105 : K.lookup f105 = some ⟨oc105, od105, .func (PySem.W.fnOf "__init__" "BadJet.__init__" (defArgs s_BadJet) (defBody s_BadJet) (defScope s_BadJet) (.ref T5) kV105 dc105 pm105 an105 cd105 ct105), sl105⟩)
    (e105 : PySem.W.codeIn K cd105 "BadJet.__init__" = true)
    (k105 : PySem.W.keepIn K (.ref f105) = true)
    (t105 : PySem.W.typeIn K (.ref f105) = some (.type "function"))
    (dt5 : K.lookup T5 = some ⟨ot5, dd5, .seq #[.none] nn5, ss5⟩)
    (n5_place : PySem.W.findIn K (.ref C5) "place" = some none)
    (i6 : PySem.W.findIn K (.ref C6) "__init__" = some (some (.ref f106)))
    (l106 : K.lookup f106 = some ⟨oc106, od106, .func (PySem.W.fnOf "__init__" "BadPaper.__init__" (defArgs s_BadPaper) (defBody s_BadPaper) (defScope s_BadPaper) (.ref T6) kV106 dc106 pm106 an106 cd106 ct106), sl106⟩)
    (e106 : PySem.W.codeIn K cd106 "BadPaper.__init__" = true)
    (k106 : PySem.W.keepIn K (.ref f106) = true)
    (t106 : PySem.W.typeIn K (.ref f106) = some (.type "function"))
    (dt6 : K.lookup T6 = some ⟨ot6, dd6, .seq #[.none] nn6, ss6⟩)
    (n6_place : PySem.W.findIn K (.ref C6) "place" = some none)
    (i7 : PySem.W.findIn K (.ref C7) "__init__" = some (some (.ref f107)))
    (l107 : K.lookup f107 = some ⟨oc107, od107, .func (PySem.W.fnOf "__init__" "NoUnknown.__init__" (defArgs s_NoUnknown) (defBody s_NoUnknown) (defScope s_NoUnknown) .none kV107 dc107 pm107 an107 cd107 ct107), sl107⟩)
    (e107 : PySem.W.codeIn K cd107 "NoUnknown.__init__" = true)
    (k107 : PySem.W.keepIn K (.ref f107) = true)
    (t107 : PySem.W.typeIn K (.ref f107) = some (.type "function"))
    (n7_name : PySem.W.findIn K (.ref C7) "name" = some none)
    (i8 : PySem.W.findIn K (.ref C8) "__init__" = some (some (.ref f108)))
    (l108 : K.lookup f108 = some ⟨oc108, od108, .func (PySem.W.fnOf "__init__" "NoEquation.__init__" (defArgs s_NoEquation) (defBody s_NoEquation) (defScope s_NoEquation) .none kV108 dc108 pm108 an108 cd108 ct108), sl108⟩)
    (e108 : PySem.W.codeIn K cd108 "NoEquation.__init__" = true)
    (k108 : PySem.W.keepIn K (.ref f108) = true)
    (t108 : PySem.W.typeIn K (.ref f108) = some (.type "function"))
    (n8_number : PySem.W.findIn K (.ref C8) "number" = some none)
    (i9 : PySem.W.findIn K (.ref C9) "__init__" = some (some (.ref f109)))
    (l109 : K.lookup f109 = some ⟨oc109, od109, .func (PySem.W.fnOf "__init__" "NoCase.__init__" (defArgs s_NoCase) (defBody s_NoCase) (defScope s_NoCase) .none kV109 dc109 pm109 an109 cd109 ct109), sl109⟩)
    (e109 : PySem.W.codeIn K cd109 "NoCase.__init__" = true)
    (k109 : PySem.W.keepIn K (.ref f109) = true)
    (t109 : PySem.W.typeIn K (.ref f109) = some (.type "function"))
    (n9_number : PySem.W.findIn K (.ref C9) "number" = some none)
    (i10 : PySem.W.findIn K (.ref C10) "__init__" = some (some (.ref f110)))
    (l110 : K.lookup f110 = some ⟨oc110, od110, .func (PySem.W.fnOf "__init__" "Contradicted.__init__" (defArgs s_Contradicted) (defBody s_Contradicted) (defScope s_Contradicted) .none kV110 dc110 pm110 an110 cd110 ct110), sl110⟩)
    (e110 : PySem.W.codeIn K cd110 "Contradicted.__init__" = true)
    (k110 : PySem.W.keepIn K (.ref f110) = true)
    (t110 : PySem.W.typeIn K (.ref f110) = some (.type "function"))
    (n10_number : PySem.W.findIn K (.ref C10) "number" = some none)
    (i11 : PySem.W.findIn K (.ref C11) "__init__" = some (some (.ref f111)))
    (l111 : K.lookup f111 = some ⟨oc111, od111, .func (PySem.W.fnOf "__init__" "Knotted.__init__" (defArgs s_Knotted) (defBody s_Knotted) (defScope s_Knotted) .none kV111 dc111 pm111 an111 cd111 ct111), sl111⟩)
    (e111 : PySem.W.codeIn K cd111 "Knotted.__init__" = true)
    (k111 : PySem.W.keepIn K (.ref f111) = true)
    (t111 : PySem.W.typeIn K (.ref f111) = some (.type "function"))
    (n11_number : PySem.W.findIn K (.ref C11) "number" = some none)
    (x0 : xcB K C0 (bmI 0) (nwI 0) = true)
    (x1 : xcB K C1 (bmI 1) (nwI 1) = true)
    (x2 : xcB K C2 (bmI 2) (nwI 2) = true)
    (x3 : xcB K C3 (bmI 3) (nwI 3) = true)
    (x4 : xcB K C4 (bmI 4) (nwI 4) = true)
    (x5 : xcB K C5 (bmI 5) (nwI 5) = true)
    (x6 : xcB K C6 (bmI 6) (nwI 6) = true)
    (x7 : xcB K C7 (bmI 7) (nwI 7) = true)
    (x8 : xcB K C8 (bmI 8) (nwI 8) = true)
    (x9 : xcB K C9 (bmI 9) (nwI 9) = true)
    (x10 : xcB K C10 (bmI 10) (nwI 10) = true)
    (x11 : xcB K C11 (bmI 11) (nwI 11) = true)
    (x12 : xcB K C12 (bmI 12) (nwI 12) = true)
    (q12 : PySem.W.excIn K C12 (bmI 12) (nwI 12) = true)
    (x13 : xcB K C13 (bmI 13) (nwI 13) = true)
    (q13 : PySem.W.excIn K C13 (bmI 13) (nwI 13) = true)
    (x14 : xcB K C14 (bmI 14) (nwI 14) = true)
    (q14 : PySem.W.excIn K C14 (bmI 14) (nwI 14) = true)
    (x15 : xcB K C15 (bmI 15) (nwI 15) = true)
    (q15 : PySem.W.excIn K C15 (bmI 15) (nwI 15) = true)
    (kt0 : (testsOf (cxOfL [C0, C1, C2, C3, C4, C5, C6, C7, C8, C9, C10, C11, C12, C13, C14, C15, C16, C17, C18])).map (PySem.W.kitOne K (.ref C0)) = (kb 0).map some)
    (kt1 : (testsOf (cxOfL [C0, C1, C2, C3, C4, C5, C6, C7, C8, C9, C10, C11, C12, C13, C14, C15, C16, C17, C18])).map (PySem.W.kitOne K (.ref C1)) = (kb 1).map some)
    (kt2 : (testsOf (cxOfL [C0, C1, C2, C3, C4, C5, C6, C7, C8, C9, C10, C11, C12, C13, C14, C15, C16, C17, C18])).map (PySem.W.kitOne K (.ref C2)) = (kb 2).map some)
    (kt3 : (testsOf (cxOfL [C0, C1, C2, C3, C4, C5, C6, C7, C8, C9, C10, C11, C12, C13, C14, C15, C16, C17, C18])).map (PySem.W.kitOne K (.ref C3)) = (kb 3).map some)
    (kt4 : (testsOf (cxOfL [C0, C1, C2, C3, C4, C5, C6, C7, C8, C9, C10, C11, C12, C13, C14, C15, C16, C17, C18])).map (PySem.W.kitOne K (.ref C4)) = (kb 4).map some)
    (kt5 : (testsOf (cxOfL [C0, C1, C2, C3, C4, C5, C6, C7, C8, C9, C10, C11, C12, C13, C14, C15, C16, C17, C18])).map (PySem.W.kitOne K (.ref C5)) = (kb 5).map some)
    (kt6 : (testsOf (cxOfL [C0, C1, C2, C3, C4, C5, C6, C7, C8, C9, C10, C11, C12, C13, C14, C15, C16, C17, C18])).map (PySem.W.kitOne K (.ref C6)) = (kb 6).map some)
    (kt7 : (testsOf (cxOfL [C0, C1, C2, C3, C4, C5, C6, C7, C8, C9, C10, C11, C12, C13, C14, C15, C16, C17, C18])).map (PySem.W.kitOne K (.ref C7)) = (kb 7).map some)
    (kt8 : (testsOf (cxOfL [C0, C1, C2, C3, C4, C5, C6, C7, C8, C9, C10, C11, C12, C13, C14, C15, C16, C17, C18])).map (PySem.W.kitOne K (.ref C8)) = (kb 8).map some)
    (kt9 : (testsOf (cxOfL [C0, C1, C2, C3, C4, C5, C6, C7, C8, C9, C10, C11, C12, C13, C14, C15, C16, C17, C18])).map (PySem.W.kitOne K (.ref C9)) = (kb 9).map some)
    (kt10 : (testsOf (cxOfL [C0, C1, C2, C3, C4, C5, C6, C7, C8, C9, C10, C11, C12, C13, C14, C15, C16, C17, C18])).map (PySem.W.kitOne K (.ref C10)) = (kb 10).map some)
    (kt11 : (testsOf (cxOfL [C0, C1, C2, C3, C4, C5, C6, C7, C8, C9, C10, C11, C12, C13, C14, C15, C16, C17, C18])).map (PySem.W.kitOne K (.ref C11)) = (kb 11).map some)
    (kt12 : (testsOf (cxOfL [C0, C1, C2, C3, C4, C5, C6, C7, C8, C9, C10, C11, C12, C13, C14, C15, C16, C17, C18])).map (PySem.W.kitOne K (.ref C12)) = (kb 12).map some)
    (kt13 : (testsOf (cxOfL [C0, C1, C2, C3, C4, C5, C6, C7, C8, C9, C10, C11, C12, C13, C14, C15, C16, C17, C18])).map (PySem.W.kitOne K (.ref C13)) = (kb 13).map some)
    (kt14 : (testsOf (cxOfL [C0, C1, C2, C3, C4, C5, C6, C7, C8, C9, C10, C11, C12, C13, C14, C15, C16, C17, C18])).map (PySem.W.kitOne K (.ref C14)) = (kb 14).map some)
    (kt15 : (testsOf (cxOfL [C0, C1, C2, C3, C4, C5, C6, C7, C8, C9, C10, C11, C12, C13, C14, C15, C16, C17, C18])).map (PySem.W.kitOne K (.ref C15)) = (kb 15).map some)
    (s16 : PySem.W.specialIn K (.ref C16) "__getattribute__" = some (some (.builtin "type.__getattribute__")))
    (r16 : PySem.W.readsIn K C16 (.type "type") = true)
    (y16 : PySem.W.findCls K (.ref C16) (.type "type") "__init__" = some (.val (.builtin "ValueError.__init__")))
    (z16 : PySem.W.handedIn (.builtin "ValueError.__init__") = true)
    (s17 : PySem.W.specialIn K (.ref C17) "__getattribute__" = some (some (.builtin "type.__getattribute__")))
    (r17 : PySem.W.readsIn K C17 (.type "type") = true)
    (y17 : PySem.W.findCls K (.ref C17) (.type "type") "__init__" = some (.val (.builtin "LookupError.__init__")))
    (z17 : PySem.W.handedIn (.builtin "LookupError.__init__") = true)
    (s18 : PySem.W.specialIn K (.ref C18) "__getattribute__" = some (some (.builtin "type.__getattribute__")))
    (r18 : PySem.W.readsIn K C18 (.type "type") = true)
    (y18 : PySem.W.findCls K (.ref C18) (.type "type") "__init__" = some (.val (.builtin "RuntimeError.__init__")))
    (z18 : PySem.W.handedIn (.builtin "RuntimeError.__init__") = true)
    (nn_isinstance : PySem.W.nsIn K mainGlobals "isinstance" = some none)
    (nn_ValueError : PySem.W.nsIn K mainGlobals "ValueError" = some none)
    (nn_LookupError : PySem.W.nsIn K mainGlobals "LookupError" = some none)
    (nn_RuntimeError : PySem.W.nsIn K mainGlobals "RuntimeError" = some none)
    (nn_range : PySem.W.nsIn K mainGlobals "range" = some none)
    (nn_enumerate : PySem.W.nsIn K mainGlobals "enumerate" = some none)
    (nn_sum : PySem.W.nsIn K mainGlobals "sum" = some none)
    : ∃ fd : FuncData, (∀ (s : Shared) (v : Value), BindsTo s fd ⟨[v], []⟩ [("_law_script", v)]) ∧ ∀ base : Heap, K.In base → base.Ns mainGlobals mg → FnOk l.prog w K mg base CX0 5 fa fd ["_law_script"] (spLaw K) := by
  have e := hfa.symm.trans (PySem.W.mg_of X G a7)
  cases e
  have F0 := fun_mk (st := s_Lmixed) l0 e0 k0
  have b0 := F0.binds (ps := ["_law_cell", "_law_k"]) fun _ _ _ _ _ _ us hl => match us, hl with | [_, _], _ => rfl
  have F1 := fun_mk (st := s_Ldraw) l1 e1 k1
  have b1 := F1.binds (ps := ["_law_cell", "_law_k"]) fun _ _ _ _ _ _ us hl => match us, hl with | [_, _], _ => rfl
  have F2 := fun_mk (st := s_Ldigit) l2 e2 k2
  have b2 := F2.binds (ps := ["_law_state", "_law_size"]) fun _ _ _ _ _ _ us hl => match us, hl with | [_, _], _ => rfl
  have F3 := fun_mk (st := s_Lword) l3 e3 k3
  have b3 := F3.binds (ps := ["_law_state"]) fun _ _ _ _ _ _ us hl => match us, hl with | [_], _ => rfl
  have F4 := fun_mk (st := s_Lkinds) l4 e4 k4
  have b4 := F4.binds (ps := ["_law_error"]) fun _ _ _ _ _ _ us hl => match us, hl with | [_], _ => rfl
  have F5 := fun_mk (st := s_Lby_hand) l5 e5 k5
  have b5 := F5.binds (ps := ["_law_figure", "_law_sign"]) fun _ _ _ _ _ _ us hl => match us, hl with | [_, _], _ => rfl
  have F6 := fun_mk (st := s_Lleft_out) l6 e6 k6
  have b6 := F6.binds (ps := ["_law_figure", "_law_sign"]) fun _ _ _ _ _ _ us hl => match us, hl with | [_, _], _ => rfl
  have F7 := fun_mk (st := s_law) l7 e7 k7
  have b7 := F7.binds (ps := ["_law_script"]) fun _ _ _ _ _ _ us hl => match us, hl with | [_], _ => rfl
  have F100 := fun_mk (st := s_BadRow) l100 e100 k100
  have kP0 : KBn K _ ["self", "row", "word"] 3 [] gP gPV := kbn_fun F100 rel_l fun _ _ _ _ _ _ us ws l1 l2 => match us, ws, l1, l2 with | [_, _, _], [], _, _ => rfl
  have kK0 : KBn K _ ["self", "row", "word"] 1 ["word", "row"] gR gRV := kbn_fun F100 rel_r fun _ _ _ _ _ _ us ws l1 l2 => match us, ws, l1, l2 with | [_], [_, _], _, _ => rfl
  have F101 : FunD K "__init__" "BadPolynomial.__init__" (defArgs s_BadPolynomial) (defBody s_BadPolynomial) (defScope s_BadPolynomial) [.non] [] f101 _ := ⟨⟨oc101, od101, .ref T1, kV101, dc101, pm101, an101, cd101, ct101, sl101, rfl, l101, e101, .inr ⟨by simp, T1, _, [.none], nn1, rfl, dt1, rfl, .cons rfl .nil⟩, .inl rfl⟩, k101⟩
  obtain ⟨_, kP1⟩ := F101.kbindsD (ps := ["self", "number"]) 2 [] (fun us _ _ => us) (by simp) (fun a _ _ => a) fun T kV doc pm an cdv ct us its ws l1 l2 l3 => match us, its, ws, l1, l2, l3 with | [_, _], [_], [], _, _, _ => ⟨_, rfl, rfl⟩
  obtain ⟨_, kZ1⟩ := F101.kbindsD (ps := ["self", "number"]) 1 [] (fun us its _ => us ++ its) (by simp) (fun a b _ => a.append b) fun T kV doc pm an cdv ct us its ws l1 l2 l3 => match us, its, ws, l1, l2, l3 with | [_], [_], [], _, _, _ => ⟨_, rfl, rfl⟩
  obtain ⟨_, kK1⟩ := F101.kbindsD (ps := ["self", "number"]) 1 ["number"] (fun us _ ws => us ++ ws) (by simp) (fun a _ c => a.append c) fun T kV doc pm an cdv ct us its ws l1 l2 l3 => match us, its, ws, l1, l2, l3 with | [_], [_], [_], _, _, _ => ⟨_, rfl, rfl⟩
  have F102 : FunD K "__init__" "BadRanking.__init__" (defArgs s_BadRanking) (defBody s_BadRanking) (defScope s_BadRanking) [.non] [] f102 _ := ⟨⟨oc102, od102, .ref T2, kV102, dc102, pm102, an102, cd102, ct102, sl102, rfl, l102, e102, .inr ⟨by simp, T2, _, [.none], nn2, rfl, dt2, rfl, .cons rfl .nil⟩, .inl rfl⟩, k102⟩
  obtain ⟨_, kP2⟩ := F102.kbindsD (ps := ["self", "place"]) 2 [] (fun us _ _ => us) (by simp) (fun a _ _ => a) fun T kV doc pm an cdv ct us its ws l1 l2 l3 => match us, its, ws, l1, l2, l3 with | [_, _], [_], [], _, _, _ => ⟨_, rfl, rfl⟩
  obtain ⟨_, kZ2⟩ := F102.kbindsD (ps := ["self", "place"]) 1 [] (fun us its _ => us ++ its) (by simp) (fun a b _ => a.append b) fun T kV doc pm an cdv ct us its ws l1 l2 l3 => match us, its, ws, l1, l2, l3 with | [_], [_], [], _, _, _ => ⟨_, rfl, rfl⟩
  obtain ⟨_, kK2⟩ := F102.kbindsD (ps := ["self", "place"]) 1 ["place"] (fun us _ ws => us ++ ws) (by simp) (fun a _ c => a.append c) fun T kV doc pm an cdv ct us its ws l1 l2 l3 => match us, its, ws, l1, l2, l3 with | [_], [_], [_], _, _, _ => ⟨_, rfl, rfl⟩
  have F103 : FunD K "__init__" "BadChain.__init__" (defArgs s_BadChain) (defBody s_BadChain) (defScope s_BadChain) [.non] [] f103 _ := ⟨⟨oc103, od103, .ref T3, kV103, dc103, pm103, an103, cd103, ct103, sl103, rfl, l103, e103, .inr ⟨by simp, T3, _, [.none], nn3, rfl, dt3, rfl, .cons rfl .nil⟩, .inl rfl⟩, k103⟩
  obtain ⟨_, kP3⟩ := F103.kbindsD (ps := ["self", "place"]) 2 [] (fun us _ _ => us) (by simp) (fun a _ _ => a) fun T kV doc pm an cdv ct us its ws l1 l2 l3 => match us, its, ws, l1, l2, l3 with | [_, _], [_], [], _, _, _ => ⟨_, rfl, rfl⟩
  obtain ⟨_, kZ3⟩ := F103.kbindsD (ps := ["self", "place"]) 1 [] (fun us its _ => us ++ its) (by simp) (fun a b _ => a.append b) fun T kV doc pm an cdv ct us its ws l1 l2 l3 => match us, its, ws, l1, l2, l3 with | [_], [_], [], _, _, _ => ⟨_, rfl, rfl⟩
  obtain ⟨_, kK3⟩ := F103.kbindsD (ps := ["self", "place"]) 1 ["place"] (fun us _ ws => us ++ ws) (by simp) (fun a _ c => a.append c) fun T kV doc pm an cdv ct us its ws l1 l2 l3 => match us, its, ws, l1, l2, l3 with | [_], [_], [_], _, _, _ => ⟨_, rfl, rfl⟩
  have F104 : FunD K "__init__" "BadData.__init__" (defArgs s_BadData) (defBody s_BadData) (defScope s_BadData) [.non] [] f104 _ := ⟨⟨oc104, od104, .ref T4, kV104, dc104, pm104, an104, cd104, ct104, sl104, rfl, l104, e104, .inr ⟨by simp, T4, _, [.none], nn4, rfl, dt4, rfl, .cons rfl .nil⟩, .inl rfl⟩, k104⟩
  obtain ⟨_, kP4⟩ := F104.kbindsD (ps := ["self", "place"]) 2 [] (fun us _ _ => us) (by simp) (fun a _ _ => a) fun T kV doc pm an cdv ct us its ws l1 l2 l3 => match us, its, ws, l1, l2, l3 with | [_, _], [_], [], _, _, _ => ⟨_, rfl, rfl⟩
  obtain ⟨_, kZ4⟩ := F104.kbindsD (ps := ["self", "place"]) 1 [] (fun us its _ => us ++ its) (by simp) (fun a b _ => a.append b) fun T kV doc pm an cdv ct us its ws l1 l2 l3 => match us, its, ws, l1, l2, l3 with | [_], [_], [], _, _, _ => ⟨_, rfl, rfl⟩
  obtain ⟨_, kK4⟩ := F104.kbindsD (ps := ["self", "place"]) 1 ["place"] (fun us _ ws => us ++ ws) (by simp) (fun a _ c => a.append c) fun T kV doc pm an cdv ct us its ws l1 l2 l3 => match us, its, ws, l1, l2, l3 with | [_], [_], [_], _, _, _ => ⟨_, rfl, rfl⟩
  have F105 : FunD K "__init__" "BadJet.__init__" (defArgs s_BadJet) (defBody s_BadJet) (defScope s_BadJet) [.non] [] f105 _ := ⟨⟨oc105, od105, .ref T5, kV105, dc105, pm105, an105, cd105, ct105, sl105, rfl, l105, e105, .inr ⟨by simp, T5, _, [.none], nn5, rfl, dt5, rfl, .cons rfl .nil⟩, .inl rfl⟩, k105⟩
  obtain ⟨_, kP5⟩ := F105.kbindsD (ps := ["self", "place"]) 2 [] (fun us _ _ => us) (by simp) (fun a _ _ => a) fun T kV doc pm an cdv ct us its ws l1 l2 l3 => match us, its, ws, l1, l2, l3 with | [_, _], [_], [], _, _, _ => ⟨_, rfl, rfl⟩
  obtain ⟨_, kZ5⟩ := F105.kbindsD (ps := ["self", "place"]) 1 [] (fun us its _ => us ++ its) (by simp) (fun a b _ => a.append b) fun T kV doc pm an cdv ct us its ws l1 l2 l3 => match us, its, ws, l1, l2, l3 with | [_], [_], [], _, _, _ => ⟨_, rfl, rfl⟩
  obtain ⟨_, kK5⟩ := F105.kbindsD (ps := ["self", "place"]) 1 ["place"] (fun us _ ws => us ++ ws) (by simp) (fun a _ c => a.append c) fun T kV doc pm an cdv ct us its ws l1 l2 l3 => match us, its, ws, l1, l2, l3 with | [_], [_], [_], _, _, _ => ⟨_, rfl, rfl⟩
  have F106 : FunD K "__init__" "BadPaper.__init__" (defArgs s_BadPaper) (defBody s_BadPaper) (defScope s_BadPaper) [.non] [] f106 _ := ⟨⟨oc106, od106, .ref T6, kV106, dc106, pm106, an106, cd106, ct106, sl106, rfl, l106, e106, .inr ⟨by simp, T6, _, [.none], nn6, rfl, dt6, rfl, .cons rfl .nil⟩, .inl rfl⟩, k106⟩
  obtain ⟨_, kP6⟩ := F106.kbindsD (ps := ["self", "place"]) 2 [] (fun us _ _ => us) (by simp) (fun a _ _ => a) fun T kV doc pm an cdv ct us its ws l1 l2 l3 => match us, its, ws, l1, l2, l3 with | [_, _], [_], [], _, _, _ => ⟨_, rfl, rfl⟩
  obtain ⟨_, kZ6⟩ := F106.kbindsD (ps := ["self", "place"]) 1 [] (fun us its _ => us ++ its) (by simp) (fun a b _ => a.append b) fun T kV doc pm an cdv ct us its ws l1 l2 l3 => match us, its, ws, l1, l2, l3 with | [_], [_], [], _, _, _ => ⟨_, rfl, rfl⟩
  obtain ⟨_, kK6⟩ := F106.kbindsD (ps := ["self", "place"]) 1 ["place"] (fun us _ ws => us ++ ws) (by simp) (fun a _ c => a.append c) fun T kV doc pm an cdv ct us its ws l1 l2 l3 => match us, its, ws, l1, l2, l3 with | [_], [_], [_], _, _, _ => ⟨_, rfl, rfl⟩
  have F107 := fun_mk (st := s_NoUnknown) l107 e107 k107
  have kP7 : KBn K _ ["self", "name"] 2 [] gP gPV := kbn_fun F107 rel_l fun _ _ _ _ _ _ us ws l1 l2 => match us, ws, l1, l2 with | [_, _], [], _, _ => rfl
  have kK7 : KBn K _ ["self", "name"] 1 ["name"] gK gKV := kbn_fun F107 rel_k fun _ _ _ _ _ _ us ws l1 l2 => match us, ws, l1, l2 with | [_], [_], _, _ => rfl
  have F108 := fun_mk (st := s_NoEquation) l108 e108 k108
  have kP8 : KBn K _ ["self", "number"] 2 [] gP gPV := kbn_fun F108 rel_l fun _ _ _ _ _ _ us ws l1 l2 => match us, ws, l1, l2 with | [_, _], [], _, _ => rfl
  have kK8 : KBn K _ ["self", "number"] 1 ["number"] gK gKV := kbn_fun F108 rel_k fun _ _ _ _ _ _ us ws l1 l2 => match us, ws, l1, l2 with | [_], [_], _, _ => rfl
  have F109 := fun_mk (st := s_NoCase) l109 e109 k109
  have kP9 : KBn K _ ["self", "number"] 2 [] gP gPV := kbn_fun F109 rel_l fun _ _ _ _ _ _ us ws l1 l2 => match us, ws, l1, l2 with | [_, _], [], _, _ => rfl
  have kK9 : KBn K _ ["self", "number"] 1 ["number"] gK gKV := kbn_fun F109 rel_k fun _ _ _ _ _ _ us ws l1 l2 => match us, ws, l1, l2 with | [_], [_], _, _ => rfl
  have F110 := fun_mk (st := s_Contradicted) l110 e110 k110
  have kP10 : KBn K _ ["self", "number"] 2 [] gP gPV := kbn_fun F110 rel_l fun _ _ _ _ _ _ us ws l1 l2 => match us, ws, l1, l2 with | [_, _], [], _, _ => rfl
  have kK10 : KBn K _ ["self", "number"] 1 ["number"] gK gKV := kbn_fun F110 rel_k fun _ _ _ _ _ _ us ws l1 l2 => match us, ws, l1, l2 with | [_], [_], _, _ => rfl
  have F111 := fun_mk (st := s_Knotted) l111 e111 k111
  have kP11 : KBn K _ ["self", "number"] 2 [] gP gPV := kbn_fun F111 rel_l fun _ _ _ _ _ _ us ws l1 l2 => match us, ws, l1, l2 with | [_, _], [], _, _ => rfl
  have kK11 : KBn K _ ["self", "number"] 1 ["number"] gK gKV := kbn_fun F111 rel_k fun _ _ _ _ _ _ us ws l1 l2 => match us, ws, l1, l2 with | [_], [_], _, _ => rfl
  have T : XT K mg (cxOfL [C0, C1, C2, C3, C4, C5, C6, C7, C8, C9, C10, C11, C12, C13, C14, C15, C16, C17, C18]) := by
    refine ⟨?_, ?_, n0_row, n0_word, n1_number, n2_place, n3_place, n4_place, n5_place, n6_place, n7_name, n8_number, n9_number, n10_number, n11_number, ?_, PySem.W.mg_of X G c0, PySem.W.mg_of X G c1, PySem.W.mg_of X G c2, PySem.W.mg_of X G c3, PySem.W.mg_of X G c4, PySem.W.mg_of X G c5, PySem.W.mg_of X G c6, PySem.W.mg_of X G c7, PySem.W.mg_of X G c8, PySem.W.mg_of X G c9, PySem.W.mg_of X G c10, PySem.W.mg_of X G c11, PySem.W.mg_of X G c12, PySem.W.mg_of X G c13, PySem.W.mg_of X G c14, PySem.W.mg_of X G c15, PySem.W.mg_of X G c16, PySem.W.mg_of X G c17, PySem.W.mg_of X G c18, PySem.W.mg_none_of X G nn_isinstance, PySem.W.mg_none_of X G nn_ValueError, PySem.W.mg_none_of X G nn_LookupError, PySem.W.mg_none_of X G nn_RuntimeError⟩
    · intro i hi
      match i, hi with
      | 0, _ => exact xc_of x0
      | 1, _ => exact xc_of x1
      | 2, _ => exact xc_of x2
      | 3, _ => exact xc_of x3
      | 4, _ => exact xc_of x4
      | 5, _ => exact xc_of x5
      | 6, _ => exact xc_of x6
      | 7, _ => exact xc_of x7
      | 8, _ => exact xc_of x8
      | 9, _ => exact xc_of x9
      | 10, _ => exact xc_of x10
      | 11, _ => exact xc_of x11
      | 12, _ => exact xc_of x12
      | 13, _ => exact xc_of x13
      | 14, _ => exact xc_of x14
      | 15, _ => exact xc_of x15
      | n + 16, h => exact absurd h (by omega)
    · intro i hi h12
      match i, hi, h12 with
      | 12, _, _ => exact q12
      | 13, _, _ => exact q13
      | 14, _, _ => exact q14
      | 15, _, _ => exact q15
      | 0, _, h | 1, _, h | 2, _, h | 3, _, h | 4, _, h | 5, _, h | 6, _, h | 7, _, h | 8, _, h | 9, _, h | 10, _, h | 11, _, h => exact absurd h (by decide)
      | n + 16, h, _ => exact absurd h (by omega)
    · intro i hi
      match i, hi with
      | 0, _ => exact kt0
      | 1, _ => exact kt1
      | 2, _ => exact kt2
      | 3, _ => exact kt3
      | 4, _ => exact kt4
      | 5, _ => exact kt5
      | 6, _ => exact kt6
      | 7, _ => exact kt7
      | 8, _ => exact kt8
      | 9, _ => exact kt9
      | 10, _ => exact kt10
      | 11, _ => exact kt11
      | 12, _ => exact kt12
      | 13, _ => exact kt13
      | 14, _ => exact kt14
      | 15, _ => exact kt15
      | n + 16, h => exact absurd h (by omega)
  have Z16 : XD K mg "ChainError" C16 "ValueError.__init__" := ⟨PySem.W.mg_of X G c16, s16, r16, y16, z16⟩
  have Z17 : XD K mg "MissError" C17 "LookupError.__init__" := ⟨PySem.W.mg_of X G c17, s17, r17, y17, z17⟩
  have Z18 : XD K mg "CaseError" C18 "RuntimeError.__init__" := ⟨PySem.W.mg_of X G c18, s18, r18, y18, z18⟩
  refine ⟨PySem.W.fnOf "law" "law" (defArgs s_law) (defBody s_law) (defScope s_law) .none kV7 dc7 pm7 an7 cd7 ct7, fun s v => .of_eq rfl, fun base _ _ => ?_⟩
  have gM := ok_Lmixed (P := l.prog) (w := w) (mg := mg) (base := base) F0
  have gW := ok_Ldraw (P := l.prog) (w := w) (mg := mg) (base := base) F1
  have gD := ok_Ldigit (P := l.prog) (w := w) (base := base) F2 gM (PySem.W.mg_none_of X G nn_range) (PySem.W.mg_of X G a0) k0 b0
  have gR := ok_Lword (P := l.prog) (w := w) (base := base) F3 gD (PySem.W.mg_none_of X G nn_range) (PySem.W.mg_of X G a2) k2 b2
  have gK := ok_Lkinds (P := l.prog) (w := w) (base := base) F4 T
  let fx : Nat → Addr := fun i => [f100, f101, f102, f103, f104, f105, f106, f107, f108, f109, f110, f111].getD i 0
  let fdx : Nat → FuncData := fun i => match i with
    | 0 => PySem.W.fnOf "__init__" "BadRow.__init__" (defArgs s_BadRow) (defBody s_BadRow) (defScope s_BadRow) .none kV100 dc100 pm100 an100 cd100 ct100
    | 1 => PySem.W.fnOf "__init__" "BadPolynomial.__init__" (defArgs s_BadPolynomial) (defBody s_BadPolynomial) (defScope s_BadPolynomial) (.ref T1) kV101 dc101 pm101 an101 cd101 ct101
    | 2 => PySem.W.fnOf "__init__" "BadRanking.__init__" (defArgs s_BadRanking) (defBody s_BadRanking) (defScope s_BadRanking) (.ref T2) kV102 dc102 pm102 an102 cd102 ct102
    | 3 => PySem.W.fnOf "__init__" "BadChain.__init__" (defArgs s_BadChain) (defBody s_BadChain) (defScope s_BadChain) (.ref T3) kV103 dc103 pm103 an103 cd103 ct103
    | 4 => PySem.W.fnOf "__init__" "BadData.__init__" (defArgs s_BadData) (defBody s_BadData) (defScope s_BadData) (.ref T4) kV104 dc104 pm104 an104 cd104 ct104
    | 5 => PySem.W.fnOf "__init__" "BadJet.__init__" (defArgs s_BadJet) (defBody s_BadJet) (defScope s_BadJet) (.ref T5) kV105 dc105 pm105 an105 cd105 ct105
    | 6 => PySem.W.fnOf "__init__" "BadPaper.__init__" (defArgs s_BadPaper) (defBody s_BadPaper) (defScope s_BadPaper) (.ref T6) kV106 dc106 pm106 an106 cd106 ct106
    | 7 => PySem.W.fnOf "__init__" "NoUnknown.__init__" (defArgs s_NoUnknown) (defBody s_NoUnknown) (defScope s_NoUnknown) .none kV107 dc107 pm107 an107 cd107 ct107
    | 8 => PySem.W.fnOf "__init__" "NoEquation.__init__" (defArgs s_NoEquation) (defBody s_NoEquation) (defScope s_NoEquation) .none kV108 dc108 pm108 an108 cd108 ct108
    | 9 => PySem.W.fnOf "__init__" "NoCase.__init__" (defArgs s_NoCase) (defBody s_NoCase) (defScope s_NoCase) .none kV109 dc109 pm109 an109 cd109 ct109
    | 10 => PySem.W.fnOf "__init__" "Contradicted.__init__" (defArgs s_Contradicted) (defBody s_Contradicted) (defScope s_Contradicted) .none kV110 dc110 pm110 an110 cd110 ct110
    | 11 => PySem.W.fnOf "__init__" "Knotted.__init__" (defArgs s_Knotted) (defBody s_Knotted) (defScope s_Knotted) .none kV111 dc111 pm111 an111 cd111 ct111
    | _ => PySem.W.fnOf "__init__" "BadRow.__init__" (defArgs s_BadRow) (defBody s_BadRow) (defScope s_BadRow) .none kV100 dc100 pm100 an100 cd100 ct100
  have M : ∀ i, i < 12 → MkC l.prog w K mg base ((cxOfL [C0, C1, C2, C3, C4, C5, C6, C7, C8, C9, C10, C11, C12, C13, C14, C15, C16, C17, C18]) i) (fx i) (fdx i) (psI i) (spI (cxOfL [C0, C1, C2, C3, C4, C5, C6, C7, C8, C9, C10, C11, C12, C13, C14, C15, C16, C17, C18]) i) := by
    intro i hi
    match i, hi with
    | 0, _ => exact ⟨i0, t100, ok_BadRow F100 (xc_of x0) Z16 n0_row n0_word⟩
    | 1, _ => exact ⟨i1, t101, ok_BadPolynomial F101 (xc_of x1) Z16 n1_number⟩
    | 2, _ => exact ⟨i2, t102, ok_BadRanking F102 (xc_of x2) Z16 n2_place⟩
    | 3, _ => exact ⟨i3, t103, ok_BadChain F103 (xc_of x3) Z16 n3_place⟩
    | 4, _ => exact ⟨i4, t104, ok_BadData F104 (xc_of x4) Z16 n4_place⟩
    | 5, _ => exact ⟨i5, t105, ok_BadJet F105 (xc_of x5) Z16 n5_place⟩
    | 6, _ => exact ⟨i6, t106, ok_BadPaper F106 (xc_of x6) Z16 n6_place⟩
    | 7, _ => exact ⟨i7, t107, ok_NoUnknown F107 (xc_of x7) Z17 n7_name⟩
    | 8, _ => exact ⟨i8, t108, ok_NoEquation F108 (xc_of x8) Z17 n8_number⟩
    | 9, _ => exact ⟨i9, t109, ok_NoCase F109 (xc_of x9) Z17 n9_number⟩
    | 10, _ => exact ⟨i10, t110, ok_Contradicted F110 (xc_of x10) Z18 n10_number⟩
    | 11, _ => exact ⟨i11, t111, ok_Knotted F111 (xc_of x11) Z18 n11_number⟩
    | n + 12, h => exact absurd h (by omega)
  have gY := ok_Lby_hand F5 T M kP0 kP1 kP2 kP3 kP4 kP5 kP6 kP7 kP8 kP9 kP10 kP11 gK (PySem.W.mg_of X G a4) k4 b4
  have gZ := ok_Lleft_out F6 T M kZ1 kZ2 kZ3 kZ4 kZ5 kZ6 kK0 kK1 kK2 kK3 kK4 kK5 kK6 kK7 kK8 kK9 kK10 kK11
  exact ok_law F7 (PySem.W.mg_none_of X G nn_enumerate) (PySem.W.mg_none_of X G nn_sum) gW (PySem.W.mg_of X G a1) k1 b1 gD (PySem.W.mg_of X G a2) k2 b2 gR (PySem.W.mg_of X G a3) k3 b3 gY (PySem.W.mg_of X G a5) k5 b5 gZ (PySem.W.mg_of X G a6) k6 b6
theorem walk {l : PySem.W.OpenLaw} {q : Program} {loose : List Str} {XP : (Str → Option Value) → Heap → Prop} {YP : World → Heap → Prop} {d : DefRec} {K : Params → PySem.W.Frag} (hn : l.most = some 63) (hdf : d.params.defaults = [])
    (hY : ∀ (w : World) (h : Heap), YP w h → (K w.params).In h)
    (F : ∀ (w : World) (mg : Str → Option Value) (fa : Addr) (h : Heap), (K w.params).In h → h.Ns mainGlobals mg → mg d.name = some (.ref fa) →
      ∃ fd : FuncData, (∀ (s : Shared) (u : Value), BindsTo s fd ⟨[u], []⟩ [("_law_script", u)]) ∧ ∀ base : Heap, (K w.params).In base → base.Ns mainGlobals mg → FnOk l.prog w (K w.params) mg base CX0 5 fa fd ["_law_script"] (spLaw (K w.params))) :
    PySem.W.WalkO q loose XP YP l.row.toRowW d [] (fun f vs => PySem.call f vs) :=
  L2.walk_of (n := 63) (k := 5) (x := "_law_script") (CX := fun _ => CX0) (sp := fun w => spLaw (K w.params)) hn (by decide) hdf ⟨rfl, by decide, by decide⟩ hY F (fun _ _ a ns hl _ hS => ⟨a, ns, rfl, hS, hl, fun _ => rfl⟩) fun _ _ _ _ _ z => z
end K5
open PySem PySem.W PyProof.Rows
set_option maxRecDepth 100000 in
set_option maxHeartbeats 0 in
theorem PySem.Challenge.cw_rankedchains_k05_refusals_by_hand_holds : PySem.Challenge.rw_rankedchains_k05_refusals_by_hand.Holds := by
  w_on; o_law; k_head; (case hw => w_witness2)
  k_fill
  refine K5.walk (l := PySem.Challenge.rw_rankedchains_k05_refusals_by_hand) rfl rfl (fun w h Y => PySem.W.kIn_of Y) ?F
  case F =>
    intro w mg fa h KX G hmg
    refine' K5.all_mk KX G hmg ?c0 ?c1 ?c2 ?c3 ?c4 ?c5 ?c6 ?c7 ?c8 ?c9 ?c10 ?c11 ?c12 ?c13 ?c14 ?c15 ?c16 ?c17 ?c18 ?a0 ?l0 ?e0 ?k0 ?a1 ?l1 ?e1 ?k1 ?a2 ?l2 ?e2 ?k2 ?a3 ?l3 ?e3 ?k3 ?a4 ?l4 ?e4 ?k4 ?a5 ?l5 ?e5 ?k5 ?a6 ?l6 ?e6 ?k6 ?a7 ?l7 ?e7 ?k7 ?i0 ?l100 ?e100 ?k100 ?t100 ?n0_row ?n0_word ?i1 ?l101 ?e101 ?k101 ?t101 ?dt1 ?n1_number ?i2 ?l102 ?e102 ?k102 ?t102 ?dt2 ?n2_place ?i3 ?l103 ?e103 ?k103 ?t103 ?dt3 ?n3_place ?i4 ?l104 ?e104 ?k104 ?t104 ?dt4 ?n4_place ?i5 ?l105 ?e105 ?k105 ?t105 ?dt5 ?n5_place ?i6 ?l106 ?e106 ?k106 ?t106 ?dt6 ?n6_place ?i7 ?l107 ?e107 ?k107 ?t107 ?n7_name ?i8 ?l108 ?e108 ?k108 ?t108 ?n8_number ?i9 ?l109 ?e109 ?k109 ?t109 ?n9_number ?i10 ?l110 ?e110 ?k110 ?t110 ?n10_number ?i11 ?l111 ?e111 ?k111 ?t111 ?n11_number ?x0 ?x1 ?x2 ?x3 ?x4 ?x5 ?x6 ?x7 ?x8 ?x9 ?x10 ?x11 ?x12 ?q12 ?x13 ?q13 ?x14 ?q14 ?x15 ?q15 ?kt0 ?kt1 ?kt2 ?kt3 ?kt4 ?kt5 ?kt6 ?kt7 ?kt8 ?kt9 ?kt10 ?kt11 ?kt12 ?kt13 ?kt14 ?kt15 ?s16 ?r16 ?y16 ?z16 ?s17 ?r17 ?y17 ?z17 ?s18 ?r18 ?y18 ?z18 ?nn_isinstance ?nn_ValueError ?nn_LookupError ?nn_RuntimeError ?nn_range ?nn_enumerate ?nn_sum
    (case c0 => k_is)
    (case c1 => k_is)
    (case c2 => k_is)
    (case c3 => k_is)
    (case c4 => k_is)
    (case c5 => k_is)
    (case c6 => k_is)
    (case c7 => k_is)
    (case c8 => k_is)
    (case c9 => k_is)
    (case c10 => k_is)
    (case c11 => k_is)
    (case c12 => k_is)
    (case c13 => k_is)
    (case c14 => k_is)
    (case c15 => k_is)
    (case c16 => k_is)
    (case c17 => k_is)
    (case c18 => k_is)
    (case a0 => k_is)
    (case l0 => k_is)
    (case e0 => k_is)
    (case k0 => k_is)
    (case a1 => k_is)
    (case l1 => k_is)
    (case e1 => k_is)
    (case k1 => k_is)
    (case a2 => k_is)
    (case l2 => k_is)
    (case e2 => k_is)
    (case k2 => k_is)
    (case a3 => k_is)
    (case l3 => k_is)
    (case e3 => k_is)
    (case k3 => k_is)
    (case a4 => k_is)
    (case l4 => k_is)
    (case e4 => k_is)
    (case k4 => k_is)
    (case a5 => k_is)
    (case l5 => k_is)
    (case e5 => k_is)
    (case k5 => k_is)
    (case a6 => k_is)
    (case l6 => k_is)
    (case e6 => k_is)
    (case k6 => k_is)
    (case a7 => k_is)
    (case l7 => k_is)
    (case e7 => k_is)
    (case k7 => k_is)
    (case i0 => k_is)
    (case l100 => k_is)
    (case e100 => k_is)
    (case k100 => k_is)
    (case t100 => k_is)
    (case n0_row => k_is)
    (case n0_word => k_is)
    (case i1 => k_is)
    (case l101 => k_is)
    (case e101 => k_is)
    (case k101 => k_is)
    (case t101 => k_is)
    (case dt1 => k_is)
    (case n1_number => k_is)
    (case i2 => k_is)
    (case l102 => k_is)
    (case e102 => k_is)
    (case k102 => k_is)
    (case t102 => k_is)
    (case dt2 => k_is)
    (case n2_place => k_is)
    (case i3 => k_is)
    (case l103 => k_is)
    (case e103 => k_is)
    (case k103 => k_is)
    (case t103 => k_is)
    (case dt3 => k_is)
    (case n3_place => k_is)
    (case i4 => k_is)
    (case l104 => k_is)
    (case e104 => k_is)
    (case k104 => k_is)
    (case t104 => k_is)
    (case dt4 => k_is)
    (case n4_place => k_is)
    (case i5 => k_is)
    (case l105 => k_is)
    (case e105 => k_is)
    (case k105 => k_is)
    (case t105 => k_is)
    (case dt5 => k_is)
    (case n5_place => k_is)
    (case i6 => k_is)
    (case l106 => k_is)
    (case e106 => k_is)
    (case k106 => k_is)
    (case t106 => k_is)
    (case dt6 => k_is)
    (case n6_place => k_is)
    (case i7 => k_is)
    (case l107 => k_is)
    (case e107 => k_is)
    (case k107 => k_is)
    (case t107 => k_is)
    (case n7_name => k_is)
    (case i8 => k_is)
    (case l108 => k_is)
    (case e108 => k_is)
    (case k108 => k_is)
    (case t108 => k_is)
    (case n8_number => k_is)
    (case i9 => k_is)
    (case l109 => k_is)
    (case e109 => k_is)
    (case k109 => k_is)
    (case t109 => k_is)
    (case n9_number => k_is)
    (case i10 => k_is)
    (case l110 => k_is)
    (case e110 => k_is)
    (case k110 => k_is)
    (case t110 => k_is)
    (case n10_number => k_is)
    (case i11 => k_is)
    (case l111 => k_is)
    (case e111 => k_is)
    (case k111 => k_is)
    (case t111 => k_is)
    (case n11_number => k_is)
    (case x0 => kernel_rfl)
    (case x1 => kernel_rfl)
    (case x2 => kernel_rfl)
    (case x3 => kernel_rfl)
    (case x4 => kernel_rfl)
    (case x5 => kernel_rfl)
    (case x6 => kernel_rfl)
    (case x7 => kernel_rfl)
    (case x8 => kernel_rfl)
    (case x9 => kernel_rfl)
    (case x10 => kernel_rfl)
    (case x11 => kernel_rfl)
    (case x12 => kernel_rfl)
    (case q12 => first | k_exc | kernel_rfl)
    (case x13 => kernel_rfl)
    (case q13 => first | k_exc | kernel_rfl)
    (case x14 => kernel_rfl)
    (case q14 => first | k_exc | kernel_rfl)
    (case x15 => kernel_rfl)
    (case q15 => first | k_exc | kernel_rfl)
    (case kt0 => kernel_rfl)
    (case kt1 => kernel_rfl)
    (case kt2 => kernel_rfl)
    (case kt3 => kernel_rfl)
    (case kt4 => kernel_rfl)
    (case kt5 => kernel_rfl)
    (case kt6 => kernel_rfl)
    (case kt7 => kernel_rfl)
    (case kt8 => kernel_rfl)
    (case kt9 => kernel_rfl)
    (case kt10 => kernel_rfl)
    (case kt11 => kernel_rfl)
    (case kt12 => kernel_rfl)
    (case kt13 => kernel_rfl)
    (case kt14 => kernel_rfl)
    (case kt15 => kernel_rfl)
    (case s16 => k_is)
    (case r16 => k_is)
    (case y16 => k_is)
    (case z16 => decide +kernel)
    (case s17 => k_is)
    (case r17 => k_is)
    (case y17 => k_is)
    (case z17 => decide +kernel)
    (case s18 => k_is)
    (case r18 => k_is)
    (case y18 => k_is)
    (case z18 => decide +kernel)
    (case nn_isinstance => k_is)
    (case nn_ValueError => k_is)
    (case nn_LookupError => k_is)
    (case nn_RuntimeError => k_is)
    (case nn_range => k_is)
    (case nn_enumerate => k_is)
    (case nn_sum => k_is)
#print axioms PySem.Challenge.cw_rankedchains_k05_refusals_by_hand_holds

