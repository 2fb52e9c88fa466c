import Derived.Test.YtmildncbkndcoaaCmp
import Derived.Test.YtmildncbkndcoaaVal
namespace Amp
theorem rel_tr_iff {x : C4} : relB (tr x) = true ↔ relB x = true := by
  rw [rel_iff, rel_iff]; simp only [tr]; omega
theorem rel_trn_iff (n : Nat) {x : C4} : relB (trn n x) = true ↔ relB x = true := by
  induction n generalizing x with
  | zero => exact Iff.rfl
  | succ n ih => exact (ih (x := tr x)).trans rel_tr_iff
def sg (x : C4) : Int := sgS x.a x.b
theorem sg_tr {x : C4} (h : relB x = true) : sg (tr x) = sg x := by
  rw [rel_iff] at h
  obtain ⟨h1, h2⟩ := h
  unfold sg
  have e1 : (tr x).a = 2 * x.b := by simp only [tr]; omega
  have e2 : (tr x).b = x.a := by simp only [tr]; omega
  rw [e1, e2]
  unfold sgS
  have hz : (2 * x.b = 0 ∧ x.a = 0) ↔ (x.a = 0 ∧ x.b = 0) := by omega
  simp only [nn_r_iff, hz]
theorem sg_trn (n : Nat) {x : C4} (h : relB x = true) : sg (trn n x) = sg x := by
  induction n generalizing x with
  | zero => rfl
  | succ n ih => exact (ih (rel_tr h)).trans (sg_tr h)
def df (x y : C4) : C4 := add x (smul (-1) y)
theorem cmpS_zero {x y : Nm} {a : Int} (h : cmpS x y = (a, 0)) : vld x = true ∧ vld y = true ∧ relB x.v = true ∧ relB y.v = true ∧ a = sg (df (sc 40 x) (sc 40 y)) := by
  unfold cmpS at h
  split at h
  · next hv =>
    split at h
    · next hr =>
      rw [Bool.and_eq_true] at hv hr
      have k1 := vld_k hv.1
      have k2 := vld_k hv.2
      refine ⟨hv.1, hv.2, hr.1, hr.2, ?_⟩
      simp only [Prod.mk.injEq, and_true] at h
      have e := comb_sc 40 x y (-1) (by omega) (by omega)
      unfold df
      rw [← e, sg_trn _ (rel_comb hr.1 hr.2)]
      exact h.symm
    · simp at h
  · simp at h
theorem cmpS_make {x y : Nm} (hx : vld x = true) (hy : vld y = true) (rx : relB x.v = true) (ry : relB y.v = true) : cmpS x y = (sg (df (sc 40 x) (sc 40 y)), 0) := by
  have k1 := vld_k hx
  have k2 := vld_k hy
  have e := comb_sc 40 x y (-1) (by omega) (by omega)
  unfold cmpS df
  rw [hx, hy, rx, ry, ← e, sg_trn _ (rel_comb rx ry)]
  rfl
theorem sgS_vals (p q : Int) : sgS p q = -1 ∨ sgS p q = 0 ∨ sgS p q = 1 := by
  unfold sgS; split
  · split <;> omega
  · omega
theorem sgS_eq0 {p q : Int} : sgS p q = 0 ↔ p = 0 ∧ q = 0 := by
  constructor
  · intro h; unfold sgS at h; split at h
    · split at h
      · assumption
      · omega
    · omega
  · rintro ⟨rfl, rfl⟩; exact sgS_zero
theorem sgS_eq1 {p q : Int} : sgS p q = 1 ↔ nn p q ∧ ¬ (p = 0 ∧ q = 0) := by
  constructor
  · intro h; unfold sgS at h; split at h
    · next hn => split at h
                 · omega
                 · next h0 => exact ⟨hn, h0⟩
    · omega
  · rintro ⟨h, h0⟩; exact sgS_pos h h0
theorem sgS_neg' (p q : Int) : sgS (-p) (-q) = - sgS p q := by
  by_cases h0 : p = 0 ∧ q = 0
  · obtain ⟨rfl, rfl⟩ := h0; rw [show (-0 : Int) = 0 from rfl, sgS_zero]; rfl
  · have h0' : ¬ (-p = 0 ∧ -q = 0) := by omega
    by_cases h : nn p q
    · have h' : ¬ nn (-p) (-q) := fun g => h0 (nn_antisymm h g)
      rw [sgS_pos h h0, sgS_neg h']
    · have h' : nn (-p) (-q) := (nn_total p q).resolve_left h
      rw [sgS_neg h, sgS_pos h' h0']; rfl
theorem sgS_add1 {p q p' q' : Int} (h : sgS p q = 1) (g : sgS p' q' = 1) : sgS (p + p') (q + q') = 1 := by
  rw [sgS_eq1] at *
  refine ⟨nn_add h.1 g.1, fun e => ?_⟩
  have e1 : p' = -p := by omega
  have e2 : q' = -q := by omega
  have g1 := g.1
  rw [e1, e2] at g1
  exact h.2 (nn_antisymm h.1 g1)
theorem sgS_add {p q p' q' s : Int} (h : sgS p q = s) (g : sgS p' q' = s) : sgS (p + p') (q + q') = s := by
  rcases sgS_vals p q with h1 | h1 | h1
  · have h2 : sgS (-p) (-q) = 1 := by rw [sgS_neg', h1]; rfl
    have g2 : sgS (-p') (-q') = 1 := by rw [sgS_neg', g, ← h, h1]; rfl
    have e := sgS_add1 h2 g2
    rw [show -p + -p' = -(p + p') by omega, show -q + -q' = -(q + q') by omega, sgS_neg'] at e
    omega
  · have h2 := sgS_eq0.1 h1
    have g2 := (sgS_eq0 (p := p') (q := q')).1 (by omega)
    rw [← h, h1]
    exact sgS_eq0.2 (by omega)
  · rw [← h, h1]
    exact sgS_add1 h1 (by omega)
theorem rank_back {x y : Nm} {a : Int} (h : cmpS x y = (a, 0)) : cmpS y x = (-a, 0) := by
  obtain ⟨hx, hy, rx, ry, ha⟩ := cmpS_zero h
  rw [cmpS_make hy hx ry rx, ha]
  generalize sc 40 x = X
  generalize sc 40 y = Y
  have e : sg (df Y X) = sgS (-(df X Y).a) (-(df X Y).b) := by
    unfold sg df
    congr 1 <;> simp only [add, smul] <;> omega
  rw [e, sgS_neg']; rfl
theorem sc_rel {x : Nm} (h : relB x.v = true) (N : Nat) : relB (sc N x) = true := rel_trn _ h
theorem rank_eq {x y : Nm} {a : Int} (h : cmpS x y = (a, 0)) : a = 0 ↔ x = y := by
  obtain ⟨hx, hy, rx, ry, ha⟩ := cmpS_zero h
  have k1 := vld_k hx
  have k2 := vld_k hy
  have e1 := rel_iff.1 (sc_rel rx 40)
  have e2 := rel_iff.1 (sc_rel ry 40)
  constructor
  · intro h0
    apply vld_eq hx hy
    rw [eqv_iff 40 (by omega) (by omega)]
    show sc 40 x = sc 40 y
    rw [h0] at ha
    have hz := sgS_eq0.1 ha.symm
    simp only [df, add, smul] at hz
    apply C4.ext' <;> omega
  · rintro rfl
    rw [ha]
    apply sgS_eq0.2
    simp only [df, add, smul]
    omega
theorem rank_chain {x y z : Nm} {a b c : Int} (h1 : cmpS x y = (a, 0)) (h2 : cmpS y z = (b, 0)) (h3 : cmpS x z = (c, 0)) : (a = b → c = a) ∧ (a = 0 → c = b) ∧ (b = 0 → c = a) := by
  refine ⟨fun e => ?_, fun e => ?_, fun e => ?_⟩
  · obtain ⟨hx, hy, rx, ry, ha⟩ := cmpS_zero h1
    obtain ⟨_, hz, _, rz, hb⟩ := cmpS_zero h2
    obtain ⟨_, _, _, _, hc⟩ := cmpS_zero h3
    have := sgS_add (s := a) ha.symm (hb.symm.trans e.symm)
    rw [hc, ← this]
    unfold sg df
    congr 1 <;> simp only [add, smul] <;> omega
  · have := (rank_eq h1).1 e
    subst this
    rw [h2] at h3
    simp at h3; exact h3.symm
  · have := (rank_eq h2).1 e
    subst this
    rw [h1] at h3
    simp at h3; exact h3.symm
theorem add_rel {x y s : Nm} (h : addS x y = (s, 0)) (rx : relB x.v = true) (ry : relB y.v = true) : vld s = true ∧ relB s.v = true ∧ sc 40 s = add (sc 40 x) (sc 40 y) := by
  obtain ⟨hx, hy, hs, e⟩ := addS_zero h
  have k1 := vld_k hx
  have k2 := vld_k hy
  have k3 := vld_k hs
  have e40 := e 40 (by omega) (by omega) (by omega)
  refine ⟨hs, ?_, e40⟩
  have r1 := rel_iff.1 (sc_rel rx 40)
  have r2 := rel_iff.1 (sc_rel ry 40)
  rw [← rel_trn_iff (40 - s.k.toNat)]
  show relB (sc 40 s) = true
  rw [e40, rel_iff]
  simp only [add]
  omega
theorem rank_more {x y z p q : Nm} {a b : Int} (h1 : cmpS x y = (a, 0)) (h2 : cmpS y z = (b, 0)) (hp : addS x z = (p, 0)) (hq : addS y z = (q, 0)) : cmpS p q = (a, 0) := by
  obtain ⟨hx, hy, rx, ry, ha⟩ := cmpS_zero h1
  obtain ⟨_, hz, _, rz, hb⟩ := cmpS_zero h2
  obtain ⟨vp, rp, ep⟩ := add_rel hp rx rz
  obtain ⟨vq, rq, eq⟩ := add_rel hq ry rz
  rw [cmpS_make vp vq rp rq, ep, eq, ha]
  congr 1
  unfold sg df
  congr 1 <;> simp only [add, smul] <;> omega
end Amp
