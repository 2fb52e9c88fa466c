import Derived.Test.YtmildncbkndcoaaRkm
import Derived.Test.YtmildncbkndcoaaMirm
namespace Amp
def pP (x : C4) : Int := x.a * x.a + x.b * x.b + x.c * x.c + x.d * x.d
def pQ (x : C4) : Int := x.a * x.b - x.a * x.d + x.b * x.c + x.c * x.d
theorem mul_conj (x : C4) : mul x (conj x) = ⟨pP x, pQ x, 0, -pQ x⟩ := by
  apply C4.ext' <;> simp only [mul, conj, pP, pQ] <;> grind
theorem sq_nn (x : Int) : 0 ≤ x * x := by
  rcases Int.le_total 0 x with h | h
  · exact Int.mul_nonneg h h
  · rw [← Int.neg_mul_neg]; exact Int.mul_nonneg (by omega) (by omega)
/-- A square is not negative. -/
theorem nn_sq (m n : Int) : nn (m * m + 2 * (n * n)) (2 * (m * n)) := by
  have h1 := sq_nn m
  have h2 := sq_nn n
  by_cases h : 0 ≤ m * n
  · exact Or.inl ⟨by omega, by omega⟩
  · refine Or.inr (Or.inl ⟨by omega, by omega, ?_⟩)
    have h3 := sq_nn (m * m - 2 * (n * n))
    have e : (m * m + 2 * (n * n)) * (m * m + 2 * (n * n)) = (m * m - 2 * (n * n)) * (m * m - 2 * (n * n)) + 2 * (2 * (m * n) * (2 * (m * n))) := by grind
    omega
theorem pw_nn (x : C4) : nn (pP x) (pQ x) := by
  apply nn_dbl
  have h := nn_add (nn_sq (x.b - x.d) x.a) (nn_sq (x.b + x.d) x.c)
  have e1 : (x.b - x.d) * (x.b - x.d) + 2 * (x.a * x.a) + ((x.b + x.d) * (x.b + x.d) + 2 * (x.c * x.c)) = 2 * pP x := by unfold pP; grind
  have e2 : 2 * ((x.b - x.d) * x.a) + 2 * ((x.b + x.d) * x.c) = 2 * pQ x := by unfold pQ; grind
  rw [e1, e2] at h
  exact h
theorem pw_nn' (x : C4) : nn (pP x) (-pQ x) := by
  apply nn_dbl
  have h := nn_add (nn_sq (x.b - x.d) (-x.a)) (nn_sq (x.b + x.d) (-x.c))
  have e1 : (x.b - x.d) * (x.b - x.d) + 2 * (-x.a * -x.a) + ((x.b + x.d) * (x.b + x.d) + 2 * (-x.c * -x.c)) = 2 * pP x := by unfold pP; grind
  have e2 : 2 * ((x.b - x.d) * -x.a) + 2 * ((x.b + x.d) * -x.c) = 2 * -pQ x := by unfold pQ; grind
  rw [e1, e2] at h
  exact h
theorem pP_zero {x : C4} (h : pP x = 0) : x = C0 := by
  have h1 := sq_nn x.a
  have h2 := sq_nn x.b
  have h3 := sq_nn x.c
  have h4 := sq_nn x.d
  unfold pP at h
  have z : ∀ y : Int, y * y = 0 → y = 0 := fun y hy => (Int.mul_eq_zero.mp hy).elim id id
  apply C4.ext'
  · exact z _ (by omega)
  · exact z _ (by omega)
  · exact z _ (by omega)
  · exact z _ (by omega)
theorem vld_C0 {z : Nm} (h : vld z = true) (h0 : z.v = C0) : z = N0 := by
  obtain ⟨v, k⟩ := z
  simp only at h0
  subst h0
  rw [vld, Bool.and_eq_true] at h
  have h2 := h.2
  have hd : dvb C0 = true := by decide
  simp [hd] at h2
  simp only [N0]
  rw [h2]
theorem powS_zero {x p : Nm} (h : powS x = (p, 0)) : vld x = true ∧ vld p = true ∧ trn (2 * x.k.toNat) p.v = trn p.k.toNat (mul x.v (conj x.v)) := by
  unfold powS at h
  split at h
  · next hv =>
    obtain ⟨h1, h2⟩ := made_zero h
    have k1 := vld_k hv
    refine ⟨hv, h1, ?_⟩
    unfold eqv at h2
    rw [show (2 * x.k).toNat = 2 * x.k.toNat by omega] at h2
    exact h2
  · simp at h
theorem rel_pw (x : C4) : relB (mul x (conj x)) = true := by rw [rel_iff, mul_conj]; exact ⟨rfl, rfl⟩
theorem pow_rel {x p : Nm} (h : powS x = (p, 0)) : relB p.v = true ∧ sg p.v = sgS (pP x.v) (pQ x.v) := by
  obtain ⟨hx, hp, e⟩ := powS_zero h
  have r : relB p.v = true := by
    rw [← rel_trn_iff (2 * x.k.toNat), e]
    exact rel_trn _ (rel_pw _)
  refine ⟨r, ?_⟩
  rw [← sg_trn (2 * x.k.toNat) r, e, sg_trn _ (rel_pw _), mul_conj]
  rfl
theorem rel_flp {x : C4} (h : relB x = true) : relB (flp x) = true := by
  rw [rel_iff] at *; simp only [flp]; omega
theorem rel_neg {x : C4} (h : relB x = true) : relB (neg x) = true := by
  rw [rel_iff] at *; simp only [neg]; omega
theorem rel_flip {x : C4} {k : Int} (h : relB x = true) : relB (flipV x k) = true := by
  unfold flipV; split
  · exact rel_neg (rel_flp h)
  · exact rel_flp h
theorem pow_flip {x p : Nm} (h : powS x = (p, 0)) : sg (flipV p.v p.k) = sgS (pP x.v) (-pQ x.v) := by
  obtain ⟨hx, hp, e⟩ := powS_zero h
  obtain ⟨r, _⟩ := pow_rel h
  have k3 := vld_k hp
  have e1 := congrArg flp e
  rw [flp_trn, flp_trn, if_neg (by omega)] at e1
  have key : trn (2 * x.k.toNat) (flipV p.v p.k) = trn p.k.toNat (flp (mul x.v (conj x.v))) := by
    unfold flipV
    by_cases a3 : p.k % 2 = 1
    · rw [if_pos a3, trn_neg, e1, if_pos (by omega), neg_neg]
    · rw [if_neg a3, e1, if_neg (by omega)]
  rw [← sg_trn (2 * x.k.toNat) (rel_flip r), key, sg_trn _ (rel_flp (rel_pw _)), mul_conj]
  rfl
theorem trn_C0 (n : Nat) : trn n C0 = C0 := by
  induction n with
  | zero => rfl
  | succ n ih => rw [trn_succ, ih]; rfl
theorem vld_N0 : vld N0 = true := by decide
theorem rel_N0 : relB N0.v = true := by decide
theorem sign_of {z : Nm} (h : vld z = true) (r : relB z.v = true) : cmpS z N0 = (sg z.v, 0) := by
  rw [cmpS_make h vld_N0 r rel_N0]
  have e : df (sc 40 z) (sc 40 N0) = sc 40 z := by
    have e0 : sc 40 N0 = C0 := trn_C0 _
    rw [e0]
    apply C4.ext' <;> simp [df, add, smul, C0]
  rw [e]
  unfold sc
  rw [sg_trn _ r]
theorem sgS_nn {p q : Int} (h : nn p q) : 0 ≤ sgS p q := by
  unfold sgS; rw [if_pos h]; split <;> omega
/-- What AmpPowers asks of a power. -/
theorem powers_a {x p : Nm} (h : powS x = (p, 0)) : ∃ n, cmpS p N0 = (n, 0) ∧ 0 ≤ n ∧ (n = 0 ↔ x = N0) := by
  obtain ⟨hx, hp, e⟩ := powS_zero h
  obtain ⟨r, hs⟩ := pow_rel h
  refine ⟨_, sign_of hp r, ?_, ?_⟩
  · rw [hs]; exact sgS_nn (pw_nn _)
  · rw [hs, sgS_eq0]
    constructor
    · intro h0; exact vld_C0 hx (pP_zero h0.1)
    · rintro rfl; decide
theorem powers_b {x p : Nm} (h : powS x = (p, 0)) : ∃ m, chgS p (fun v => flipV v p.k) = (⟨flipV p.v p.k, p.k⟩, 0) ∧ cmpS ⟨flipV p.v p.k, p.k⟩ N0 = (m, 0) ∧ 0 ≤ m := by
  obtain ⟨hx, hp, e⟩ := powS_zero h
  obtain ⟨r, hs⟩ := pow_rel h
  refine ⟨_, chg_ok (g := fun v => flipV v p.k) hp (vld_flip hp), sign_of (vld_flip hp) (rel_flip r), ?_⟩
  show 0 ≤ sg (flipV p.v p.k)
  rw [pow_flip h]
  exact sgS_nn (pw_nn' _)
theorem pow_sc {x p : Nm} (h : powS x = (p, 0)) (N : Nat) (hx : x.k.toNat ≤ N) (hp : p.k.toNat ≤ N + N) : sc (N + N) p = mul (sc N x) (conj (sc N x)) := by
  obtain ⟨_, _, e⟩ := powS_zero h
  have e2 : eqv p.v p.k.toNat (mul x.v (conj x.v)) (2 * x.k.toNat) := e
  rw [eqv_iff (N + N) hp (by omega)] at e2
  unfold sc
  rw [e2, conj_trn, ← trn_mul, ← trn_mul', ← trn_add]
  congr 1; omega
theorem powers_c {x y z p r l t : Nm} (hp : powS x = (p, 0)) (hr : powS y = (r, 0)) (hz : mulS x y = (z, 0)) (hl : powS z = (l, 0)) (ht : mulS p r = (t, 0)) : l = t := by
  obtain ⟨hx, vp, _⟩ := powS_zero hp
  obtain ⟨hy, vr, _⟩ := powS_zero hr
  obtain ⟨_, vl, _⟩ := powS_zero hl
  obtain ⟨_, _, vz, h1⟩ := mulS_zero hz
  obtain ⟨_, _, vt, h2⟩ := mulS_zero ht
  have k1 := vld_k hx
  have k2 := vld_k hy
  have k3 := vld_k vz
  have k4 := vld_k vp
  have k5 := vld_k vr
  have k6 := vld_k vl
  have k7 := vld_k vt
  apply vld_eq vl vt
  rw [eqv_iff (40 + 40 + (40 + 40)) (by omega) (by omega)]
  show sc (40 + 40 + (40 + 40)) l = sc (40 + 40 + (40 + 40)) t
  rw [pow_sc hl (40 + 40) (by omega) (by omega), h2 (40 + 40) (by omega) (by omega) (by omega), pow_sc hp 40 (by omega) (by omega), pow_sc hr 40 (by omega) (by omega), h1 40 (by omega) (by omega) (by omega), conj_mul]
  generalize sc 40 x = X
  generalize sc 40 y = Y
  rw [mul_assoc, ← mul_assoc Y, mul_comm Y (conj X), mul_assoc (conj X), ← mul_assoc]
end Amp
