import Derived.Test.YtkcbkcgampoclaaSpec
namespace Amp
def pw (p : Int) (x : C4) : C4 := ⟨x.a * p, x.b * p, x.c * p, x.d * p⟩
theorem trn_even (m : Nat) (x : C4) : trn (2 * m) x = pw (2 ^ m) x := by
  induction m with
  | zero => simp [trn, pw]
  | succ m ih =>
    rw [show 2 * (m + 1) = (2 * m) + 1 + 1 from by omega, trn_succ, trn_succ, ih, tr_tr]
    apply C4.ext' <;> simp only [dbl, pw, Int.pow_succ] <;> grind
theorem trn_odd (m : Nat) (x : C4) : trn (2 * m + 1) x = pw (2 ^ m) (tr x) := by
  rw [show trn (2 * m + 1) x = trn (2 * m) (tr x) from rfl, trn_even]
theorem pow2_bd (m : Nat) (h : m ≤ 20) : 1 ≤ (2 : Int) ^ m ∧ (2 : Int) ^ m ≤ 1048576 := by
  have h1 : (2 : Nat) ^ m ≤ 2 ^ 20 := Nat.pow_le_pow_right (by omega) h
  have h2 : 0 < (2 : Nat) ^ m := Nat.pow_pos (by omega)
  have h3 : (2 : Int) ^ m = ((2 ^ m : Nat) : Int) := by simp
  rw [h3]
  omega
theorem mul_bd {x p B : Int} (h : bg B x) (hp : 1 ≤ p ∧ p ≤ 1048576) : bg (B * 1048576) (x * p) := by
  unfold bg at *
  have hB : 0 ≤ B := by omega
  constructor
  · have h1 : -B * p ≤ x * p := Int.mul_le_mul_of_nonneg_right h.1 (by omega)
    have h2 : B * p ≤ B * 1048576 := Int.mul_le_mul_of_nonneg_left hp.2 hB
    rw [Int.neg_mul] at h1
    omega
  · have h1 : x * p ≤ B * p := Int.mul_le_mul_of_nonneg_right h.2 (by omega)
    have h2 : B * p ≤ B * 1048576 := Int.mul_le_mul_of_nonneg_left hp.2 hB
    omega
theorem tr_bd {x : C4} {B : Int} (h : big B x) : big (2 * B) (tr x) := by
  obtain ⟨⟨a1, a2⟩, ⟨b1, b2⟩, ⟨c1, c2⟩, ⟨d1, d2⟩⟩ := h
  refine ⟨⟨?_, ?_⟩, ⟨?_, ?_⟩, ⟨?_, ?_⟩, ⟨?_, ?_⟩⟩ <;> simp only [tr] <;> omega
theorem pw_bd {x : C4} {p B : Int} (h : big B x) (hp : 1 ≤ p ∧ p ≤ 1048576) : big (B * 1048576) (pw p x) :=
  ⟨mul_bd h.1 hp, mul_bd h.2.1 hp, mul_bd h.2.2.1 hp, mul_bd h.2.2.2 hp⟩
theorem big_mono {x : C4} {B C : Int} (h : big B x) (hb : B ≤ C) : big C x := by
  obtain ⟨⟨a1, a2⟩, ⟨b1, b2⟩, ⟨c1, c2⟩, ⟨d1, d2⟩⟩ := h
  exact ⟨⟨by omega, by omega⟩, ⟨by omega, by omega⟩, ⟨by omega, by omega⟩, ⟨by omega, by omega⟩⟩
theorem trn_bd {x : C4} {n : Nat} (h : big 1000000000 x) (hn : n ≤ 40) : big 2097152000000000 (trn n x) := by
  rcases Nat.mod_two_eq_zero_or_one n with e | e
  · obtain ⟨m, rfl⟩ : ∃ m, n = 2 * m := ⟨n / 2, by omega⟩
    rw [trn_even]
    exact big_mono (pw_bd h (pow2_bd m (by omega))) (by omega)
  · obtain ⟨m, rfl⟩ : ∃ m, n = 2 * m + 1 := ⟨n / 2, by omega⟩
    rw [trn_odd]
    exact big_mono (pw_bd (tr_bd h) (pow2_bd m (by omega))) (by omega)
def smul (s : Int) (x : C4) : C4 := ⟨s * x.a, s * x.b, s * x.c, s * x.d⟩
/-- x + s y, not reduced. -/
def comb (x y : Nm) (s : Int) : C4 × Nat :=
  (add (trn (max x.k.toNat y.k.toNat - x.k.toNat) x.v) (smul s (trn (max x.k.toNat y.k.toNat - y.k.toNat) y.v)), max x.k.toNat y.k.toNat)
theorem vld_sm {z : Nm} (h : vld z = true) : big 1000000000 z.v := by
  rw [vld, Bool.and_eq_true] at h
  exact (sm_iff _).1 h.1
theorem vld_k {z : Nm} (h : vld z = true) : 0 ≤ z.k ∧ z.k ≤ 40 := by
  simp [vld] at h
  omega
end Amp
