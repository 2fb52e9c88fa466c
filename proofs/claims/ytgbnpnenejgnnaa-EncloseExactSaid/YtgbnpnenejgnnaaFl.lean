import Derived.Test.YtgbnpnenejgnnaaE
import Derived.Shelf.Bits.Mul64
import Derived.Deep.RegionHeld3
namespace Amp

theorem sq_le {x y : Int} (hx : 0 ≤ x) (hy : 0 ≤ y) (h : x * x ≤ y * y) : x ≤ y := by
  apply Classical.byContradiction; intro hn
  have h1 : y < x := by omega
  have h2 : y * y ≤ y * x := Int.mul_le_mul_of_nonneg_left (by omega) hy
  have h3 : y * x < x * x := Int.mul_lt_mul_of_pos_right h1 (by omega)
  omega
theorem mul_self_mono {x y : Int} (hx : 0 ≤ x) (h : x ≤ y) : x * x ≤ y * y := Int.mul_le_mul h h hx (by omega)
theorem cross {x y u v : Int} (hx : 0 ≤ x) (hy : 0 ≤ y) (hu : 0 ≤ u) (hv : 0 ≤ v) (h1 : x * x ≤ 2 * (y * y)) (h2 : u * u ≤ 2 * (v * v)) : x * u ≤ 2 * (y * v) := by
  apply sq_le (Int.mul_nonneg hx hu) (Int.mul_nonneg (by omega) (Int.mul_nonneg hy hv))
  have := Int.mul_le_mul h1 h2 (Int.mul_nonneg hu hu) (by have := Int.mul_nonneg hy hy; omega)
  have e1 : x * u * (x * u) = x * x * (u * u) := by grind
  have e2 : 2 * (y * v) * (2 * (y * v)) = 2 * (y * y) * (2 * (v * v)) := by grind
  omega
theorem cross' {x y u v : Int} (hx : 0 ≤ x) (hy : 0 ≤ y) (hu : 0 ≤ u) (hv : 0 ≤ v) (h1 : 2 * (y * y) ≤ x * x) (h2 : 2 * (v * v) ≤ u * u) : 2 * (y * v) ≤ x * u := by
  apply sq_le (Int.mul_nonneg (by omega) (Int.mul_nonneg hy hv)) (Int.mul_nonneg hx hu)
  have := Int.mul_le_mul h1 h2 (by have := Int.mul_nonneg hv hv; omega) (Int.mul_nonneg hx hx)
  have e1 : x * u * (x * u) = x * x * (u * u) := by grind
  have e2 : 2 * (y * v) * (2 * (y * v)) = 2 * (y * y) * (2 * (v * v)) := by grind
  omega

/-- p + q r is not negative. -/
def nn (p q : Int) : Prop := (0 ≤ p ∧ 0 ≤ q) ∨ (0 ≤ p ∧ q ≤ 0 ∧ 2 * (q * q) ≤ p * p) ∨ (p ≤ 0 ∧ 0 ≤ q ∧ p * p ≤ 2 * (q * q))
instance (p q : Int) : Decidable (nn p q) := by unfold nn; infer_instance

theorem nn_addA {p q p' q' : Int} (h0 : 0 ≤ p) (h1 : 0 ≤ q) (g : nn p' q') : nn (p + p') (q + q') := by
  rcases g with ⟨g0, g1⟩ | ⟨g0, g1, g2⟩ | ⟨g0, g1, g2⟩
  · exact Or.inl ⟨by omega, by omega⟩
  · by_cases hQ : 0 ≤ q + q'
    · exact Or.inl ⟨by omega, hQ⟩
    · refine Or.inr (Or.inl ⟨by omega, by omega, ?_⟩)
      have a := mul_self_mono (x := -(q + q')) (y := -q') (by omega) (by omega)
      have b := mul_self_mono (x := p') (y := p + p') (by omega) (by omega)
      simp only [Int.neg_mul_neg] at a
      omega
  · by_cases hP : 0 ≤ p + p'
    · exact Or.inl ⟨hP, by omega⟩
    · refine Or.inr (Or.inr ⟨by omega, by omega, ?_⟩)
      have a := mul_self_mono (x := -(p + p')) (y := -p') (by omega) (by omega)
      have b := mul_self_mono (x := q') (y := q + q') (by omega) (by omega)
      simp only [Int.neg_mul_neg] at a
      omega
theorem nn_addBC {p q p' q' : Int} (h0 : 0 ≤ p) (h1 : q ≤ 0) (h2 : 2 * (q * q) ≤ p * p) (g0 : p' ≤ 0) (g1 : 0 ≤ q') (g2 : p' * p' ≤ 2 * (q' * q')) : nn (p + p') (q + q') := by
  by_cases hP : 0 ≤ p + p'
  · by_cases hQ : 0 ≤ q + q'
    · exact Or.inl ⟨hP, hQ⟩
    · refine Or.inr (Or.inl ⟨by omega, by omega, ?_⟩)
      apply Classical.byContradiction; intro hn
      have c := cross (x := p + p') (y := -(q + q')) (u := -p') (v := q') hP (by omega) (by omega) g1 (by simp only [Int.neg_mul_neg]; omega) (by simp only [Int.neg_mul_neg]; omega)
      have e1 : p * p = (p + p') * (p + p') + 2 * ((p + p') * -p') + p' * p' := by grind
      have e2 : q * q = (q + q') * (q + q') + 2 * (-(q + q') * q') + q' * q' := by grind
      omega
  · by_cases hQ : 0 ≤ q + q'
    · refine Or.inr (Or.inr ⟨by omega, by omega, ?_⟩)
      apply Classical.byContradiction; intro hn
      have c := cross' (x := -(p + p')) (y := q + q') (u := p) (v := -q) (by omega) hQ h0 (by omega) (by simp only [Int.neg_mul_neg]; omega) (by simp only [Int.neg_mul_neg]; omega)
      have e1 : p' * p' = (p + p') * (p + p') + 2 * (-(p + p') * p) + p * p := by grind
      have e2 : q' * q' = (q + q') * (q + q') + 2 * ((q + q') * -q) + q * q := by grind
      omega
    · exfalso
      have a := mul_self_mono (x := p) (y := -p' - 1) h0 (by omega)
      have b := mul_self_mono (x := q') (y := -q) g1 (by omega)
      simp only [Int.neg_mul_neg] at b
      have e : (-p' - 1) * (-p' - 1) = p' * p' + 2 * p' + 1 := by grind
      omega
theorem nn_add {p q p' q' : Int} (h : nn p q) (g : nn p' q') : nn (p + p') (q + q') := by
  rcases h with ⟨h0, h1⟩ | ⟨h0, h1, h2⟩ | ⟨h0, h1, h2⟩
  · exact nn_addA h0 h1 g
  · rcases g with ⟨g0, g1⟩ | ⟨g0, g1, g2⟩ | ⟨g0, g1, g2⟩
    · rw [Int.add_comm p, Int.add_comm q]
      exact nn_addA g0 g1 (Or.inr (Or.inl ⟨h0, h1, h2⟩))
    · refine Or.inr (Or.inl ⟨by omega, by omega, ?_⟩)
      have c := cross' (x := p) (y := -q) (u := p') (v := -q') h0 (by omega) g0 (by omega) (by simp only [Int.neg_mul_neg]; omega) (by simp only [Int.neg_mul_neg]; omega)
      simp only [Int.neg_mul_neg] at c
      have e1 : (p + p') * (p + p') = p * p + 2 * (p * p') + p' * p' := by grind
      have e2 : (q + q') * (q + q') = q * q + 2 * (q * q') + q' * q' := by grind
      omega
    · exact nn_addBC h0 h1 h2 g0 g1 g2
  · rcases g with ⟨g0, g1⟩ | ⟨g0, g1, g2⟩ | ⟨g0, g1, g2⟩
    · rw [Int.add_comm p, Int.add_comm q]
      exact nn_addA g0 g1 (Or.inr (Or.inr ⟨h0, h1, h2⟩))
    · rw [Int.add_comm p, Int.add_comm q]
      exact nn_addBC g0 g1 g2 h0 h1 h2
    · refine Or.inr (Or.inr ⟨by omega, by omega, ?_⟩)
      have c := cross (x := -p) (y := q) (u := -p') (v := q') (by omega) h1 (by omega) g1 (by simp only [Int.neg_mul_neg]; omega) (by simp only [Int.neg_mul_neg]; omega)
      simp only [Int.neg_mul_neg] at c
      have e1 : (p + p') * (p + p') = p * p + 2 * (p * p') + p' * p' := by grind
      have e2 : (q + q') * (q + q') = q * q + 2 * (q * q') + q' * q' := by grind
      omega
theorem nn_total (p q : Int) : nn p q ∨ nn (-p) (-q) := by
  unfold nn
  simp only [Int.neg_mul_neg]
  omega
/-- The root of 2 is not rational. -/
theorem irr (n : Nat) : ∀ x y : Nat, y ≤ n → x * x = 2 * (y * y) → y = 0 := by
  induction n with
  | zero => intro x y h _; omega
  | succ n ih =>
    intro x y hy h
    apply Classical.byContradiction; intro hy0
    have hx2 : x % 2 = 0 := by
      have h1 : (x * x) % 2 = 0 := by omega
      rcases Nat.mod_two_eq_zero_or_one x with h2 | h2
      · exact h2
      · rw [Nat.mul_mod, h2] at h1; simp at h1
    obtain ⟨k, hk⟩ : ∃ k, x = 2 * k := ⟨x / 2, by omega⟩
    subst hk
    have h1 : y * y = 2 * (k * k) := by
      have : 2 * k * (2 * k) = 4 * (k * k) := by grind
      omega
    have hk0 : k = 0 := ih y k (by
      apply Classical.byContradiction; intro hk
      have h2 : y ≤ k := by omega
      have h3 := Nat.mul_le_mul h2 h2
      have h4 : 0 < k * k := Nat.mul_pos (by omega) (by omega)
      omega) h1
    subst hk0
    have : 0 < y * y := Nat.mul_pos (by omega) (by omega)
    omega
theorem irrI {x y : Int} (h : x * x = 2 * (y * y)) : x = 0 ∧ y = 0 := by
  have h1 : x.natAbs * x.natAbs = 2 * (y.natAbs * y.natAbs) := by
    have a := Int.natAbs_mul_self (a := x)
    have b := Int.natAbs_mul_self (a := y)
    omega
  have h2 := irr _ _ _ (Nat.le_refl _) h1
  rw [h2] at h1
  have h3 : x.natAbs = 0 := by
    rcases Nat.eq_zero_or_pos x.natAbs with h | h
    · exact h
    · have := Nat.mul_pos h h; omega
  omega
theorem nn_antisymm {p q : Int} (h : nn p q) (g : nn (-p) (-q)) : p = 0 ∧ q = 0 := by
  unfold nn at h g
  simp only [Int.neg_mul_neg] at g
  by_cases e : p * p = 2 * (q * q)
  · exact irrI e
  · rcases h with ⟨h0, h1⟩ | ⟨h0, h1, h2⟩ | ⟨h0, h1, h2⟩ <;> rcases g with ⟨g0, g1⟩ | ⟨g0, g1, g2⟩ | ⟨g0, g1, g2⟩ <;> (try (exact ⟨by omega, by omega⟩)) <;> (try (exfalso; omega))
    · have hp : p = 0 := by omega
      subst hp; exfalso
      have := Int.mul_nonneg (a := q) (b := q) 
      have : 0 ≤ q * q := by rw [← Int.neg_mul_neg]; exact Int.mul_nonneg (by omega) (by omega)
      omega
    · have hq : q = 0 := by omega
      subst hq; exfalso
      have : 0 ≤ p * p := Int.mul_nonneg (by omega) (by omega)
      omega
    · have hp : p = 0 := by omega
      subst hp; exfalso
      have : 0 ≤ q * q := by rw [← Int.neg_mul_neg]; exact Int.mul_nonneg (by omega) (by omega)
      omega
    · have hq : q = 0 := by omega
      subst hq; exfalso
      have : 0 ≤ p * p := by rw [← Int.neg_mul_neg]; exact Int.mul_nonneg (by omega) (by omega)
      omega
theorem nn_r {p q : Int} (h : nn p q) : nn (2 * q) p := by
  rcases h with ⟨h0, h1⟩ | ⟨h0, h1, h2⟩ | ⟨h0, h1, h2⟩
  · exact Or.inl ⟨by omega, h0⟩
  · refine Or.inr (Or.inr ⟨by omega, h0, ?_⟩)
    have e : 2 * q * (2 * q) = 4 * (q * q) := by grind
    omega
  · refine Or.inr (Or.inl ⟨by omega, h0, ?_⟩)
    have e : 2 * q * (2 * q) = 4 * (q * q) := by grind
    omega
theorem nn_dbl {p q : Int} (h : nn (2 * p) (2 * q)) : nn p q := by
  have e1 : 2 * p * (2 * p) = 4 * (p * p) := by grind
  have e2 : 2 * q * (2 * q) = 4 * (q * q) := by grind
  unfold nn at *
  omega
theorem nn_r_iff {p q : Int} : nn (2 * q) p ↔ nn p q := ⟨fun h => nn_dbl (nn_r h), nn_r⟩
end Amp

namespace Go.Proofs.Ytgbnpnenejgnnaa
open Go.RowKit Amp

set_option maxHeartbeats 1000000 in
theorem Mul64A_nat (x y : Nat) (hx : x < 18446744073709551616) (hy : y < 18446744073709551616) (w : World) :
    Calls Try.prog 138 #[.int .u64 x, .int .u64 y] w fun e w' => e = .returned (.tuple #[.int .u64 ((x * y / 18446744073709551616 : Nat) : Int), .int .u64 ((x * y % 18446744073709551616 : Nat) : Int)]) ∧ w' = w := by
  obtain ⟨bd, bt, bw, hhi⟩ := Lib.mul64_hi x y hx hy
  have ba := Lib.half_mul_le (a := x / 4294967296) (b := y / 4294967296) (by omega) (by omega)
  have bb := Lib.half_mul_le (a := x / 4294967296) (b := y % 4294967296) (by omega) (by omega)
  have bc := Lib.half_mul_le (a := x % 4294967296) (b := y / 4294967296) (by omega) (by omega)
  have ba' : x / 4294967296 * (y / 4294967296) < 18446744073709551616 := by omega
  have bb' : x / 4294967296 * (y % 4294967296) < 18446744073709551616 := by omega
  have bc' : x % 4294967296 * (y / 4294967296) < 18446744073709551616 := by omega
  have bh1 : x / 4294967296 * (y / 4294967296) + (x / 4294967296 * (y % 4294967296) + x % 4294967296 * (y % 4294967296) / 4294967296) / 4294967296 < 18446744073709551616 := by omega
  have bh : x / 4294967296 * (y / 4294967296) + (x / 4294967296 * (y % 4294967296) + x % 4294967296 * (y % 4294967296) / 4294967296) / 4294967296 + ((x / 4294967296 * (y % 4294967296) + x % 4294967296 * (y % 4294967296) / 4294967296) % 4294967296 + x % 4294967296 * (y / 4294967296)) / 4294967296 < 18446744073709551616 := by omega
  go_enter Try.func138, Try.ntmps138
  go_wp2
  simp only [Mul64.maskN x hx, Mul64.maskN y hy, Mul64.divN, Mul64.mulN, Mul64.addN, Mul64.wrapN _ bd, Mul64.wrapN _ bb', Mul64.wrapN _ bt, Mul64.maskN _ bt, Mul64.wrapN _ bc', Mul64.wrapN _ bw, Mul64.wrapN _ ba', Mul64.wrapN _ bh1, Mul64.wrapN _ bh, Mul64.wrapM (x * y)]
  rw [hhi]
  go_ret2
  exact ⟨rfl, rfl⟩

/-- The two words of a product, over Int. -/
theorem Mul64A_any (x y : Int) (w : World) (h0 : 0 ≤ x) (h1 : x < 18446744073709551616) (h2 : 0 ≤ y) (h3 : y < 18446744073709551616) :
    Calls Try.prog 138 #[.int .u64 x, .int .u64 y] w fun e w' => ∃ h l : Int, e = .returned (.tuple #[.int .u64 h, .int .u64 l]) ∧ Hid (x * y = h * 18446744073709551616 + l ∧ 0 ≤ l ∧ l < 18446744073709551616 ∧ 0 ≤ h ∧ h < 18446744073709551616) ∧ w' = w := by
  obtain ⟨a, rfl⟩ : ∃ a : Nat, x = a := ⟨x.toNat, by omega⟩
  obtain ⟨b, rfl⟩ : ∃ b : Nat, y = b := ⟨y.toNat, by omega⟩
  refine (Mul64A_nat a b (by omega) (by omega) w).mono ?_
  rintro e w' ⟨rfl, rfl⟩
  refine ⟨_, _, rfl, Lib.hid ?_, rfl⟩
  have hb : a * b < 18446744073709551616 * 18446744073709551616 := Nat.mul_lt_mul'' (by omega) (by omega)
  have e : (a : Int) * (b : Int) = ((a * b : Nat) : Int) := (Int.natCast_mul a b).symm
  rw [e]
  generalize a * b = n at *
  omega
end Go.Proofs.Ytgbnpnenejgnnaa

namespace Amp
/-- t is root 2 times q, rounded down. -/
def isRt (q t : Int) : Prop := 0 ≤ t ∧ t < 4611686018427387904 ∧ t * t ≤ 2 * (q * q) ∧ 2 * (q * q) < (t + 1) * (t + 1)
theorem pw_half (i : Nat) : 2 ^ (i + 1) / 2 = 2 ^ i := by rw [Nat.pow_succ]; omega
theorem pw_le {i : Nat} (h : i ≤ 61) : 2 ^ i ≤ 2305843009213693952 := by
  have := Nat.pow_le_pow_right (n := 2) (by omega) h
  simpa using this
/-- The state of the search: t is a multiple of 2^k, and the root lies from t on below t + 2^k. -/
def rtSt (N : Int) (k : Nat) (t b : Int) : Prop :=
  k ≤ 62 ∧ (∃ m : Nat, t = ((2 ^ k * m : Nat) : Int)) ∧ b = ((2 ^ k / 2 : Nat) : Int) ∧ t + ((2 ^ k : Nat) : Int) ≤ 4611686018427387904 ∧ t * t ≤ N ∧ N < (t + ((2 ^ k : Nat) : Int)) * (t + ((2 ^ k : Nat) : Int))
theorem rtSt_zero {N t b : Int} (h : rtSt N 0 t b) : b = 0 ∧ 0 ≤ t ∧ t < 4611686018427387904 ∧ t * t ≤ N ∧ N < (t + 1) * (t + 1) := by
  obtain ⟨_, ⟨m, hm⟩, hb, h1, h2, h3⟩ := h
  simp at hb hm h1 h3
  exact ⟨hb, by omega, by omega, h2, h3⟩
theorem rtSt_succ {N t b : Int} {i : Nat} (h : rtSt N (i + 1) t b) : 0 < b ∧ b ≤ 2305843009213693952 ∧ 0 ≤ t ∧ t + 2 * b ≤ 4611686018427387904 ∧ Go.bits .or .u64 t b = t + b ∧
    ((t + b) * (t + b) ≤ N → rtSt N i (t + b) (b / 2)) ∧ (N < (t + b) * (t + b) → rtSt N i t (b / 2)) := by
  obtain ⟨hk, ⟨m, hm⟩, hb, h1, h2, h3⟩ := h
  rw [pw_half] at hb
  have hp : (2 ^ (i + 1) : Nat) = 2 * 2 ^ i := by rw [Nat.pow_succ]; omega
  have hle := pw_le (i := i) (by omega)
  have hpos : 0 < 2 ^ i := Nat.two_pow_pos i
  have hor : Go.bits .or .u64 t b = t + b := by
    subst hm hb
    rw [Go.bits_or_u64_nat _ _ (by omega) (by omega), ← Nat.two_pow_add_eq_or_of_lt (by rw [hp]; omega)]
    omega
  have hsh : b / 2 = ((2 ^ i / 2 : Nat) : Int) := by subst hb; omega
  rw [hp] at h1 h3 hm
  have e3 : t + ((2 * 2 ^ i : Nat) : Int) = t + b + ((2 ^ i : Nat) : Int) := by subst hb; omega
  refine ⟨by omega, by omega, by omega, by omega, hor, fun hc => ⟨by omega, ⟨2 * m + 1, ?_⟩, hsh, by omega, hc, by rw [e3] at h3; exact h3⟩, fun hc => ⟨by omega, ⟨2 * m, ?_⟩, hsh, by omega, h2, by rw [hb] at hc; exact hc⟩⟩
  · rw [hm, hb]
    have : 2 ^ i * (2 * m + 1) = 2 * 2 ^ i * m + 2 ^ i := by grind
    omega
  · rw [hm]
    have : 2 ^ i * (2 * m) = 2 * 2 ^ i * m := by grind
    omega
end Amp
namespace Go.Proofs.Ytgbnpnenejgnnaa
open Go.RowKit Amp

set_option maxHeartbeats 1000000 in
theorem rootTimes_any (q : Int) (w : World) (h0 : 0 ≤ q) (h1 : q ≤ 2305843009213693952) :
    Calls Try.prog 165 #[.int .i64 q] w fun e w' => ∃ t : Int, e = .returned (.int .i64 t) ∧ Hid (isRt q t) ∧ w' = w := by
  have hN : 2 * (q * q) ≤ 2 * (2305843009213693952 * 2305843009213693952) := by
    have := Int.mul_le_mul h1 h1 h0 (by omega)
    omega
  have hN0 : 0 ≤ q * q := Int.mul_nonneg h0 h0
  have HN := Lib.hid hN
  have HN0 := Lib.hid hN0
  clear hN hN0
  go_enter Try.func165, Try.ntmps165
  go_wp2_with fail
  refine (Mul64A_any _ _ _ (by first | omega | (simp [IntKind.wrap_u64]; omega)) (by first | omega | (simp [IntKind.wrap_u64]; omega)) (by first | omega | (simp [IntKind.wrap_u64]; omega)) (by first | omega | (simp [IntKind.wrap_u64]; omega))).mono ?_
  rintro e w1 ⟨high, low, rfl, HM, rfl⟩
  have HM' := HM.out
  have e0 : q * (2 * q) = 2 * (q * q) := by grind
  rw [e0] at HM'
  go_wp2_with fail
  go_loopw [5, 6] (fun tv bv wr => ∃ (t b : Int) (k : Nat), tv = .int .u64 t ∧ bv = .int .u64 b ∧ Hid (rtSt (2 * (q * q)) k t b) ∧ wr = w1) (fun _ bv _ => (intOf bv).toNat)
  case atStart =>
    refine ⟨0, 2305843009213693952, 62, rfl, rfl, Lib.hid ⟨by omega, ⟨0, rfl⟩, by decide, by decide, ?_, ?_⟩, rfl⟩
    · have := HN0.out; omega
    · have := HN.out; have e : ((0 : Int) + ((2 ^ 62 : Nat) : Int)) * (0 + ((2 ^ 62 : Nat) : Int)) = 21267647932558653966460912964485513216 := by decide
      rw [e]; omega
  case round =>
    obtain ⟨t, b, k, rfl, rfl, HS, rfl⟩ := hrel
    cases k with
    | zero =>
      obtain ⟨rfl, b1, b2, b3, b4⟩ := rtSt_zero HS.out
      have HR : Hid (isRt q t) := Lib.hid ⟨b1, b2, b3, b4⟩
      clear HS b3 b4
      go_wp2_with fail
      go_returns
      exact ⟨t, by go_num, HR, rfl⟩
    | succ i =>
      obtain ⟨b1, b2, b3, b4, hor, hup, hdn⟩ := rtSt_succ HS.out
      have HO := Lib.hid hor
      have HU := Lib.hid hup
      have HD := Lib.hid hdn
      clear HS hor hup hdn
      go_wp2_with fail
      refine (Mul64A_any _ _ _ (by rw [HO.out]; omega) (by rw [HO.out]; omega) (by rw [HO.out]; omega) (by rw [HO.out]; omega)).mono ?_
      rintro e w2 ⟨h, l, rfl, HP, rfl⟩
      have HP' := HP.out
      rw [HO.out] at HP'
      clear HP
      by_cases hc : (t + b) * (t + b) ≤ 2 * (q * q)
      · have HN2 := Lib.hid (HU.out hc)
        by_cases hlt : h < high
        · clear HP' HM' hc
          go_wp2_with fail
          go_roundw
          case rel => exact ⟨t + b, b / 2, i, by rw [HO.out], by go_num, HN2, by trivial⟩
          case measure => simp [intOf]; omega
        · have heq : h = high := by omega
          have hle : l ≤ low := by omega
          subst heq
          clear HP' HM' hc hlt
          go_wp2_with fail
          go_roundw
          case rel => exact ⟨t + b, b / 2, i, by rw [HO.out], by go_num, HN2, by trivial⟩
          case measure => simp [intOf]; omega
      · have HN2 := Lib.hid (HD.out (by omega))
        by_cases hgt : high < h
        · have hlt : ¬ h < high := by omega
          have hne : ¬ h = high := by omega
          clear HP' HM' hc
          go_wp2_with fail
          go_roundw
          case rel => exact ⟨t, b / 2, i, rfl, by go_num, HN2, by trivial⟩
          case measure => simp [intOf]; omega
        · have heq : h = high := by omega
          have hle : ¬ l ≤ low := by omega
          subst heq
          clear HP' HM' hc hgt
          go_wp2_with fail
          go_roundw
          case rel => exact ⟨t, b / 2, i, rfl, by go_num, HN2, by trivial⟩
          case measure => simp [intOf]; omega
end Go.Proofs.Ytgbnpnenejgnnaa

namespace Go.Proofs.Ytgbnpnenejgnnaa
open Go.RowKit Amp
attribute [local go_sem] ix0 ix1 ix2 ix3 jx0 jx1 jx2 jx3
attribute [local go_sem high] run_eqNum run_neNum

theorem keep15 {w0 wc w' : World} {sz n1 n2 n3 : Nat} {a1 a2 a3 a4 a5 b1 b2 b3 b4 b5 c1 c2 c3 c4 c5 : Int} (hb : Below wc.heap.size wc w') (hn1 : n1 < sz) (hn2 : n2 < sz) (hn3 : n3 < sz) (h0 : w0.heap.size ≤ sz)
    (h : (wc.cell? ⟨n1, 0, none⟩ = some (.int .i64 a1) ∧ wc.cell? ⟨n1, 1, none⟩ = some (.int .i64 a2) ∧ wc.cell? ⟨n1, 2, none⟩ = some (.int .i64 a3) ∧ wc.cell? ⟨n1, 3, none⟩ = some (.int .i64 a4) ∧ wc.cell? ⟨n1, 4, none⟩ = some (.int .i64 a5)) ∧ (wc.cell? ⟨n2, 0, none⟩ = some (.int .i64 b1) ∧ wc.cell? ⟨n2, 1, none⟩ = some (.int .i64 b2) ∧ wc.cell? ⟨n2, 2, none⟩ = some (.int .i64 b3) ∧ wc.cell? ⟨n2, 3, none⟩ = some (.int .i64 b4) ∧ wc.cell? ⟨n2, 4, none⟩ = some (.int .i64 b5)) ∧ (wc.cell? ⟨n3, 0, none⟩ = some (.int .i64 c1) ∧ wc.cell? ⟨n3, 1, none⟩ = some (.int .i64 c2) ∧ wc.cell? ⟨n3, 2, none⟩ = some (.int .i64 c3) ∧ wc.cell? ⟨n3, 3, none⟩ = some (.int .i64 c4) ∧ wc.cell? ⟨n3, 4, none⟩ = some (.int .i64 c5)) ∧ Below w0.heap.size w0 wc ∧ sz ≤ wc.heap.size) : (w'.cell? ⟨n1, 0, none⟩ = some (.int .i64 a1) ∧ w'.cell? ⟨n1, 1, none⟩ = some (.int .i64 a2) ∧ w'.cell? ⟨n1, 2, none⟩ = some (.int .i64 a3) ∧ w'.cell? ⟨n1, 3, none⟩ = some (.int .i64 a4) ∧ w'.cell? ⟨n1, 4, none⟩ = some (.int .i64 a5)) ∧ (w'.cell? ⟨n2, 0, none⟩ = some (.int .i64 b1) ∧ w'.cell? ⟨n2, 1, none⟩ = some (.int .i64 b2) ∧ w'.cell? ⟨n2, 2, none⟩ = some (.int .i64 b3) ∧ w'.cell? ⟨n2, 3, none⟩ = some (.int .i64 b4) ∧ w'.cell? ⟨n2, 4, none⟩ = some (.int .i64 b5)) ∧ (w'.cell? ⟨n3, 0, none⟩ = some (.int .i64 c1) ∧ w'.cell? ⟨n3, 1, none⟩ = some (.int .i64 c2) ∧ w'.cell? ⟨n3, 2, none⟩ = some (.int .i64 c3) ∧ w'.cell? ⟨n3, 3, none⟩ = some (.int .i64 c4) ∧ w'.cell? ⟨n3, 4, none⟩ = some (.int .i64 c5)) ∧ Below w0.heap.size w0 w' ∧ sz ≤ w'.heap.size := by
  obtain ⟨h1, h2, h3, h4, h5⟩ := h
  obtain ⟨k1, _⟩ := bcell hb
  have e1 := fun o => k1 n1 o (by omega)
  have e2 := fun o => k1 n2 o (by omega)
  have e3 := fun o => k1 n3 o (by omega)
  have := hb.size
  exact ⟨by simpa only [e1] using h1, by simpa only [e2] using h2, by simpa only [e3] using h3, h4.trans (hb.mono (by omega)), by omega⟩
theorem res5 (m : Nm × Int) : ∃ x y z u v er, Hid (m = (⟨⟨x, y, z, u⟩, v⟩, er)) := by
  obtain ⟨⟨⟨x, y, z, u⟩, v⟩, er⟩ := m
  exact ⟨x, y, z, u, v, er, rfl⟩
end Go.Proofs.Ytgbnpnenejgnnaa

namespace Amp
def relB (x : C4) : Bool := x.b == -x.d && (x.c == -x.c && x.d == -x.b)
def realS (z : Nm) : Bool × Int := if vld z = true then (relB z.v, 0) else (false, 10)
end Amp
namespace Go.Proofs.Ytgbnpnenejgnnaa
open Go.RowKit Amp
attribute [local go_sem] ix0 ix1 ix2 ix3 jx0 jx1 jx2 jx3
theorem run_eqArr (a0 a1 a2 a3 b0 b1 b2 b3 : Int) (w : World) :
    (binOp .eql 139 (.agg #[.int .i64 a0, .int .i64 a1, .int .i64 a2, .int .i64 a3]) (.agg #[.int .i64 b0, .int .i64 b1, .int .i64 b2, .int .i64 b3])).run Try.prog w = .ok (.bool (a0 == b0 && (a1 == b1 && (a2 == b2 && a3 == b3)))) w := by
  rw [run_eql_struct, show (10000 : Nat) = 9998 + 2 from rfl, run_equalIn_arr4 w 9998 a0 a1 a2 a3 b0 b1 b2 b3 Try.underlying139 Try.underlying3 (fun w => by kernel_rfl)]
  rfl
theorem run_eqArr22 (a0 a1 a2 a3 b0 b1 b2 b3 : Int) (w : World) :
    (binOp .eql 67 (.agg #[.int .i64 a0, .int .i64 a1, .int .i64 a2, .int .i64 a3]) (.agg #[.int .i64 b0, .int .i64 b1, .int .i64 b2, .int .i64 b3])).run Try.prog w = .ok (.bool (a0 == b0 && (a1 == b1 && (a2 == b2 && a3 == b3)))) w := by
  rw [run_eql_struct, show (10000 : Nat) = 9998 + 2 from rfl, run_equalIn_arr4 w 9998 a0 a1 a2 a3 b0 b1 b2 b3 Try.underlying67 Try.underlying3 (fun w => by kernel_rfl)]
  rfl
attribute [local go_sem high] run_eqNum run_neNum run_eqArr run_eqArr22
end Go.Proofs.Ytgbnpnenejgnnaa

namespace Amp
/-- f is p + q r, rounded down. -/
def isFl (p q f : Int) : Prop := nn (p - f) q ∧ ¬ nn (p - f - 1) q
theorem nn_int {n : Int} (h : 0 ≤ n) : nn n 0 := Or.inl ⟨h, Int.le_refl _⟩
theorem isFl_neg {p q f : Int} (h : isFl p q f) : f < 0 ↔ ¬ nn p q := by
  constructor
  · intro hf hn
    apply h.2
    have := nn_add hn (nn_int (n := -f - 1) (by omega))
    rw [show p + (-f - 1) = p - f - 1 by omega, Int.add_zero] at this
    exact this
  · intro hn
    apply Classical.byContradiction
    intro hf
    apply hn
    have := nn_add h.1 (nn_int (n := f) (by omega))
    rw [show p - f + f = p by omega, Int.add_zero] at this
    exact this
theorem fl_pos {p q t : Int} (hq : 0 ≤ q) (h : isRt q t) : isFl p q (p + t) := by
  obtain ⟨h0, _, h1, h2⟩ := h
  have e1 : p - (p + t) = -t := by omega
  have e2 : p - (p + t) - 1 = -(t + 1) := by omega
  unfold isFl nn
  rw [e2, e1]
  simp only [Int.neg_mul_neg]
  refine ⟨Or.inr (Or.inr ⟨by omega, hq, h1⟩), ?_⟩
  omega
theorem fl_neg {p q t : Int} (hq : q < 0) (h : isRt (-q) t) : isFl p q (p - t - 1) := by
  obtain ⟨h0, _, h1, h2⟩ := h
  simp only [Int.neg_mul_neg] at h1 h2
  have e1 : p - (p - t - 1) = t + 1 := by omega
  have e2 : p - (p - t - 1) - 1 = t := by omega
  unfold isFl
  rw [e2, e1]
  refine ⟨Or.inr (Or.inl ⟨by omega, by omega, by omega⟩), ?_⟩
  intro hn
  rcases hn with ⟨_, hb⟩ | ⟨_, _, hc⟩ | ⟨_, hb, _⟩
  · omega
  · have := (irrI (x := t) (y := q) (by omega)).2
    omega
  · omega
/-- The sign of p + q r. -/
def sgS (p q : Int) : Int := if nn p q then (if p = 0 ∧ q = 0 then 0 else 1) else -1
theorem sgS_zero : sgS 0 0 = 0 := by unfold sgS; rw [if_pos (nn_int (Int.le_refl 0)), if_pos ⟨rfl, rfl⟩]
theorem sgS_neg {p q : Int} (h : ¬ nn p q) : sgS p q = -1 := by unfold sgS; rw [if_neg h]
theorem sgS_pos {p q : Int} (h : nn p q) (h0 : ¬ (p = 0 ∧ q = 0)) : sgS p q = 1 := by unfold sgS; rw [if_pos h, if_neg h0]
end Amp
namespace Go.Proofs.Ytgbnpnenejgnnaa
open Go.RowKit Amp
attribute [local go_sem] ix0 ix1 ix2 ix3 jx0 jx1 jx2 jx3
attribute [local go_sem high] run_eqNum run_neNum run_eqArr run_eqArr22

set_option maxHeartbeats 1000000 in
theorem floor_any (p q : Int) (w : World) (hp : -2305843009213693952 ≤ p ∧ p ≤ 2305843009213693952) (hq : -2305843009213693952 ≤ q ∧ q ≤ 2305843009213693952) :
    Calls Try.prog 159 #[.int .i64 p, .int .i64 q] w fun e w' => ∃ f : Int, e = .returned (.int .i64 f) ∧ Hid (isFl p q f) ∧ w' = w := by
  obtain ⟨p0, p1⟩ := hp
  obtain ⟨q0, q1⟩ := hq
  go_enter Try.func159, Try.ntmps159
  by_cases hq : q < 0
  · go_wp2_with fail
    refine (rootTimes_any _ _ (by first | omega | (simp; omega)) (by first | omega | (simp; omega))).mono ?_
    rintro e w1 ⟨t, rfl, HT, rfl⟩
    have b := HT.out.1
    have b2 := HT.out.2.1
    have HF := Lib.hid (fl_neg (p := p) hq HT.out)
    clear HT
    go_wp2_with fail
    go_returns
    exact ⟨p - t - 1, by go_num, HF, by trivial⟩
  · go_wp2_with fail
    refine (rootTimes_any _ _ (by omega) (by omega)).mono ?_
    rintro e w1 ⟨t, rfl, HT, rfl⟩
    have b := HT.out.1
    have b2 := HT.out.2.1
    have HF := Lib.hid (fl_pos (p := p) (by omega) HT.out)
    clear HT
    go_wp2_with fail
    go_returns
    exact ⟨p + t, by go_num, HF, by trivial⟩

end Go.Proofs.Ytgbnpnenejgnnaa
