import Derived.Test.YtkcbkcgampoclaaMul
namespace Amp
/-- t is root 2 times q, rounded down. -/
def isRt (q t : Int) : Prop := 0 ≤ t ∧ t < 4611686018427387904 ∧ t * t ≤ 2 * (q * q) ∧ 2 * (q * q) < (t + 1) * (t + 1)
theorem pw_half (i : Nat) : 2 ^ (i + 1) / 2 = 2 ^ i := by rw [Nat.pow_succ]; omega
theorem pw_le {i : Nat} (h : i ≤ 61) : 2 ^ i ≤ 2305843009213693952 := by
  have := Nat.pow_le_pow_right (n := 2) (by omega) h
  simpa using this
/-- The state of the search: t is a multiple of 2^k, and the root lies from t on below t + 2^k. -/
def rtSt (N : Int) (k : Nat) (t b : Int) : Prop :=
  k ≤ 62 ∧ (∃ m : Nat, t = ((2 ^ k * m : Nat) : Int)) ∧ b = ((2 ^ k / 2 : Nat) : Int) ∧ t + ((2 ^ k : Nat) : Int) ≤ 4611686018427387904 ∧ t * t ≤ N ∧ N < (t + ((2 ^ k : Nat) : Int)) * (t + ((2 ^ k : Nat) : Int))
theorem rtSt_zero {N t b : Int} (h : rtSt N 0 t b) : b = 0 ∧ 0 ≤ t ∧ t < 4611686018427387904 ∧ t * t ≤ N ∧ N < (t + 1) * (t + 1) := by
  obtain ⟨_, ⟨m, hm⟩, hb, h1, h2, h3⟩ := h
  simp at hb hm h1 h3
  exact ⟨hb, by omega, by omega, h2, h3⟩
theorem rtSt_succ {N t b : Int} {i : Nat} (h : rtSt N (i + 1) t b) : 0 < b ∧ b ≤ 2305843009213693952 ∧ 0 ≤ t ∧ t + 2 * b ≤ 4611686018427387904 ∧ Go.bits .or .u64 t b = t + b ∧
    ((t + b) * (t + b) ≤ N → rtSt N i (t + b) (b / 2)) ∧ (N < (t + b) * (t + b) → rtSt N i t (b / 2)) := by
  obtain ⟨hk, ⟨m, hm⟩, hb, h1, h2, h3⟩ := h
  rw [pw_half] at hb
  have hp : (2 ^ (i + 1) : Nat) = 2 * 2 ^ i := by rw [Nat.pow_succ]; omega
  have hle := pw_le (i := i) (by omega)
  have hpos : 0 < 2 ^ i := Nat.two_pow_pos i
  have hor : Go.bits .or .u64 t b = t + b := by
    subst hm hb
    rw [Go.bits_or_u64_nat _ _ (by omega) (by omega), ← Nat.two_pow_add_eq_or_of_lt (by rw [hp]; omega)]
    omega
  have hsh : b / 2 = ((2 ^ i / 2 : Nat) : Int) := by subst hb; omega
  rw [hp] at h1 h3 hm
  have e3 : t + ((2 * 2 ^ i : Nat) : Int) = t + b + ((2 ^ i : Nat) : Int) := by subst hb; omega
  refine ⟨by omega, by omega, by omega, by omega, hor, fun hc => ⟨by omega, ⟨2 * m + 1, ?_⟩, hsh, by omega, hc, by rw [e3] at h3; exact h3⟩, fun hc => ⟨by omega, ⟨2 * m, ?_⟩, hsh, by omega, h2, by rw [hb] at hc; exact hc⟩⟩
  · rw [hm, hb]
    have : 2 ^ i * (2 * m + 1) = 2 * 2 ^ i * m + 2 ^ i := by grind
    omega
  · rw [hm]
    have : 2 ^ i * (2 * m) = 2 * 2 ^ i * m := by grind
    omega
end Amp
namespace Go.Proofs.Ytkcbkcgampoclaa
open Go.RowKit Amp

set_option maxHeartbeats 1000000 in
theorem rootTimes_any (q : Int) (w : World) (h0 : 0 ≤ q) (h1 : q ≤ 2305843009213693952) :
    Calls Try.prog 67 #[.int .i64 q] w fun e w' => ∃ t : Int, e = .returned (.int .i64 t) ∧ Hid (isRt q t) ∧ w' = w := by
  have hN : 2 * (q * q) ≤ 2 * (2305843009213693952 * 2305843009213693952) := by
    have := Int.mul_le_mul h1 h1 h0 (by omega)
    omega
  have hN0 : 0 ≤ q * q := Int.mul_nonneg h0 h0
  have HN := Lib.hid hN
  have HN0 := Lib.hid hN0
  clear hN hN0
  go_enter Try.func67, Try.ntmps67
  go_wp2_with fail
  refine (Mul64_any _ _ _ (by first | omega | (simp [IntKind.wrap_u64]; omega)) (by first | omega | (simp [IntKind.wrap_u64]; omega)) (by first | omega | (simp [IntKind.wrap_u64]; omega)) (by first | omega | (simp [IntKind.wrap_u64]; omega))).mono ?_
  rintro e w1 ⟨high, low, rfl, HM, rfl⟩
  have HM' := HM.out
  have e0 : q * (2 * q) = 2 * (q * q) := by grind
  rw [e0] at HM'
  go_wp2_with fail
  go_loopw [5, 6] (fun tv bv wr => ∃ (t b : Int) (k : Nat), tv = .int .u64 t ∧ bv = .int .u64 b ∧ Hid (rtSt (2 * (q * q)) k t b) ∧ wr = w1) (fun _ bv _ => (intOf bv).toNat)
  case atStart =>
    refine ⟨0, 2305843009213693952, 62, rfl, rfl, Lib.hid ⟨by omega, ⟨0, rfl⟩, by decide, by decide, ?_, ?_⟩, rfl⟩
    · have := HN0.out; omega
    · have := HN.out; have e : ((0 : Int) + ((2 ^ 62 : Nat) : Int)) * (0 + ((2 ^ 62 : Nat) : Int)) = 21267647932558653966460912964485513216 := by decide
      rw [e]; omega
  case round =>
    obtain ⟨t, b, k, rfl, rfl, HS, rfl⟩ := hrel
    cases k with
    | zero =>
      obtain ⟨rfl, b1, b2, b3, b4⟩ := rtSt_zero HS.out
      have HR : Hid (isRt q t) := Lib.hid ⟨b1, b2, b3, b4⟩
      clear HS b3 b4
      go_wp2_with fail
      go_returns
      exact ⟨t, by go_num, HR, rfl⟩
    | succ i =>
      obtain ⟨b1, b2, b3, b4, hor, hup, hdn⟩ := rtSt_succ HS.out
      have HO := Lib.hid hor
      have HU := Lib.hid hup
      have HD := Lib.hid hdn
      clear HS hor hup hdn
      go_wp2_with fail
      refine (Mul64_any _ _ _ (by rw [HO.out]; omega) (by rw [HO.out]; omega) (by rw [HO.out]; omega) (by rw [HO.out]; omega)).mono ?_
      rintro e w2 ⟨h, l, rfl, HP, rfl⟩
      have HP' := HP.out
      rw [HO.out] at HP'
      clear HP
      by_cases hc : (t + b) * (t + b) ≤ 2 * (q * q)
      · have HN2 := Lib.hid (HU.out hc)
        by_cases hlt : h < high
        · clear HP' HM' hc
          go_wp2_with fail
          go_roundw
          case rel => exact ⟨t + b, b / 2, i, by rw [HO.out], by go_num, HN2, by trivial⟩
          case measure => simp [intOf]; omega
        · have heq : h = high := by omega
          have hle : l ≤ low := by omega
          subst heq
          clear HP' HM' hc hlt
          go_wp2_with fail
          go_roundw
          case rel => exact ⟨t + b, b / 2, i, by rw [HO.out], by go_num, HN2, by trivial⟩
          case measure => simp [intOf]; omega
      · have HN2 := Lib.hid (HD.out (by omega))
        by_cases hgt : high < h
        · have hlt : ¬ h < high := by omega
          have hne : ¬ h = high := by omega
          clear HP' HM' hc
          go_wp2_with fail
          go_roundw
          case rel => exact ⟨t, b / 2, i, rfl, by go_num, HN2, by trivial⟩
          case measure => simp [intOf]; omega
        · have heq : h = high := by omega
          have hle : ¬ l ≤ low := by omega
          subst heq
          clear HP' HM' hc hgt
          go_wp2_with fail
          go_roundw
          case rel => exact ⟨t, b / 2, i, rfl, by go_num, HN2, by trivial⟩
          case measure => simp [intOf]; omega
end Go.Proofs.Ytkcbkcgampoclaa
