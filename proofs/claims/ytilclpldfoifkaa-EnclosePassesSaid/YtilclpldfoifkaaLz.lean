import Derived.Test.YtilclpldfoifkaaEa
import Derived.Shelf.Bits.Mul64
import Derived.Lib.BitFns
import Derived.Lib.Strings
import Derived.Lib.Slices
import Derived.Lib.Small
import Derived.Lib.Walk
namespace Go.Proofs.Ytilclpldfoifkaa
open Go.RowKit Encl

set_option maxHeartbeats 1000000 in
theorem Mul64_nat (x y : Nat) (hx : x < 18446744073709551616) (hy : y < 18446744073709551616) (w : World) :
    Calls Try.prog 116 #[.int .u64 x, .int .u64 y] w fun e w' => e = .returned (.tuple #[.int .u64 ((x * y / 18446744073709551616 : Nat) : Int), .int .u64 ((x * y % 18446744073709551616 : Nat) : Int)]) ∧ w' = w := by
  obtain ⟨bd, bt, bw, hhi⟩ := Lib.mul64_hi x y hx hy
  have ba := Lib.half_mul_le (a := x / 4294967296) (b := y / 4294967296) (by omega) (by omega)
  have bb := Lib.half_mul_le (a := x / 4294967296) (b := y % 4294967296) (by omega) (by omega)
  have bc := Lib.half_mul_le (a := x % 4294967296) (b := y / 4294967296) (by omega) (by omega)
  have ba' : x / 4294967296 * (y / 4294967296) < 18446744073709551616 := by omega
  have bb' : x / 4294967296 * (y % 4294967296) < 18446744073709551616 := by omega
  have bc' : x % 4294967296 * (y / 4294967296) < 18446744073709551616 := by omega
  have bh1 : x / 4294967296 * (y / 4294967296) + (x / 4294967296 * (y % 4294967296) + x % 4294967296 * (y % 4294967296) / 4294967296) / 4294967296 < 18446744073709551616 := by omega
  have bh : x / 4294967296 * (y / 4294967296) + (x / 4294967296 * (y % 4294967296) + x % 4294967296 * (y % 4294967296) / 4294967296) / 4294967296 + ((x / 4294967296 * (y % 4294967296) + x % 4294967296 * (y % 4294967296) / 4294967296) % 4294967296 + x % 4294967296 * (y / 4294967296)) / 4294967296 < 18446744073709551616 := by omega
  go_enter Try.func116, Try.ntmps116
  go_wp2
  simp only [Mul64.maskN x hx, Mul64.maskN y hy, Mul64.divN, Mul64.mulN, Mul64.addN, Mul64.wrapN _ bd, Mul64.wrapN _ bb', Mul64.wrapN _ bt, Mul64.maskN _ bt, Mul64.wrapN _ bc', Mul64.wrapN _ bw, Mul64.wrapN _ ba', Mul64.wrapN _ bh1, Mul64.wrapN _ bh, Mul64.wrapM (x * y)]
  rw [hhi]
  go_ret2
  exact ⟨rfl, rfl⟩

/-- The two words of a product, over Int. -/
theorem Mul64_any (x y : Int) (w : World) (h0 : 0 ≤ x) (h1 : x < 18446744073709551616) (h2 : 0 ≤ y) (h3 : y < 18446744073709551616) :
    Calls Try.prog 116 #[.int .u64 x, .int .u64 y] w fun e w' => ∃ h l : Int, e = .returned (.tuple #[.int .u64 h, .int .u64 l]) ∧ Hid (x * y = h * 18446744073709551616 + l ∧ 0 ≤ l ∧ l < 18446744073709551616 ∧ 0 ≤ h ∧ h < 18446744073709551616) ∧ w' = w := by
  obtain ⟨a, rfl⟩ : ∃ a : Nat, x = a := ⟨x.toNat, by omega⟩
  obtain ⟨b, rfl⟩ : ∃ b : Nat, y = b := ⟨y.toNat, by omega⟩
  refine (Mul64_nat a b (by omega) (by omega) w).mono ?_
  rintro e w' ⟨rfl, rfl⟩
  refine ⟨_, _, rfl, Lib.hid ?_, rfl⟩
  have hb : a * b < 18446744073709551616 * 18446744073709551616 := Nat.mul_lt_mul'' (by omega) (by omega)
  have e : (a : Int) * (b : Int) = ((a * b : Nat) : Int) := (Int.natCast_mul a b).symm
  rw [e]
  generalize a * b = n at *
  omega

theorem bl_spec : ∀ (k x : Nat), x ≠ 0 → x < 2 ^ k → k ≤ 64 → 1 ≤ Lib.bitLen x ∧ 2 ^ (Lib.bitLen x - 1) ≤ x ∧ x < 2 ^ (Lib.bitLen x) := by
  intro k
  induction k with
  | zero => intro x h0 h1; simp at h1; omega
  | succ k ih =>
    intro x h0 h1 hk
    have h64 : x < 2 ^ 64 := Nat.lt_of_lt_of_le h1 (Nat.pow_le_pow_right (by omega) hk)
    rw [Lib.bitLen_half x h0 h64]
    by_cases h2 : x / 2 = 0
    · have e : x = 1 := by omega
      subst e
      decide
    · obtain ⟨a, b, c⟩ := ih (x / 2) h2 (by rw [Nat.pow_succ] at h1; omega) (by omega)
      generalize Lib.bitLen (x / 2) = m at *
      obtain ⟨m, rfl⟩ : ∃ n, m = n + 1 := ⟨m - 1, by omega⟩
      rw [show 1 + (m + 1) - 1 = m + 1 by omega, show 1 + (m + 1) = m + 1 + 1 by omega, Nat.pow_succ 2 (m + 1)]
      simp only [Nat.add_sub_cancel] at b
      rw [Nat.pow_succ] at *
      omega

set_option maxRecDepth 100000 in
theorem tab_size : (Lib.len8tab.size : Int) = 256 := by
  have : Lib.len8tab.size = 256 := by decide
  omega
theorem tab_get (y : Int) (h : y.toNat < Lib.len8tab.size) (h0 : 0 ≤ y) (h1 : y ≤ 255) : ((Lib.len8tab[y.toNat]'h).toNat : Int) = (Lib.bitLen y.toNat : Int) := by
  rw [← Lib.len8_of y h0 h1]
  unfold Lib.len8
  rw [getElem?_pos Lib.len8tab y.toNat h]
  rfl
theorem wr2 (k a b : Nat) (hk : k ≤ 56) (ha : a ≤ 8) (hb : b = k + a) : wrap64 ((k : Int) + wrap64 (a : Int)) = (b : Int) := by
  unfold wrap64; omega
theorem wr1 (a : Nat) (ha : a ≤ 8) : wrap64 (wrap64 (a : Int)) = (a : Int) := by unfold wrap64; omega

set_option maxRecDepth 100000 in
set_option maxHeartbeats 4000000 in
theorem Len64_any (x : Int) (w : World) (h0 : 0 ≤ x) (h1 : x ≤ 18446744073709551615) :
    Calls Try.prog 133 #[.int .u64 x] w fun e w' => e = .returned (.int .i64 (Lib.bitLen x.toNat)) ∧ w' = w := by
  go_enter Try.func133, Try.ntmps133
  go_wp2
  all_goals first
    | (go_ret; refine ⟨congrArg Ending.returned (congrArg (Value.int IntKind.i64) ?_), rfl⟩)
    | (exfalso; have hs := tab_size; omega)
  all_goals first
    | (rw [tab_get (x / 4294967296 / 65536 / 256) _ (by omega) (by omega)]
       have l := Lib.bitLen_le8' (x / 4294967296 / 65536 / 256) (by omega) (by omega)
       have e : (x / 4294967296 / 65536 / 256).toNat = x.toNat / 72057594037927936 := by omega
       have s := Lib.bitLen_shift56 x.toNat (by omega) (by omega)
       rw [e] at l ⊢
       exact wr2 56 _ _ (by decide) l s)
    | (rw [tab_get (x / 4294967296 / 65536) _ (by omega) (by omega)]
       have l := Lib.bitLen_le8' (x / 4294967296 / 65536) (by omega) (by omega)
       have e : (x / 4294967296 / 65536).toNat = x.toNat / 281474976710656 := by omega
       have s := Lib.bitLen_shift48 x.toNat (by omega) (by omega)
       rw [e] at l ⊢
       exact wr2 48 _ _ (by decide) l s)
    | (rw [tab_get (x / 4294967296 / 256) _ (by omega) (by omega)]
       have l := Lib.bitLen_le8' (x / 4294967296 / 256) (by omega) (by omega)
       have e : (x / 4294967296 / 256).toNat = x.toNat / 1099511627776 := by omega
       have s := Lib.bitLen_shift40 x.toNat (by omega) (by omega)
       rw [e] at l ⊢
       exact wr2 40 _ _ (by decide) l s)
    | (rw [tab_get (x / 65536 / 256) _ (by omega) (by omega)]
       have l := Lib.bitLen_le8' (x / 65536 / 256) (by omega) (by omega)
       have e : (x / 65536 / 256).toNat = x.toNat / 16777216 := by omega
       have s := Lib.bitLen_shift24 x.toNat (by omega) (by omega)
       rw [e] at l ⊢
       exact wr2 24 _ _ (by decide) l s)
    | (rw [tab_get (x / 4294967296) _ (by omega) (by omega)]
       have l := Lib.bitLen_le8' (x / 4294967296) (by omega) (by omega)
       have e : (x / 4294967296).toNat = x.toNat / 4294967296 := by omega
       have s := Lib.bitLen_shift32 x.toNat (by omega) (by omega)
       rw [e] at l ⊢
       exact wr2 32 _ _ (by decide) l s)
    | (rw [tab_get (x / 65536) _ (by omega) (by omega)]
       have l := Lib.bitLen_le8' (x / 65536) (by omega) (by omega)
       have e : (x / 65536).toNat = x.toNat / 65536 := by omega
       have s := Lib.bitLen_shift16 x.toNat (by omega) (by omega)
       rw [e] at l ⊢
       exact wr2 16 _ _ (by decide) l s)
    | (rw [tab_get (x / 256) _ (by omega) (by omega)]
       have l := Lib.bitLen_le8' (x / 256) (by omega) (by omega)
       have e : (x / 256).toNat = x.toNat / 256 := by omega
       have s := Lib.bitLen_shift8 x.toNat (by omega) (by omega)
       rw [e] at l ⊢
       exact wr2 8 _ _ (by decide) l s)
    | (rw [tab_get (x) _ (by omega) (by omega)]
       have l := Lib.bitLen_le8' (x) (by omega) (by omega)
       exact wr1 _ l)

theorem LeadingZeros64_any (x : Int) (w : World) (h0 : 0 < x) (h1 : x ≤ 18446744073709551615) :
    Calls Try.prog 131 #[.int .u64 x] w fun e w' => ∃ s : Nat, e = .returned (.int .i64 s) ∧ Hid (s ≤ 63 ∧ 9223372036854775808 ≤ x * ((2 ^ s : Nat) : Int) ∧ x * ((2 ^ s : Nat) : Int) < 18446744073709551616) ∧ w' = w := by
  obtain ⟨m, hm⟩ : ∃ m, Lib.bitLen x.toNat = m := ⟨_, rfl⟩
  have hs := bl_spec 64 x.toNat (by omega) (by simp; omega) (by omega)
  rw [hm] at hs
  have h64 : m ≤ 64 := by rw [← hm]; exact Lib.bitLen_le _ 64 (by omega) (by simp; omega)
  have HR : Hid ((64 - m) ≤ 63 ∧ 9223372036854775808 ≤ x * ((2 ^ (64 - m) : Nat) : Int) ∧ x * ((2 ^ (64 - m) : Nat) : Int) < 18446744073709551616) := Lib.hid (by
    refine ⟨by omega, ?_, ?_⟩
    · have e : (9223372036854775808 : Nat) = 2 ^ (m - 1) * 2 ^ (64 - m) := by rw [← Nat.pow_add, show m - 1 + (64 - m) = 63 by omega]
      have := Nat.mul_le_mul_right (2 ^ (64 - m)) hs.2.1
      obtain ⟨n, rfl⟩ : ∃ n : Nat, x = n := ⟨x.toNat, by omega⟩
      rw [← Int.natCast_mul]
      simp only [Int.toNat_natCast] at this
      omega
    · have e : (18446744073709551616 : Nat) = 2 ^ m * 2 ^ (64 - m) := by rw [← Nat.pow_add, show m + (64 - m) = 64 by omega]
      have := Nat.mul_lt_mul_of_pos_right hs.2.2 (Nat.two_pow_pos (64 - m))
      obtain ⟨n, rfl⟩ : ∃ n : Nat, x = n := ⟨x.toNat, by omega⟩
      rw [← Int.natCast_mul]
      simp only [Int.toNat_natCast] at this
      omega)
  have HM := Lib.hid hm
  clear hs hm
  go_enter Try.func131, Try.ntmps131
  go_wp2_with fail
  refine (Len64_any x _ (by omega) h1).mono ?_
  rintro e w1 ⟨rfl, rfl⟩
  rw [HM.out]
  go_wp2_with fail
  go_ret
  refine ⟨64 - m, ?_, HR, rfl⟩
  show Ending.returned (.int .i64 (64 - (m : Int))) = _
  rw [show (64 : Int) - (m : Int) = ((64 - m : Nat) : Int) by omega]
end Go.Proofs.Ytilclpldfoifkaa
