import Derived.Test.YtgbnpnenejgnnaaEu
import Derived.Shelf.Bits.Mul64
import Derived.Lib.BitFns
import Derived.Lib.Strings
import Derived.Lib.Slices
import Derived.Lib.Small
import Derived.Lib.Walk
import Derived.Deep.CutBlock
import Derived.Deep.DeepCutAuto
namespace Go.Proofs.Ytgbnpnenejgnnaa
open Go.RowKit Encl

set_option maxHeartbeats 1000000 in
theorem Mul64_nat (x y : Nat) (hx : x < 18446744073709551616) (hy : y < 18446744073709551616) (w : World) :
    Calls Try.prog 138 #[.int .u64 x, .int .u64 y] w fun e w' => e = .returned (.tuple #[.int .u64 ((x * y / 18446744073709551616 : Nat) : Int), .int .u64 ((x * y % 18446744073709551616 : Nat) : Int)]) ∧ w' = w := by
  obtain ⟨bd, bt, bw, hhi⟩ := Lib.mul64_hi x y hx hy
  have ba := Lib.half_mul_le (a := x / 4294967296) (b := y / 4294967296) (by omega) (by omega)
  have bb := Lib.half_mul_le (a := x / 4294967296) (b := y % 4294967296) (by omega) (by omega)
  have bc := Lib.half_mul_le (a := x % 4294967296) (b := y / 4294967296) (by omega) (by omega)
  have ba' : x / 4294967296 * (y / 4294967296) < 18446744073709551616 := by omega
  have bb' : x / 4294967296 * (y % 4294967296) < 18446744073709551616 := by omega
  have bc' : x % 4294967296 * (y / 4294967296) < 18446744073709551616 := by omega
  have bh1 : x / 4294967296 * (y / 4294967296) + (x / 4294967296 * (y % 4294967296) + x % 4294967296 * (y % 4294967296) / 4294967296) / 4294967296 < 18446744073709551616 := by omega
  have bh : x / 4294967296 * (y / 4294967296) + (x / 4294967296 * (y % 4294967296) + x % 4294967296 * (y % 4294967296) / 4294967296) / 4294967296 + ((x / 4294967296 * (y % 4294967296) + x % 4294967296 * (y % 4294967296) / 4294967296) % 4294967296 + x % 4294967296 * (y / 4294967296)) / 4294967296 < 18446744073709551616 := by omega
  go_enter Try.func138, Try.ntmps138
  go_wp2
  simp only [Mul64.maskN x hx, Mul64.maskN y hy, Mul64.divN, Mul64.mulN, Mul64.addN, Mul64.wrapN _ bd, Mul64.wrapN _ bb', Mul64.wrapN _ bt, Mul64.maskN _ bt, Mul64.wrapN _ bc', Mul64.wrapN _ bw, Mul64.wrapN _ ba', Mul64.wrapN _ bh1, Mul64.wrapN _ bh, Mul64.wrapM (x * y)]
  rw [hhi]
  go_ret2
  exact ⟨rfl, rfl⟩

/-- The two words of a product, over Int. -/
theorem Mul64_any (x y : Int) (w : World) (h0 : 0 ≤ x) (h1 : x < 18446744073709551616) (h2 : 0 ≤ y) (h3 : y < 18446744073709551616) :
    Calls Try.prog 138 #[.int .u64 x, .int .u64 y] w fun e w' => ∃ h l : Int, e = .returned (.tuple #[.int .u64 h, .int .u64 l]) ∧ Hid (x * y = h * 18446744073709551616 + l ∧ 0 ≤ l ∧ l < 18446744073709551616 ∧ 0 ≤ h ∧ h < 18446744073709551616) ∧ w' = w := by
  obtain ⟨a, rfl⟩ : ∃ a : Nat, x = a := ⟨x.toNat, by omega⟩
  obtain ⟨b, rfl⟩ : ∃ b : Nat, y = b := ⟨y.toNat, by omega⟩
  refine (Mul64_nat a b (by omega) (by omega) w).mono ?_
  rintro e w' ⟨rfl, rfl⟩
  refine ⟨_, _, rfl, Lib.hid ?_, rfl⟩
  have hb : a * b < 18446744073709551616 * 18446744073709551616 := Nat.mul_lt_mul'' (by omega) (by omega)
  have e : (a : Int) * (b : Int) = ((a * b : Nat) : Int) := (Int.natCast_mul a b).symm
  rw [e]
  generalize a * b = n at *
  omega

theorem bl_spec : ∀ (k x : Nat), x ≠ 0 → x < 2 ^ k → k ≤ 64 → 1 ≤ Lib.bitLen x ∧ 2 ^ (Lib.bitLen x - 1) ≤ x ∧ x < 2 ^ (Lib.bitLen x) := by
  intro k
  induction k with
  | zero => intro x h0 h1; simp at h1; omega
  | succ k ih =>
    intro x h0 h1 hk
    have h64 : x < 2 ^ 64 := Nat.lt_of_lt_of_le h1 (Nat.pow_le_pow_right (by omega) hk)
    rw [Lib.bitLen_half x h0 h64]
    by_cases h2 : x / 2 = 0
    · have e : x = 1 := by omega
      subst e
      decide
    · obtain ⟨a, b, c⟩ := ih (x / 2) h2 (by rw [Nat.pow_succ] at h1; omega) (by omega)
      generalize Lib.bitLen (x / 2) = m at *
      obtain ⟨m, rfl⟩ : ∃ n, m = n + 1 := ⟨m - 1, by omega⟩
      rw [show 1 + (m + 1) - 1 = m + 1 by omega, show 1 + (m + 1) = m + 1 + 1 by omega, Nat.pow_succ 2 (m + 1)]
      simp only [Nat.add_sub_cancel] at b
      rw [Nat.pow_succ] at *
      omega

set_option maxRecDepth 100000 in
theorem tab_size : (Lib.len8tab.size : Int) = 256 := by
  have : Lib.len8tab.size = 256 := by decide
  omega
theorem tab_get (y : Int) (h : y.toNat < Lib.len8tab.size) (h0 : 0 ≤ y) (h1 : y ≤ 255) : ((Lib.len8tab[y.toNat]'h).toNat : Int) = (Lib.bitLen y.toNat : Int) := by
  rw [← Lib.len8_of y h0 h1]
  unfold Lib.len8
  rw [getElem?_pos Lib.len8tab y.toNat h]
  rfl
theorem wr2 (k a b : Nat) (hk : k ≤ 56) (ha : a ≤ 8) (hb : b = k + a) : wrap64 ((k : Int) + wrap64 (a : Int)) = (b : Int) := by
  unfold wrap64; omega
theorem wr1 (a : Nat) (ha : a ≤ 8) : wrap64 (wrap64 (a : Int)) = (a : Int) := by unfold wrap64; omega

set_option maxRecDepth 100000 in
set_option maxHeartbeats 4000000 in
theorem Len64_any (x : Int) (w : World) (h0 : 0 ≤ x) (h1 : x ≤ 18446744073709551615) :
    Calls Try.prog 164 #[.int .u64 x] w fun e w' => e = .returned (.int .i64 (Lib.bitLen x.toNat)) ∧ w' = w := by
  go_enter Try.func164, Try.ntmps164
  go_wp2
  all_goals first
    | (go_ret; refine ⟨congrArg Ending.returned (congrArg (Value.int IntKind.i64) ?_), rfl⟩)
    | (exfalso; have hs := tab_size; omega)
  all_goals first
    | (rw [tab_get (x / 4294967296 / 65536 / 256) _ (by omega) (by omega)]
       have l := Lib.bitLen_le8' (x / 4294967296 / 65536 / 256) (by omega) (by omega)
       have e : (x / 4294967296 / 65536 / 256).toNat = x.toNat / 72057594037927936 := by omega
       have s := Lib.bitLen_shift56 x.toNat (by omega) (by omega)
       rw [e] at l ⊢
       exact wr2 56 _ _ (by decide) l s)
    | (rw [tab_get (x / 4294967296 / 65536) _ (by omega) (by omega)]
       have l := Lib.bitLen_le8' (x / 4294967296 / 65536) (by omega) (by omega)
       have e : (x / 4294967296 / 65536).toNat = x.toNat / 281474976710656 := by omega
       have s := Lib.bitLen_shift48 x.toNat (by omega) (by omega)
       rw [e] at l ⊢
       exact wr2 48 _ _ (by decide) l s)
    | (rw [tab_get (x / 4294967296 / 256) _ (by omega) (by omega)]
       have l := Lib.bitLen_le8' (x / 4294967296 / 256) (by omega) (by omega)
       have e : (x / 4294967296 / 256).toNat = x.toNat / 1099511627776 := by omega
       have s := Lib.bitLen_shift40 x.toNat (by omega) (by omega)
       rw [e] at l ⊢
       exact wr2 40 _ _ (by decide) l s)
    | (rw [tab_get (x / 65536 / 256) _ (by omega) (by omega)]
       have l := Lib.bitLen_le8' (x / 65536 / 256) (by omega) (by omega)
       have e : (x / 65536 / 256).toNat = x.toNat / 16777216 := by omega
       have s := Lib.bitLen_shift24 x.toNat (by omega) (by omega)
       rw [e] at l ⊢
       exact wr2 24 _ _ (by decide) l s)
    | (rw [tab_get (x / 4294967296) _ (by omega) (by omega)]
       have l := Lib.bitLen_le8' (x / 4294967296) (by omega) (by omega)
       have e : (x / 4294967296).toNat = x.toNat / 4294967296 := by omega
       have s := Lib.bitLen_shift32 x.toNat (by omega) (by omega)
       rw [e] at l ⊢
       exact wr2 32 _ _ (by decide) l s)
    | (rw [tab_get (x / 65536) _ (by omega) (by omega)]
       have l := Lib.bitLen_le8' (x / 65536) (by omega) (by omega)
       have e : (x / 65536).toNat = x.toNat / 65536 := by omega
       have s := Lib.bitLen_shift16 x.toNat (by omega) (by omega)
       rw [e] at l ⊢
       exact wr2 16 _ _ (by decide) l s)
    | (rw [tab_get (x / 256) _ (by omega) (by omega)]
       have l := Lib.bitLen_le8' (x / 256) (by omega) (by omega)
       have e : (x / 256).toNat = x.toNat / 256 := by omega
       have s := Lib.bitLen_shift8 x.toNat (by omega) (by omega)
       rw [e] at l ⊢
       exact wr2 8 _ _ (by decide) l s)
    | (rw [tab_get (x) _ (by omega) (by omega)]
       have l := Lib.bitLen_le8' (x) (by omega) (by omega)
       exact wr1 _ l)

theorem LeadingZeros64_any (x : Int) (w : World) (h0 : 0 < x) (h1 : x ≤ 18446744073709551615) :
    Calls Try.prog 158 #[.int .u64 x] w fun e w' => ∃ s : Nat, e = .returned (.int .i64 s) ∧ Hid (s ≤ 63 ∧ 9223372036854775808 ≤ x * ((2 ^ s : Nat) : Int) ∧ x * ((2 ^ s : Nat) : Int) < 18446744073709551616) ∧ w' = w := by
  obtain ⟨m, hm⟩ : ∃ m, Lib.bitLen x.toNat = m := ⟨_, rfl⟩
  have hs := bl_spec 64 x.toNat (by omega) (by simp; omega) (by omega)
  rw [hm] at hs
  have h64 : m ≤ 64 := by rw [← hm]; exact Lib.bitLen_le _ 64 (by omega) (by simp; omega)
  have HR : Hid ((64 - m) ≤ 63 ∧ 9223372036854775808 ≤ x * ((2 ^ (64 - m) : Nat) : Int) ∧ x * ((2 ^ (64 - m) : Nat) : Int) < 18446744073709551616) := Lib.hid (by
    refine ⟨by omega, ?_, ?_⟩
    · have e : (9223372036854775808 : Nat) = 2 ^ (m - 1) * 2 ^ (64 - m) := by rw [← Nat.pow_add, show m - 1 + (64 - m) = 63 by omega]
      have := Nat.mul_le_mul_right (2 ^ (64 - m)) hs.2.1
      obtain ⟨n, rfl⟩ : ∃ n : Nat, x = n := ⟨x.toNat, by omega⟩
      rw [← Int.natCast_mul]
      simp only [Int.toNat_natCast] at this
      omega
    · have e : (18446744073709551616 : Nat) = 2 ^ m * 2 ^ (64 - m) := by rw [← Nat.pow_add, show m + (64 - m) = 64 by omega]
      have := Nat.mul_lt_mul_of_pos_right hs.2.2 (Nat.two_pow_pos (64 - m))
      obtain ⟨n, rfl⟩ : ∃ n : Nat, x = n := ⟨x.toNat, by omega⟩
      rw [← Int.natCast_mul]
      simp only [Int.toNat_natCast] at this
      omega)
  have HM := Lib.hid hm
  clear hs hm
  go_enter Try.func158, Try.ntmps158
  go_wp2_with fail
  refine (Len64_any x _ (by omega) h1).mono ?_
  rintro e w1 ⟨rfl, rfl⟩
  rw [HM.out]
  go_wp2_with fail
  go_ret
  refine ⟨64 - m, ?_, HR, rfl⟩
  show Ending.returned (.int .i64 (64 - (m : Int))) = _
  rw [show (64 : Int) - (m : Int) = ((64 - m : Nat) : Int) by omega]
end Go.Proofs.Ytgbnpnenejgnnaa

namespace Encl
/-- One digit of a quotient by two digits: what the search for it keeps. -/
def dig (a b u c q r : Int) : Prop := q * a + r = u ∧ 0 ≤ r ∧ r < 4294967296 ∧ 0 ≤ q ∧ u * 4294967296 + c < (q + 1) * (a * 4294967296 + b)
structure digs (a b u c : Int) : Prop where
  a1 : 2147483648 ≤ a
  a2 : a < 4294967296
  b1 : 0 ≤ b
  b2 : b < 4294967296
  u1 : 0 ≤ u
  u2 : u < a * 4294967296 + b
  c1 : 0 ≤ c
  c2 : c < 4294967296
theorem dig_start {a b u c : Int} (h : digs a b u c) : dig a b u c (u / a) (u - u / a * a) := by
  obtain ⟨a1, a2, b1, b2, u1, u2, c1, c2⟩ := h
  have e := Int.mul_ediv_add_emod u a
  have e1 := Int.emod_nonneg u (show a ≠ 0 by omega)
  have e2 := Int.emod_lt_of_pos u (show 0 < a by omega)
  have e3 := Int.ediv_nonneg u1 (show 0 ≤ a by omega)
  generalize u / a = q at *
  generalize u % a = r at *
  have e4 : q * a = a * q := Int.mul_comm _ _
  refine ⟨by omega, by omega, by omega, e3, ?_⟩
  have e5 : (q + 1) * (a * 4294967296 + b) = a * q * 4294967296 + a * 4294967296 + (q + 1) * b := by grind
  have e6 : 0 ≤ (q + 1) * b := Int.mul_nonneg (by omega) b1
  rw [e5]
  omega
theorem dig_le {a b u c q r : Int} (h : digs a b u c) (g : dig a b u c q r) : q ≤ 8589934592 ∧ 0 ≤ q := by
  obtain ⟨a1, a2, b1, b2, u1, u2, c1, c2⟩ := h
  obtain ⟨g1, g2, g3, g4, g5⟩ := g
  refine ⟨?_, g4⟩
  apply Classical.byContradiction; intro hc
  have := Int.mul_le_mul_of_nonneg_left a1 (show 0 ≤ q by omega)
  omega
theorem dig_lt {a b u c q r : Int} (h : digs a b u c) (hq : q * a + r = u) (h0 : 4294967296 ≤ r) : q < 4294967296 := by
  obtain ⟨a1, a2, b1, b2, u1, u2, c1, c2⟩ := h
  apply Classical.byContradiction; intro hc
  have := Int.mul_le_mul_of_nonneg_right (show 4294967296 ≤ q by omega) (show 0 ≤ a by omega)
  omega
/-- The digit at hand is too great. -/
theorem dig_down {a b u c q r : Int} (h : digs a b u c) (g : dig a b u c q r) (ht : 4294967296 ≤ q ∨ 4294967296 * r + c < q * b) :
    0 < q ∧ (q - 1) * a + (r + a) = u ∧ 0 ≤ r + a ∧ u * 4294967296 + c < (q - 1 + 1) * (a * 4294967296 + b) := by
  obtain ⟨a1, a2, b1, b2, u1, u2, c1, c2⟩ := h
  obtain ⟨g1, g2, g3, g4, g5⟩ := g
  have k : u * 4294967296 + c < q * (a * 4294967296 + b) := by
    have e : q * (a * 4294967296 + b) = q * a * 4294967296 + q * b := by grind
    rcases ht with ht | ht
    · have := Int.mul_le_mul_of_nonneg_right ht (show 0 ≤ a * 4294967296 + b by omega)
      omega
    · rw [e]; omega
  have k2 : 0 < q := by
    apply Classical.byContradiction; intro hc
    have : q = 0 := by omega
    subst this
    omega
  refine ⟨k2, by grind, by omega, by rw [Int.sub_add_cancel]; exact k⟩
/-- The digit at hand is right. -/
theorem dig_yes {a b u c q r : Int} (g1 : q * a + r = u) (ht : q * b ≤ 4294967296 * r + c) : q * (a * 4294967296 + b) ≤ u * 4294967296 + c := by
  have e : q * (a * 4294967296 + b) = q * a * 4294967296 + q * b := by grind
  omega
theorem dig_out {a b u c q r : Int} (h : digs a b u c) (hq : q * a + r = u) (h0 : 4294967296 ≤ r) (hq0 : 0 ≤ q) : q * (a * 4294967296 + b) ≤ u * 4294967296 + c := by
  have hl := dig_lt h hq h0
  obtain ⟨a1, a2, b1, b2, u1, u2, c1, c2⟩ := h
  refine dig_yes hq ?_
  have := Int.mul_le_mul (show q ≤ 4294967296 by omega) (show b ≤ 4294967296 by omega) b1 (by omega)
  omega
/-- The digit and what is left. -/
def isDig (a b u c q : Int) : Prop := 0 ≤ q ∧ q < 4294967296 ∧ q * (a * 4294967296 + b) ≤ u * 4294967296 + c ∧ u * 4294967296 + c < (q + 1) * (a * 4294967296 + b)
theorem isDig_of {a b u c q : Int} (h : digs a b u c) (h0 : 0 ≤ q) (h1 : q * (a * 4294967296 + b) ≤ u * 4294967296 + c) (h2 : u * 4294967296 + c < (q + 1) * (a * 4294967296 + b)) : isDig a b u c q := by
  refine ⟨h0, ?_, h1, h2⟩
  obtain ⟨a1, a2, b1, b2, u1, u2, c1, c2⟩ := h
  apply Classical.byContradiction; intro hc
  have := Int.mul_le_mul_of_nonneg_right (show 4294967296 ≤ q by omega) (show 0 ≤ a * 4294967296 + b by omega)
  omega
/-- Both digits, and what is left. -/
theorem two_digs {a b u c1 c0 q1 q0 : Int} (g1 : isDig a b u c1 q1) (g2 : isDig a b (u * 4294967296 + c1 - q1 * (a * 4294967296 + b)) c0 q0) :
    (u * 4294967296 + c1) * 4294967296 + c0 = (q1 * 4294967296 + q0) * (a * 4294967296 + b) + ((u * 4294967296 + c1 - q1 * (a * 4294967296 + b)) * 4294967296 + c0 - q0 * (a * 4294967296 + b)) ∧
    0 ≤ (u * 4294967296 + c1 - q1 * (a * 4294967296 + b)) * 4294967296 + c0 - q0 * (a * 4294967296 + b) ∧
    (u * 4294967296 + c1 - q1 * (a * 4294967296 + b)) * 4294967296 + c0 - q0 * (a * 4294967296 + b) < a * 4294967296 + b := by
  obtain ⟨a1, a2, a3, a4⟩ := g1
  obtain ⟨b1, b2, b3, b4⟩ := g2
  rw [Int.add_mul] at b4
  refine ⟨by grind, by omega, by omega⟩
theorem dig_next {a b u c q : Int} (h : digs a b u c) (g : isDig a b u c q) {c' : Int} (h0 : 0 ≤ c') (h1 : c' < 4294967296) : digs a b (u * 4294967296 + c - q * (a * 4294967296 + b)) c' := by
  obtain ⟨a1, a2, b1, b2, u1, u2, c1, c2⟩ := h
  obtain ⟨g1, g2, g3, g4⟩ := g
  rw [Int.add_mul] at g4
  exact ⟨a1, a2, b1, b2, by omega, by omega, h0, h1⟩
theorem back {N Q R y : Int} {S : Nat} (hS : 0 < S) (h : N * (S : Int) = Q * (y * (S : Int)) + R) (h0 : 0 ≤ R) (h1 : R < y * (S : Int)) : N = Q * y + R / (S : Int) ∧ 0 ≤ R / (S : Int) ∧ R / (S : Int) < y := by
  have hS' : (0 : Int) < (S : Int) := by omega
  have e : R = (N - Q * y) * (S : Int) := by grind
  have e2 : R / (S : Int) = N - Q * y := by rw [e, Int.mul_ediv_cancel _ (by omega)]
  rw [e2]
  refine ⟨by omega, ?_, ?_⟩
  · apply Classical.byContradiction; intro hc
    have := Int.mul_le_mul_of_nonneg_right (show N - Q * y ≤ -1 by omega) (show (0 : Int) ≤ (S : Int) by omega)
    omega
  · exact Int.lt_of_mul_lt_mul_right (by rw [← e]; exact h1) (by omega)
end Encl
namespace Go.Proofs.Ytgbnpnenejgnnaa
open Go.RowKit Encl


/-- The operands, shifted so that the divisor's highest bit is set. -/
theorem shifted {hi lo y : Int} {s : Nat} (h0 : 0 < hi) (h1 : hi < y) (hy : y < 18446744073709551616) (hl0 : 0 ≤ lo) (hl1 : lo < 18446744073709551616) (hs : s ≤ 63) (g1 : 9223372036854775808 ≤ y * ((2 ^ s : Nat) : Int)) (g2 : y * ((2 ^ s : Nat) : Int) < 18446744073709551616) :
    ∃ Y a b u L c1 c0 : Int, IntKind.u64.wrap (y * 2 ^ min (IntKind.u64.wrap (s : Int)).toNat 64) = Y ∧ Y / 4294967296 = a ∧ bits .and .u64 Y 4294967295 = b ∧
      bits .or .u64 (IntKind.u64.wrap (hi * 2 ^ min (IntKind.u64.wrap (s : Int)).toNat 64)) (lo / 2 ^ min (IntKind.u64.wrap (64 - IntKind.u64.wrap (s : Int))).toNat 64) = u ∧
      IntKind.u64.wrap (lo * 2 ^ min (IntKind.u64.wrap (s : Int)).toNat 64) = L ∧ L / 4294967296 = c1 ∧ bits .and .u64 L 4294967295 = c0 ∧
      Y = a * 4294967296 + b ∧ Y = y * ((2 ^ s : Nat) : Int) ∧ digs a b u c1 ∧ 0 ≤ c0 ∧ c0 < 4294967296 ∧ (hi * 18446744073709551616 + lo) * ((2 ^ s : Nat) : Int) = (u * 4294967296 + c1) * 4294967296 + c0 := by
  have e1 : min (IntKind.u64.wrap (s : Int)).toNat 64 = s := by rw [IntKind.wrap_u64]; omega
  have e2 : min (IntKind.u64.wrap (64 - IntKind.u64.wrap (s : Int))).toNat 64 = 64 - s := by rw [IntKind.wrap_u64, IntKind.wrap_u64]; omega
  rw [e1, e2]
  have hp : (2 : Int) ^ s = ((2 ^ s : Nat) : Int) := by rw [Int.natCast_pow]; rfl
  have hp2 : (2 : Int) ^ (64 - s) = ((2 ^ (64 - s) : Nat) : Int) := by rw [Int.natCast_pow]; rfl
  rw [hp, hp2]
  have hpos := Nat.two_pow_pos s
  have hpos2 := Nat.two_pow_pos (64 - s)
  have h64 : 2 ^ s * 2 ^ (64 - s) = 18446744073709551616 := by rw [← Nat.pow_add, show s + (64 - s) = 64 by omega]
  have hdv : ∀ n : Nat, n < 2 ^ (64 - s) → (n <<< s) = n * 2 ^ s := fun n _ => Nat.shiftLeft_eq n s
  have hlt : ∀ n : Nat, n < 18446744073709551616 → n / 2 ^ (64 - s) < 2 ^ s := fun n hn => by rw [Nat.div_lt_iff_lt_mul hpos2, h64]; exact hn
  generalize hG : 2 ^ (64 - s) = G at *
  generalize hF : 2 ^ s = F at *
  obtain ⟨nh, rfl⟩ : ∃ n : Nat, hi = n := ⟨hi.toNat, by omega⟩
  obtain ⟨nl, rfl⟩ : ∃ n : Nat, lo = n := ⟨lo.toNat, by omega⟩
  obtain ⟨ny, rfl⟩ : ∃ n : Nat, y = n := ⟨y.toNat, by omega⟩
  have hyF : ny * F < 18446744073709551616 := by rw [← Int.natCast_mul] at g2; omega
  have hyF1 : 9223372036854775808 ≤ ny * F := by rw [← Int.natCast_mul] at g1; omega
  have hhF : nh * F + F ≤ ny * F := by
    have := Nat.mul_le_mul_right F (show nh + 1 ≤ ny by omega)
    rw [Nat.add_mul] at this; omega
  have hlG := hlt nl (by omega)
  have wY : IntKind.u64.wrap ((ny : Int) * (F : Int)) = ((ny * F : Nat) : Int) := by rw [← Int.natCast_mul, IntKind.wrap_u64]; omega
  have wH : IntKind.u64.wrap ((nh : Int) * (F : Int)) = ((nh * F : Nat) : Int) := by rw [← Int.natCast_mul, IntKind.wrap_u64]; omega
  have wL : IntKind.u64.wrap ((nl : Int) * (F : Int)) = ((nl * F % 18446744073709551616 : Nat) : Int) := by rw [← Int.natCast_mul, IntKind.wrap_u64]; omega
  have dG : (nl : Int) / (G : Int) = ((nl / G : Nat) : Int) := (Int.natCast_ediv nl G).symm
  rw [wY, wH, wL, dG]
  have hor : bits .or .u64 ((nh * F : Nat) : Int) ((nl / G : Nat) : Int) = ((nh * F + nl / G : Nat) : Int) := by
    rw [bits_or_u64_nat _ _ (by omega) (by omega)]
    congr 1
    subst hF
    rw [Nat.mul_comm nh, ← Nat.two_pow_add_eq_or_of_lt hlG]
  have han : ∀ n : Nat, n < 18446744073709551616 → bits .and .u64 (n : Int) 4294967295 = ((n % 4294967296 : Nat) : Int) := fun n hn => Mul64.maskN n hn
  have hL : nl * F = nl / G * 18446744073709551616 + nl * F % 18446744073709551616 := by
    have e : nl * F / 18446744073709551616 = nl / G := by
      rw [← h64, Nat.mul_comm nl, Nat.mul_div_mul_left _ _ hpos]
    have := Nat.div_add_mod (nl * F) 18446744073709551616
    rw [e] at this
    omega
  refine ⟨_, _, _, _, _, _, _, rfl, rfl, rfl, rfl, rfl, rfl, rfl, ?_, ?_, ?_, ?_, ?_, ?_⟩
  · rw [han _ hyF]; omega
  · rw [← Int.natCast_mul]
  · rw [hor, han _ hyF]
    exact ⟨by omega, by omega, by omega, by omega, by omega, by omega, by omega, by omega⟩
  · rw [han _ (Nat.mod_lt _ (by omega))]; omega
  · rw [han _ (Nat.mod_lt _ (by omega))]; omega
  · rw [hor, han _ (Nat.mod_lt _ (by omega))]
    have e : ((nh : Int) * 18446744073709551616 + (nl : Int)) * (F : Int) = ((nh * F : Nat) : Int) * 18446744073709551616 + ((nl * F : Nat) : Int) := by rw [Int.natCast_mul, Int.natCast_mul]; grind
    rw [e]
    generalize nl * F = z at *
    generalize nh * F = z2 at *
    omega
theorem dig_begin {a b u c : Int} (h : digs a b u c) : ∃ q r : Int, IntKind.u64.wrap (u.tdiv a) = q ∧ IntKind.u64.wrap (u - IntKind.u64.wrap (q * a)) = r ∧ dig a b u c q r := by
  have g := dig_start h
  have g2 := dig_le h g
  obtain ⟨a1, a2, b1, b2, u1, u2, c1, c2⟩ := h
  have e : u.tdiv a = u / a := Int.tdiv_eq_ediv_of_nonneg u1
  obtain ⟨k1, k2, k3, k4, k5⟩ := g
  have e1 : IntKind.u64.wrap (u.tdiv a) = u / a := by rw [e, IntKind.wrap_u64]; omega
  have hqa : 0 ≤ u / a * a := Int.mul_nonneg k4 (by omega)
  refine ⟨u / a, u - u / a * a, e1, ?_, ⟨k1, k2, k3, k4, k5⟩⟩
  generalize u / a * a = z at *
  rw [IntKind.wrap_u64, IntKind.wrap_u64]; omega
theorem dig_test {a b u c q r : Int} (h : digs a b u c) (g : dig a b u c q r) (hq : q < 4294967296) :
    ∃ p t : Int, IntKind.u64.wrap (q * b) = p ∧ IntKind.u64.wrap (IntKind.u64.wrap (4294967296 * r) + c) = t ∧ p = q * b ∧ t = 4294967296 * r + c := by
  obtain ⟨a1, a2, b1, b2, u1, u2, c1, c2⟩ := h
  obtain ⟨k1, k2, k3, k4, k5⟩ := g
  have e0 : 0 ≤ q * b := Int.mul_nonneg k4 b1
  have e1 : q * b ≤ 4294967295 * 4294967295 := Int.mul_le_mul (by omega) (by omega) b1 (by omega)
  refine ⟨q * b, 4294967296 * r + c, ?_, ?_, rfl, rfl⟩
  · rw [IntKind.wrap_u64]; omega
  · rw [IntKind.wrap_u64, IntKind.wrap_u64]; omega
theorem dig_less {a b u c q r : Int} (h : digs a b u c) (g : dig a b u c q r) (hq : 0 < q) :
    ∃ q' r' : Int, IntKind.u64.wrap (q - 1) = q' ∧ IntKind.u64.wrap (r + a) = r' ∧ q' = q - 1 ∧ r' = r + a := by
  have g2 := dig_le h g
  obtain ⟨a1, a2, b1, b2, u1, u2, c1, c2⟩ := h
  obtain ⟨k1, k2, k3, k4, k5⟩ := g
  refine ⟨q - 1, r + a, ?_, ?_, rfl, rfl⟩
  · rw [IntKind.wrap_u64]; omega
  · rw [IntKind.wrap_u64]; omega
theorem dig_rest {a b u c q Y : Int} (h : digs a b u c) (g : isDig a b u c q) (hY : Y = a * 4294967296 + b) :
    ∃ v : Int, IntKind.u64.wrap (IntKind.u64.wrap (IntKind.u64.wrap (u * 4294967296) + c) - IntKind.u64.wrap (q * Y)) = v ∧ v = u * 4294967296 + c - q * (a * 4294967296 + b) := by
  obtain ⟨a1, a2, b1, b2, u1, u2, c1, c2⟩ := h
  obtain ⟨g1, g2, g3, g4⟩ := g
  subst hY
  rw [Int.add_mul] at g4
  refine ⟨u * 4294967296 + c - q * (a * 4294967296 + b), ?_, rfl⟩
  generalize q * (a * 4294967296 + b) = z at *
  simp only [IntKind.wrap_u64]
  omega
theorem dig_quot {q1 q0 : Int} (h1 : 0 ≤ q1) (h2 : q1 < 4294967296) (h3 : 0 ≤ q0) (h4 : q0 < 4294967296) : IntKind.u64.wrap (IntKind.u64.wrap (q1 * 4294967296) + q0) = q1 * 4294967296 + q0 := by
  simp only [IntKind.wrap_u64]
  omega

set_option maxRecDepth 100000 in
set_option maxHeartbeats 4000000 in
theorem Div64_big (hi lo y : Int) (w : World) (h0 : 0 < hi) (h1 : hi < y) (hy : y < 18446744073709551616) (hl0 : 0 ≤ lo) (hl1 : lo < 18446744073709551616) :
    Calls Try.prog 140 #[.int .u64 hi, .int .u64 lo, .int .u64 y] w fun e w' => ∃ q r : Int, e = .returned (.tuple #[.int .u64 q, .int .u64 r]) ∧ Hid (hi * 18446744073709551616 + lo = q * y + r ∧ 0 ≤ r ∧ r < y ∧ 0 ≤ q) ∧ w' = w := by
  go_enter Try.func140, Try.ntmps140
  go_wp2_with fail
  refine (LeadingZeros64_any y _ (by omega) (by omega)).mono ?_
  rintro e w1 ⟨s, rfl, HS, rfl⟩
  obtain ⟨Y, a, b, u, L, c1, c0, e1, e2, e3, e4, e5, e6, e7, hYab, hY, hd, hc0, hc1, hN⟩ := shifted h0 h1 hy hl0 hl1 HS.out.1 HS.out.2.1 HS.out.2.2
  have HYA := Lib.hid hYab
  have HY := Lib.hid hY
  have HD := Lib.hid hd
  have HN := Lib.hid hN
  have ha1 := hd.a1
  have ha2 := hd.a2
  have ha0 : ¬ a = 0 := by omega
  clear hYab hY hd hN
  obtain ⟨q1, r1, hq1, hr1, hg1⟩ := dig_begin HD.out
  have HG0 := Lib.hid hg1
  clear hg1
  go_upto_block 0 with fail
  go_cut [15] from 67 to 85 (fun qv wx => ∃ q : Int, qv = .int .u64 q ∧ Hid (isDig a b u c1 q) ∧ w1 = wx)
  case first =>
    go_wp2_with fail
    go_loopw [15, 16] (fun qv rv wr => ∃ q r : Int, qv = .int .u64 q ∧ rv = .int .u64 r ∧ Hid (dig a b u c1 q r) ∧ wr = w1) (fun qv _ _ => (intOf qv).toNat)
    case atStart => exact ⟨_, _, rfl, rfl, HG0, rfl⟩
    case round =>
      obtain ⟨q, r, rfl, rfl, HG, rfl⟩ := hrel
      have hgo : ∀ ht : (4294967296 ≤ q ∨ 4294967296 * r + c1 < q * b), ∃ q' r' : Int, IntKind.u64.wrap (q - 1) = q' ∧ IntKind.u64.wrap (r + a) = r' ∧ 0 ≤ q' ∧ Hid (q' < q) ∧ Hid (r' < 4294967296 → dig a b u c1 q' r') ∧ Hid (4294967296 ≤ r' → isDig a b u c1 q') := fun ht => by
        obtain ⟨k1, k2, k3, k4⟩ := dig_down HD.out HG.out ht
        obtain ⟨q', r', f1, f2, f3, f4⟩ := dig_less HD.out HG.out k1
        refine ⟨q', r', f1, f2, by omega, Lib.hid (by omega), Lib.hid (fun hl => ?_), Lib.hid (fun hl => ?_)⟩
        · subst f3 f4; exact ⟨k2, k3, hl, by omega, k4⟩
        · subst f3 f4; exact isDig_of HD.out (by omega) (dig_out HD.out k2 hl (by omega)) k4
      have HGO := Lib.hid hgo
      clear hgo
      by_cases hq : 4294967296 ≤ q
      · obtain ⟨q', r', f1, f2, f3, HL, HA, HB⟩ := HGO.out (.inl hq)
        by_cases hr : 4294967296 ≤ r'
        · have HZ := Lib.hid (HB.out hr)
          go_wp2_with fail
          go_meet
          case rel => exact ⟨q', rfl, HZ, rfl⟩
        · have HZ := Lib.hid (HA.out (by omega))
          go_wp2_with fail
          go_roundw
          case rel => exact ⟨q', r', rfl, rfl, HZ, by trivial⟩
          case measure => have := HL.out; simp [intOf]; omega
      · obtain ⟨p, t, f1, f2, f3, f4⟩ := dig_test HD.out HG.out (by omega)
        have H3 := Lib.hid f3
        have H4 := Lib.hid f4
        clear f3 f4
        by_cases hpt : t < p
        · obtain ⟨q', r', f5, f6, f7, HL, HA, HB⟩ := HGO.out (.inr (by have := H3.out; have := H4.out; omega))
          by_cases hr : 4294967296 ≤ r'
          · have HZ := Lib.hid (HB.out hr)
            go_wp2_with fail
            go_meet
            case rel => exact ⟨q', rfl, HZ, rfl⟩
          · have HZ := Lib.hid (HA.out (by omega))
            go_wp2_with fail
            go_roundw
            case rel => exact ⟨q', r', rfl, rfl, HZ, by trivial⟩
            case measure => have := HL.out; simp [intOf]; omega
        · have HZ : Hid (isDig a b u c1 q) := Lib.hid (isDig_of HD.out HG.out.2.2.2.1 (dig_yes HG.out.1 (by have := H3.out; have := H4.out; omega)) HG.out.2.2.2.2)
          go_wp2_with fail
          go_meet
          case rel => exact ⟨q, rfl, HZ, rfl⟩
  case rest =>
  obtain ⟨q1, rfl, HQ1, rfl⟩ := hcut
  obtain ⟨v, hv, hve⟩ := dig_rest HD.out HQ1.out HYA.out
  have HV := Lib.hid hve
  have HD2 : Hid (digs a b v c0) := Lib.hid (by rw [hve]; exact dig_next HD.out HQ1.out hc0 hc1)
  obtain ⟨q0, r0, hq0, hr0, hg0⟩ := dig_begin HD2.out
  have HG2 := Lib.hid hg0
  clear hg0 hve
  go_upto_block 2 with fail
  go_cut [18] from 102 to 120 (fun qv wx => ∃ q : Int, qv = .int .u64 q ∧ Hid (isDig a b v c0 q) ∧ w1 = wx)
  case first =>
    go_wp2_with fail
    go_loopw [18, 16] (fun qv rv wr => ∃ q r : Int, qv = .int .u64 q ∧ rv = .int .u64 r ∧ Hid (dig a b v c0 q r) ∧ wr = w1) (fun qv _ _ => (intOf qv).toNat)
    case atStart => exact ⟨_, _, rfl, rfl, HG2, rfl⟩
    case round =>
      obtain ⟨q, r, rfl, rfl, HG, rfl⟩ := hrel
      have hgo : ∀ ht : (4294967296 ≤ q ∨ 4294967296 * r + c0 < q * b), ∃ q' r' : Int, IntKind.u64.wrap (q - 1) = q' ∧ IntKind.u64.wrap (r + a) = r' ∧ 0 ≤ q' ∧ Hid (q' < q) ∧ Hid (r' < 4294967296 → dig a b v c0 q' r') ∧ Hid (4294967296 ≤ r' → isDig a b v c0 q') := fun ht => by
        obtain ⟨k1, k2, k3, k4⟩ := dig_down HD2.out HG.out ht
        obtain ⟨q', r', f1, f2, f3, f4⟩ := dig_less HD2.out HG.out k1
        refine ⟨q', r', f1, f2, by omega, Lib.hid (by omega), Lib.hid (fun hl => ?_), Lib.hid (fun hl => ?_)⟩
        · subst f3 f4; exact ⟨k2, k3, hl, by omega, k4⟩
        · subst f3 f4; exact isDig_of HD2.out (by omega) (dig_out HD2.out k2 hl (by omega)) k4
      have HGO := Lib.hid hgo
      clear hgo
      by_cases hq : 4294967296 ≤ q
      · obtain ⟨q', r', f1, f2, f3, HL, HA, HB⟩ := HGO.out (.inl hq)
        by_cases hr : 4294967296 ≤ r'
        · have HZ := Lib.hid (HB.out hr)
          go_wp2_with fail
          go_meet
          case rel => exact ⟨q', rfl, HZ, rfl⟩
        · have HZ := Lib.hid (HA.out (by omega))
          go_wp2_with fail
          go_roundw
          case rel => exact ⟨q', r', rfl, rfl, HZ, by trivial⟩
          case measure => have := HL.out; simp [intOf]; omega
      · obtain ⟨p, t, f1, f2, f3, f4⟩ := dig_test HD2.out HG.out (by omega)
        have H3 := Lib.hid f3
        have H4 := Lib.hid f4
        clear f3 f4
        by_cases hpt : t < p
        · obtain ⟨q', r', f5, f6, f7, HL, HA, HB⟩ := HGO.out (.inr (by have := H3.out; have := H4.out; omega))
          by_cases hr : 4294967296 ≤ r'
          · have HZ := Lib.hid (HB.out hr)
            go_wp2_with fail
            go_meet
            case rel => exact ⟨q', rfl, HZ, rfl⟩
          · have HZ := Lib.hid (HA.out (by omega))
            go_wp2_with fail
            go_roundw
            case rel => exact ⟨q', r', rfl, rfl, HZ, by trivial⟩
            case measure => have := HL.out; simp [intOf]; omega
        · have HZ : Hid (isDig a b v c0 q) := Lib.hid (isDig_of HD2.out HG.out.2.2.2.1 (dig_yes HG.out.1 (by have := H3.out; have := H4.out; omega)) HG.out.2.2.2.2)
          go_wp2_with fail
          go_meet
          case rel => exact ⟨q, rfl, HZ, rfl⟩
  case rest =>
  obtain ⟨q0, rfl, HQ0, rfl⟩ := hcut
  obtain ⟨z, hz, hze⟩ := dig_rest HD2.out HQ0.out HYA.out
  obtain ⟨R, hR⟩ : ∃ R, z / 2 ^ min (IntKind.u64.wrap (s : Int)).toNat 64 = R := ⟨_, rfl⟩
  have hqq := dig_quot HQ1.out.1 HQ1.out.2.1 HQ0.out.1 HQ0.out.2.1
  have HF : Hid (hi * 18446744073709551616 + lo = (q1 * 4294967296 + q0) * y + R ∧ 0 ≤ R ∧ R < y ∧ 0 ≤ q1 * 4294967296 + q0) := Lib.hid (by
    have e1 : min (IntKind.u64.wrap (s : Int)).toNat 64 = s := by have := HS.out.1; rw [IntKind.wrap_u64]; omega
    rw [e1, show (2 : Int) ^ s = ((2 ^ s : Nat) : Int) by rw [Int.natCast_pow]; rfl] at hR
    have k := two_digs HQ1.out (by rw [← HV.out]; exact HQ0.out)
    rw [← HV.out, ← hze, ← HYA.out, HY.out] at k
    have k2 := back (N := hi * 18446744073709551616 + lo) (Q := q1 * 4294967296 + q0) (R := z) (y := y) (Nat.two_pow_pos s) (by rw [HN.out]; exact k.1) k.2.1 k.2.2
    rw [hR] at k2
    exact ⟨k2.1, k2.2.1, k2.2.2, by have := HQ1.out.1; have := HQ0.out.1; omega⟩)
  clear hze
  go_wp2_with fail
  go_ret2
  exact ⟨_, _, rfl, HF, by trivial⟩

set_option maxRecDepth 100000 in
set_option maxHeartbeats 4000000 in
theorem Div64_any (hi lo y : Int) (w : World) (h0 : 0 ≤ hi) (h1 : hi < y) (hy : y < 18446744073709551616) (hl0 : 0 ≤ lo) (hl1 : lo < 18446744073709551616) :
    Calls Try.prog 140 #[.int .u64 hi, .int .u64 lo, .int .u64 y] w fun e w' => ∃ q r : Int, e = .returned (.tuple #[.int .u64 q, .int .u64 r]) ∧ Hid (hi * 18446744073709551616 + lo = q * y + r ∧ 0 ≤ r ∧ r < y ∧ 0 ≤ q) ∧ Below w.heap.size w w' := by
  by_cases hz : hi = 0
  · subst hz
    have HF : Hid (0 * 18446744073709551616 + lo = lo / y * y + lo % y ∧ 0 ≤ lo % y ∧ lo % y < y ∧ 0 ≤ lo / y) := Lib.hid (by
      have := Int.mul_ediv_add_emod lo y
      have e : lo / y * y = y * (lo / y) := Int.mul_comm _ _
      exact ⟨by omega, Int.emod_nonneg _ (by omega), Int.emod_lt_of_pos _ (by omega), Int.ediv_nonneg hl0 (by omega)⟩)
    have hy0 : ¬ y = 0 := by omega
    have e1 : IntKind.u64.wrap (lo.tdiv y) = lo / y := by
      rw [Int.tdiv_eq_ediv_of_nonneg hl0, IntKind.wrap_u64]
      have a := Int.ediv_nonneg hl0 (show 0 ≤ y by omega)
      have b := Int.ediv_le_self y hl0
      omega
    have e2 : IntKind.u64.wrap (lo.tmod y) = lo % y := by
      rw [Int.tmod_eq_emod_of_nonneg hl0, IntKind.wrap_u64]
      have a := Int.emod_nonneg lo (show y ≠ 0 by omega)
      have b := Int.emod_lt_of_pos lo (show 0 < y by omega)
      omega
    go_enter Try.func140, Try.ntmps140
    go_wp2_with fail
    go_quiet (fail)
    go_wp2_with fail
    go_ret2
    exact ⟨_, _, rfl, HF, first_drewN (Below.refl _ _)⟩
  · refine (Div64_big hi lo y w (by omega) h1 hy hl0 hl1).mono ?_
    rintro e w' ⟨q, r, he, HF, rfl⟩
    exact ⟨q, r, he, HF, Below.refl _ _⟩
end Go.Proofs.Ytgbnpnenejgnnaa

namespace Go.Proofs.Ytgbnpnenejgnnaa
open Go.RowKit Encl

set_option maxHeartbeats 1000000 in
theorem distance_any (n : Int) (w : World) (h0 : -2305843009213693952 ≤ n) (h1 : n ≤ 2305843009213693952) :
    Calls Try.prog 139 #[.int .i64 n] w fun e w' => e = .returned (.int .u64 (absI n)) ∧ w' = w := by
  by_cases hn : n < -n
  · have HE : Hid (absI n = -n) := Lib.hid (by unfold absI; omega)
    rw [HE.out]
    go_enter Try.func139, Try.ntmps139
    go_wp2_with fail
    go_returns
    exact ⟨by go_num, by trivial⟩
  · have HE : Hid (absI n = n) := Lib.hid (by unfold absI; omega)
    have hn' : -n ≤ n := by omega
    rw [HE.out]
    go_enter Try.func139, Try.ntmps139
    go_wp2_with fail
    go_returns
    exact ⟨by go_num, by trivial⟩
end Go.Proofs.Ytgbnpnenejgnnaa

namespace Encl
theorem absI_nn (n : Int) : 0 ≤ absI n := by unfold absI; omega
theorem absI_le {n B : Int} (h0 : -B ≤ n) (h1 : n ≤ B) : absI n ≤ B := by unfold absI; omega
/-- The quotient of absolute values is out of range. -/
theorem sc_far {a b d q r : Int} (hd : 0 < d) (h : absI a * absI b = q * d + r) (h0 : 0 ≤ r) (h1 : r < d) (hq : 1099511627776 < q) : scS a b d = .bad 4 := by
  have := sc_abs hd h h0 h1
  unfold scS
  rw [← this]
  apply inR_bad
  rw [okS_iff]
  unfold sgn negS
  split <;> split <;> simp only <;> omega
theorem sc_near {a b d q r : Int} (hd : 0 < d) (h : absI a * absI b = q * d + r) (h0 : 0 ≤ r) (h1 : r < d) : scS a b d = inR (sgn a b ⟨q, if 0 < r then q + 1 else q⟩) := by
  rw [sc_abs hd h h0 h1]; rfl
end Encl
namespace Go.Proofs.Ytgbnpnenejgnnaa
open Go.RowKit Encl

set_option maxRecDepth 100000 in
set_option maxHeartbeats 4000000 in
theorem scaled_any (a b d : Int) (w : World) (ha0 : -1152921504606846976 ≤ a) (ha1 : a ≤ 1152921504606846976) (hb0 : -1152921504606846976 ≤ b) (hb1 : b ≤ 1152921504606846976) (hd0 : 0 < d) (hd1 : d ≤ 1152921504606846976) :
    Calls Try.prog 91 #[.int .i64 a, .int .i64 b, .int .i64 d] w fun e w' => IsS e (scS a b d) ∧ Below w.heap.size w w' := by
  have hx := absI_le ha0 ha1
  have hy := absI_le hb0 hb1
  have hx0 := absI_nn a
  have hy0 := absI_nn b
  obtain ⟨x, hxe⟩ : ∃ x, absI a = x := ⟨_, rfl⟩
  obtain ⟨y, hye⟩ : ∃ y, absI b = y := ⟨_, rfl⟩
  have HXE := Lib.hid hxe
  have HYE := Lib.hid hye
  rw [hxe] at hx hx0
  rw [hye] at hy hy0
  clear hxe hye
  obtain ⟨SP, hsp⟩ : ∃ SP, scS a b d = SP := ⟨_, rfl⟩
  have HSP := Lib.hid hsp
  rw [hsp]
  clear hsp
  go_enter Try.func91, Try.ntmps91
  go_wp2_with fail
  refine (distance_any a _ (by omega) (by omega)).mono ?_
  rw [HXE.out]
  rintro e w1 ⟨rfl, rfl⟩
  go_wp2_with fail
  refine (distance_any b _ (by omega) (by omega)).mono ?_
  rw [HYE.out]
  rintro e w1 ⟨rfl, rfl⟩
  go_wp2_with fail
  refine (Mul64_any x y _ (by omega) (by omega) (by omega) (by omega)).mono ?_
  rintro e w1 ⟨h, l, rfl, HM, rfl⟩
  have hl0 := HM.out.2.1
  have hl1 := HM.out.2.2.1
  have hh0 := HM.out.2.2.2.1
  have hh1 := HM.out.2.2.2.2
  by_cases hhd : d ≤ h
  · have HZ : Hid (SP = .bad 4) := Lib.hid (by
      rw [← HSP.out]
      have e := HM.out.1
      rw [← HXE.out, ← HYE.out] at e
      have k1 := Int.mul_ediv_add_emod (absI a * absI b) d
      have k2 := Int.emod_nonneg (absI a * absI b) (show d ≠ 0 by omega)
      have k3 := Int.emod_lt_of_pos (absI a * absI b) hd0
      refine sc_far hd0 (q := absI a * absI b / d) (r := absI a * absI b % d) (by rw [Int.mul_comm (absI a * absI b / d)]; omega) k2 k3 ?_
      have : 1099511627777 ≤ absI a * absI b / d := by rw [Int.le_ediv_iff_mul_le hd0, e]; omega
      omega)
    go_wp2_with fail
    refine ⟨rfl, ?_, by go_grown⟩
    rw [HZ.out]
    rfl
  have hhd' : h < d := by omega
  go_wp2_with fail
  refine (Div64_any h l d _ hh0 hhd' (by omega) hl0 hl1).mono ?_
  rintro e w1 ⟨q, r, rfl, HQ, hb⟩
  have HSC : Hid (absI a * absI b = q * d + r) := Lib.hid (by rw [HXE.out, HYE.out, HM.out.1]; exact HQ.out.1)
  have hr0 := HQ.out.2.1
  have hrd := HQ.out.2.2.1
  have hq0 := HQ.out.2.2.2
  have D1 : Below w.heap.size w w1 := Below.trans (by go_grown) (hb.mono (by first | omega | (simp; done) | (simp; omega)))
  have s1 : w.heap.size < w1.heap.size := by have hs := hb.size; (try simp at hs); omega
  obtain ⟨k1, k2⟩ := bcl hb
  have d0 := (k1 w.heap.size 0 (by simp)).trans (by go_cell : _ = some (.int .i64 0))
  have d1 := (k1 w.heap.size 1 (by simp)).trans (by go_cell : _ = some (.int .i64 0))
  have f0 := (k2 w.heap.size 0 (by simp)).trans (by go_cell : _ = false)
  have f1 := (k2 w.heap.size 1 (by simp)).trans (by go_cell : _ = false)
  clear hb k1 k2 hh0 hh1 hl0 hl1
  by_cases hq : 1099511627776 < q
  · have HZ : Hid (SP = .bad 4) := Lib.hid (by
      rw [← HSP.out]
      exact sc_far hd0 HSC.out hr0 hrd hq)
    go_wp2_with fail
    refine ⟨rfl, ?_, by go_grown⟩
    rw [HZ.out]
    rfl
  have hq' : q ≤ 1099511627776 := by omega
  clear hq
  by_cases hr : 0 < r
  · by_cases h1 : a < 0
    · by_cases h2 : b < 0
      · have h1' : decide (a < 0) = true := decide_eq_true h1
        have h2' : decide (b < 0) = true := decide_eq_true h2
        have HN : Hid (SP = inR ⟨q, q + 1⟩) := Lib.hid (by
          rw [← HSP.out, sc_near hd0 HSC.out hr0 hrd, if_pos hr]
          unfold sgn
          rw [if_neg (by simp [*])])
        go_wp2_with fail
        refine (inRange_any (q) (q + 1) _).mono ?_
        rintro e w3 ⟨he, hb⟩
        rw [← HN.out] at he
        have D3 : Below w.heap.size w w3 := Below.trans (by go_grown) (hb.mono (by first | omega | (simp; done) | (simp; omega)))
        have s3 : w.heap.size < w3.heap.size := by have hs := hb.size; (try simp at hs); omega
        obtain ⟨k1, k2⟩ := bcl hb
        have c30 := (k1 w.heap.size 0 (by first | omega | (simp; done) | (simp; omega))).trans (by go_cell : _ = some (.int .i64 0))
        have g30 := (k2 w.heap.size 0 (by first | omega | (simp; done) | (simp; omega))).trans (by go_cell : _ = false)
        have c31 := (k1 w.heap.size 1 (by first | omega | (simp; done) | (simp; omega))).trans (by go_cell : _ = some (.int .i64 0))
        have g31 := (k2 w.heap.size 1 (by first | omega | (simp; done) | (simp; omega))).trans (by go_cell : _ = false)
        clear hb k1 k2 D1
        have HN2 := Lib.hid he
        clear he HN HSP
        rcases SP with ⟨p, t⟩ | k
        · obtain rfl : e = .returned (.agg #[.int .i64 p, .int .i64 t]) := HN2.out
          go_wp2_with fail
          refine bodyPost_ret (v := .agg #[.int .i64 p, .int .i64 t]) (by simp [results, Try.results91, go_sem, *]) rfl ⟨rfl, by go_grown⟩
        · obtain rfl : e = .panicked [{ v := .iface 26 (.int .i64 k), recovered := false }] := HN2.out
          go_wp2_with fail
          exact ⟨rfl, rfl, by go_grown⟩
      · have h1' : decide (a < 0) = true := decide_eq_true h1
        have h2' : decide (b < 0) = false := decide_eq_false h2
        have HN : Hid (SP = inR ⟨-(q + 1), -q⟩) := Lib.hid (by
          rw [← HSP.out, sc_near hd0 HSC.out hr0 hrd, if_pos hr]
          unfold sgn
          rw [if_pos (by simp [*])]
          rfl)
        go_wp2_with fail
        refine (negated_any q (q + 1) _ ⟨by omega, by omega⟩ ⟨by omega, by omega⟩).mono ?_
        rintro e w2 ⟨rfl, hb⟩
        unfold retS
        (try simp only)
        have D2 : Below w.heap.size w w2 := Below.trans (by go_grown) (hb.mono (by first | omega | (simp; done) | (simp; omega)))
        have s2 : w1.heap.size < w2.heap.size := by have hs := hb.size; (try simp at hs); omega
        obtain ⟨k1, k2⟩ := bcl hb
        have c2a0 := (k1 (w.heap.size) 0 (by first | omega | (simp; done) | (simp; omega))).trans (by go_cell : _ = some (.int .i64 (0)))
        have g2a0 := (k2 (w.heap.size) 0 (by first | omega | (simp; done) | (simp; omega))).trans (by go_cell : _ = false)
        have c2a1 := (k1 (w.heap.size) 1 (by first | omega | (simp; done) | (simp; omega))).trans (by go_cell : _ = some (.int .i64 (0)))
        have g2a1 := (k2 (w.heap.size) 1 (by first | omega | (simp; done) | (simp; omega))).trans (by go_cell : _ = false)
        have c2b0 := (k1 (w1.heap.size) 0 (by first | omega | (simp; done) | (simp; omega))).trans (by go_cell : _ = some (.int .i64 (q)))
        have g2b0 := (k2 (w1.heap.size) 0 (by first | omega | (simp; done) | (simp; omega))).trans (by go_cell : _ = false)
        have c2b1 := (k1 (w1.heap.size) 1 (by first | omega | (simp; done) | (simp; omega))).trans (by go_cell : _ = some (.int .i64 (q + 1)))
        have g2b1 := (k2 (w1.heap.size) 1 (by first | omega | (simp; done) | (simp; omega))).trans (by go_cell : _ = false)
        clear hb k1 k2 D1
        go_wp2_with fail
        refine (inRange_any (-(q + 1)) (-q) _).mono ?_
        rintro e w3 ⟨he, hb⟩
        rw [← HN.out] at he
        have D3 : Below w.heap.size w w3 := Below.trans (by go_grown) (hb.mono (by first | omega | (simp; done) | (simp; omega)))
        have s3 : w.heap.size < w3.heap.size := by have hs := hb.size; (try simp at hs); omega
        obtain ⟨k1, k2⟩ := bcl hb
        have c30 := (k1 w.heap.size 0 (by first | omega | (simp; done) | (simp; omega))).trans (by go_cell : _ = some (.int .i64 0))
        have g30 := (k2 w.heap.size 0 (by first | omega | (simp; done) | (simp; omega))).trans (by go_cell : _ = false)
        have c31 := (k1 w.heap.size 1 (by first | omega | (simp; done) | (simp; omega))).trans (by go_cell : _ = some (.int .i64 0))
        have g31 := (k2 w.heap.size 1 (by first | omega | (simp; done) | (simp; omega))).trans (by go_cell : _ = false)
        clear hb k1 k2 D2
        have HN2 := Lib.hid he
        clear he HN HSP
        rcases SP with ⟨p, t⟩ | k
        · obtain rfl : e = .returned (.agg #[.int .i64 p, .int .i64 t]) := HN2.out
          go_wp2_with fail
          refine bodyPost_ret (v := .agg #[.int .i64 p, .int .i64 t]) (by simp [results, Try.results91, go_sem, *]) rfl ⟨rfl, by go_grown⟩
        · obtain rfl : e = .panicked [{ v := .iface 26 (.int .i64 k), recovered := false }] := HN2.out
          go_wp2_with fail
          exact ⟨rfl, rfl, by go_grown⟩
    · by_cases h2 : b < 0
      · have h1' : decide (a < 0) = false := decide_eq_false h1
        have h2' : decide (b < 0) = true := decide_eq_true h2
        have HN : Hid (SP = inR ⟨-(q + 1), -q⟩) := Lib.hid (by
          rw [← HSP.out, sc_near hd0 HSC.out hr0 hrd, if_pos hr]
          unfold sgn
          rw [if_pos (by simp [*])]
          rfl)
        go_wp2_with fail
        refine (negated_any q (q + 1) _ ⟨by omega, by omega⟩ ⟨by omega, by omega⟩).mono ?_
        rintro e w2 ⟨rfl, hb⟩
        unfold retS
        (try simp only)
        have D2 : Below w.heap.size w w2 := Below.trans (by go_grown) (hb.mono (by first | omega | (simp; done) | (simp; omega)))
        have s2 : w1.heap.size < w2.heap.size := by have hs := hb.size; (try simp at hs); omega
        obtain ⟨k1, k2⟩ := bcl hb
        have c2a0 := (k1 (w.heap.size) 0 (by first | omega | (simp; done) | (simp; omega))).trans (by go_cell : _ = some (.int .i64 (0)))
        have g2a0 := (k2 (w.heap.size) 0 (by first | omega | (simp; done) | (simp; omega))).trans (by go_cell : _ = false)
        have c2a1 := (k1 (w.heap.size) 1 (by first | omega | (simp; done) | (simp; omega))).trans (by go_cell : _ = some (.int .i64 (0)))
        have g2a1 := (k2 (w.heap.size) 1 (by first | omega | (simp; done) | (simp; omega))).trans (by go_cell : _ = false)
        have c2b0 := (k1 (w1.heap.size) 0 (by first | omega | (simp; done) | (simp; omega))).trans (by go_cell : _ = some (.int .i64 (q)))
        have g2b0 := (k2 (w1.heap.size) 0 (by first | omega | (simp; done) | (simp; omega))).trans (by go_cell : _ = false)
        have c2b1 := (k1 (w1.heap.size) 1 (by first | omega | (simp; done) | (simp; omega))).trans (by go_cell : _ = some (.int .i64 (q + 1)))
        have g2b1 := (k2 (w1.heap.size) 1 (by first | omega | (simp; done) | (simp; omega))).trans (by go_cell : _ = false)
        clear hb k1 k2 D1
        go_wp2_with fail
        refine (inRange_any (-(q + 1)) (-q) _).mono ?_
        rintro e w3 ⟨he, hb⟩
        rw [← HN.out] at he
        have D3 : Below w.heap.size w w3 := Below.trans (by go_grown) (hb.mono (by first | omega | (simp; done) | (simp; omega)))
        have s3 : w.heap.size < w3.heap.size := by have hs := hb.size; (try simp at hs); omega
        obtain ⟨k1, k2⟩ := bcl hb
        have c30 := (k1 w.heap.size 0 (by first | omega | (simp; done) | (simp; omega))).trans (by go_cell : _ = some (.int .i64 0))
        have g30 := (k2 w.heap.size 0 (by first | omega | (simp; done) | (simp; omega))).trans (by go_cell : _ = false)
        have c31 := (k1 w.heap.size 1 (by first | omega | (simp; done) | (simp; omega))).trans (by go_cell : _ = some (.int .i64 0))
        have g31 := (k2 w.heap.size 1 (by first | omega | (simp; done) | (simp; omega))).trans (by go_cell : _ = false)
        clear hb k1 k2 D2
        have HN2 := Lib.hid he
        clear he HN HSP
        rcases SP with ⟨p, t⟩ | k
        · obtain rfl : e = .returned (.agg #[.int .i64 p, .int .i64 t]) := HN2.out
          go_wp2_with fail
          refine bodyPost_ret (v := .agg #[.int .i64 p, .int .i64 t]) (by simp [results, Try.results91, go_sem, *]) rfl ⟨rfl, by go_grown⟩
        · obtain rfl : e = .panicked [{ v := .iface 26 (.int .i64 k), recovered := false }] := HN2.out
          go_wp2_with fail
          exact ⟨rfl, rfl, by go_grown⟩
      · have h1' : decide (a < 0) = false := decide_eq_false h1
        have h2' : decide (b < 0) = false := decide_eq_false h2
        have HN : Hid (SP = inR ⟨q, q + 1⟩) := Lib.hid (by
          rw [← HSP.out, sc_near hd0 HSC.out hr0 hrd, if_pos hr]
          unfold sgn
          rw [if_neg (by simp [*])])
        go_wp2_with fail
        refine (inRange_any (q) (q + 1) _).mono ?_
        rintro e w3 ⟨he, hb⟩
        rw [← HN.out] at he
        have D3 : Below w.heap.size w w3 := Below.trans (by go_grown) (hb.mono (by first | omega | (simp; done) | (simp; omega)))
        have s3 : w.heap.size < w3.heap.size := by have hs := hb.size; (try simp at hs); omega
        obtain ⟨k1, k2⟩ := bcl hb
        have c30 := (k1 w.heap.size 0 (by first | omega | (simp; done) | (simp; omega))).trans (by go_cell : _ = some (.int .i64 0))
        have g30 := (k2 w.heap.size 0 (by first | omega | (simp; done) | (simp; omega))).trans (by go_cell : _ = false)
        have c31 := (k1 w.heap.size 1 (by first | omega | (simp; done) | (simp; omega))).trans (by go_cell : _ = some (.int .i64 0))
        have g31 := (k2 w.heap.size 1 (by first | omega | (simp; done) | (simp; omega))).trans (by go_cell : _ = false)
        clear hb k1 k2 D1
        have HN2 := Lib.hid he
        clear he HN HSP
        rcases SP with ⟨p, t⟩ | k
        · obtain rfl : e = .returned (.agg #[.int .i64 p, .int .i64 t]) := HN2.out
          go_wp2_with fail
          refine bodyPost_ret (v := .agg #[.int .i64 p, .int .i64 t]) (by simp [results, Try.results91, go_sem, *]) rfl ⟨rfl, by go_grown⟩
        · obtain rfl : e = .panicked [{ v := .iface 26 (.int .i64 k), recovered := false }] := HN2.out
          go_wp2_with fail
          exact ⟨rfl, rfl, by go_grown⟩
  · by_cases h1 : a < 0
    · by_cases h2 : b < 0
      · have h1' : decide (a < 0) = true := decide_eq_true h1
        have h2' : decide (b < 0) = true := decide_eq_true h2
        have HN : Hid (SP = inR ⟨q, q⟩) := Lib.hid (by
          rw [← HSP.out, sc_near hd0 HSC.out hr0 hrd, if_neg hr]
          unfold sgn
          rw [if_neg (by simp [*])])
        have hr' : r ≤ 0 := by omega
        go_wp2_with fail
        refine (inRange_any (q) (q) _).mono ?_
        rintro e w3 ⟨he, hb⟩
        rw [← HN.out] at he
        have D3 : Below w.heap.size w w3 := Below.trans (by go_grown) (hb.mono (by first | omega | (simp; done) | (simp; omega)))
        have s3 : w.heap.size < w3.heap.size := by have hs := hb.size; (try simp at hs); omega
        obtain ⟨k1, k2⟩ := bcl hb
        have c30 := (k1 w.heap.size 0 (by first | omega | (simp; done) | (simp; omega))).trans (by go_cell : _ = some (.int .i64 0))
        have g30 := (k2 w.heap.size 0 (by first | omega | (simp; done) | (simp; omega))).trans (by go_cell : _ = false)
        have c31 := (k1 w.heap.size 1 (by first | omega | (simp; done) | (simp; omega))).trans (by go_cell : _ = some (.int .i64 0))
        have g31 := (k2 w.heap.size 1 (by first | omega | (simp; done) | (simp; omega))).trans (by go_cell : _ = false)
        clear hb k1 k2 D1
        have HN2 := Lib.hid he
        clear he HN HSP
        rcases SP with ⟨p, t⟩ | k
        · obtain rfl : e = .returned (.agg #[.int .i64 p, .int .i64 t]) := HN2.out
          go_wp2_with fail
          refine bodyPost_ret (v := .agg #[.int .i64 p, .int .i64 t]) (by simp [results, Try.results91, go_sem, *]) rfl ⟨rfl, by go_grown⟩
        · obtain rfl : e = .panicked [{ v := .iface 26 (.int .i64 k), recovered := false }] := HN2.out
          go_wp2_with fail
          exact ⟨rfl, rfl, by go_grown⟩
      · have h1' : decide (a < 0) = true := decide_eq_true h1
        have h2' : decide (b < 0) = false := decide_eq_false h2
        have HN : Hid (SP = inR ⟨-q, -q⟩) := Lib.hid (by
          rw [← HSP.out, sc_near hd0 HSC.out hr0 hrd, if_neg hr]
          unfold sgn
          rw [if_pos (by simp [*])]
          rfl)
        have hr' : r ≤ 0 := by omega
        go_wp2_with fail
        refine (negated_any q (q) _ ⟨by omega, by omega⟩ ⟨by omega, by omega⟩).mono ?_
        rintro e w2 ⟨rfl, hb⟩
        unfold retS
        (try simp only)
        have D2 : Below w.heap.size w w2 := Below.trans (by go_grown) (hb.mono (by first | omega | (simp; done) | (simp; omega)))
        have s2 : w1.heap.size < w2.heap.size := by have hs := hb.size; (try simp at hs); omega
        obtain ⟨k1, k2⟩ := bcl hb
        have c2a0 := (k1 (w.heap.size) 0 (by first | omega | (simp; done) | (simp; omega))).trans (by go_cell : _ = some (.int .i64 (0)))
        have g2a0 := (k2 (w.heap.size) 0 (by first | omega | (simp; done) | (simp; omega))).trans (by go_cell : _ = false)
        have c2a1 := (k1 (w.heap.size) 1 (by first | omega | (simp; done) | (simp; omega))).trans (by go_cell : _ = some (.int .i64 (0)))
        have g2a1 := (k2 (w.heap.size) 1 (by first | omega | (simp; done) | (simp; omega))).trans (by go_cell : _ = false)
        have c2b0 := (k1 (w1.heap.size) 0 (by first | omega | (simp; done) | (simp; omega))).trans (by go_cell : _ = some (.int .i64 (q)))
        have g2b0 := (k2 (w1.heap.size) 0 (by first | omega | (simp; done) | (simp; omega))).trans (by go_cell : _ = false)
        have c2b1 := (k1 (w1.heap.size) 1 (by first | omega | (simp; done) | (simp; omega))).trans (by go_cell : _ = some (.int .i64 (q)))
        have g2b1 := (k2 (w1.heap.size) 1 (by first | omega | (simp; done) | (simp; omega))).trans (by go_cell : _ = false)
        clear hb k1 k2 D1
        go_wp2_with fail
        refine (inRange_any (-q) (-q) _).mono ?_
        rintro e w3 ⟨he, hb⟩
        rw [← HN.out] at he
        have D3 : Below w.heap.size w w3 := Below.trans (by go_grown) (hb.mono (by first | omega | (simp; done) | (simp; omega)))
        have s3 : w.heap.size < w3.heap.size := by have hs := hb.size; (try simp at hs); omega
        obtain ⟨k1, k2⟩ := bcl hb
        have c30 := (k1 w.heap.size 0 (by first | omega | (simp; done) | (simp; omega))).trans (by go_cell : _ = some (.int .i64 0))
        have g30 := (k2 w.heap.size 0 (by first | omega | (simp; done) | (simp; omega))).trans (by go_cell : _ = false)
        have c31 := (k1 w.heap.size 1 (by first | omega | (simp; done) | (simp; omega))).trans (by go_cell : _ = some (.int .i64 0))
        have g31 := (k2 w.heap.size 1 (by first | omega | (simp; done) | (simp; omega))).trans (by go_cell : _ = false)
        clear hb k1 k2 D2
        have HN2 := Lib.hid he
        clear he HN HSP
        rcases SP with ⟨p, t⟩ | k
        · obtain rfl : e = .returned (.agg #[.int .i64 p, .int .i64 t]) := HN2.out
          go_wp2_with fail
          refine bodyPost_ret (v := .agg #[.int .i64 p, .int .i64 t]) (by simp [results, Try.results91, go_sem, *]) rfl ⟨rfl, by go_grown⟩
        · obtain rfl : e = .panicked [{ v := .iface 26 (.int .i64 k), recovered := false }] := HN2.out
          go_wp2_with fail
          exact ⟨rfl, rfl, by go_grown⟩
    · by_cases h2 : b < 0
      · have h1' : decide (a < 0) = false := decide_eq_false h1
        have h2' : decide (b < 0) = true := decide_eq_true h2
        have HN : Hid (SP = inR ⟨-q, -q⟩) := Lib.hid (by
          rw [← HSP.out, sc_near hd0 HSC.out hr0 hrd, if_neg hr]
          unfold sgn
          rw [if_pos (by simp [*])]
          rfl)
        have hr' : r ≤ 0 := by omega
        go_wp2_with fail
        refine (negated_any q (q) _ ⟨by omega, by omega⟩ ⟨by omega, by omega⟩).mono ?_
        rintro e w2 ⟨rfl, hb⟩
        unfold retS
        (try simp only)
        have D2 : Below w.heap.size w w2 := Below.trans (by go_grown) (hb.mono (by first | omega | (simp; done) | (simp; omega)))
        have s2 : w1.heap.size < w2.heap.size := by have hs := hb.size; (try simp at hs); omega
        obtain ⟨k1, k2⟩ := bcl hb
        have c2a0 := (k1 (w.heap.size) 0 (by first | omega | (simp; done) | (simp; omega))).trans (by go_cell : _ = some (.int .i64 (0)))
        have g2a0 := (k2 (w.heap.size) 0 (by first | omega | (simp; done) | (simp; omega))).trans (by go_cell : _ = false)
        have c2a1 := (k1 (w.heap.size) 1 (by first | omega | (simp; done) | (simp; omega))).trans (by go_cell : _ = some (.int .i64 (0)))
        have g2a1 := (k2 (w.heap.size) 1 (by first | omega | (simp; done) | (simp; omega))).trans (by go_cell : _ = false)
        have c2b0 := (k1 (w1.heap.size) 0 (by first | omega | (simp; done) | (simp; omega))).trans (by go_cell : _ = some (.int .i64 (q)))
        have g2b0 := (k2 (w1.heap.size) 0 (by first | omega | (simp; done) | (simp; omega))).trans (by go_cell : _ = false)
        have c2b1 := (k1 (w1.heap.size) 1 (by first | omega | (simp; done) | (simp; omega))).trans (by go_cell : _ = some (.int .i64 (q)))
        have g2b1 := (k2 (w1.heap.size) 1 (by first | omega | (simp; done) | (simp; omega))).trans (by go_cell : _ = false)
        clear hb k1 k2 D1
        go_wp2_with fail
        refine (inRange_any (-q) (-q) _).mono ?_
        rintro e w3 ⟨he, hb⟩
        rw [← HN.out] at he
        have D3 : Below w.heap.size w w3 := Below.trans (by go_grown) (hb.mono (by first | omega | (simp; done) | (simp; omega)))
        have s3 : w.heap.size < w3.heap.size := by have hs := hb.size; (try simp at hs); omega
        obtain ⟨k1, k2⟩ := bcl hb
        have c30 := (k1 w.heap.size 0 (by first | omega | (simp; done) | (simp; omega))).trans (by go_cell : _ = some (.int .i64 0))
        have g30 := (k2 w.heap.size 0 (by first | omega | (simp; done) | (simp; omega))).trans (by go_cell : _ = false)
        have c31 := (k1 w.heap.size 1 (by first | omega | (simp; done) | (simp; omega))).trans (by go_cell : _ = some (.int .i64 0))
        have g31 := (k2 w.heap.size 1 (by first | omega | (simp; done) | (simp; omega))).trans (by go_cell : _ = false)
        clear hb k1 k2 D2
        have HN2 := Lib.hid he
        clear he HN HSP
        rcases SP with ⟨p, t⟩ | k
        · obtain rfl : e = .returned (.agg #[.int .i64 p, .int .i64 t]) := HN2.out
          go_wp2_with fail
          refine bodyPost_ret (v := .agg #[.int .i64 p, .int .i64 t]) (by simp [results, Try.results91, go_sem, *]) rfl ⟨rfl, by go_grown⟩
        · obtain rfl : e = .panicked [{ v := .iface 26 (.int .i64 k), recovered := false }] := HN2.out
          go_wp2_with fail
          exact ⟨rfl, rfl, by go_grown⟩
      · have h1' : decide (a < 0) = false := decide_eq_false h1
        have h2' : decide (b < 0) = false := decide_eq_false h2
        have HN : Hid (SP = inR ⟨q, q⟩) := Lib.hid (by
          rw [← HSP.out, sc_near hd0 HSC.out hr0 hrd, if_neg hr]
          unfold sgn
          rw [if_neg (by simp [*])])
        have hr' : r ≤ 0 := by omega
        go_wp2_with fail
        refine (inRange_any (q) (q) _).mono ?_
        rintro e w3 ⟨he, hb⟩
        rw [← HN.out] at he
        have D3 : Below w.heap.size w w3 := Below.trans (by go_grown) (hb.mono (by first | omega | (simp; done) | (simp; omega)))
        have s3 : w.heap.size < w3.heap.size := by have hs := hb.size; (try simp at hs); omega
        obtain ⟨k1, k2⟩ := bcl hb
        have c30 := (k1 w.heap.size 0 (by first | omega | (simp; done) | (simp; omega))).trans (by go_cell : _ = some (.int .i64 0))
        have g30 := (k2 w.heap.size 0 (by first | omega | (simp; done) | (simp; omega))).trans (by go_cell : _ = false)
        have c31 := (k1 w.heap.size 1 (by first | omega | (simp; done) | (simp; omega))).trans (by go_cell : _ = some (.int .i64 0))
        have g31 := (k2 w.heap.size 1 (by first | omega | (simp; done) | (simp; omega))).trans (by go_cell : _ = false)
        clear hb k1 k2 D1
        have HN2 := Lib.hid he
        clear he HN HSP
        rcases SP with ⟨p, t⟩ | k
        · obtain rfl : e = .returned (.agg #[.int .i64 p, .int .i64 t]) := HN2.out
          go_wp2_with fail
          refine bodyPost_ret (v := .agg #[.int .i64 p, .int .i64 t]) (by simp [results, Try.results91, go_sem, *]) rfl ⟨rfl, by go_grown⟩
        · obtain rfl : e = .panicked [{ v := .iface 26 (.int .i64 k), recovered := false }] := HN2.out
          go_wp2_with fail
          exact ⟨rfl, rfl, by go_grown⟩
end Go.Proofs.Ytgbnpnenejgnnaa
