import Derived.Test.YtdhlikedjephmaaHa
namespace Heat
/-- A fraction in lowest terms, its denominator above 0. -/
def ratN (n d : Int) : Int := if d < 0 then -n / (Int.gcd n d : Int) else n / (Int.gcd n d : Int)
def ratD (n d : Int) : Int := if d < 0 then -d / (Int.gcd n d : Int) else d / (Int.gcd n d : Int)
end Heat
namespace Go.Proofs.Ytdhlikedjephmaa
open Go.RowKit Heat

set_option maxRecDepth 100000 in
set_option maxHeartbeats 4000000 in
theorem divisor_any (a b : Nat) (w : World) (ha : a ≤ 4611686018427387904) (hb : b ≤ 4611686018427387904) :
    Calls Try.prog 79 #[.int .i64 a, .int .i64 b] w fun e w' => e = .returned (.int .i64 (Nat.gcd a b)) ∧ Below w.heap.size w w' := by
  go_enter Try.func79, Try.ntmps79
  go_wp2_with fail
  go_loopw [0, 1] (fun av bv wr => ∃ x y : Nat, av = .int .i64 x ∧ bv = .int .i64 y ∧ x ≤ 4611686018427387904 ∧ y ≤ 4611686018427387904 ∧ Hid (Nat.gcd x y = Nat.gcd a b) ∧ w = wr) (fun av _ _ => (intOf av).toNat)
  case atStart => exact ⟨a, b, rfl, rfl, ha, hb, Lib.hid rfl, by first | rfl | trivial⟩
  case round =>
    obtain ⟨x, y, rfl, rfl, hx, hy, HG, rfl⟩ := hrel
    by_cases h0 : x = 0
    · have h1 : ((x : Int) != 0) = false := by simp [h0]
      have HE : Hid (y = Nat.gcd a b) := Lib.hid (by rw [← HG.out, h0, Nat.gcd_zero_left])
      clear h0
      go_wp2_with fail
      refine bodyPost_ret (v := .int .i64 y) (by simp [results, Try.results79, go_sem]) rfl ⟨by rw [← HE.out], Below.refl _ _⟩
    · have h1 : ((x : Int) != 0) = true := bne_iff_ne.2 (by omega)
      have hlt : y % x < x := Nat.mod_lt _ (by omega)
      have z0 : ((x : Int) == 0) = false := beq_eq_false_iff_ne.2 (by omega)
      have z1 : ¬ (x : Int) = 0 := by omega
      have z2 : ¬ (x : Int) = -1 := by omega
      have wt : (y : Int).tmod (x : Int) = ((y % x : Nat) : Int) := by
        rw [Int.tmod_eq_emod_of_nonneg (by omega)]
        exact (Int.natCast_emod y x).symm
      have ww : wrap64 ((y % x : Nat) : Int) = ((y % x : Nat) : Int) := by
        have : y % x ≤ 4611686018427387904 := by omega
        generalize y % x = r at *
        simp only [wrap64]; omega
      have HN : Hid (Nat.gcd (y % x) x = Nat.gcd a b) := Lib.hid (by rw [← HG.out, ← Nat.gcd_rec])
      go_wp2_with fail
      go_roundw
      case rel => exact ⟨y % x, x, by first | rfl | rw [wt] | (rw [wt, ww]) | simp [wt, ww], rfl, by omega, hx, HN, by first | rfl | trivial⟩
      case measure => first | (simp [intOf]; done) | (simp [intOf, wt, ww]; omega)
end Go.Proofs.Ytdhlikedjephmaa
