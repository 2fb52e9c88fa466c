import Derived.Test.YtkcbkcgampoclaaFq9
import Derived.RegionTactic
import Derived.Deep.Cut
namespace Prb
/-- A fringe is valid. -/
def vfP (m x y : Int) : Prop := (0 ≤ m ∧ m ≤ 2000000) ∧ (-1000000 ≤ x ∧ x ≤ 1000000) ∧ (-1000000 ≤ y ∧ y ≤ 1000000) ∧ x * x + y * y ≤ m * m
instance (m x y : Int) : Decidable (vfP m x y) := by unfold vfP; infer_instance
def vfS (m x y : Int) : Bool := decide (vfP m x y)
theorem sq_bd {x B : Int} (h : -B ≤ x ∧ x ≤ B) : 0 ≤ x * x ∧ x * x ≤ B * B := by
  by_cases h0 : 0 ≤ x
  · exact ⟨Int.mul_nonneg h0 h0, Int.mul_le_mul h.2 h.2 h0 (by omega)⟩
  · have e : x * x = (-x) * (-x) := by rw [Int.neg_mul_neg]
    rw [e]
    exact ⟨Int.mul_nonneg (by omega) (by omega), Int.mul_le_mul (by omega) (by omega) (by omega) (by omega)⟩
end Prb
namespace Go.Proofs.Ytkcbkcgampoclaa
open Go.RowKit Prb
set_option maxRecDepth 100000 in
set_option maxHeartbeats 2000000 in
theorem pValid_any (m x y : Int) (w : World) : Calls Try.prog 9 #[.agg #[.int .i64 m, .int .i64 x, .int .i64 y]] w fun e w' => e = .returned (.bool (vfS m x y)) ∧ Below w.heap.size w w' := by
  by_cases c0 : m < 0
  · have HE := Lib.hid (show vfS m x y = false from decide_eq_false (by unfold vfP; omega))
    go_enter Try.func9, Try.ntmps9
    go_wp2_with fail
    go_returns
    exact ⟨by rw [HE.out] <;> rfl, by go_grown⟩
  by_cases c1 : 2000000 < m
  · have HE := Lib.hid (show vfS m x y = false from decide_eq_false (by unfold vfP; omega))
    go_enter Try.func9, Try.ntmps9
    go_wp2_with fail
    go_returns
    exact ⟨by rw [HE.out] <;> rfl, by go_grown⟩
  by_cases c2 : 1000000 < max x y
  · have HE := Lib.hid (show vfS m x y = false from decide_eq_false (by unfold vfP; omega))
    go_enter Try.func9, Try.ntmps9
    go_wp2_with fail
    go_returns
    exact ⟨by rw [HE.out] <;> rfl, by go_grown⟩
  by_cases c3 : min x y < -1000000
  · have HE := Lib.hid (show vfS m x y = false from decide_eq_false (by unfold vfP; omega))
    go_enter Try.func9, Try.ntmps9
    go_wp2_with fail
    go_returns
    exact ⟨by rw [HE.out] <;> rfl, by go_grown⟩
  have x0 : -1000000 ≤ x ∧ x ≤ 1000000 := by omega
  have y0 : -1000000 ≤ y ∧ y ≤ 1000000 := by omega
  have m0 : 0 ≤ m ∧ m ≤ 2000000 := by omega
  have bx := sq_bd x0
  have by' := sq_bd y0
  have bm := sq_bd (x := m) (B := 2000000) (by omega)
  have wx : wrap64 (x * x) = x * x := by simp only [wrap64]; omega
  have wy : wrap64 (y * y) = y * y := by simp only [wrap64]; omega
  have wm : wrap64 (m * m) = m * m := by simp only [wrap64]; omega
  have ws : wrap64 (x * x + y * y) = x * x + y * y := by simp only [wrap64]; omega
  have HE := Lib.hid (show vfS m x y = decide (x * x + y * y ≤ m * m) from by
    by_cases g : x * x + y * y ≤ m * m
    · have hv : vfP m x y := ⟨m0, x0, y0, g⟩
      rw [decide_eq_true g]
      exact decide_eq_true hv
    · have hv : ¬ vfP m x y := fun h => g h.2.2.2
      rw [decide_eq_false g]
      exact decide_eq_false hv)
  clear bx by' bm x0 y0 m0
  go_enter Try.func9, Try.ntmps9
  go_wp2_with fail
  go_returns
  exact ⟨by rw [HE.out] <;> rfl, by go_grown⟩
set_option maxRecDepth 100000 in
set_option maxHeartbeats 2000000 in
theorem rValid_any (m x y : Int) (w : World) : Calls Try.prog 10 #[.agg #[.int .i64 m, .int .i64 x, .int .i64 y]] w fun e w' => e = .returned (.bool (vfS m x y)) ∧ Below w.heap.size w w' := by
  by_cases c0 : m < 0
  · have HE := Lib.hid (show vfS m x y = false from decide_eq_false (by unfold vfP; omega))
    go_enter Try.func10, Try.ntmps10
    go_wp2_with fail
    go_returns
    exact ⟨by rw [HE.out] <;> rfl, by go_grown⟩
  by_cases c1 : 2000000 < m
  · have HE := Lib.hid (show vfS m x y = false from decide_eq_false (by unfold vfP; omega))
    go_enter Try.func10, Try.ntmps10
    go_wp2_with fail
    go_returns
    exact ⟨by rw [HE.out] <;> rfl, by go_grown⟩
  by_cases c2 : x < -1000000
  · have HE := Lib.hid (show vfS m x y = false from decide_eq_false (by unfold vfP; omega))
    go_enter Try.func10, Try.ntmps10
    go_wp2_with fail
    go_returns
    exact ⟨by rw [HE.out] <;> rfl, by go_grown⟩
  by_cases c3 : 1000000 < x
  · have HE := Lib.hid (show vfS m x y = false from decide_eq_false (by unfold vfP; omega))
    go_enter Try.func10, Try.ntmps10
    go_wp2_with fail
    go_returns
    exact ⟨by rw [HE.out] <;> rfl, by go_grown⟩
  by_cases c4 : y < -1000000
  · have HE := Lib.hid (show vfS m x y = false from decide_eq_false (by unfold vfP; omega))
    go_enter Try.func10, Try.ntmps10
    go_wp2_with fail
    go_returns
    exact ⟨by rw [HE.out] <;> rfl, by go_grown⟩
  by_cases c5 : 1000000 < y
  · have HE := Lib.hid (show vfS m x y = false from decide_eq_false (by unfold vfP; omega))
    go_enter Try.func10, Try.ntmps10
    go_wp2_with fail
    go_returns
    exact ⟨by rw [HE.out] <;> rfl, by go_grown⟩
  have x0 : -1000000 ≤ x ∧ x ≤ 1000000 := by omega
  have y0 : -1000000 ≤ y ∧ y ≤ 1000000 := by omega
  have m0 : 0 ≤ m ∧ m ≤ 2000000 := by omega
  have bx := sq_bd x0
  have by' := sq_bd y0
  have bm := sq_bd (x := m) (B := 2000000) (by omega)
  have wx : wrap64 (x * x) = x * x := by simp only [wrap64]; omega
  have wy : wrap64 (y * y) = y * y := by simp only [wrap64]; omega
  have wm : wrap64 (m * m) = m * m := by simp only [wrap64]; omega
  have ws : wrap64 (x * x + y * y) = x * x + y * y := by simp only [wrap64]; omega
  have HE := Lib.hid (show vfS m x y = decide (x * x + y * y ≤ m * m) from by
    by_cases g : x * x + y * y ≤ m * m
    · have hv : vfP m x y := ⟨m0, x0, y0, g⟩
      rw [decide_eq_true g]
      exact decide_eq_true hv
    · have hv : ¬ vfP m x y := fun h => g h.2.2.2
      rw [decide_eq_false g]
      exact decide_eq_false hv)
  clear bx by' bm x0 y0 m0
  go_enter Try.func10, Try.ntmps10
  go_wp2_with fail
  go_returns
  exact ⟨by rw [HE.out] <;> rfl, by go_grown⟩
end Go.Proofs.Ytkcbkcgampoclaa
