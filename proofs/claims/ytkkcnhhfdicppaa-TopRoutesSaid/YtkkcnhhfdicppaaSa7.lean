import Derived.Test.YtkkcnhhfdicppaaIb
import Derived.Test.YtkkcnhhfdicppaaLc7
import Derived.BigQuiet
namespace Lay
/-- A cell is on the grid. -/
def onB (W H x y : Int) : Bool := decide (0 ≤ x ∧ x < W ∧ 0 ≤ y ∧ y < H)
end Lay
namespace Go.Proofs.Ytkkcnhhfdicppaa
open Go.RowKit Lay
set_option maxRecDepth 100000 in
theorem isBend_any (i o : Int) (w : World) :
    Calls Try.prog 54 #[.int .i64 i, .int .i64 o] w fun e w' => e = .returned (.bool (decide (i ≠ -1 ∧ o ≠ -1 ∧ i ≠ o))) ∧ Below w.heap.size w w' := by
  by_cases h1 : i = -1
  · subst h1
    go_enter Try.func54, Try.ntmps54
    go_wp2_with fail
    refine bodyPost_ret (v := .bool false) (by simp [results, Try.results54, go_sem]) rfl ⟨by simp, by go_grown⟩
  by_cases h2 : o = -1
  · subst h2
    go_enter Try.func54, Try.ntmps54
    go_wp2_with fail
    refine bodyPost_ret (v := .bool false) (by simp [results, Try.results54, go_sem]) rfl ⟨by simp, by go_grown⟩
  have b1 : (i != -1) = true := bne_iff_ne.2 h1
  have b2 : (o != -1) = true := bne_iff_ne.2 h2
  by_cases h3 : i = o
  · have b3 : (i != o) = false := by rw [h3]; simp
    go_enter Try.func54, Try.ntmps54
    go_wp2_with fail
    refine bodyPost_ret (v := .bool false) (by simp [results, Try.results54, go_sem]) rfl ⟨by simp [h3], by go_grown⟩
  · have b3 : (i != o) = true := bne_iff_ne.2 h3
    go_enter Try.func54, Try.ntmps54
    go_wp2_with fail
    refine bodyPost_ret (v := .bool true) (by simp [results, Try.results54, go_sem]) rfl ⟨by simp [h1, h2, h3], by go_grown⟩
set_option maxRecDepth 100000 in
theorem turnedBy_any (d q : Int) (w : World) (h0 : 0 ≤ d) (h1 : d < 1000) (h2 : 0 ≤ q) (h3 : q < 1000) :
    Calls Try.prog 72 #[.int .i64 d, .int .i64 q] w fun e w' => e = .returned (.int .i64 ((d + q) % 4)) ∧ Below w.heap.size w w' := by
  go_enter Try.func72, Try.ntmps72
  go_wp2_with fail
  go_ret
  exact ⟨rfl, by go_grown⟩
set_option maxRecDepth 100000 in
theorem beside_any (x y d : Int) (w : World) (h0 : -1000 ≤ x) (h1 : x < 1000) (h2 : -1000 ≤ y) (h3 : y < 1000) :
    Calls Try.prog 49 #[.agg #[.int .i64 x, .int .i64 y], .int .i64 d] w fun e w' => e = .returned (.agg #[.int .i64 (nx x d), .int .i64 (ny y d)]) ∧ Below w.heap.size w w' := by
  by_cases k0 : d = 0
  · subst k0
    go_enter Try.func49, Try.ntmps49
    go_wp2_with fail
    refine bodyPost_ret (v := .agg #[.int .i64 (x + 1), .int .i64 y]) (by simp [results, Try.results49, go_sem]) rfl ⟨by simp [nx, ny], by go_grown⟩
  by_cases k1 : d = 1
  · subst k1
    go_enter Try.func49, Try.ntmps49
    go_wp2_with fail
    refine bodyPost_ret (v := .agg #[.int .i64 x, .int .i64 (y + 1)]) (by simp [results, Try.results49, go_sem]) rfl ⟨by simp [nx, ny], by go_grown⟩
  by_cases k2 : d = 2
  · subst k2
    go_enter Try.func49, Try.ntmps49
    go_wp2_with fail
    refine bodyPost_ret (v := .agg #[.int .i64 (x - 1), .int .i64 y]) (by simp [results, Try.results49, go_sem]) rfl ⟨by simp [nx, ny], by go_grown⟩
  have b0 : (d == 0) = false := beq_eq_false_iff_ne.2 k0
  have b1 : (d == 1) = false := beq_eq_false_iff_ne.2 k1
  have b2 : (d == 2) = false := beq_eq_false_iff_ne.2 k2
  go_enter Try.func49, Try.ntmps49
  go_wp2_with fail
  refine bodyPost_ret (v := .agg #[.int .i64 x, .int .i64 (y - 1)]) (by simp [results, Try.results49, go_sem]) rfl ⟨by simp [nx, ny, k0, k1, k2], by go_grown⟩
set_option maxRecDepth 100000 in
set_option maxHeartbeats 1000000 in
theorem isOn_any (W H M B x y : Int) (sl : Value) (_hs : sl.oneCell' = true) (w : World) :
    Calls Try.prog 39 #[.agg #[.int .i64 W, .int .i64 H, .int .i64 M, .int .i64 B, sl], .agg #[.int .i64 x, .int .i64 y]] w fun e w' => e = .returned (.bool (onB W H x y)) ∧ Below w.heap.size w w' := by
  by_cases h1 : 0 ≤ x
  case neg =>
    go_enter Try.func39, Try.ntmps39
    go_wp2_with fail
    refine bodyPost_ret (v := .bool false) (by simp [results, Try.results39, go_sem]) rfl ⟨by simp [onB]; omega, by go_grown⟩
  by_cases h2 : x < W
  case neg =>
    go_enter Try.func39, Try.ntmps39
    go_wp2_with fail
    refine bodyPost_ret (v := .bool false) (by simp [results, Try.results39, go_sem]) rfl ⟨by simp [onB]; omega, by go_grown⟩
  by_cases h3 : 0 ≤ y
  case neg =>
    go_enter Try.func39, Try.ntmps39
    go_wp2_with fail
    refine bodyPost_ret (v := .bool false) (by simp [results, Try.results39, go_sem]) rfl ⟨by simp [onB]; omega, by go_grown⟩
  by_cases h4 : y < H
  case neg =>
    go_enter Try.func39, Try.ntmps39
    go_wp2_with fail
    refine bodyPost_ret (v := .bool false) (by simp [results, Try.results39, go_sem]) rfl ⟨by simp [onB]; omega, by go_grown⟩
  go_enter Try.func39, Try.ntmps39
  go_wp2_with fail
  refine bodyPost_ret (v := .bool true) (by simp [results, Try.results39, go_sem]) rfl ⟨by simp [onB, h1, h2, h3, h4], by go_grown⟩
end Go.Proofs.Ytkkcnhhfdicppaa
