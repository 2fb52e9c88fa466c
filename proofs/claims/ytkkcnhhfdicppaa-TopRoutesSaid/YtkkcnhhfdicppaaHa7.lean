import Derived.Test.YtkkcnhhfdicppaaRe7
namespace Lay
/-- A path may use a cell. -/
def opB (W H : Int) (K : Int → Int → Bool) (x y : Int) : Bool := onB W H x y && !K x y
theorem opB_iff {W H x y : Int} {K : Int → Int → Bool} : opB W H K x y = true ↔ (0 ≤ x ∧ x < W ∧ 0 ≤ y ∧ y < H) ∧ K x y = false := by
  unfold opB; rw [Bool.and_eq_true, onB_iff]; simp
end Lay
namespace Go.Proofs.Ytkkcnhhfdicppaa
open Go.RowKit Lay
set_option maxRecDepth 100000 in
set_option maxHeartbeats 4000000 in
theorem has_any (W H M B x y : Int) (n cp m N : Nat) (ao : Option Addr) (K : Int → Int → Bool) (w : World) (hW : W ≤ 30) (hH : H ≤ 30) (hm : BMap w m N K) :
    Calls Try.prog 45 #[bdV W H M B ao n cp m, .agg #[.int .i64 x, .int .i64 y]] w fun e w' => e = .returned (.bool (opB W H K x y)) ∧ Below w.heap.size w w' := by
  have HM := Lib.hid hm
  have hl := hm.lt
  clear hm
  by_cases hv : onB W H x y = true
  · have hon := onB_iff.1 hv
    have hwx := wf7 (x := x) (by omega) (by omega)
    have hwy := wf7 (x := y) (by omega) (by omega)
    go_enter Try.func45, Try.ntmps45
    go_wp2_with fail
    refine (isOn_any W H M B x y _ rfl _).mono ?_
    rw [hv]
    rintro e w1 ⟨rfl, hb⟩
    have k3 : w1.heap[w.heap.size]? = some (.cells #[.int .i64 W, .int .i64 H, .int .i64 M, .int .i64 B, .slice ao n cp, .map (some m)] 68 (0, 0)) := (hb.block _ (by simp; omega)).trans ((Below.heap_alloc _ _ _ (by simp)).trans (heap_alloc_new w _))
    have k4 : w1.heap[w.heap.size + 1]? = some (.cells #[.int .i64 x, .int .i64 y] 26 (0, 0)) := (hb.block _ (by simp)).trans (by have h := heap_alloc_new (w.alloc (.cells #[.int .i64 W, .int .i64 H, .int .i64 M, .int .i64 B, .slice ao n cp, .map (some m)] 68)) (.cells #[.int .i64 x, .int .i64 y] 26); rwa [World.size_alloc] at h)
    have HB1 : Hid (Below w.heap.size w w1) := Lib.hid (Below.trans (by go_grown) (hb.mono (by simp; omega)))
    have hrun := (HM.out.keep (HB1.out.block _ hl)).look (x := x) (y := y) hwx hwy
    have c5 : w1.cell? ⟨w.heap.size, 5, none⟩ = some (.map (some m)) := cell_of_blk k3 rfl
    have x0 : w1.cell? ⟨w.heap.size + 1, 0, none⟩ = some (.int .i64 x) := cell_of_blk k4 rfl
    have x1 : w1.cell? ⟨w.heap.size + 1, 1, none⟩ = some (.int .i64 y) := cell_of_blk k4 rfl
    clear hb k3 k4
    go_wp2_with fail
    refine bodyPost_ret (v := .bool (!K x y)) (by simp [results, Try.results45, go_sem]) rfl ⟨by unfold opB; rw [hv]; rfl, HB1.out⟩
  · have hv' : onB W H x y = false := by simpa using hv
    go_enter Try.func45, Try.ntmps45
    go_wp2_with fail
    refine (isOn_any W H M B x y _ rfl _).mono ?_
    rw [hv']
    rintro e w1 ⟨rfl, hb⟩
    have HB1 : Hid (Below w.heap.size w w1) := Lib.hid (Below.trans (by go_grown) (hb.mono (by simp; omega)))
    clear hb
    go_wp2_with fail
    refine bodyPost_ret (v := .bool false) (by simp [results, Try.results45, go_sem]) rfl ⟨by unfold opB; rw [hv']; rfl, HB1.out⟩

set_option maxRecDepth 100000 in
set_option maxHeartbeats 4000000 in
theorem bend_any (W H M B i o : Int) (n cp m : Nat) (ao : Option Addr) (w : World) :
    Calls Try.prog 55 #[bdV W H M B ao n cp m, .int .i64 i, .int .i64 o] w fun e w' => e = .returned (.int .i64 (bd B i o)) ∧ Below w.heap.size w w' := by
  by_cases hv : i ≠ -1 ∧ o ≠ -1 ∧ i ≠ o
  · go_enter Try.func55, Try.ntmps55
    go_wp2_with fail
    refine (isBend_any i o _).mono ?_
    rw [decide_eq_true hv]
    rintro e w1 ⟨rfl, hb⟩
    have k3 : w1.heap[w.heap.size]? = some (.cells #[.int .i64 W, .int .i64 H, .int .i64 M, .int .i64 B, .slice ao n cp, .map (some m)] 68 (0, 0)) := (hb.block _ (by simp)).trans (heap_alloc_new w _)
    have HB1 : Hid (Below w.heap.size w w1) := Lib.hid (Below.trans (by go_grown) (hb.mono (by simp)))
    have c3 : w1.cell? ⟨w.heap.size, 3, none⟩ = some (.int .i64 B) := cell_of_blk k3 rfl
    clear hb k3
    go_wp2_with fail
    refine bodyPost_ret (v := .int .i64 B) (by simp [results, Try.results55, go_sem]) rfl ⟨by unfold bd; rw [if_pos hv], HB1.out⟩
  · go_enter Try.func55, Try.ntmps55
    go_wp2_with fail
    refine (isBend_any i o _).mono ?_
    rw [decide_eq_false hv]
    rintro e w1 ⟨rfl, hb⟩
    have HB1 : Hid (Below w.heap.size w w1) := Lib.hid (Below.trans (by go_grown) (hb.mono (by simp)))
    clear hb
    go_wp2_with fail
    refine bodyPost_ret (v := .int .i64 0) (by simp [results, Try.results55, go_sem]) rfl ⟨by unfold bd; rw [if_neg hv], HB1.out⟩

end Go.Proofs.Ytkkcnhhfdicppaa
