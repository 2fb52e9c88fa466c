import Derived.Test.YtdhlikedjephmaaHb
import Derived.Laws.IdiomCopy
namespace Go.Proofs.Ytdhlikedjephmaa
open Go.RowKit Heat
set_option maxRecDepth 100000 in
set_option maxHeartbeats 8000000 in
theorem held_any (n cap : Nat) (ao : Option Addr) (f : Nat → Int) (w : World) (hn : n ≤ 5) (hc : Ints w ao n f) :
    Calls Try.prog 51 #[.slice ao n cap] w fun e w' => e = .returned (.agg #[.int .i64 (padI n f 0), .int .i64 (padI n f 1), .int .i64 (padI n f 2), .int .i64 (padI n f 3), .int .i64 (padI n f 4)]) ∧ Below w.heap.size w w' := by
  rcases (show n = 0 ∨ n = 1 ∨ n = 2 ∨ n = 3 ∨ n = 4 ∨ n = 5 by omega) with rfl | rfl | rfl | rfl | rfl | rfl
  · have hcp : (Builtin.copy_ #[24, 24] 3 #[.slice (some ⟨w.heap.size + 1, 0, none⟩) 5 5, .slice ao 0 cap]).run Try.prog ((w.alloc (Obj.cells #[.int .i64 0, .int .i64 0, .int .i64 0, .int .i64 0, .int .i64 0] 74)).alloc (Obj.cells #[.int .i64 0, .int .i64 0, .int .i64 0, .int .i64 0, .int .i64 0] 74)) = .ok (goInt 0) ((w.alloc (Obj.cells #[.int .i64 0, .int .i64 0, .int .i64 0, .int .i64 0, .int .i64 0] 74)).alloc (Obj.cells #[.int .i64 0, .int .i64 0, .int .i64 0, .int .i64 0, .int .i64 0] 74)) := run_copy_none _ _ _ _ 3 _ _ _ _ _ _ Try.underlying24 (by kernel_rfl) rfl
    go_enter Try.func51, Try.ntmps51
    go_wp2_with fail
    refine bodyPost_ret (v := .agg #[.int .i64 0, .int .i64 0, .int .i64 0, .int .i64 0, .int .i64 0]) (by simp [results, Try.results51, go_sem, *]) rfl ⟨?_, by go_grown⟩
    simp only [padI]
    rfl
  · obtain ⟨b, o, rfl, hcell⟩ := hc (by omega)
    obtain ⟨x0, hx0⟩ : ∃ x, f 0 = x := ⟨_, rfl⟩
    have g0 := hcell 0 (by omega)
    rw [hx0] at g0
    have HX0 := Lib.hid hx0
    have hB : b < w.heap.size := World.block_lt_of_cell? w _ g0
    have hW : Below w.heap.size w ((w.alloc (Obj.cells #[.int .i64 0, .int .i64 0, .int .i64 0, .int .i64 0, .int .i64 0] 74)).alloc (Obj.cells #[.int .i64 0, .int .i64 0, .int .i64 0, .int .i64 0, .int .i64 0] 74)) := by go_grown
    have hcp : (Builtin.copy_ #[24, 24] 3 #[.slice (some ⟨w.heap.size + 1, 0, none⟩) 5 5, .slice (some ⟨b, o, none⟩) 1 cap]).run Try.prog ((w.alloc (Obj.cells #[.int .i64 0, .int .i64 0, .int .i64 0, .int .i64 0, .int .i64 0] 74)).alloc (Obj.cells #[.int .i64 0, .int .i64 0, .int .i64 0, .int .i64 0, .int .i64 0] 74)) = .ok (goInt 1) (((w.alloc (Obj.cells #[.int .i64 0, .int .i64 0, .int .i64 0, .int .i64 0, .int .i64 0] 74)).alloc (Obj.cells #[.int .i64 0, .int .i64 0, .int .i64 0, .int .i64 0, .int .i64 0] 74)).setCell ⟨w.heap.size + 1, 0, none⟩ (.int .i64 x0)) := by
      refine (run_copy_cells (P := Try.prog) ((w.alloc (Obj.cells #[.int .i64 0, .int .i64 0, .int .i64 0, .int .i64 0, .int .i64 0] 74)).alloc (Obj.cells #[.int .i64 0, .int .i64 0, .int .i64 0, .int .i64 0, .int .i64 0] 74)) 24 24 3 3 (w.heap.size + 1) 0 5 5 ⟨b, o, none⟩ 1 cap [.int .i64 x0] Try.underlying24 (by kernel_rfl) rfl ?_ ?_ ?_ ?_).trans rfl
      · intro j v hj
        have hl : j < 1 := by have := List.getElem?_eq_some_iff.1 hj; obtain ⟨h, _⟩ := this; exact h
        have hv : j = 0 := by omega
        rcases hv with rfl
        · obtain rfl : Value.int .i64 x0 = v := Option.some.inj hj
          exact (hW.cell (p := ⟨b, o + 0, none⟩) hB).trans g0
      · intro j hj
        have hv : j = 0 := by have : j < 1 := hj; omega
        rcases hv with rfl <;> simp
      · intro j hj
        have hv : j = 0 := by have : j < 1 := hj; omega
        rcases hv with rfl <;> go_cell
      · intro v hv
        simp only [List.mem_cons, List.not_mem_nil, or_false] at hv
        rcases hv with rfl <;> rfl
    clear hcell hW g0 hx0
    go_enter Try.func51, Try.ntmps51
    go_wp2_with fail
    refine bodyPost_ret (v := .agg #[.int .i64 x0, .int .i64 0, .int .i64 0, .int .i64 0, .int .i64 0]) (by simp [results, Try.results51, go_sem, *]) rfl ⟨?_, by go_grown⟩
    simp only [padI, HX0.out]
    rfl
  · obtain ⟨b, o, rfl, hcell⟩ := hc (by omega)
    obtain ⟨x0, hx0⟩ : ∃ x, f 0 = x := ⟨_, rfl⟩
    have g0 := hcell 0 (by omega)
    rw [hx0] at g0
    have HX0 := Lib.hid hx0
    obtain ⟨x1, hx1⟩ : ∃ x, f 1 = x := ⟨_, rfl⟩
    have g1 := hcell 1 (by omega)
    rw [hx1] at g1
    have HX1 := Lib.hid hx1
    have hB : b < w.heap.size := World.block_lt_of_cell? w _ g0
    have hW : Below w.heap.size w ((w.alloc (Obj.cells #[.int .i64 0, .int .i64 0, .int .i64 0, .int .i64 0, .int .i64 0] 74)).alloc (Obj.cells #[.int .i64 0, .int .i64 0, .int .i64 0, .int .i64 0, .int .i64 0] 74)) := by go_grown
    have hcp : (Builtin.copy_ #[24, 24] 3 #[.slice (some ⟨w.heap.size + 1, 0, none⟩) 5 5, .slice (some ⟨b, o, none⟩) 2 cap]).run Try.prog ((w.alloc (Obj.cells #[.int .i64 0, .int .i64 0, .int .i64 0, .int .i64 0, .int .i64 0] 74)).alloc (Obj.cells #[.int .i64 0, .int .i64 0, .int .i64 0, .int .i64 0, .int .i64 0] 74)) = .ok (goInt 2) ((((w.alloc (Obj.cells #[.int .i64 0, .int .i64 0, .int .i64 0, .int .i64 0, .int .i64 0] 74)).alloc (Obj.cells #[.int .i64 0, .int .i64 0, .int .i64 0, .int .i64 0, .int .i64 0] 74)).setCell ⟨w.heap.size + 1, 0, none⟩ (.int .i64 x0)).setCell ⟨w.heap.size + 1, 1, none⟩ (.int .i64 x1)) := by
      refine (run_copy_cells (P := Try.prog) ((w.alloc (Obj.cells #[.int .i64 0, .int .i64 0, .int .i64 0, .int .i64 0, .int .i64 0] 74)).alloc (Obj.cells #[.int .i64 0, .int .i64 0, .int .i64 0, .int .i64 0, .int .i64 0] 74)) 24 24 3 3 (w.heap.size + 1) 0 5 5 ⟨b, o, none⟩ 2 cap [.int .i64 x0, .int .i64 x1] Try.underlying24 (by kernel_rfl) rfl ?_ ?_ ?_ ?_).trans rfl
      · intro j v hj
        have hl : j < 2 := by have := List.getElem?_eq_some_iff.1 hj; obtain ⟨h, _⟩ := this; exact h
        have hv : j = 0 ∨ j = 1 := by omega
        rcases hv with rfl | rfl
        · obtain rfl : Value.int .i64 x0 = v := Option.some.inj hj
          exact (hW.cell (p := ⟨b, o + 0, none⟩) hB).trans g0
        · obtain rfl : Value.int .i64 x1 = v := Option.some.inj hj
          exact (hW.cell (p := ⟨b, o + 1, none⟩) hB).trans g1
      · intro j hj
        have hv : j = 0 ∨ j = 1 := by have : j < 2 := hj; omega
        rcases hv with rfl | rfl <;> simp
      · intro j hj
        have hv : j = 0 ∨ j = 1 := by have : j < 2 := hj; omega
        rcases hv with rfl | rfl <;> go_cell
      · intro v hv
        simp only [List.mem_cons, List.not_mem_nil, or_false] at hv
        rcases hv with rfl | rfl <;> rfl
    clear hcell hW g0 hx0 g1 hx1
    go_enter Try.func51, Try.ntmps51
    go_wp2_with fail
    refine bodyPost_ret (v := .agg #[.int .i64 x0, .int .i64 x1, .int .i64 0, .int .i64 0, .int .i64 0]) (by simp [results, Try.results51, go_sem, *]) rfl ⟨?_, by go_grown⟩
    simp only [padI, HX0.out, HX1.out]
    rfl
  · obtain ⟨b, o, rfl, hcell⟩ := hc (by omega)
    obtain ⟨x0, hx0⟩ : ∃ x, f 0 = x := ⟨_, rfl⟩
    have g0 := hcell 0 (by omega)
    rw [hx0] at g0
    have HX0 := Lib.hid hx0
    obtain ⟨x1, hx1⟩ : ∃ x, f 1 = x := ⟨_, rfl⟩
    have g1 := hcell 1 (by omega)
    rw [hx1] at g1
    have HX1 := Lib.hid hx1
    obtain ⟨x2, hx2⟩ : ∃ x, f 2 = x := ⟨_, rfl⟩
    have g2 := hcell 2 (by omega)
    rw [hx2] at g2
    have HX2 := Lib.hid hx2
    have hB : b < w.heap.size := World.block_lt_of_cell? w _ g0
    have hW : Below w.heap.size w ((w.alloc (Obj.cells #[.int .i64 0, .int .i64 0, .int .i64 0, .int .i64 0, .int .i64 0] 74)).alloc (Obj.cells #[.int .i64 0, .int .i64 0, .int .i64 0, .int .i64 0, .int .i64 0] 74)) := by go_grown
    have hcp : (Builtin.copy_ #[24, 24] 3 #[.slice (some ⟨w.heap.size + 1, 0, none⟩) 5 5, .slice (some ⟨b, o, none⟩) 3 cap]).run Try.prog ((w.alloc (Obj.cells #[.int .i64 0, .int .i64 0, .int .i64 0, .int .i64 0, .int .i64 0] 74)).alloc (Obj.cells #[.int .i64 0, .int .i64 0, .int .i64 0, .int .i64 0, .int .i64 0] 74)) = .ok (goInt 3) (((((w.alloc (Obj.cells #[.int .i64 0, .int .i64 0, .int .i64 0, .int .i64 0, .int .i64 0] 74)).alloc (Obj.cells #[.int .i64 0, .int .i64 0, .int .i64 0, .int .i64 0, .int .i64 0] 74)).setCell ⟨w.heap.size + 1, 0, none⟩ (.int .i64 x0)).setCell ⟨w.heap.size + 1, 1, none⟩ (.int .i64 x1)).setCell ⟨w.heap.size + 1, 2, none⟩ (.int .i64 x2)) := by
      refine (run_copy_cells (P := Try.prog) ((w.alloc (Obj.cells #[.int .i64 0, .int .i64 0, .int .i64 0, .int .i64 0, .int .i64 0] 74)).alloc (Obj.cells #[.int .i64 0, .int .i64 0, .int .i64 0, .int .i64 0, .int .i64 0] 74)) 24 24 3 3 (w.heap.size + 1) 0 5 5 ⟨b, o, none⟩ 3 cap [.int .i64 x0, .int .i64 x1, .int .i64 x2] Try.underlying24 (by kernel_rfl) rfl ?_ ?_ ?_ ?_).trans rfl
      · intro j v hj
        have hl : j < 3 := by have := List.getElem?_eq_some_iff.1 hj; obtain ⟨h, _⟩ := this; exact h
        have hv : j = 0 ∨ j = 1 ∨ j = 2 := by omega
        rcases hv with rfl | rfl | rfl
        · obtain rfl : Value.int .i64 x0 = v := Option.some.inj hj
          exact (hW.cell (p := ⟨b, o + 0, none⟩) hB).trans g0
        · obtain rfl : Value.int .i64 x1 = v := Option.some.inj hj
          exact (hW.cell (p := ⟨b, o + 1, none⟩) hB).trans g1
        · obtain rfl : Value.int .i64 x2 = v := Option.some.inj hj
          exact (hW.cell (p := ⟨b, o + 2, none⟩) hB).trans g2
      · intro j hj
        have hv : j = 0 ∨ j = 1 ∨ j = 2 := by have : j < 3 := hj; omega
        rcases hv with rfl | rfl | rfl <;> simp
      · intro j hj
        have hv : j = 0 ∨ j = 1 ∨ j = 2 := by have : j < 3 := hj; omega
        rcases hv with rfl | rfl | rfl <;> go_cell
      · intro v hv
        simp only [List.mem_cons, List.not_mem_nil, or_false] at hv
        rcases hv with rfl | rfl | rfl <;> rfl
    clear hcell hW g0 hx0 g1 hx1 g2 hx2
    go_enter Try.func51, Try.ntmps51
    go_wp2_with fail
    refine bodyPost_ret (v := .agg #[.int .i64 x0, .int .i64 x1, .int .i64 x2, .int .i64 0, .int .i64 0]) (by simp [results, Try.results51, go_sem, *]) rfl ⟨?_, by go_grown⟩
    simp only [padI, HX0.out, HX1.out, HX2.out]
    rfl
  · obtain ⟨b, o, rfl, hcell⟩ := hc (by omega)
    obtain ⟨x0, hx0⟩ : ∃ x, f 0 = x := ⟨_, rfl⟩
    have g0 := hcell 0 (by omega)
    rw [hx0] at g0
    have HX0 := Lib.hid hx0
    obtain ⟨x1, hx1⟩ : ∃ x, f 1 = x := ⟨_, rfl⟩
    have g1 := hcell 1 (by omega)
    rw [hx1] at g1
    have HX1 := Lib.hid hx1
    obtain ⟨x2, hx2⟩ : ∃ x, f 2 = x := ⟨_, rfl⟩
    have g2 := hcell 2 (by omega)
    rw [hx2] at g2
    have HX2 := Lib.hid hx2
    obtain ⟨x3, hx3⟩ : ∃ x, f 3 = x := ⟨_, rfl⟩
    have g3 := hcell 3 (by omega)
    rw [hx3] at g3
    have HX3 := Lib.hid hx3
    have hB : b < w.heap.size := World.block_lt_of_cell? w _ g0
    have hW : Below w.heap.size w ((w.alloc (Obj.cells #[.int .i64 0, .int .i64 0, .int .i64 0, .int .i64 0, .int .i64 0] 74)).alloc (Obj.cells #[.int .i64 0, .int .i64 0, .int .i64 0, .int .i64 0, .int .i64 0] 74)) := by go_grown
    have hcp : (Builtin.copy_ #[24, 24] 3 #[.slice (some ⟨w.heap.size + 1, 0, none⟩) 5 5, .slice (some ⟨b, o, none⟩) 4 cap]).run Try.prog ((w.alloc (Obj.cells #[.int .i64 0, .int .i64 0, .int .i64 0, .int .i64 0, .int .i64 0] 74)).alloc (Obj.cells #[.int .i64 0, .int .i64 0, .int .i64 0, .int .i64 0, .int .i64 0] 74)) = .ok (goInt 4) ((((((w.alloc (Obj.cells #[.int .i64 0, .int .i64 0, .int .i64 0, .int .i64 0, .int .i64 0] 74)).alloc (Obj.cells #[.int .i64 0, .int .i64 0, .int .i64 0, .int .i64 0, .int .i64 0] 74)).setCell ⟨w.heap.size + 1, 0, none⟩ (.int .i64 x0)).setCell ⟨w.heap.size + 1, 1, none⟩ (.int .i64 x1)).setCell ⟨w.heap.size + 1, 2, none⟩ (.int .i64 x2)).setCell ⟨w.heap.size + 1, 3, none⟩ (.int .i64 x3)) := by
      refine (run_copy_cells (P := Try.prog) ((w.alloc (Obj.cells #[.int .i64 0, .int .i64 0, .int .i64 0, .int .i64 0, .int .i64 0] 74)).alloc (Obj.cells #[.int .i64 0, .int .i64 0, .int .i64 0, .int .i64 0, .int .i64 0] 74)) 24 24 3 3 (w.heap.size + 1) 0 5 5 ⟨b, o, none⟩ 4 cap [.int .i64 x0, .int .i64 x1, .int .i64 x2, .int .i64 x3] Try.underlying24 (by kernel_rfl) rfl ?_ ?_ ?_ ?_).trans rfl
      · intro j v hj
        have hl : j < 4 := by have := List.getElem?_eq_some_iff.1 hj; obtain ⟨h, _⟩ := this; exact h
        have hv : j = 0 ∨ j = 1 ∨ j = 2 ∨ j = 3 := by omega
        rcases hv with rfl | rfl | rfl | rfl
        · obtain rfl : Value.int .i64 x0 = v := Option.some.inj hj
          exact (hW.cell (p := ⟨b, o + 0, none⟩) hB).trans g0
        · obtain rfl : Value.int .i64 x1 = v := Option.some.inj hj
          exact (hW.cell (p := ⟨b, o + 1, none⟩) hB).trans g1
        · obtain rfl : Value.int .i64 x2 = v := Option.some.inj hj
          exact (hW.cell (p := ⟨b, o + 2, none⟩) hB).trans g2
        · obtain rfl : Value.int .i64 x3 = v := Option.some.inj hj
          exact (hW.cell (p := ⟨b, o + 3, none⟩) hB).trans g3
      · intro j hj
        have hv : j = 0 ∨ j = 1 ∨ j = 2 ∨ j = 3 := by have : j < 4 := hj; omega
        rcases hv with rfl | rfl | rfl | rfl <;> simp
      · intro j hj
        have hv : j = 0 ∨ j = 1 ∨ j = 2 ∨ j = 3 := by have : j < 4 := hj; omega
        rcases hv with rfl | rfl | rfl | rfl <;> go_cell
      · intro v hv
        simp only [List.mem_cons, List.not_mem_nil, or_false] at hv
        rcases hv with rfl | rfl | rfl | rfl <;> rfl
    clear hcell hW g0 hx0 g1 hx1 g2 hx2 g3 hx3
    go_enter Try.func51, Try.ntmps51
    go_wp2_with fail
    refine bodyPost_ret (v := .agg #[.int .i64 x0, .int .i64 x1, .int .i64 x2, .int .i64 x3, .int .i64 0]) (by simp [results, Try.results51, go_sem, *]) rfl ⟨?_, by go_grown⟩
    simp only [padI, HX0.out, HX1.out, HX2.out, HX3.out]
    rfl
  · obtain ⟨b, o, rfl, hcell⟩ := hc (by omega)
    obtain ⟨x0, hx0⟩ : ∃ x, f 0 = x := ⟨_, rfl⟩
    have g0 := hcell 0 (by omega)
    rw [hx0] at g0
    have HX0 := Lib.hid hx0
    obtain ⟨x1, hx1⟩ : ∃ x, f 1 = x := ⟨_, rfl⟩
    have g1 := hcell 1 (by omega)
    rw [hx1] at g1
    have HX1 := Lib.hid hx1
    obtain ⟨x2, hx2⟩ : ∃ x, f 2 = x := ⟨_, rfl⟩
    have g2 := hcell 2 (by omega)
    rw [hx2] at g2
    have HX2 := Lib.hid hx2
    obtain ⟨x3, hx3⟩ : ∃ x, f 3 = x := ⟨_, rfl⟩
    have g3 := hcell 3 (by omega)
    rw [hx3] at g3
    have HX3 := Lib.hid hx3
    obtain ⟨x4, hx4⟩ : ∃ x, f 4 = x := ⟨_, rfl⟩
    have g4 := hcell 4 (by omega)
    rw [hx4] at g4
    have HX4 := Lib.hid hx4
    have hB : b < w.heap.size := World.block_lt_of_cell? w _ g0
    have hW : Below w.heap.size w ((w.alloc (Obj.cells #[.int .i64 0, .int .i64 0, .int .i64 0, .int .i64 0, .int .i64 0] 74)).alloc (Obj.cells #[.int .i64 0, .int .i64 0, .int .i64 0, .int .i64 0, .int .i64 0] 74)) := by go_grown
    have hcp : (Builtin.copy_ #[24, 24] 3 #[.slice (some ⟨w.heap.size + 1, 0, none⟩) 5 5, .slice (some ⟨b, o, none⟩) 5 cap]).run Try.prog ((w.alloc (Obj.cells #[.int .i64 0, .int .i64 0, .int .i64 0, .int .i64 0, .int .i64 0] 74)).alloc (Obj.cells #[.int .i64 0, .int .i64 0, .int .i64 0, .int .i64 0, .int .i64 0] 74)) = .ok (goInt 5) (((((((w.alloc (Obj.cells #[.int .i64 0, .int .i64 0, .int .i64 0, .int .i64 0, .int .i64 0] 74)).alloc (Obj.cells #[.int .i64 0, .int .i64 0, .int .i64 0, .int .i64 0, .int .i64 0] 74)).setCell ⟨w.heap.size + 1, 0, none⟩ (.int .i64 x0)).setCell ⟨w.heap.size + 1, 1, none⟩ (.int .i64 x1)).setCell ⟨w.heap.size + 1, 2, none⟩ (.int .i64 x2)).setCell ⟨w.heap.size + 1, 3, none⟩ (.int .i64 x3)).setCell ⟨w.heap.size + 1, 4, none⟩ (.int .i64 x4)) := by
      refine (run_copy_cells (P := Try.prog) ((w.alloc (Obj.cells #[.int .i64 0, .int .i64 0, .int .i64 0, .int .i64 0, .int .i64 0] 74)).alloc (Obj.cells #[.int .i64 0, .int .i64 0, .int .i64 0, .int .i64 0, .int .i64 0] 74)) 24 24 3 3 (w.heap.size + 1) 0 5 5 ⟨b, o, none⟩ 5 cap [.int .i64 x0, .int .i64 x1, .int .i64 x2, .int .i64 x3, .int .i64 x4] Try.underlying24 (by kernel_rfl) rfl ?_ ?_ ?_ ?_).trans rfl
      · intro j v hj
        have hl : j < 5 := by have := List.getElem?_eq_some_iff.1 hj; obtain ⟨h, _⟩ := this; exact h
        have hv : j = 0 ∨ j = 1 ∨ j = 2 ∨ j = 3 ∨ j = 4 := by omega
        rcases hv with rfl | rfl | rfl | rfl | rfl
        · obtain rfl : Value.int .i64 x0 = v := Option.some.inj hj
          exact (hW.cell (p := ⟨b, o + 0, none⟩) hB).trans g0
        · obtain rfl : Value.int .i64 x1 = v := Option.some.inj hj
          exact (hW.cell (p := ⟨b, o + 1, none⟩) hB).trans g1
        · obtain rfl : Value.int .i64 x2 = v := Option.some.inj hj
          exact (hW.cell (p := ⟨b, o + 2, none⟩) hB).trans g2
        · obtain rfl : Value.int .i64 x3 = v := Option.some.inj hj
          exact (hW.cell (p := ⟨b, o + 3, none⟩) hB).trans g3
        · obtain rfl : Value.int .i64 x4 = v := Option.some.inj hj
          exact (hW.cell (p := ⟨b, o + 4, none⟩) hB).trans g4
      · intro j hj
        have hv : j = 0 ∨ j = 1 ∨ j = 2 ∨ j = 3 ∨ j = 4 := by have : j < 5 := hj; omega
        rcases hv with rfl | rfl | rfl | rfl | rfl <;> simp
      · intro j hj
        have hv : j = 0 ∨ j = 1 ∨ j = 2 ∨ j = 3 ∨ j = 4 := by have : j < 5 := hj; omega
        rcases hv with rfl | rfl | rfl | rfl | rfl <;> go_cell
      · intro v hv
        simp only [List.mem_cons, List.not_mem_nil, or_false] at hv
        rcases hv with rfl | rfl | rfl | rfl | rfl <;> rfl
    clear hcell hW g0 hx0 g1 hx1 g2 hx2 g3 hx3 g4 hx4
    go_enter Try.func51, Try.ntmps51
    go_wp2_with fail
    refine bodyPost_ret (v := .agg #[.int .i64 x0, .int .i64 x1, .int .i64 x2, .int .i64 x3, .int .i64 x4]) (by simp [results, Try.results51, go_sem, *]) rfl ⟨?_, by go_grown⟩
    simp only [padI, HX0.out, HX1.out, HX2.out, HX3.out, HX4.out]
    rfl
end Go.Proofs.Ytdhlikedjephmaa
