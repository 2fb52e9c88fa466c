import Derived.Test.YtkkcnhhfdicppaaPw7
import Derived.Test.YtkkcnhhfdicppaaRv7
namespace Go.Proofs.Ytkkcnhhfdicppaa
open Go.RowKit Lay
set_option maxRecDepth 100000 in
set_option maxHeartbeats 1000000 in
theorem rNextw_0 (x y : Int) (w : World) :
    Calls Try.prog 51 #[.agg #[.int .i64 x, .int .i64 y], .int .i64 0] w fun e w' => e = .returned (.agg #[.int .i64 (IntKind.i64.wrap (x + 1)), .int .i64 (y)]) ∧ Below w.heap.size w w' := by
  go_enter Try.func51, Try.ntmps51
  go_wp2_with fail
  refine bodyPost_ret (v := .agg #[.int .i64 (IntKind.i64.wrap (x + 1)), .int .i64 (y)]) (by first | (simp [results, Try.results51, go_sem]; done) | (simp [results, Try.results51, go_sem]; rw [IntKind.wrap_i64, wrap64])) rfl ⟨rfl, by go_grown⟩
set_option maxRecDepth 100000 in
set_option maxHeartbeats 1000000 in
theorem rNextw_1 (x y : Int) (w : World) :
    Calls Try.prog 51 #[.agg #[.int .i64 x, .int .i64 y], .int .i64 1] w fun e w' => e = .returned (.agg #[.int .i64 (x), .int .i64 (IntKind.i64.wrap (y + 1))]) ∧ Below w.heap.size w w' := by
  go_enter Try.func51, Try.ntmps51
  go_wp2_with fail
  refine bodyPost_ret (v := .agg #[.int .i64 (x), .int .i64 (IntKind.i64.wrap (y + 1))]) (by first | (simp [results, Try.results51, go_sem]; done) | (simp [results, Try.results51, go_sem]; rw [IntKind.wrap_i64, wrap64])) rfl ⟨rfl, by go_grown⟩
set_option maxRecDepth 100000 in
set_option maxHeartbeats 1000000 in
theorem rNextw_2 (x y : Int) (w : World) :
    Calls Try.prog 51 #[.agg #[.int .i64 x, .int .i64 y], .int .i64 2] w fun e w' => e = .returned (.agg #[.int .i64 (IntKind.i64.wrap (x - 1)), .int .i64 (y)]) ∧ Below w.heap.size w w' := by
  go_enter Try.func51, Try.ntmps51
  go_wp2_with fail
  refine bodyPost_ret (v := .agg #[.int .i64 (IntKind.i64.wrap (x - 1)), .int .i64 (y)]) (by first | (simp [results, Try.results51, go_sem]; done) | (simp [results, Try.results51, go_sem]; rw [IntKind.wrap_i64, wrap64])) rfl ⟨rfl, by go_grown⟩
set_option maxRecDepth 100000 in
set_option maxHeartbeats 1000000 in
theorem rNextw_3 (x y : Int) (w : World) :
    Calls Try.prog 51 #[.agg #[.int .i64 x, .int .i64 y], .int .i64 3] w fun e w' => e = .returned (.agg #[.int .i64 (x), .int .i64 (IntKind.i64.wrap (y - 1))]) ∧ Below w.heap.size w w' := by
  go_enter Try.func51, Try.ntmps51
  go_wp2_with fail
  refine bodyPost_ret (v := .agg #[.int .i64 (x), .int .i64 (IntKind.i64.wrap (y - 1))]) (by first | (simp [results, Try.results51, go_sem]; done) | (simp [results, Try.results51, go_sem]; rw [IntKind.wrap_i64, wrap64])) rfl ⟨rfl, by go_grown⟩
theorem kb0 (x0 x1 x2 x3 : Value) (w : World) : (Instr.index 139 (.agg #[x0, x1, x2, x3]) (.int .i64 0)).run Try.prog w = .ok x0 w := by kernel_rfl
theorem kb1 (x0 x1 x2 x3 : Value) (w : World) : (Instr.index 139 (.agg #[x0, x1, x2, x3]) (.int .i64 1)).run Try.prog w = .ok x1 w := by kernel_rfl
theorem kb2 (x0 x1 x2 x3 : Value) (w : World) : (Instr.index 139 (.agg #[x0, x1, x2, x3]) (.int .i64 2)).run Try.prog w = .ok x2 w := by kernel_rfl
theorem kb3 (x0 x1 x2 x3 : Value) (w : World) : (Instr.index 139 (.agg #[x0, x1, x2, x3]) (.int .i64 3)).run Try.prog w = .ok x3 w := by kernel_rfl
set_option maxRecDepth 100000 in
set_option maxHeartbeats 8000000 in
theorem toward_any (x y p q : Int) (w : World) (hx : i64r x) (hy : i64r y) (hp : i64r p) (hq : i64r q) :
    Calls Try.prog 81 #[.agg #[.int .i64 x, .int .i64 y], .agg #[.int .i64 p, .int .i64 q]] w fun e w' => e = .returned (.int .i64 (wyS x y p q)) ∧ Below w.heap.size w w' := by
  have HX := Lib.hid (And.intro hx (And.intro hy (And.intro hp hq)))
  clear hx hy hp hq
  have x0 := kb0
  have x1 := kb1
  have x2 := kb2
  have x3 := kb3
  go_enter Try.func81, Try.ntmps81
  go_wp2_with fail
  go_loopw [7] (fun iv wr => ∃ k : Nat, iv = .int .i64 k ∧ k ≤ 4 ∧ Hid (∀ j : Int, 0 ≤ j → j < k → wyS x y p q ≠ j) ∧ Hid (wr.heap[w.heap.size]? = some (.cells #[.int .i64 x, .int .i64 y] 26 (0, 0))) ∧ Hid (wr.heap[w.heap.size + 1]? = some (.cells #[.int .i64 p, .int .i64 q] 26 (0, 0))) ∧ Hid (Below w.heap.size w wr) ∧ w.heap.size + 1 < wr.heap.size) (fun iv _ => 4 - (intOf iv).toNat)
  case atStart => exact ⟨0, rfl, by omega, Lib.hid (fun j h1 h2 => by omega), Lib.hid ((Below.heap_alloc _ _ _ (by simp)).trans (heap_alloc_new w _)), Lib.hid (by have h := heap_alloc_new (w.alloc (.cells #[.int .i64 x, .int .i64 y] 26)) (.cells #[.int .i64 p, .int .i64 q] 26); rwa [World.size_alloc] at h), Lib.hid (by go_grown), by simp⟩
  case round =>
    obtain ⟨k, rfl, hk, HN, KA, KB, HB, hz⟩ := hrel
    obtain ⟨a0, a1⟩ : wr.cell? ⟨w.heap.size, 0, none⟩ = some (.int .i64 x) ∧ wr.cell? ⟨w.heap.size, 1, none⟩ = some (.int .i64 y) := ⟨cell_of_blk KA.out rfl, cell_of_blk KA.out rfl⟩
    by_cases hlt : k < 4
    case neg =>
      obtain rfl : k = 4 := by omega
      have HR : Hid (wyS x y p q = -1) := Lib.hid (by
        have h := wyS_range x y p q
        have h0 := HN.out 0 (by omega) (by omega)
        have h1 := HN.out 1 (by omega) (by omega)
        have h2 := HN.out 2 (by omega) (by omega)
        have h3 := HN.out 3 (by omega) (by omega)
        omega)
      go_wp2_with fail
      refine bodyPost_ret (v := .int .i64 (-1)) (by simp [results, Try.results81, go_sem]) rfl ⟨by rw [HR.out], HB.out⟩
    have hk4 : k = 0 ∨ k = 1 ∨ k = 2 ∨ k = 3 := by omega
    rcases hk4 with rfl | rfl | rfl | rfl
    · obtain ⟨cx, hc⟩ : ∃ z, IntKind.i64.wrap (x + 1) = z := ⟨_, rfl⟩
      have hcw : (cx = x + 1 ∧ i64r (x + 1)) ∨ (¬ i64r (x + 1) ∧ cx < x) := by
        have h := HX.out
        rw [IntKind.wrap_i64] at hc
        omega
      have HCW := Lib.hid hcw
      go_wp2_with fail
      refine (rNextw_0 x y _).mono ?_
      rw [hc]
      clear hc hcw
      rintro e w1 ⟨rfl, hb⟩
      have KA1 : Hid (w1.heap[w.heap.size]? = some (.cells #[.int .i64 x, .int .i64 y] 26 (0, 0))) := Lib.hid ((hb.block _ (by omega)).trans KA.out)
      have KB1 : Hid (w1.heap[w.heap.size + 1]? = some (.cells #[.int .i64 p, .int .i64 q] 26 (0, 0))) := Lib.hid ((hb.block _ (by omega)).trans KB.out)
      have HB1 : Hid (Below w.heap.size w w1) := Lib.hid (HB.out.trans (hb.mono HB.out.size))
      have hz1 : w.heap.size + 1 < w1.heap.size := by have := hb.size; omega
      clear hb KA KB HB hz a0 a1
      obtain ⟨w2, hw2⟩ : ∃ z, z = w1.alloc (.cells #[.int .i64 cx, .int .i64 y] 26) := ⟨_, rfl⟩
      obtain ⟨b6, hb6⟩ : ∃ z, z = w1.heap.size := ⟨_, rfl⟩
      have hc12 : Below w1.heap.size w1 w2 := by rw [hw2]; exact bal (Below.refl _ _) _
      have KA2 : Hid (w2.heap[w.heap.size]? = some (.cells #[.int .i64 x, .int .i64 y] 26 (0, 0))) := Lib.hid ((hc12.block _ (by omega)).trans KA1.out)
      have KB2 : Hid (w2.heap[w.heap.size + 1]? = some (.cells #[.int .i64 p, .int .i64 q] 26 (0, 0))) := Lib.hid ((hc12.block _ (by omega)).trans KB1.out)
      have KC2 : Hid (w2.heap[b6]? = some (.cells #[.int .i64 cx, .int .i64 y] 26 (0, 0))) := Lib.hid (by rw [hw2, hb6]; exact heap_alloc_new w1 _)
      have HB2 : Hid (Below w.heap.size w w2) := Lib.hid (HB1.out.trans (hc12.mono HB1.out.size))
      have hz2 : w.heap.size + 1 < w2.heap.size := by have := hc12.size; omega
      have HW2 := Lib.hid (And.intro hw2 hb6)
      clear hc12 hw2 hb6 KA1 KB1 HB1 hz1
      obtain ⟨a0, a1⟩ : w2.cell? ⟨w.heap.size, 0, none⟩ = some (.int .i64 x) ∧ w2.cell? ⟨w.heap.size, 1, none⟩ = some (.int .i64 y) := ⟨cell_of_blk KA2.out rfl, cell_of_blk KA2.out rfl⟩
      obtain ⟨e0, e1⟩ : w2.cell? ⟨w.heap.size + 1, 0, none⟩ = some (.int .i64 p) ∧ w2.cell? ⟨w.heap.size + 1, 1, none⟩ = some (.int .i64 q) := ⟨cell_of_blk KB2.out rfl, cell_of_blk KB2.out rfl⟩
      obtain ⟨c0, c1⟩ : w2.cell? ⟨b6, 0, none⟩ = some (.int .i64 cx) ∧ w2.cell? ⟨b6, 1, none⟩ = some (.int .i64 y) := ⟨cell_of_blk KC2.out rfl, cell_of_blk KC2.out rfl⟩
      go_upto_region 5 with fail
      rw [← HW2.out.1]
      try rw [← HW2.out.2]
      clear HW2
      by_cases he : cx = p ∧ y = q
      · have hne : ∀ w, (binOp .eql 26 (.agg #[.int .i64 cx, .int .i64 y]) (.agg #[.int .i64 p, .int .i64 q])).run Try.prog w = .ok (.bool true) w := fun w => by
          have h := eqXY cx y p q w
          rw [show (cx == p && y == q) = true by simp [he.1, he.2]] at h
          exact h
        by_cases hg : x < cx
        · have HR : Hid (wyS x y p q = 0) := Lib.hid (by
            refine (wyS_iff (by omega) (by omega)).2 ?_
            have hcc := HCW.out
            simp [nx, ny]
            omega)
          clear he
          go_wp2_with fail
          refine bodyPost_ret (v := .int .i64 0) (by simp [results, Try.results81, go_sem]) rfl ⟨by rw [HR.out], HB2.out⟩
        · have HN' : Hid (∀ j : Int, 0 ≤ j → j < ((0 + 1 : Nat) : Int) → wyS x y p q ≠ j) := Lib.hid (fun j h1 h2 => by
            by_cases e : j = 0
            · subst e
              intro hw
              obtain ⟨g1, g2⟩ := (wyS_iff (by omega) (by omega)).1 hw
              have hxx := HX.out
              have hcc := HCW.out
              simp [nx, ny] at g1 g2
              omega
            · exact HN.out j h1 (by omega))
          clear he
          go_wp2_with fail
          go_roundw
          case rel => exact ⟨0 + 1, by go_num, by omega, HN', KA2, KB2, HB2, hz2⟩
          case measure => simp [intOf]
      · have hne : ∀ w, (binOp .eql 26 (.agg #[.int .i64 cx, .int .i64 y]) (.agg #[.int .i64 p, .int .i64 q])).run Try.prog w = .ok (.bool false) w := fun w => by
          have h := eqXY cx y p q w
          rw [show (cx == p && y == q) = false from Bool.eq_false_iff.2 (fun e => he (by simpa using e))] at h
          exact h
        have HN' : Hid (∀ j : Int, 0 ≤ j → j < ((0 + 1 : Nat) : Int) → wyS x y p q ≠ j) := Lib.hid (fun j h1 h2 => by
          by_cases e : j = 0
          · subst e
            intro hw
            obtain ⟨g1, g2⟩ := (wyS_iff (by omega) (by omega)).1 hw
            have hxx := HX.out
            have hcc := HCW.out
            simp [nx, ny] at g1 g2
            omega
          · exact HN.out j h1 (by omega))
        clear he
        go_wp2_with fail
        go_roundw
        case rel => exact ⟨0 + 1, by go_num, by omega, HN', KA2, KB2, HB2, hz2⟩
        case measure => simp [intOf]
    · obtain ⟨cy, hc⟩ : ∃ z, IntKind.i64.wrap (y + 1) = z := ⟨_, rfl⟩
      have hcw : (cy = y + 1 ∧ i64r (y + 1)) ∨ (¬ i64r (y + 1) ∧ cy < y) := by
        have h := HX.out
        rw [IntKind.wrap_i64] at hc
        omega
      have HCW := Lib.hid hcw
      go_wp2_with fail
      refine (rNextw_1 x y _).mono ?_
      rw [hc]
      clear hc hcw
      rintro e w1 ⟨rfl, hb⟩
      have KA1 : Hid (w1.heap[w.heap.size]? = some (.cells #[.int .i64 x, .int .i64 y] 26 (0, 0))) := Lib.hid ((hb.block _ (by omega)).trans KA.out)
      have KB1 : Hid (w1.heap[w.heap.size + 1]? = some (.cells #[.int .i64 p, .int .i64 q] 26 (0, 0))) := Lib.hid ((hb.block _ (by omega)).trans KB.out)
      have HB1 : Hid (Below w.heap.size w w1) := Lib.hid (HB.out.trans (hb.mono HB.out.size))
      have hz1 : w.heap.size + 1 < w1.heap.size := by have := hb.size; omega
      clear hb KA KB HB hz a0 a1
      obtain ⟨w2, hw2⟩ : ∃ z, z = w1.alloc (.cells #[.int .i64 x, .int .i64 cy] 26) := ⟨_, rfl⟩
      obtain ⟨b6, hb6⟩ : ∃ z, z = w1.heap.size := ⟨_, rfl⟩
      have hc12 : Below w1.heap.size w1 w2 := by rw [hw2]; exact bal (Below.refl _ _) _
      have KA2 : Hid (w2.heap[w.heap.size]? = some (.cells #[.int .i64 x, .int .i64 y] 26 (0, 0))) := Lib.hid ((hc12.block _ (by omega)).trans KA1.out)
      have KB2 : Hid (w2.heap[w.heap.size + 1]? = some (.cells #[.int .i64 p, .int .i64 q] 26 (0, 0))) := Lib.hid ((hc12.block _ (by omega)).trans KB1.out)
      have KC2 : Hid (w2.heap[b6]? = some (.cells #[.int .i64 x, .int .i64 cy] 26 (0, 0))) := Lib.hid (by rw [hw2, hb6]; exact heap_alloc_new w1 _)
      have HB2 : Hid (Below w.heap.size w w2) := Lib.hid (HB1.out.trans (hc12.mono HB1.out.size))
      have hz2 : w.heap.size + 1 < w2.heap.size := by have := hc12.size; omega
      have HW2 := Lib.hid (And.intro hw2 hb6)
      clear hc12 hw2 hb6 KA1 KB1 HB1 hz1
      obtain ⟨a0, a1⟩ : w2.cell? ⟨w.heap.size, 0, none⟩ = some (.int .i64 x) ∧ w2.cell? ⟨w.heap.size, 1, none⟩ = some (.int .i64 y) := ⟨cell_of_blk KA2.out rfl, cell_of_blk KA2.out rfl⟩
      obtain ⟨e0, e1⟩ : w2.cell? ⟨w.heap.size + 1, 0, none⟩ = some (.int .i64 p) ∧ w2.cell? ⟨w.heap.size + 1, 1, none⟩ = some (.int .i64 q) := ⟨cell_of_blk KB2.out rfl, cell_of_blk KB2.out rfl⟩
      obtain ⟨c0, c1⟩ : w2.cell? ⟨b6, 0, none⟩ = some (.int .i64 x) ∧ w2.cell? ⟨b6, 1, none⟩ = some (.int .i64 cy) := ⟨cell_of_blk KC2.out rfl, cell_of_blk KC2.out rfl⟩
      go_upto_region 5 with fail
      rw [← HW2.out.1]
      try rw [← HW2.out.2]
      clear HW2
      by_cases he : x = p ∧ cy = q
      · have hne : ∀ w, (binOp .eql 26 (.agg #[.int .i64 x, .int .i64 cy]) (.agg #[.int .i64 p, .int .i64 q])).run Try.prog w = .ok (.bool true) w := fun w => by
          have h := eqXY x cy p q w
          rw [show (x == p && cy == q) = true by simp [he.1, he.2]] at h
          exact h
        by_cases hg : y < cy
        · have HR : Hid (wyS x y p q = 1) := Lib.hid (by
            refine (wyS_iff (by omega) (by omega)).2 ?_
            have hcc := HCW.out
            simp [nx, ny]
            omega)
          clear he
          go_wp2_with fail
          refine bodyPost_ret (v := .int .i64 1) (by simp [results, Try.results81, go_sem]) rfl ⟨by rw [HR.out], HB2.out⟩
        · have HN' : Hid (∀ j : Int, 0 ≤ j → j < ((1 + 1 : Nat) : Int) → wyS x y p q ≠ j) := Lib.hid (fun j h1 h2 => by
            by_cases e : j = 1
            · subst e
              intro hw
              obtain ⟨g1, g2⟩ := (wyS_iff (by omega) (by omega)).1 hw
              have hxx := HX.out
              have hcc := HCW.out
              simp [nx, ny] at g1 g2
              omega
            · exact HN.out j h1 (by omega))
          clear he
          go_wp2_with fail
          go_roundw
          case rel => exact ⟨1 + 1, by go_num, by omega, HN', KA2, KB2, HB2, hz2⟩
          case measure => simp [intOf]
      · have hne : ∀ w, (binOp .eql 26 (.agg #[.int .i64 x, .int .i64 cy]) (.agg #[.int .i64 p, .int .i64 q])).run Try.prog w = .ok (.bool false) w := fun w => by
          have h := eqXY x cy p q w
          rw [show (x == p && cy == q) = false from Bool.eq_false_iff.2 (fun e => he (by simpa using e))] at h
          exact h
        have HN' : Hid (∀ j : Int, 0 ≤ j → j < ((1 + 1 : Nat) : Int) → wyS x y p q ≠ j) := Lib.hid (fun j h1 h2 => by
          by_cases e : j = 1
          · subst e
            intro hw
            obtain ⟨g1, g2⟩ := (wyS_iff (by omega) (by omega)).1 hw
            have hxx := HX.out
            have hcc := HCW.out
            simp [nx, ny] at g1 g2
            omega
          · exact HN.out j h1 (by omega))
        clear he
        go_wp2_with fail
        go_roundw
        case rel => exact ⟨1 + 1, by go_num, by omega, HN', KA2, KB2, HB2, hz2⟩
        case measure => simp [intOf]
    · obtain ⟨cx, hc⟩ : ∃ z, IntKind.i64.wrap (x - 1) = z := ⟨_, rfl⟩
      have hcw : (cx = x - 1 ∧ i64r (x - 1)) ∨ (¬ i64r (x - 1) ∧ x < cx) := by
        have h := HX.out
        rw [IntKind.wrap_i64] at hc
        omega
      have HCW := Lib.hid hcw
      go_wp2_with fail
      refine (rNextw_2 x y _).mono ?_
      rw [hc]
      clear hc hcw
      rintro e w1 ⟨rfl, hb⟩
      have KA1 : Hid (w1.heap[w.heap.size]? = some (.cells #[.int .i64 x, .int .i64 y] 26 (0, 0))) := Lib.hid ((hb.block _ (by omega)).trans KA.out)
      have KB1 : Hid (w1.heap[w.heap.size + 1]? = some (.cells #[.int .i64 p, .int .i64 q] 26 (0, 0))) := Lib.hid ((hb.block _ (by omega)).trans KB.out)
      have HB1 : Hid (Below w.heap.size w w1) := Lib.hid (HB.out.trans (hb.mono HB.out.size))
      have hz1 : w.heap.size + 1 < w1.heap.size := by have := hb.size; omega
      clear hb KA KB HB hz a0 a1
      obtain ⟨w2, hw2⟩ : ∃ z, z = w1.alloc (.cells #[.int .i64 cx, .int .i64 y] 26) := ⟨_, rfl⟩
      obtain ⟨b6, hb6⟩ : ∃ z, z = w1.heap.size := ⟨_, rfl⟩
      have hc12 : Below w1.heap.size w1 w2 := by rw [hw2]; exact bal (Below.refl _ _) _
      have KA2 : Hid (w2.heap[w.heap.size]? = some (.cells #[.int .i64 x, .int .i64 y] 26 (0, 0))) := Lib.hid ((hc12.block _ (by omega)).trans KA1.out)
      have KB2 : Hid (w2.heap[w.heap.size + 1]? = some (.cells #[.int .i64 p, .int .i64 q] 26 (0, 0))) := Lib.hid ((hc12.block _ (by omega)).trans KB1.out)
      have KC2 : Hid (w2.heap[b6]? = some (.cells #[.int .i64 cx, .int .i64 y] 26 (0, 0))) := Lib.hid (by rw [hw2, hb6]; exact heap_alloc_new w1 _)
      have HB2 : Hid (Below w.heap.size w w2) := Lib.hid (HB1.out.trans (hc12.mono HB1.out.size))
      have hz2 : w.heap.size + 1 < w2.heap.size := by have := hc12.size; omega
      have HW2 := Lib.hid (And.intro hw2 hb6)
      clear hc12 hw2 hb6 KA1 KB1 HB1 hz1
      obtain ⟨a0, a1⟩ : w2.cell? ⟨w.heap.size, 0, none⟩ = some (.int .i64 x) ∧ w2.cell? ⟨w.heap.size, 1, none⟩ = some (.int .i64 y) := ⟨cell_of_blk KA2.out rfl, cell_of_blk KA2.out rfl⟩
      obtain ⟨e0, e1⟩ : w2.cell? ⟨w.heap.size + 1, 0, none⟩ = some (.int .i64 p) ∧ w2.cell? ⟨w.heap.size + 1, 1, none⟩ = some (.int .i64 q) := ⟨cell_of_blk KB2.out rfl, cell_of_blk KB2.out rfl⟩
      obtain ⟨c0, c1⟩ : w2.cell? ⟨b6, 0, none⟩ = some (.int .i64 cx) ∧ w2.cell? ⟨b6, 1, none⟩ = some (.int .i64 y) := ⟨cell_of_blk KC2.out rfl, cell_of_blk KC2.out rfl⟩
      go_upto_region 5 with fail
      rw [← HW2.out.1]
      try rw [← HW2.out.2]
      clear HW2
      by_cases he : cx = p ∧ y = q
      · have hne : ∀ w, (binOp .eql 26 (.agg #[.int .i64 cx, .int .i64 y]) (.agg #[.int .i64 p, .int .i64 q])).run Try.prog w = .ok (.bool true) w := fun w => by
          have h := eqXY cx y p q w
          rw [show (cx == p && y == q) = true by simp [he.1, he.2]] at h
          exact h
        by_cases hg : cx < x
        · have HR : Hid (wyS x y p q = 2) := Lib.hid (by
            refine (wyS_iff (by omega) (by omega)).2 ?_
            have hcc := HCW.out
            simp [nx, ny]
            omega)
          clear he
          go_wp2_with fail
          refine bodyPost_ret (v := .int .i64 2) (by simp [results, Try.results81, go_sem]) rfl ⟨by rw [HR.out], HB2.out⟩
        · have HN' : Hid (∀ j : Int, 0 ≤ j → j < ((2 + 1 : Nat) : Int) → wyS x y p q ≠ j) := Lib.hid (fun j h1 h2 => by
            by_cases e : j = 2
            · subst e
              intro hw
              obtain ⟨g1, g2⟩ := (wyS_iff (by omega) (by omega)).1 hw
              have hxx := HX.out
              have hcc := HCW.out
              simp [nx, ny] at g1 g2
              omega
            · exact HN.out j h1 (by omega))
          clear he
          go_wp2_with fail
          go_roundw
          case rel => exact ⟨2 + 1, by go_num, by omega, HN', KA2, KB2, HB2, hz2⟩
          case measure => simp [intOf]
      · have hne : ∀ w, (binOp .eql 26 (.agg #[.int .i64 cx, .int .i64 y]) (.agg #[.int .i64 p, .int .i64 q])).run Try.prog w = .ok (.bool false) w := fun w => by
          have h := eqXY cx y p q w
          rw [show (cx == p && y == q) = false from Bool.eq_false_iff.2 (fun e => he (by simpa using e))] at h
          exact h
        have HN' : Hid (∀ j : Int, 0 ≤ j → j < ((2 + 1 : Nat) : Int) → wyS x y p q ≠ j) := Lib.hid (fun j h1 h2 => by
          by_cases e : j = 2
          · subst e
            intro hw
            obtain ⟨g1, g2⟩ := (wyS_iff (by omega) (by omega)).1 hw
            have hxx := HX.out
            have hcc := HCW.out
            simp [nx, ny] at g1 g2
            omega
          · exact HN.out j h1 (by omega))
        clear he
        go_wp2_with fail
        go_roundw
        case rel => exact ⟨2 + 1, by go_num, by omega, HN', KA2, KB2, HB2, hz2⟩
        case measure => simp [intOf]
    · obtain ⟨cy, hc⟩ : ∃ z, IntKind.i64.wrap (y - 1) = z := ⟨_, rfl⟩
      have hcw : (cy = y - 1 ∧ i64r (y - 1)) ∨ (¬ i64r (y - 1) ∧ y < cy) := by
        have h := HX.out
        rw [IntKind.wrap_i64] at hc
        omega
      have HCW := Lib.hid hcw
      go_wp2_with fail
      refine (rNextw_3 x y _).mono ?_
      rw [hc]
      clear hc hcw
      rintro e w1 ⟨rfl, hb⟩
      have KA1 : Hid (w1.heap[w.heap.size]? = some (.cells #[.int .i64 x, .int .i64 y] 26 (0, 0))) := Lib.hid ((hb.block _ (by omega)).trans KA.out)
      have KB1 : Hid (w1.heap[w.heap.size + 1]? = some (.cells #[.int .i64 p, .int .i64 q] 26 (0, 0))) := Lib.hid ((hb.block _ (by omega)).trans KB.out)
      have HB1 : Hid (Below w.heap.size w w1) := Lib.hid (HB.out.trans (hb.mono HB.out.size))
      have hz1 : w.heap.size + 1 < w1.heap.size := by have := hb.size; omega
      clear hb KA KB HB hz a0 a1
      obtain ⟨w2, hw2⟩ : ∃ z, z = w1.alloc (.cells #[.int .i64 x, .int .i64 cy] 26) := ⟨_, rfl⟩
      obtain ⟨b6, hb6⟩ : ∃ z, z = w1.heap.size := ⟨_, rfl⟩
      have hc12 : Below w1.heap.size w1 w2 := by rw [hw2]; exact bal (Below.refl _ _) _
      have KA2 : Hid (w2.heap[w.heap.size]? = some (.cells #[.int .i64 x, .int .i64 y] 26 (0, 0))) := Lib.hid ((hc12.block _ (by omega)).trans KA1.out)
      have KB2 : Hid (w2.heap[w.heap.size + 1]? = some (.cells #[.int .i64 p, .int .i64 q] 26 (0, 0))) := Lib.hid ((hc12.block _ (by omega)).trans KB1.out)
      have KC2 : Hid (w2.heap[b6]? = some (.cells #[.int .i64 x, .int .i64 cy] 26 (0, 0))) := Lib.hid (by rw [hw2, hb6]; exact heap_alloc_new w1 _)
      have HB2 : Hid (Below w.heap.size w w2) := Lib.hid (HB1.out.trans (hc12.mono HB1.out.size))
      have hz2 : w.heap.size + 1 < w2.heap.size := by have := hc12.size; omega
      have HW2 := Lib.hid (And.intro hw2 hb6)
      clear hc12 hw2 hb6 KA1 KB1 HB1 hz1
      obtain ⟨a0, a1⟩ : w2.cell? ⟨w.heap.size, 0, none⟩ = some (.int .i64 x) ∧ w2.cell? ⟨w.heap.size, 1, none⟩ = some (.int .i64 y) := ⟨cell_of_blk KA2.out rfl, cell_of_blk KA2.out rfl⟩
      obtain ⟨e0, e1⟩ : w2.cell? ⟨w.heap.size + 1, 0, none⟩ = some (.int .i64 p) ∧ w2.cell? ⟨w.heap.size + 1, 1, none⟩ = some (.int .i64 q) := ⟨cell_of_blk KB2.out rfl, cell_of_blk KB2.out rfl⟩
      obtain ⟨c0, c1⟩ : w2.cell? ⟨b6, 0, none⟩ = some (.int .i64 x) ∧ w2.cell? ⟨b6, 1, none⟩ = some (.int .i64 cy) := ⟨cell_of_blk KC2.out rfl, cell_of_blk KC2.out rfl⟩
      go_upto_region 5 with fail
      rw [← HW2.out.1]
      try rw [← HW2.out.2]
      clear HW2
      by_cases he : x = p ∧ cy = q
      · have hne : ∀ w, (binOp .eql 26 (.agg #[.int .i64 x, .int .i64 cy]) (.agg #[.int .i64 p, .int .i64 q])).run Try.prog w = .ok (.bool true) w := fun w => by
          have h := eqXY x cy p q w
          rw [show (x == p && cy == q) = true by simp [he.1, he.2]] at h
          exact h
        by_cases hg : cy < y
        · have HR : Hid (wyS x y p q = 3) := Lib.hid (by
            refine (wyS_iff (by omega) (by omega)).2 ?_
            have hcc := HCW.out
            simp [nx, ny]
            omega)
          clear he
          go_wp2_with fail
          refine bodyPost_ret (v := .int .i64 3) (by simp [results, Try.results81, go_sem]) rfl ⟨by rw [HR.out], HB2.out⟩
        · have HN' : Hid (∀ j : Int, 0 ≤ j → j < ((3 + 1 : Nat) : Int) → wyS x y p q ≠ j) := Lib.hid (fun j h1 h2 => by
            by_cases e : j = 3
            · subst e
              intro hw
              obtain ⟨g1, g2⟩ := (wyS_iff (by omega) (by omega)).1 hw
              have hxx := HX.out
              have hcc := HCW.out
              simp [nx, ny] at g1 g2
              omega
            · exact HN.out j h1 (by omega))
          clear he
          go_wp2_with fail
          go_roundw
          case rel => exact ⟨3 + 1, by go_num, by omega, HN', KA2, KB2, HB2, hz2⟩
          case measure => simp [intOf]
      · have hne : ∀ w, (binOp .eql 26 (.agg #[.int .i64 x, .int .i64 cy]) (.agg #[.int .i64 p, .int .i64 q])).run Try.prog w = .ok (.bool false) w := fun w => by
          have h := eqXY x cy p q w
          rw [show (x == p && cy == q) = false from Bool.eq_false_iff.2 (fun e => he (by simpa using e))] at h
          exact h
        have HN' : Hid (∀ j : Int, 0 ≤ j → j < ((3 + 1 : Nat) : Int) → wyS x y p q ≠ j) := Lib.hid (fun j h1 h2 => by
          by_cases e : j = 3
          · subst e
            intro hw
            obtain ⟨g1, g2⟩ := (wyS_iff (by omega) (by omega)).1 hw
            have hxx := HX.out
            have hcc := HCW.out
            simp [nx, ny] at g1 g2
            omega
          · exact HN.out j h1 (by omega))
        clear he
        go_wp2_with fail
        go_roundw
        case rel => exact ⟨3 + 1, by go_num, by omega, HN', KA2, KB2, HB2, hz2⟩
        case measure => simp [intOf]
end Go.Proofs.Ytkkcnhhfdicppaa
