import Derived.Test.YtkkcnhhfdicppaaRd7
namespace Go.Proofs.Ytkkcnhhfdicppaa
open Go.RowKit Lay
theorem wf7 {x : Int} (h1 : -9223372036854775808 ≤ x) (h2 : x ≤ 9223372036854775807) : (Lit.int .i64 x).wf = true := WalkArith.wf_i64 ⟨h1, h2⟩
/-- The board's value. -/
abbrev bdV (W H M B : Int) (ao : Option Addr) (n cp m : Nat) : Value := .agg #[.int .i64 W, .int .i64 H, .int .i64 M, .int .i64 B, .slice ao n cp, .map (some m)]
set_option maxRecDepth 100000 in
set_option maxHeartbeats 4000000 in
theorem pRead_no (W H M B : Int) (n cp : Nat) (ao : Option Addr) (X Y : Nat → Int) (w : World) (hn : n ≤ 9223372036854775807) (hc : XYs w ao n X Y) (hv : vaG W H M B n X Y = false) :
    Calls Try.prog 38 #[.agg #[.int .i64 W, .int .i64 H, .int .i64 M, .int .i64 B, .slice ao n cp]] w fun e w' => e = .returned (.tuple #[.agg #[.int .i64 0, .int .i64 0, .int .i64 0, .int .i64 0, .slice none 0 0, .map none], .int .i64 70]) ∧ Below w.heap.size w w' := by
  have HC := Lib.hid hc
  have HV := Lib.hid hv
  clear hc hv
  go_enter Try.func38, Try.ntmps38
  go_wp2_with fail
  refine (pValid_any W H M B n cp ao X Y _ hn (HC.out.keep (by go_grown))).mono ?_
  rw [HV.out]
  rintro e w1 ⟨rfl, hb⟩
  have hR : w1.heap[w.heap.size + 1]? = some (.cells #[.int .i64 0, .int .i64 0, .int .i64 0, .int .i64 0, .slice none 0 0, .map none] 68 (0, 0)) := (hb.block _ (by simp)).trans (by have h := heap_alloc_new (w.alloc (.cells #[.int .i64 W, .int .i64 H, .int .i64 M, .int .i64 B, .slice ao n cp] 24)) (.cells #[.int .i64 0, .int .i64 0, .int .i64 0, .int .i64 0, .slice none 0 0, .map none] 68); rwa [World.size_alloc] at h)
  have HB : Hid (Below w.heap.size w w1) := Lib.hid (Below.trans (by go_grown) (hb.mono (by simp; omega)))
  obtain ⟨r0, r1, r2, r3, r4, r5⟩ : (w1.cell? ⟨w.heap.size + 1, 0, none⟩ = some (.int .i64 0) ∧ w1.cell? ⟨w.heap.size + 1, 1, none⟩ = some (.int .i64 0) ∧ w1.cell? ⟨w.heap.size + 1, 2, none⟩ = some (.int .i64 0) ∧ w1.cell? ⟨w.heap.size + 1, 3, none⟩ = some (.int .i64 0) ∧ w1.cell? ⟨w.heap.size + 1, 4, none⟩ = some (.slice none 0 0) ∧ w1.cell? ⟨w.heap.size + 1, 5, none⟩ = some (.map none)) := ⟨cell_of_blk hR rfl, cell_of_blk hR rfl, cell_of_blk hR rfl, cell_of_blk hR rfl, cell_of_blk hR rfl, cell_of_blk hR rfl⟩
  have rf : ∀ j, w1.frozen? ⟨w.heap.size + 1, j, none⟩ = false := fun j => by simp [World.frozen?, hR]
  have hbl := HB.out
  have hl : w.heap.size ≤ w1.heap.size := hbl.size
  clear hb hR
  go_wp2_with fail
  refine bodyPost_ret (v := .tuple #[.agg #[.int .i64 0, .int .i64 0, .int .i64 0, .int .i64 0, .slice none 0 0, .map none], .int .i64 70]) (by simp [results, Try.results38, go_sem, *]) rfl ⟨rfl, by go_grown⟩
set_option maxRecDepth 100000 in
set_option maxHeartbeats 8000000 in
theorem pRead_ok (W H M B : Int) (n cp : Nat) (ao : Option Addr) (X Y : Nat → Int) (w : World) (hc : XYs w ao n X Y) (hv : vaG W H M B n X Y = true) :
    Calls Try.prog 38 #[.agg #[.int .i64 W, .int .i64 H, .int .i64 M, .int .i64 B, .slice ao n cp]] w fun e w' => ∃ m, e = .returned (.tuple #[bdV W H M B ao n cp m, .int .i64 0]) ∧ w.heap.size ≤ m ∧ BMap w' m n (blkN X Y n) ∧ Below w.heap.size w w' := by
  have HC := Lib.hid hc
  have HV := Lib.hid hv
  obtain ⟨hnum, hall⟩ := vaG_num hv
  have HA := Lib.hid hall
  have HNUM := Lib.hid hnum
  have hn9 : n ≤ 900 := by omega
  clear hc hv hnum hall
  go_enter Try.func38, Try.ntmps38
  go_wp2_with fail
  refine (pValid_any W H M B n cp ao X Y _ (by omega) (HC.out.keep (by go_grown))).mono ?_
  rw [HV.out]
  rintro e w1 ⟨rfl, hb⟩
  have hG : Hid (G5 w1 w.heap.size W H M B ao n cp) := Lib.hid ((hb.block _ (by simp; omega)).trans ((Below.heap_alloc _ _ _ (by simp)).trans (heap_alloc_new w _)))
  have hR : Hid (w1.heap[w.heap.size + 1]? = some (.cells #[.int .i64 0, .int .i64 0, .int .i64 0, .int .i64 0, .slice none 0 0, .map none] 68 (0, 0))) := Lib.hid ((hb.block _ (by simp)).trans (by have h := heap_alloc_new (w.alloc (.cells #[.int .i64 W, .int .i64 H, .int .i64 M, .int .i64 B, .slice ao n cp] 24)) (.cells #[.int .i64 0, .int .i64 0, .int .i64 0, .int .i64 0, .slice none 0 0, .map none] 68); rwa [World.size_alloc] at h))
  have HB : Hid (Below w.heap.size w w1) := Lib.hid (Below.trans (by go_grown) (hb.mono (by simp; omega)))
  have hl : w.heap.size + 2 ≤ w1.heap.size := by have h9 := hb.size; simp at h9; omega
  have hmm := @run_makeMap Try.prog
  clear hb
  obtain ⟨g0, g1, g2, g3, g4⟩ := G5.c hG.out
  have l0 : ¬ w.heap.size = w1.heap.size := by omega
  have l1 : ¬ w1.heap.size = w.heap.size := by omega
  have l2 : w.heap.size < w1.heap.size := by omega
  go_wp2_with fail
  obtain ⟨m, hm⟩ : ∃ m, m = w1.heap.size := ⟨_, rfl⟩
  have HM1 : Hid (BMap (w1.alloc (.map #[] 0)) m 0 (blkN X Y 0)) := Lib.hid (by rw [hm]; exact BMap.made w1)
  have HG1 : Hid (G5 (w1.alloc (.map #[] 0)) w.heap.size W H M B ao n cp) := Lib.hid ((Below.heap_alloc _ _ _ l2).trans hG.out)
  have HR1 : Hid ((w1.alloc (.map #[] 0)).heap[w.heap.size + 1]? = some (.cells #[.int .i64 0, .int .i64 0, .int .i64 0, .int .i64 0, .slice none 0 0, .map none] 68 (0, 0))) := Lib.hid ((Below.heap_alloc _ _ _ (by omega)).trans hR.out)
  have HB1 : Hid (Below w.heap.size w (w1.alloc (.map #[] 0))) := Lib.hid (HB.out.alloc (by omega) _)
  have HMM : Hid (w.heap.size + 1 < m) := Lib.hid (by omega)
  rw [← hm]
  clear g0 g1 g2 g3 g4 hG hR HB l0 l1 l2 hmm hl
  generalize (w1.alloc (.map #[] 0)) = wz at *
  clear hm
  go_loopw [15] (fun iv wr => ∃ k : Nat, iv = .int .i64 k ∧ k ≤ n ∧ Hid (BMap wr m k (blkN X Y k)) ∧ Hid (G5 wr w.heap.size W H M B ao n cp) ∧ Hid (wr.heap[w.heap.size + 1]? = some (.cells #[.int .i64 0, .int .i64 0, .int .i64 0, .int .i64 0, .slice none 0 0, .map none] 68 (0, 0))) ∧ Hid (Below w.heap.size w wr)) (fun iv _ => n - (intOf iv).toNat)
  case atStart => exact ⟨0, rfl, Nat.zero_le _, HM1, HG1, HR1, HB1⟩
  case round =>
    obtain ⟨k, rfl, hk, HM, HG, HR, HB⟩ := hrel
    have hml := HM.out.lt
    have hmm := HMM.out
    clear HM1 HG1 HR1 HB1 HV
    by_cases hlt : k < n
    · obtain ⟨b, o, rfl, hcell⟩ := (HC.out.keep HB.out) (by omega)
      obtain ⟨c0, c1⟩ := hcell k hlt
      have hon := onB_iff.1 (allOn_get HA.out k hlt)
      have hnum := HNUM.out
      have lb : b < wr.heap.size := World.block_lt_of_cell? wr _ c0
      obtain ⟨x, hx⟩ : ∃ x, X k = x := ⟨_, rfl⟩
      obtain ⟨y, hy⟩ : ∃ y, Y k = y := ⟨_, rfl⟩
      rw [hx] at c0
      rw [hy] at c1
      rw [hx, hy] at hon
      have HX := Lib.hid (And.intro hx hy)
      have HMa : BMap (wr.alloc (.cells #[.int .i64 x, .int .i64 y] 26)) m k (blkN X Y k) := HM.out.keep (Below.heap_alloc _ _ _ hml)
      obtain ⟨w2, hrun, hB2, hg2⟩ := HMa.put (by unfold maxLen; omega) (wf7 (x := x) (by omega) (by omega)) (wf7 (x := y) (by omega) (by omega))
      have HM2 : Hid (BMap w2 m (k + 1) (blkN X Y (k + 1))) := Lib.hid (by simp only [blkN]; rw [HX.out.1, HX.out.2]; exact hB2)
      have HG2 : Hid (G5 w2 w.heap.size W H M B (some ⟨b, o, none⟩) n cp) := Lib.hid ((hg2.block _ (by simp; omega) (by intro e; cases e; omega)).trans ((Below.heap_alloc _ _ _ (by omega)).trans HG.out))
      have HR2 : Hid (w2.heap[w.heap.size + 1]? = some (.cells #[.int .i64 0, .int .i64 0, .int .i64 0, .int .i64 0, .slice none 0 0, .map none] 68 (0, 0))) := Lib.hid ((hg2.block _ (by simp; omega) (by intro e; cases e; omega)).trans ((Below.heap_alloc _ _ _ (by omega)).trans HR.out))
      have HB2 : Hid (Below w.heap.size w w2) := Lib.hid ((HB.out.alloc (by omega) _).grown hg2 (by simp; omega) (by intro j e; cases e; omega))
      clear hcell hx hy HMa hB2 hg2 HM HG HR HB hon hnum hmm
      go_wp2_with fail
      go_roundw
      case rel => exact ⟨k + 1, by go_num, by omega, HM2, HG2, HR2, HB2⟩
      case measure => simp [intOf]; omega
    · obtain rfl : n = k := by omega
      obtain ⟨g0, g1, g2, g3, g4⟩ := G5.c HG.out
      have hR := HR.out
      obtain ⟨r0, r1, r2, r3, r4, r5⟩ : (wr.cell? ⟨w.heap.size + 1, 0, none⟩ = some (.int .i64 0) ∧ wr.cell? ⟨w.heap.size + 1, 1, none⟩ = some (.int .i64 0) ∧ wr.cell? ⟨w.heap.size + 1, 2, none⟩ = some (.int .i64 0) ∧ wr.cell? ⟨w.heap.size + 1, 3, none⟩ = some (.int .i64 0) ∧ wr.cell? ⟨w.heap.size + 1, 4, none⟩ = some (.slice none 0 0) ∧ wr.cell? ⟨w.heap.size + 1, 5, none⟩ = some (.map none)) := ⟨cell_of_blk hR rfl, cell_of_blk hR rfl, cell_of_blk hR rfl, cell_of_blk hR rfl, cell_of_blk hR rfl, cell_of_blk hR rfl⟩
      have rf : ∀ j, wr.frozen? ⟨w.heap.size + 1, j, none⟩ = false := fun j => by simp [World.frozen?, hR]
      clear hR
      have e1 : ¬ w.heap.size = w.heap.size + 1 := by omega
      have e2 : ¬ w.heap.size + 1 = w.heap.size := by omega
      go_wp2_with fail
      refine bodyPost_ret (v := .tuple #[bdV W H M B ao n cp m, .int .i64 0]) (by simp [results, Try.results38, go_sem, *]) rfl ⟨m, rfl, by omega, ?_, ?_⟩
      · exact HM.out.keep (by rw [Below.heap_setCell _ _ _ _ (show m ≠ w.heap.size + 1 by omega), Below.heap_setCell _ _ _ _ (show m ≠ w.heap.size + 1 by omega), Below.heap_setCell _ _ _ _ (show m ≠ w.heap.size + 1 by omega), Below.heap_setCell _ _ _ _ (show m ≠ w.heap.size + 1 by omega), Below.heap_setCell _ _ _ _ (show m ≠ w.heap.size + 1 by omega), Below.heap_setCell _ _ _ _ (show m ≠ w.heap.size + 1 by omega)])
      · have hbl := HB.out
        go_grown

end Go.Proofs.Ytkkcnhhfdicppaa
