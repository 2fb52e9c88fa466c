import Derived.Test.YtldepffpafccpaaFp6
namespace Heat
theorem absI_le {x s : Int} : absI x ≤ s ↔ -s ≤ x ∧ x ≤ s := by unfold absI; omega
end Heat
namespace Go.Proofs.Ytldepffpafccpaa
open Go.RowKit Heat
/-- The list behind p, of numbers from 0 to top, the last of the first m counted up. -/
def nxO (top : Int) : Nat → (Nat → Int) → Option (Nat → Int)
  | 0, _ => none
  | k + 1, p => if p k < top then some (updI p k (p k + 1)) else nxO top k (updI p k 0)
def opL (o : Option (Nat → Int)) : Nat → Int := match o with
  | some q => q
  | none => fun _ => 0
set_option maxRecDepth 100000 in
set_option maxHeartbeats 8000000 in
theorem near_any (n : Nat) (L R wt p : Nat → Int) (s : Int) (w : World) (hn : n ≤ 5) (hb : ∀ i, i < n → ∀ k, k < n → (L (i * 5 + k) * p k).natAbs ≤ 1000000000000) (hwt : ∀ i, i < 5 → (wt i).natAbs ≤ 1000000) :
    Calls Try.prog 78 #[bkV n L R, liV wt, liV p, .int .i64 s] w fun e w' => e = .returned (.bool (inTo (fun i => timL n L p n 0 i - wt i) (-s) s 5)) ∧ Below w.heap.size w w' := by
  have HBD := Lib.hid hb
  have HWT := Lib.hid hwt
  have HSQ : Hid (Sqw (((w.alloc (Obj.cells #[.int .i64 n, .int .i64 (L 0), .int .i64 (L 1), .int .i64 (L 2), .int .i64 (L 3), .int .i64 (L 4), .int .i64 (L 5), .int .i64 (L 6), .int .i64 (L 7), .int .i64 (L 8), .int .i64 (L 9), .int .i64 (L 10), .int .i64 (L 11), .int .i64 (L 12), .int .i64 (L 13), .int .i64 (L 14), .int .i64 (L 15), .int .i64 (L 16), .int .i64 (L 17), .int .i64 (L 18), .int .i64 (L 19), .int .i64 (L 20), .int .i64 (L 21), .int .i64 (L 22), .int .i64 (L 23), .int .i64 (L 24), .int .i64 (R 0), .int .i64 (R 1), .int .i64 (R 2), .int .i64 (R 3), .int .i64 (R 4)] 81)).alloc (Obj.cells #[.int .i64 (wt 0), .int .i64 (wt 1), .int .i64 (wt 2), .int .i64 (wt 3), .int .i64 (wt 4)] 74)).alloc (Obj.cells #[.int .i64 (p 0), .int .i64 (p 1), .int .i64 (p 2), .int .i64 (p 3), .int .i64 (p 4)] 74)) w.heap.size n L) := Lib.hid (Sqw.fresh (by refine ⟨?_, ?_, ?_, ?_, ?_, ?_, ?_, ?_, ?_, ?_, ?_, ?_, ?_, ?_, ?_, ?_, ?_, ?_, ?_, ?_, ?_, ?_, ?_, ?_, ?_, ?_⟩ <;> go_cell) (by refine ⟨?_, ?_, ?_, ?_, ?_, ?_, ?_, ?_, ?_, ?_, ?_, ?_, ?_, ?_, ?_, ?_, ?_, ?_, ?_, ?_, ?_, ?_, ?_, ?_, ?_, ?_⟩ <;> go_cell))
  have HRE : Hid (Rew (((w.alloc (Obj.cells #[.int .i64 n, .int .i64 (L 0), .int .i64 (L 1), .int .i64 (L 2), .int .i64 (L 3), .int .i64 (L 4), .int .i64 (L 5), .int .i64 (L 6), .int .i64 (L 7), .int .i64 (L 8), .int .i64 (L 9), .int .i64 (L 10), .int .i64 (L 11), .int .i64 (L 12), .int .i64 (L 13), .int .i64 (L 14), .int .i64 (L 15), .int .i64 (L 16), .int .i64 (L 17), .int .i64 (L 18), .int .i64 (L 19), .int .i64 (L 20), .int .i64 (L 21), .int .i64 (L 22), .int .i64 (L 23), .int .i64 (L 24), .int .i64 (R 0), .int .i64 (R 1), .int .i64 (R 2), .int .i64 (R 3), .int .i64 (R 4)] 81)).alloc (Obj.cells #[.int .i64 (wt 0), .int .i64 (wt 1), .int .i64 (wt 2), .int .i64 (wt 3), .int .i64 (wt 4)] 74)).alloc (Obj.cells #[.int .i64 (p 0), .int .i64 (p 1), .int .i64 (p 2), .int .i64 (p 3), .int .i64 (p 4)] 74)) w.heap.size R) := Lib.hid (fun j hj => by rcases (show j = 0 ∨ j = 1 ∨ j = 2 ∨ j = 3 ∨ j = 4 by omega) with rfl | rfl | rfl | rfl | rfl <;> exact ⟨by go_cell, by go_cell⟩)
  have HBK : Hid (Bkw (((w.alloc (Obj.cells #[.int .i64 n, .int .i64 (L 0), .int .i64 (L 1), .int .i64 (L 2), .int .i64 (L 3), .int .i64 (L 4), .int .i64 (L 5), .int .i64 (L 6), .int .i64 (L 7), .int .i64 (L 8), .int .i64 (L 9), .int .i64 (L 10), .int .i64 (L 11), .int .i64 (L 12), .int .i64 (L 13), .int .i64 (L 14), .int .i64 (L 15), .int .i64 (L 16), .int .i64 (L 17), .int .i64 (L 18), .int .i64 (L 19), .int .i64 (L 20), .int .i64 (L 21), .int .i64 (L 22), .int .i64 (L 23), .int .i64 (L 24), .int .i64 (R 0), .int .i64 (R 1), .int .i64 (R 2), .int .i64 (R 3), .int .i64 (R 4)] 81)).alloc (Obj.cells #[.int .i64 (wt 0), .int .i64 (wt 1), .int .i64 (wt 2), .int .i64 (wt 3), .int .i64 (wt 4)] 74)).alloc (Obj.cells #[.int .i64 (p 0), .int .i64 (p 1), .int .i64 (p 2), .int .i64 (p 3), .int .i64 (p 4)] 74)) w.heap.size n L R) := Lib.hid ⟨HSQ.out, HRE.out⟩
  have HLI : Hid (Liw (((w.alloc (Obj.cells #[.int .i64 n, .int .i64 (L 0), .int .i64 (L 1), .int .i64 (L 2), .int .i64 (L 3), .int .i64 (L 4), .int .i64 (L 5), .int .i64 (L 6), .int .i64 (L 7), .int .i64 (L 8), .int .i64 (L 9), .int .i64 (L 10), .int .i64 (L 11), .int .i64 (L 12), .int .i64 (L 13), .int .i64 (L 14), .int .i64 (L 15), .int .i64 (L 16), .int .i64 (L 17), .int .i64 (L 18), .int .i64 (L 19), .int .i64 (L 20), .int .i64 (L 21), .int .i64 (L 22), .int .i64 (L 23), .int .i64 (L 24), .int .i64 (R 0), .int .i64 (R 1), .int .i64 (R 2), .int .i64 (R 3), .int .i64 (R 4)] 81)).alloc (Obj.cells #[.int .i64 (wt 0), .int .i64 (wt 1), .int .i64 (wt 2), .int .i64 (wt 3), .int .i64 (wt 4)] 74)).alloc (Obj.cells #[.int .i64 (p 0), .int .i64 (p 1), .int .i64 (p 2), .int .i64 (p 3), .int .i64 (p 4)] 74)) (w.heap.size + 1) wt) := Lib.hid (fun j hj => by rcases (show j = 0 ∨ j = 1 ∨ j = 2 ∨ j = 3 ∨ j = 4 by omega) with rfl | rfl | rfl | rfl | rfl <;> go_cell)
  have HLP : Hid (Liw (((w.alloc (Obj.cells #[.int .i64 n, .int .i64 (L 0), .int .i64 (L 1), .int .i64 (L 2), .int .i64 (L 3), .int .i64 (L 4), .int .i64 (L 5), .int .i64 (L 6), .int .i64 (L 7), .int .i64 (L 8), .int .i64 (L 9), .int .i64 (L 10), .int .i64 (L 11), .int .i64 (L 12), .int .i64 (L 13), .int .i64 (L 14), .int .i64 (L 15), .int .i64 (L 16), .int .i64 (L 17), .int .i64 (L 18), .int .i64 (L 19), .int .i64 (L 20), .int .i64 (L 21), .int .i64 (L 22), .int .i64 (L 23), .int .i64 (L 24), .int .i64 (R 0), .int .i64 (R 1), .int .i64 (R 2), .int .i64 (R 3), .int .i64 (R 4)] 81)).alloc (Obj.cells #[.int .i64 (wt 0), .int .i64 (wt 1), .int .i64 (wt 2), .int .i64 (wt 3), .int .i64 (wt 4)] 74)).alloc (Obj.cells #[.int .i64 (p 0), .int .i64 (p 1), .int .i64 (p 2), .int .i64 (p 3), .int .i64 (p 4)] 74)) (w.heap.size + 1 + 1) p) := Lib.hid (fun j hj => by rcases (show j = 0 ∨ j = 1 ∨ j = 2 ∨ j = 3 ∨ j = 4 by omega) with rfl | rfl | rfl | rfl | rfl <;> go_cell)
  have hb0 : Below w.heap.size w (((w.alloc (Obj.cells #[.int .i64 n, .int .i64 (L 0), .int .i64 (L 1), .int .i64 (L 2), .int .i64 (L 3), .int .i64 (L 4), .int .i64 (L 5), .int .i64 (L 6), .int .i64 (L 7), .int .i64 (L 8), .int .i64 (L 9), .int .i64 (L 10), .int .i64 (L 11), .int .i64 (L 12), .int .i64 (L 13), .int .i64 (L 14), .int .i64 (L 15), .int .i64 (L 16), .int .i64 (L 17), .int .i64 (L 18), .int .i64 (L 19), .int .i64 (L 20), .int .i64 (L 21), .int .i64 (L 22), .int .i64 (L 23), .int .i64 (L 24), .int .i64 (R 0), .int .i64 (R 1), .int .i64 (R 2), .int .i64 (R 3), .int .i64 (R 4)] 81)).alloc (Obj.cells #[.int .i64 (wt 0), .int .i64 (wt 1), .int .i64 (wt 2), .int .i64 (wt 3), .int .i64 (wt 4)] 74)).alloc (Obj.cells #[.int .i64 (p 0), .int .i64 (p 1), .int .i64 (p 2), .int .i64 (p 3), .int .i64 (p 4)] 74)) := by go_grown
  have hxb : ∀ i, i < 5 → (timL n L p n 0 i - wt i).natAbs ≤ 5000001000000 := fun i hi => by
    have h1 := timL_bd hn hb i
    have h2 := hwt i hi
    omega
  obtain ⟨D, hD⟩ : ∃ D, (fun i => timL n L p n 0 i - wt i) = D := ⟨_, rfl⟩
  have HD := Lib.hid hD
  have hxb2 : ∀ i, i < 5 → (D i).natAbs ≤ 5000001000000 := fun i hi => by rw [← hD]; exact hxb i hi
  obtain ⟨x0, hx0⟩ : ∃ x, D 0 = x := ⟨_, rfl⟩
  obtain ⟨x1, hx1⟩ : ∃ x, D 1 = x := ⟨_, rfl⟩
  obtain ⟨x2, hx2⟩ : ∃ x, D 2 = x := ⟨_, rfl⟩
  obtain ⟨x3, hx3⟩ : ∃ x, D 3 = x := ⟨_, rfl⟩
  obtain ⟨x4, hx4⟩ : ∃ x, D 4 = x := ⟨_, rfl⟩
  have HV : Hid (liV D = .agg #[.int .i64 x0, .int .i64 x1, .int .i64 x2, .int .i64 x3, .int .i64 x4]) := Lib.hid (by unfold liV; rw [hx0, hx1, hx2, hx3, hx4])
  have Hxx : Hid (D 0 = x0 ∧ D 1 = x1 ∧ D 2 = x2 ∧ D 3 = x3 ∧ D 4 = x4) := Lib.hid ⟨hx0, hx1, hx2, hx3, hx4⟩
  have HBX : Hid (x0.natAbs ≤ 5000001000000 ∧ x1.natAbs ≤ 5000001000000 ∧ x2.natAbs ≤ 5000001000000 ∧ x3.natAbs ≤ 5000001000000 ∧ x4.natAbs ≤ 5000001000000) := Lib.hid (by rw [← hx0, ← hx1, ← hx2, ← hx3, ← hx4]; exact ⟨hxb2 0 (by omega), hxb2 1 (by omega), hxb2 2 (by omega), hxb2 3 (by omega), hxb2 4 (by omega)⟩)
  rw [hD]
  clear hb hwt hxb hxb2 hD hx0 hx1 hx2 hx3 hx4 HSQ HRE
  have hi0 : ∀ w : World, (Instr.index 74 (.agg #[.int .i64 x0, .int .i64 x1, .int .i64 x2, .int .i64 x3, .int .i64 x4]) (.int .i64 0)).run Try.prog w = .ok (.int .i64 x0) w := fun _ => rfl
  have hi1 : ∀ w : World, (Instr.index 74 (.agg #[.int .i64 x0, .int .i64 x1, .int .i64 x2, .int .i64 x3, .int .i64 x4]) (.int .i64 1)).run Try.prog w = .ok (.int .i64 x1) w := fun _ => rfl
  have hi2 : ∀ w : World, (Instr.index 74 (.agg #[.int .i64 x0, .int .i64 x1, .int .i64 x2, .int .i64 x3, .int .i64 x4]) (.int .i64 2)).run Try.prog w = .ok (.int .i64 x2) w := fun _ => rfl
  have hi3 : ∀ w : World, (Instr.index 74 (.agg #[.int .i64 x0, .int .i64 x1, .int .i64 x2, .int .i64 x3, .int .i64 x4]) (.int .i64 3)).run Try.prog w = .ok (.int .i64 x3) w := fun _ => rfl
  have hi4 : ∀ w : World, (Instr.index 74 (.agg #[.int .i64 x0, .int .i64 x1, .int .i64 x2, .int .i64 x3, .int .i64 x4]) (.int .i64 4)).run Try.prog w = .ok (.int .i64 x4) w := fun _ => rfl
  unfold bkV
  unfold liV
  go_enter Try.func78, Try.ntmps78
  go_upto_region 1 with fail
  generalize (((w.alloc (Obj.cells #[.int .i64 n, .int .i64 (L 0), .int .i64 (L 1), .int .i64 (L 2), .int .i64 (L 3), .int .i64 (L 4), .int .i64 (L 5), .int .i64 (L 6), .int .i64 (L 7), .int .i64 (L 8), .int .i64 (L 9), .int .i64 (L 10), .int .i64 (L 11), .int .i64 (L 12), .int .i64 (L 13), .int .i64 (L 14), .int .i64 (L 15), .int .i64 (L 16), .int .i64 (L 17), .int .i64 (L 18), .int .i64 (L 19), .int .i64 (L 20), .int .i64 (L 21), .int .i64 (L 22), .int .i64 (L 23), .int .i64 (L 24), .int .i64 (R 0), .int .i64 (R 1), .int .i64 (R 2), .int .i64 (R 3), .int .i64 (R 4)] 81)).alloc (Obj.cells #[.int .i64 (wt 0), .int .i64 (wt 1), .int .i64 (wt 2), .int .i64 (wt 3), .int .i64 (wt 4)] 74)).alloc (Obj.cells #[.int .i64 (p 0), .int .i64 (p 1), .int .i64 (p 2), .int .i64 (p 3), .int .i64 (p 4)] 74)) = W at *
  have HB0 := Lib.hid hb0
  have HRG := Lib.hid HBK.out.range
  have p0 := HLI.out 0 (by omega)
  have p1 := HLI.out 1 (by omega)
  have p2 := HLI.out 2 (by omega)
  have p3 := HLI.out 3 (by omega)
  have p4 := HLI.out 4 (by omega)
  have q0 := HLP.out 0 (by omega)
  have q1 := HLP.out 1 (by omega)
  have q2 := HLP.out 2 (by omega)
  have q3 := HLP.out 3 (by omega)
  have q4 := HLP.out 4 (by omega)
  clear hb0
  refine wp_region_lit ?_
  (refine wpList_load_mid rfl 81 _ rfl w.heap.size 0 rfl (bkL n L R) _ HRG.out Try.underlying81 rfl (infoBk n L R) ?_)
  refine wpList_step (fun K hK => ?_); go_simp; refine hK _ _ ?_; clear hK K
  refine wpList_step (fun K hK => ?_); go_simp; refine hK _ _ ?_; clear hK K
  refine wpList_step (fun K hK => ?_); go_simp
  refine (off_any n L R wt p _ hn HBD.out HWT.out).mono ?_
  rw [HD.out, HV.out]
  rintro e w1 ⟨rfl, hb⟩
  have HB1 := Lib.hid (HB0.out.trans (hb.mono HB0.out.size))
  refine hK _ _ ?_; clear hK K
  clear hb HBK HLI HLP HB0 HRG p0 p1 p2 p3 p4 q0 q1 q2 q3 q4
  refine wpList_step (fun K hK => ?_); go_simp; refine hK _ _ ?_; clear hK K
  refine wpList_nil ?_
  go_wp2_with fail
  go_loopw [15] (fun iv wr => ∃ (z : Int) (i : Nat), iv = .int .i64 z ∧ Hid (z = i ∧ i ≤ 5 ∧ inTo D (-s) s i = true) ∧ Hid (Below w.heap.size w wr)) (fun iv _ => 5 - (intOf iv).toNat)
  case atStart => exact ⟨0, 0, rfl, Lib.hid ⟨by omega, by omega, rfl⟩, HB1⟩
  case round =>
    obtain ⟨z, i, rfl, HZ, HB⟩ := hrel
    obtain ⟨hz, hi5, hS⟩ := HZ.out
    have HS := Lib.hid hS
    clear HZ hS HB1
    rcases (show i = 0 ∨ i = 1 ∨ i = 2 ∨ i = 3 ∨ i = 4 ∨ i = 5 by omega) with rfl | rfl | rfl | rfl | rfl | rfl
    · obtain rfl : z = 0 := by omega
      clear hz hi5
      have hv1 : -4611686018427387904 ≤ x0 := by have := HBX.out; omega
      have hv2 : x0 ≤ 4611686018427387904 := by have := HBX.out; omega
      obtain ⟨q, hq⟩ : ∃ q, absI x0 = q := ⟨_, rfl⟩
      have HQ := Lib.hid hq
      clear hq
      go_wp2_with fail
      refine (size_any x0 _ hv1 hv2).mono ?_
      rw [HQ.out]
      rintro e w2 ⟨rfl, hb⟩
      have HB2 := Lib.hid (HB.out.trans (hb.mono HB.out.size))
      have hbl := HB2.out
      clear hb HB
      by_cases hqs : s < q
      · have HN : Hid (inTo D (-s) s 5 = false) := Lib.hid (inTo_stop (k := 0) (by rw [Hxx.out.1, ← absI_le, HQ.out]; omega) 5 (by omega))
        go_wp2_with fail
        refine bodyPost_ret (v := .bool false) (by simp [results, Try.results78, go_sem]) rfl ⟨by rw [HN.out], hbl⟩
      · have HN : Hid (inTo D (-s) s (0 + 1) = true) := Lib.hid (inTo_next HS.out (by rw [Hxx.out.1]; exact (absI_le.1 (by rw [HQ.out]; omega)).1) (by rw [Hxx.out.1]; exact (absI_le.1 (by rw [HQ.out]; omega)).2))
        clear hbl
        go_wp2_with fail
        go_roundw
        case rel => exact ⟨0 + 1, 0 + 1, by first | rfl | go_num | (simp; done), Lib.hid ⟨by omega, by omega, HN.out⟩, HB2⟩
        case measure => first | (simp [intOf]; done) | (simp [intOf]; omega)
    · obtain rfl : z = 1 := by omega
      clear hz hi5
      have hv1 : -4611686018427387904 ≤ x1 := by have := HBX.out; omega
      have hv2 : x1 ≤ 4611686018427387904 := by have := HBX.out; omega
      obtain ⟨q, hq⟩ : ∃ q, absI x1 = q := ⟨_, rfl⟩
      have HQ := Lib.hid hq
      clear hq
      go_wp2_with fail
      refine (size_any x1 _ hv1 hv2).mono ?_
      rw [HQ.out]
      rintro e w2 ⟨rfl, hb⟩
      have HB2 := Lib.hid (HB.out.trans (hb.mono HB.out.size))
      have hbl := HB2.out
      clear hb HB
      by_cases hqs : s < q
      · have HN : Hid (inTo D (-s) s 5 = false) := Lib.hid (inTo_stop (k := 1) (by rw [Hxx.out.2.1, ← absI_le, HQ.out]; omega) 5 (by omega))
        go_wp2_with fail
        refine bodyPost_ret (v := .bool false) (by simp [results, Try.results78, go_sem]) rfl ⟨by rw [HN.out], hbl⟩
      · have HN : Hid (inTo D (-s) s (1 + 1) = true) := Lib.hid (inTo_next HS.out (by rw [Hxx.out.2.1]; exact (absI_le.1 (by rw [HQ.out]; omega)).1) (by rw [Hxx.out.2.1]; exact (absI_le.1 (by rw [HQ.out]; omega)).2))
        clear hbl
        go_wp2_with fail
        go_roundw
        case rel => exact ⟨1 + 1, 1 + 1, by first | rfl | go_num | (simp; done), Lib.hid ⟨by omega, by omega, HN.out⟩, HB2⟩
        case measure => first | (simp [intOf]; done) | (simp [intOf]; omega)
    · obtain rfl : z = 2 := by omega
      clear hz hi5
      have hv1 : -4611686018427387904 ≤ x2 := by have := HBX.out; omega
      have hv2 : x2 ≤ 4611686018427387904 := by have := HBX.out; omega
      obtain ⟨q, hq⟩ : ∃ q, absI x2 = q := ⟨_, rfl⟩
      have HQ := Lib.hid hq
      clear hq
      go_wp2_with fail
      refine (size_any x2 _ hv1 hv2).mono ?_
      rw [HQ.out]
      rintro e w2 ⟨rfl, hb⟩
      have HB2 := Lib.hid (HB.out.trans (hb.mono HB.out.size))
      have hbl := HB2.out
      clear hb HB
      by_cases hqs : s < q
      · have HN : Hid (inTo D (-s) s 5 = false) := Lib.hid (inTo_stop (k := 2) (by rw [Hxx.out.2.2.1, ← absI_le, HQ.out]; omega) 5 (by omega))
        go_wp2_with fail
        refine bodyPost_ret (v := .bool false) (by simp [results, Try.results78, go_sem]) rfl ⟨by rw [HN.out], hbl⟩
      · have HN : Hid (inTo D (-s) s (2 + 1) = true) := Lib.hid (inTo_next HS.out (by rw [Hxx.out.2.2.1]; exact (absI_le.1 (by rw [HQ.out]; omega)).1) (by rw [Hxx.out.2.2.1]; exact (absI_le.1 (by rw [HQ.out]; omega)).2))
        clear hbl
        go_wp2_with fail
        go_roundw
        case rel => exact ⟨2 + 1, 2 + 1, by first | rfl | go_num | (simp; done), Lib.hid ⟨by omega, by omega, HN.out⟩, HB2⟩
        case measure => first | (simp [intOf]; done) | (simp [intOf]; omega)
    · obtain rfl : z = 3 := by omega
      clear hz hi5
      have hv1 : -4611686018427387904 ≤ x3 := by have := HBX.out; omega
      have hv2 : x3 ≤ 4611686018427387904 := by have := HBX.out; omega
      obtain ⟨q, hq⟩ : ∃ q, absI x3 = q := ⟨_, rfl⟩
      have HQ := Lib.hid hq
      clear hq
      go_wp2_with fail
      refine (size_any x3 _ hv1 hv2).mono ?_
      rw [HQ.out]
      rintro e w2 ⟨rfl, hb⟩
      have HB2 := Lib.hid (HB.out.trans (hb.mono HB.out.size))
      have hbl := HB2.out
      clear hb HB
      by_cases hqs : s < q
      · have HN : Hid (inTo D (-s) s 5 = false) := Lib.hid (inTo_stop (k := 3) (by rw [Hxx.out.2.2.2.1, ← absI_le, HQ.out]; omega) 5 (by omega))
        go_wp2_with fail
        refine bodyPost_ret (v := .bool false) (by simp [results, Try.results78, go_sem]) rfl ⟨by rw [HN.out], hbl⟩
      · have HN : Hid (inTo D (-s) s (3 + 1) = true) := Lib.hid (inTo_next HS.out (by rw [Hxx.out.2.2.2.1]; exact (absI_le.1 (by rw [HQ.out]; omega)).1) (by rw [Hxx.out.2.2.2.1]; exact (absI_le.1 (by rw [HQ.out]; omega)).2))
        clear hbl
        go_wp2_with fail
        go_roundw
        case rel => exact ⟨3 + 1, 3 + 1, by first | rfl | go_num | (simp; done), Lib.hid ⟨by omega, by omega, HN.out⟩, HB2⟩
        case measure => first | (simp [intOf]; done) | (simp [intOf]; omega)
    · obtain rfl : z = 4 := by omega
      clear hz hi5
      have hv1 : -4611686018427387904 ≤ x4 := by have := HBX.out; omega
      have hv2 : x4 ≤ 4611686018427387904 := by have := HBX.out; omega
      obtain ⟨q, hq⟩ : ∃ q, absI x4 = q := ⟨_, rfl⟩
      have HQ := Lib.hid hq
      clear hq
      go_wp2_with fail
      refine (size_any x4 _ hv1 hv2).mono ?_
      rw [HQ.out]
      rintro e w2 ⟨rfl, hb⟩
      have HB2 := Lib.hid (HB.out.trans (hb.mono HB.out.size))
      have hbl := HB2.out
      clear hb HB
      by_cases hqs : s < q
      · have HN : Hid (inTo D (-s) s 5 = false) := Lib.hid (inTo_stop (k := 4) (by rw [Hxx.out.2.2.2.2, ← absI_le, HQ.out]; omega) 5 (by omega))
        go_wp2_with fail
        refine bodyPost_ret (v := .bool false) (by simp [results, Try.results78, go_sem]) rfl ⟨by rw [HN.out], hbl⟩
      · have HN : Hid (inTo D (-s) s (4 + 1) = true) := Lib.hid (inTo_next HS.out (by rw [Hxx.out.2.2.2.2]; exact (absI_le.1 (by rw [HQ.out]; omega)).1) (by rw [Hxx.out.2.2.2.2]; exact (absI_le.1 (by rw [HQ.out]; omega)).2))
        clear hbl
        go_wp2_with fail
        go_roundw
        case rel => exact ⟨4 + 1, 4 + 1, by first | rfl | go_num | (simp; done), Lib.hid ⟨by omega, by omega, HN.out⟩, HB2⟩
        case measure => first | (simp [intOf]; done) | (simp [intOf]; omega)
    · obtain rfl : z = 5 := by omega
      have hbl := HB.out
      clear hz hi5
      go_wp2_with fail
      refine bodyPost_ret (v := .bool true) (by simp [results, Try.results78, go_sem]) rfl ⟨by rw [HS.out], hbl⟩
set_option maxRecDepth 100000 in
set_option maxHeartbeats 8000000 in
theorem next_any (n : Nat) (L R p : Nat → Int) (top : Int) (w : World) (hn : n ≤ 5) (hp : ∀ i, i < 5 → 0 ≤ p i ∧ p i ≤ 20) (ht : top ≤ 20) :
    Calls Try.prog 77 #[bkV n L R, liV p, .int .i64 top] w fun e w' => e = .returned (.tuple #[liV (opL (nxO top n p)), .bool (nxO top n p).isSome]) ∧ Below w.heap.size w w' := by
  have HP := Lib.hid hp
  have hc0 : (((w.alloc (Obj.cells #[.int .i64 n, .int .i64 (L 0), .int .i64 (L 1), .int .i64 (L 2), .int .i64 (L 3), .int .i64 (L 4), .int .i64 (L 5), .int .i64 (L 6), .int .i64 (L 7), .int .i64 (L 8), .int .i64 (L 9), .int .i64 (L 10), .int .i64 (L 11), .int .i64 (L 12), .int .i64 (L 13), .int .i64 (L 14), .int .i64 (L 15), .int .i64 (L 16), .int .i64 (L 17), .int .i64 (L 18), .int .i64 (L 19), .int .i64 (L 20), .int .i64 (L 21), .int .i64 (L 22), .int .i64 (L 23), .int .i64 (L 24), .int .i64 (R 0), .int .i64 (R 1), .int .i64 (R 2), .int .i64 (R 3), .int .i64 (R 4)] 81)).alloc (Obj.cells #[.int .i64 (p 0), .int .i64 (p 1), .int .i64 (p 2), .int .i64 (p 3), .int .i64 (p 4)] 74)).alloc (Obj.cells #[.int .i64 0, .int .i64 0, .int .i64 0, .int .i64 0, .int .i64 0] 74)).cell? ⟨w.heap.size, 0, none⟩ = some (.int .i64 n) := by go_cell
  have HLP : Hid (Intw (((w.alloc (Obj.cells #[.int .i64 n, .int .i64 (L 0), .int .i64 (L 1), .int .i64 (L 2), .int .i64 (L 3), .int .i64 (L 4), .int .i64 (L 5), .int .i64 (L 6), .int .i64 (L 7), .int .i64 (L 8), .int .i64 (L 9), .int .i64 (L 10), .int .i64 (L 11), .int .i64 (L 12), .int .i64 (L 13), .int .i64 (L 14), .int .i64 (L 15), .int .i64 (L 16), .int .i64 (L 17), .int .i64 (L 18), .int .i64 (L 19), .int .i64 (L 20), .int .i64 (L 21), .int .i64 (L 22), .int .i64 (L 23), .int .i64 (L 24), .int .i64 (R 0), .int .i64 (R 1), .int .i64 (R 2), .int .i64 (R 3), .int .i64 (R 4)] 81)).alloc (Obj.cells #[.int .i64 (p 0), .int .i64 (p 1), .int .i64 (p 2), .int .i64 (p 3), .int .i64 (p 4)] 74)).alloc (Obj.cells #[.int .i64 0, .int .i64 0, .int .i64 0, .int .i64 0, .int .i64 0] 74)) (w.heap.size + 1) 5 p) := Lib.hid (fun j hj => by rcases (show j = 0 ∨ j = 1 ∨ j = 2 ∨ j = 3 ∨ j = 4 by omega) with rfl | rfl | rfl | rfl | rfl <;> exact ⟨by go_cell, by go_cell⟩)
  have HRE : Hid (Intw (((w.alloc (Obj.cells #[.int .i64 n, .int .i64 (L 0), .int .i64 (L 1), .int .i64 (L 2), .int .i64 (L 3), .int .i64 (L 4), .int .i64 (L 5), .int .i64 (L 6), .int .i64 (L 7), .int .i64 (L 8), .int .i64 (L 9), .int .i64 (L 10), .int .i64 (L 11), .int .i64 (L 12), .int .i64 (L 13), .int .i64 (L 14), .int .i64 (L 15), .int .i64 (L 16), .int .i64 (L 17), .int .i64 (L 18), .int .i64 (L 19), .int .i64 (L 20), .int .i64 (L 21), .int .i64 (L 22), .int .i64 (L 23), .int .i64 (L 24), .int .i64 (R 0), .int .i64 (R 1), .int .i64 (R 2), .int .i64 (R 3), .int .i64 (R 4)] 81)).alloc (Obj.cells #[.int .i64 (p 0), .int .i64 (p 1), .int .i64 (p 2), .int .i64 (p 3), .int .i64 (p 4)] 74)).alloc (Obj.cells #[.int .i64 0, .int .i64 0, .int .i64 0, .int .i64 0, .int .i64 0] 74)) (w.heap.size + 1 + 1) 5 (fun _ => 0)) := Lib.hid (fun j hj => by rcases (show j = 0 ∨ j = 1 ∨ j = 2 ∨ j = 3 ∨ j = 4 by omega) with rfl | rfl | rfl | rfl | rfl <;> exact ⟨by go_cell, by go_cell⟩)
  have hb0 : Below w.heap.size w (((w.alloc (Obj.cells #[.int .i64 n, .int .i64 (L 0), .int .i64 (L 1), .int .i64 (L 2), .int .i64 (L 3), .int .i64 (L 4), .int .i64 (L 5), .int .i64 (L 6), .int .i64 (L 7), .int .i64 (L 8), .int .i64 (L 9), .int .i64 (L 10), .int .i64 (L 11), .int .i64 (L 12), .int .i64 (L 13), .int .i64 (L 14), .int .i64 (L 15), .int .i64 (L 16), .int .i64 (L 17), .int .i64 (L 18), .int .i64 (L 19), .int .i64 (L 20), .int .i64 (L 21), .int .i64 (L 22), .int .i64 (L 23), .int .i64 (L 24), .int .i64 (R 0), .int .i64 (R 1), .int .i64 (R 2), .int .i64 (R 3), .int .i64 (R 4)] 81)).alloc (Obj.cells #[.int .i64 (p 0), .int .i64 (p 1), .int .i64 (p 2), .int .i64 (p 3), .int .i64 (p 4)] 74)).alloc (Obj.cells #[.int .i64 0, .int .i64 0, .int .i64 0, .int .i64 0, .int .i64 0] 74)) := by go_grown
  have hsz : w.heap.size + 1 + 1 < (((w.alloc (Obj.cells #[.int .i64 n, .int .i64 (L 0), .int .i64 (L 1), .int .i64 (L 2), .int .i64 (L 3), .int .i64 (L 4), .int .i64 (L 5), .int .i64 (L 6), .int .i64 (L 7), .int .i64 (L 8), .int .i64 (L 9), .int .i64 (L 10), .int .i64 (L 11), .int .i64 (L 12), .int .i64 (L 13), .int .i64 (L 14), .int .i64 (L 15), .int .i64 (L 16), .int .i64 (L 17), .int .i64 (L 18), .int .i64 (L 19), .int .i64 (L 20), .int .i64 (L 21), .int .i64 (L 22), .int .i64 (L 23), .int .i64 (L 24), .int .i64 (R 0), .int .i64 (R 1), .int .i64 (R 2), .int .i64 (R 3), .int .i64 (R 4)] 81)).alloc (Obj.cells #[.int .i64 (p 0), .int .i64 (p 1), .int .i64 (p 2), .int .i64 (p 3), .int .i64 (p 4)] 74)).alloc (Obj.cells #[.int .i64 0, .int .i64 0, .int .i64 0, .int .i64 0, .int .i64 0] 74)).heap.size := by simp
  have wn : wrap64 ((n : Int) - 1) = (n : Int) - 1 := by simp only [wrap64]; omega
  clear hp
  unfold bkV
  unfold liV
  go_enter Try.func77, Try.ntmps77
  go_upto_region 1 with fail
  generalize (((w.alloc (Obj.cells #[.int .i64 n, .int .i64 (L 0), .int .i64 (L 1), .int .i64 (L 2), .int .i64 (L 3), .int .i64 (L 4), .int .i64 (L 5), .int .i64 (L 6), .int .i64 (L 7), .int .i64 (L 8), .int .i64 (L 9), .int .i64 (L 10), .int .i64 (L 11), .int .i64 (L 12), .int .i64 (L 13), .int .i64 (L 14), .int .i64 (L 15), .int .i64 (L 16), .int .i64 (L 17), .int .i64 (L 18), .int .i64 (L 19), .int .i64 (L 20), .int .i64 (L 21), .int .i64 (L 22), .int .i64 (L 23), .int .i64 (L 24), .int .i64 (R 0), .int .i64 (R 1), .int .i64 (R 2), .int .i64 (R 3), .int .i64 (R 4)] 81)).alloc (Obj.cells #[.int .i64 (p 0), .int .i64 (p 1), .int .i64 (p 2), .int .i64 (p 3), .int .i64 (p 4)] 74)).alloc (Obj.cells #[.int .i64 0, .int .i64 0, .int .i64 0, .int .i64 0, .int .i64 0] 74)) = W at *
  have HB0 := Lib.hid hb0
  clear hb0
  go_wp2_with fail
  go_loopw [8] (fun kv wr => ∃ (z : Int) (k : Nat) (q : Nat → Int), kv = .int .i64 z ∧ Hid (z = (k : Int) - 1) ∧ k ≤ n ∧ Hid (nxO top k q = nxO top n p) ∧ Hid (∀ i, i < 5 → 0 ≤ q i ∧ q i ≤ 20) ∧ Hid (Intw wr (w.heap.size + 1) 5 q) ∧ Hid (Intw wr (w.heap.size + 1 + 1) 5 (fun _ => 0)) ∧ Hid (Below w.heap.size w wr) ∧ w.heap.size + 1 + 1 < wr.heap.size) (fun kv _ => (intOf kv + 1).toNat)
  case atStart => exact ⟨(n : Int) - 1, n, p, by first | rfl | rw [wn], Lib.hid rfl, by omega, Lib.hid rfl, HP, HLP, HRE, HB0, hsz⟩
  case round =>
    obtain ⟨z, k, q, rfl, HZ, hk, HN, HQ, HL, HR, HB, hsw⟩ := hrel
    clear hc0 HLP HRE HB0 hsz wn
    cases k with
    | zero =>
      have hz : z < 0 := by have := HZ.out; omega
      have HN2 : Hid (nxO top n p = none) := Lib.hid (by rw [← HN.out]; rfl)
      obtain ⟨⟨q0, r0⟩, ⟨q1, r1⟩, ⟨q2, r2⟩, ⟨q3, r3⟩, ⟨q4, r4⟩⟩ : _ ∧ _ ∧ _ ∧ _ ∧ _ := ⟨HR.out 0 (by omega), HR.out 1 (by omega), HR.out 2 (by omega), HR.out 3 (by omega), HR.out 4 (by omega)⟩
      have hbl := HB.out
      have nb2 : w.heap.size + 1 + 1 < wr.heap.size := by omega
      clear HL HR HB HN HQ
      go_wp2_with fail
      refine bodyPost_ret (v := .tuple #[liV (opL none), .bool false]) (by unfold liV opL; simp [results, Try.results77, go_sem, *]) rfl ⟨by rw [HN2.out]; rfl, by go_grown⟩
    | succ k =>
      obtain rfl : z = k := by have := HZ.out; omega
      have k0 : (0 : Int) ≤ (k : Int) := by omega
      have k5 : (k : Int) < 5 := by omega
      obtain ⟨m0, m1⟩ := HL.out k (by omega)
      have hqb := HQ.out k (by omega)
      obtain ⟨x, hx⟩ : ∃ x, q k = x := ⟨_, rfl⟩
      have HX := Lib.hid hx
      rw [hx] at m0 hqb
      clear hx HZ
      have wz : wrap64 ((k : Int) - 1) = (k : Int) - 1 := by simp only [wrap64]; omega
      by_cases hxt : x < top
      · have HN2 : Hid (nxO top n p = some (updI q k (x + 1))) := Lib.hid (by rw [← HN.out]; show (if q k < top then _ else _) = _; rw [HX.out, if_pos hxt])
        have wx : wrap64 (x + 1) = x + 1 := by clear wz; simp only [wrap64]; omega
        have HLN := HL.out.store (j := k) (by omega) (x + 1)
        have HRN := HR.out.other (m := w.heap.size + 1) (k := k) (v := .int .i64 (x + 1)) (by omega)
        have HBN := HB.out.setCell (p := ⟨w.heap.size + 1, k, none⟩) (by simp only; omega) (.int .i64 (x + 1))
        have hsn : w.heap.size + 1 + 1 < (wr.setCell ⟨w.heap.size + 1, k, none⟩ (.int .i64 (x + 1))).heap.size := by simpa using hsw
        have HLn := Lib.hid HLN
        have HRn := Lib.hid HRN
        have HBn := Lib.hid HBN
        clear HL HR HB HLN HRN HBN HN HQ hsw
        go_upto_region 6 with fail
        generalize (wr.setCell ⟨w.heap.size + 1, k, none⟩ (.int .i64 (x + 1))) = wv at *
        obtain ⟨⟨q0, _⟩, ⟨q1, _⟩, ⟨q2, _⟩, ⟨q3, _⟩, ⟨q4, _⟩⟩ : _ ∧ _ ∧ _ ∧ _ ∧ _ := ⟨HLn.out 0 (by omega), HLn.out 1 (by omega), HLn.out 2 (by omega), HLn.out 3 (by omega), HLn.out 4 (by omega)⟩
        obtain ⟨⟨p0, r0⟩, ⟨p1, r1⟩, ⟨p2, r2⟩, ⟨p3, r3⟩, ⟨p4, r4⟩⟩ : _ ∧ _ ∧ _ ∧ _ ∧ _ := ⟨HRn.out 0 (by omega), HRn.out 1 (by omega), HRn.out 2 (by omega), HRn.out 3 (by omega), HRn.out 4 (by omega)⟩
        have hbl := HBn.out
        clear HLn HRn HBn m0 m1 wz
        go_wp2_with fail
        refine bodyPost_ret (v := .tuple #[liV (updI q k (x + 1)), .bool true]) (by unfold liV; simp [results, Try.results77, go_sem, *]) rfl ⟨by rw [HN2.out]; rfl, by go_grown⟩
      · have HN2 : Hid (nxO top k (updI q k 0) = nxO top n p) := Lib.hid (by rw [← HN.out]; show _ = (if q k < top then _ else _); rw [HX.out, if_neg hxt])
        have HQ2 : Hid (∀ i, i < 5 → 0 ≤ updI q k 0 i ∧ updI q k 0 i ≤ 20) := Lib.hid (fun i hi => by
          unfold updI
          split
          · omega
          · exact HQ.out i hi)
        have HLn := Lib.hid (HL.out.store (j := k) (by omega) 0)
        have HRn := Lib.hid (HR.out.other (m := w.heap.size + 1) (k := k) (v := .int .i64 0) (by omega))
        have HBn := Lib.hid (HB.out.setCell (p := ⟨w.heap.size + 1, k, none⟩) (by simp only; omega) (.int .i64 0))
        have hsn : w.heap.size + 1 + 1 < (wr.setCell ⟨w.heap.size + 1, k, none⟩ (.int .i64 0)).heap.size := by simpa using hsw
        clear HL HR HB HN HQ hsw
        go_wp2_with fail
        go_roundw
        case rel => exact ⟨(k : Int) - 1, k, updI q k 0, by first | rfl | rw [wz], Lib.hid rfl, by omega, HN2, HQ2, HLn, HRn, HBn, hsn⟩
        case measure => first | (simp [intOf]; done) | (simp [intOf]; omega)
end Go.Proofs.Ytldepffpafccpaa
