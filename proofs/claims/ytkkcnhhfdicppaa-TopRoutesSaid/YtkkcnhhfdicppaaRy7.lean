import Derived.Test.YtkkcnhhfdicppaaRu7
namespace Go.Proofs.Ytkkcnhhfdicppaa
open Go.RowKit Lay
set_option maxRecDepth 100000 in
set_option maxHeartbeats 16000000 in
theorem pRoute_any (W H M B fx fy tx ty : Int) (n cp : Nat) (ao : Option Addr) (X Y : Nat → Int) (w : World) (hc : XYs w ao n X Y) (hv : vaG W H M B n X Y = true)
    (hof : opB W H (blkN X Y n) fx fy = true) (hot : opB W H (blkN X Y n) tx ty = true) (hr : ∀ F, Costs W H (blkN X Y n) M B tx ty F → ∃ nn l c, rt F M B tx ty nn fx fy (-1) = some (l, c) ∧ c ≤ 9000000) :
    Calls Try.prog 28 #[.agg #[.int .i64 W, .int .i64 H, .int .i64 M, .int .i64 B, .slice ao n cp], .agg #[.int .i64 fx, .int .i64 fy], .agg #[.int .i64 tx, .int .i64 ty]] w fun e w' => ∃ (F : Int → Int → Int → Option Int) (nn : Nat) (l : List (Int × Int)) (c : Int) (v : Value), Costs W H (blkN X Y n) M B tx ty F ∧ rt F M B tx ty nn fx fy (-1) = some (l, c) ∧ e = .returned (.tuple #[v, .int .i64 c, .int .i64 0]) ∧ w'.ownsRow w.heap.size 26 2 v (l.length + 1) (xyC ((fx, fy) :: l)) ∧ Below w.heap.size w w' := by
  have HR0 := Lib.hid hr
  clear hr
  have HC := Lib.hid hc
  have HV := Lib.hid hv
  have HOF := Lib.hid hof
  have HOT := Lib.hid hot
  obtain ⟨hnum, _⟩ := vaG_num hv
  have hont := (opB_iff.1 hot).1
  have honf := (opB_iff.1 hof).1
  clear hc hv hof hot
  go_enter Try.func28, Try.ntmps28
  go_wp2_with fail
  refine (pRead_ok W H M B n cp ao X Y _ (HC.out.keep (by go_grown)) HV.out).mono ?_
  rintro e w1 ⟨m, rfl, hm1, hbm, hb⟩
  obtain ⟨bf, hbf⟩ : ∃ b, b = w.heap.size + 1 := ⟨_, rfl⟩
  obtain ⟨bt, hbt⟩ : ∃ b, b = w.heap.size + 1 + 1 := ⟨_, rfl⟩
  obtain ⟨b9, hb9⟩ : ∃ b, b = w1.heap.size := ⟨_, rfl⟩
  have hz1 : bt < b9 := by have h9 := hb.size; simp at h9; omega
  have KF1 : Hid (w1.heap[bf]? = some (.cells #[.int .i64 fx, .int .i64 fy] 26 (0, 0))) := Lib.hid ((hb.block _ (by simp; omega)).trans ((Below.heap_alloc _ _ _ (by simp; omega)).trans (by rw [hbf]; have h := heap_alloc_new (w.alloc (.cells #[.int .i64 W, .int .i64 H, .int .i64 M, .int .i64 B, .slice ao n cp] 24)) (.cells #[.int .i64 fx, .int .i64 fy] 26); rwa [World.size_alloc] at h)))
  have KT1 : Hid (w1.heap[bt]? = some (.cells #[.int .i64 tx, .int .i64 ty] 26 (0, 0))) := Lib.hid ((hb.block _ (by simp; omega)).trans (by rw [hbt]; have h := heap_alloc_new ((w.alloc (.cells #[.int .i64 W, .int .i64 H, .int .i64 M, .int .i64 B, .slice ao n cp] 24)).alloc (.cells #[.int .i64 fx, .int .i64 fy] 26)) (.cells #[.int .i64 tx, .int .i64 ty] 26); simpa using h))
  have HB1 : Hid (Below w.heap.size w w1) := Lib.hid (Below.trans (by go_grown) (hb.mono (by simp; omega)))
  obtain ⟨w2, hw2⟩ : ∃ z, z = w1.alloc (.cells #[.int .i64 W, .int .i64 H, .int .i64 M, .int .i64 B, .slice ao n cp, .map (some m)] 68) := ⟨_, rfl⟩
  have hb2 : Below w1.heap.size w1 w2 := by rw [hw2]; exact bal (Below.refl _ _) _
  have KB2 : Hid (w2.heap[b9]? = some (.cells #[.int .i64 W, .int .i64 H, .int .i64 M, .int .i64 B, .slice ao n cp, .map (some m)] 68 (0, 0))) := Lib.hid (by rw [hw2, hb9]; exact heap_alloc_new w1 _)
  have hz2 : w2.heap.size = b9 + 1 := by rw [hw2]; simp; omega
  have KM2 := Lib.hid (hbm.keep (hb2.block _ hbm.lt))
  have HB2 : Hid (Below w.heap.size w w2) := Lib.hid (HB1.out.trans (hb2.mono (by omega)))
  have KF2 : Hid (w2.heap[bf]? = some (.cells #[.int .i64 fx, .int .i64 fy] 26 (0, 0))) := Lib.hid ((hb2.block _ (by first | omega | (simp; done) | (simp; omega))).trans KF1.out)
  have KT2 : Hid (w2.heap[bt]? = some (.cells #[.int .i64 tx, .int .i64 ty] 26 (0, 0))) := Lib.hid ((hb2.block _ (by first | omega | (simp; done) | (simp; omega))).trans KT1.out)
  have hwm : w.heap.size < bf := by omega
  have hft : bf < bt := by omega
  clear hb hbm KF1 KT1 HB1 hb2
  have HW2 := Lib.hid hw2
  have HB9 := Lib.hid hb9
  have hm0 : w.heap.size ≤ m := by simp at hm1; omega
  clear hb9 hw2 hm1
  go_upto_region 4 with fail
  rw [← HB9.out, ← HW2.out]
  try rw [← hbt, ← hbf]
  clear hbf hbt HW2 HB9
  obtain ⟨cB0, cB1, cB2, cB3, cB4, cB5⟩ : w2.cell? ⟨b9, 0, none⟩ = some (.int .i64 W) ∧ w2.cell? ⟨b9, 1, none⟩ = some (.int .i64 H) ∧ w2.cell? ⟨b9, 2, none⟩ = some (.int .i64 M) ∧ w2.cell? ⟨b9, 3, none⟩ = some (.int .i64 B) ∧ w2.cell? ⟨b9, 4, none⟩ = some (.slice ao n cp) ∧ w2.cell? ⟨b9, 5, none⟩ = some (.map (some m)) := ⟨cell_of_blk KB2.out rfl, cell_of_blk KB2.out rfl, cell_of_blk KB2.out rfl, cell_of_blk KB2.out rfl, cell_of_blk KB2.out rfl, cell_of_blk KB2.out rfl⟩
  obtain ⟨cF0, cF1⟩ : w2.cell? ⟨bf, 0, none⟩ = some (.int .i64 fx) ∧ w2.cell? ⟨bf, 1, none⟩ = some (.int .i64 fy) := ⟨cell_of_blk KF2.out rfl, cell_of_blk KF2.out rfl⟩
  obtain ⟨cT0, cT1⟩ : w2.cell? ⟨bt, 0, none⟩ = some (.int .i64 tx) ∧ w2.cell? ⟨bt, 1, none⟩ = some (.int .i64 ty) := ⟨cell_of_blk KT2.out rfl, cell_of_blk KT2.out rfl⟩
  go_wp2_with fail
  refine (has_any W H M B fx fy n cp m n ao (blkN X Y n) _ (by omega) (by omega) KM2.out).mono ?_
  rw [HOF.out]
  rintro e w3 ⟨rfl, hb⟩
  have hz3 : b9 < w3.heap.size := by have := hb.size; omega
  have KB3 : Hid (w3.heap[b9]? = some (.cells #[.int .i64 W, .int .i64 H, .int .i64 M, .int .i64 B, .slice ao n cp, .map (some m)] 68 (0, 0))) := Lib.hid ((hb.block _ (by first | omega | (simp; done) | (simp; omega))).trans KB2.out)
  have KF3 : Hid (w3.heap[bf]? = some (.cells #[.int .i64 fx, .int .i64 fy] 26 (0, 0))) := Lib.hid ((hb.block _ (by first | omega | (simp; done) | (simp; omega))).trans KF2.out)
  have KT3 : Hid (w3.heap[bt]? = some (.cells #[.int .i64 tx, .int .i64 ty] 26 (0, 0))) := Lib.hid ((hb.block _ (by first | omega | (simp; done) | (simp; omega))).trans KT2.out)
  have KM3 := Lib.hid (KM2.out.keep (hb.block _ KM2.out.lt))
  have HB3 : Hid (Below w.heap.size w w3) := Lib.hid (HB2.out.trans (hb.mono (by omega)))
  clear hb KB2 KF2 KT2 KM2 HB2 cB0 cB1 cB2 cB3 cB4 cB5 cF0 cF1 cT0 cT1
  obtain ⟨cB0, cB1, cB2, cB3, cB4, cB5⟩ : w3.cell? ⟨b9, 0, none⟩ = some (.int .i64 W) ∧ w3.cell? ⟨b9, 1, none⟩ = some (.int .i64 H) ∧ w3.cell? ⟨b9, 2, none⟩ = some (.int .i64 M) ∧ w3.cell? ⟨b9, 3, none⟩ = some (.int .i64 B) ∧ w3.cell? ⟨b9, 4, none⟩ = some (.slice ao n cp) ∧ w3.cell? ⟨b9, 5, none⟩ = some (.map (some m)) := ⟨cell_of_blk KB3.out rfl, cell_of_blk KB3.out rfl, cell_of_blk KB3.out rfl, cell_of_blk KB3.out rfl, cell_of_blk KB3.out rfl, cell_of_blk KB3.out rfl⟩
  obtain ⟨cF0, cF1⟩ : w3.cell? ⟨bf, 0, none⟩ = some (.int .i64 fx) ∧ w3.cell? ⟨bf, 1, none⟩ = some (.int .i64 fy) := ⟨cell_of_blk KF3.out rfl, cell_of_blk KF3.out rfl⟩
  obtain ⟨cT0, cT1⟩ : w3.cell? ⟨bt, 0, none⟩ = some (.int .i64 tx) ∧ w3.cell? ⟨bt, 1, none⟩ = some (.int .i64 ty) := ⟨cell_of_blk KT3.out rfl, cell_of_blk KT3.out rfl⟩
  go_wp2_with fail
  refine (has_any W H M B tx ty n cp m n ao (blkN X Y n) _ (by omega) (by omega) KM3.out).mono ?_
  rw [HOT.out]
  rintro e w4 ⟨rfl, hb⟩
  have hz4 : b9 < w4.heap.size := by have := hb.size; omega
  have KB4 : Hid (w4.heap[b9]? = some (.cells #[.int .i64 W, .int .i64 H, .int .i64 M, .int .i64 B, .slice ao n cp, .map (some m)] 68 (0, 0))) := Lib.hid ((hb.block _ (by first | omega | (simp; done) | (simp; omega))).trans KB3.out)
  have KF4 : Hid (w4.heap[bf]? = some (.cells #[.int .i64 fx, .int .i64 fy] 26 (0, 0))) := Lib.hid ((hb.block _ (by first | omega | (simp; done) | (simp; omega))).trans KF3.out)
  have KT4 : Hid (w4.heap[bt]? = some (.cells #[.int .i64 tx, .int .i64 ty] 26 (0, 0))) := Lib.hid ((hb.block _ (by first | omega | (simp; done) | (simp; omega))).trans KT3.out)
  have KM4 := Lib.hid (KM3.out.keep (hb.block _ KM3.out.lt))
  have HB4 : Hid (Below w.heap.size w w4) := Lib.hid (HB3.out.trans (hb.mono (by omega)))
  clear hb KB3 KF3 KT3 KM3 HB3 cB0 cB1 cB2 cB3 cB4 cB5 cF0 cF1 cT0 cT1
  obtain ⟨cB0, cB1, cB2, cB3, cB4, cB5⟩ : w4.cell? ⟨b9, 0, none⟩ = some (.int .i64 W) ∧ w4.cell? ⟨b9, 1, none⟩ = some (.int .i64 H) ∧ w4.cell? ⟨b9, 2, none⟩ = some (.int .i64 M) ∧ w4.cell? ⟨b9, 3, none⟩ = some (.int .i64 B) ∧ w4.cell? ⟨b9, 4, none⟩ = some (.slice ao n cp) ∧ w4.cell? ⟨b9, 5, none⟩ = some (.map (some m)) := ⟨cell_of_blk KB4.out rfl, cell_of_blk KB4.out rfl, cell_of_blk KB4.out rfl, cell_of_blk KB4.out rfl, cell_of_blk KB4.out rfl, cell_of_blk KB4.out rfl⟩
  obtain ⟨cF0, cF1⟩ : w4.cell? ⟨bf, 0, none⟩ = some (.int .i64 fx) ∧ w4.cell? ⟨bf, 1, none⟩ = some (.int .i64 fy) := ⟨cell_of_blk KF4.out rfl, cell_of_blk KF4.out rfl⟩
  obtain ⟨cT0, cT1⟩ : w4.cell? ⟨bt, 0, none⟩ = some (.int .i64 tx) ∧ w4.cell? ⟨bt, 1, none⟩ = some (.int .i64 ty) := ⟨cell_of_blk KT4.out rfl, cell_of_blk KT4.out rfl⟩
  go_wp2_with fail
  refine (costs_any W H M B tx ty n cp m n ao (blkN X Y n) _ KM4.out (by omega) (by omega) (by omega) (by omega) (by omega) (by omega)).mono ?_
  rintro e w5 ⟨b, kn, F, rfl, hbb, hsm, hco, hb⟩
  obtain ⟨nn, l, c, hr1, hc9⟩ := HR0.out F hco
  have HR := Lib.hid hr1
  have HR9 := Lib.hid hr1
  clear hr1
  have hz5 : b9 < w5.heap.size := by have := hb.size; omega
  have KB5 : Hid (w5.heap[b9]? = some (.cells #[.int .i64 W, .int .i64 H, .int .i64 M, .int .i64 B, .slice ao n cp, .map (some m)] 68 (0, 0))) := Lib.hid ((hb.block _ (by first | omega | (simp; done) | (simp; omega))).trans KB4.out)
  have KF5 : Hid (w5.heap[bf]? = some (.cells #[.int .i64 fx, .int .i64 fy] 26 (0, 0))) := Lib.hid ((hb.block _ (by first | omega | (simp; done) | (simp; omega))).trans KF4.out)
  have KT5 : Hid (w5.heap[bt]? = some (.cells #[.int .i64 tx, .int .i64 ty] 26 (0, 0))) := Lib.hid ((hb.block _ (by first | omega | (simp; done) | (simp; omega))).trans KT4.out)
  have KS5 := Lib.hid hsm
  have HCO := Lib.hid hco
  have HB5 : Hid (Below w.heap.size w w5) := Lib.hid (HB4.out.trans (hb.mono (by omega)))
  clear hb hsm hco KB4 KF4 KT4 KM4 HB4 cB0 cB1 cB2 cB3 cB4 cB5 cF0 cF1 cT0 cT1
  obtain ⟨cB0, cB1, cB2, cB3, cB4, cB5⟩ : w5.cell? ⟨b9, 0, none⟩ = some (.int .i64 W) ∧ w5.cell? ⟨b9, 1, none⟩ = some (.int .i64 H) ∧ w5.cell? ⟨b9, 2, none⟩ = some (.int .i64 M) ∧ w5.cell? ⟨b9, 3, none⟩ = some (.int .i64 B) ∧ w5.cell? ⟨b9, 4, none⟩ = some (.slice ao n cp) ∧ w5.cell? ⟨b9, 5, none⟩ = some (.map (some m)) := ⟨cell_of_blk KB5.out rfl, cell_of_blk KB5.out rfl, cell_of_blk KB5.out rfl, cell_of_blk KB5.out rfl, cell_of_blk KB5.out rfl, cell_of_blk KB5.out rfl⟩
  obtain ⟨cF0, cF1⟩ : w5.cell? ⟨bf, 0, none⟩ = some (.int .i64 fx) ∧ w5.cell? ⟨bf, 1, none⟩ = some (.int .i64 fy) := ⟨cell_of_blk KF5.out rfl, cell_of_blk KF5.out rfl⟩
  obtain ⟨cT0, cT1⟩ : w5.cell? ⟨bt, 0, none⟩ = some (.int .i64 tx) ∧ w5.cell? ⟨bt, 1, none⟩ = some (.int .i64 ty) := ⟨cell_of_blk KT5.out rfl, cell_of_blk KT5.out rfl⟩
  obtain ⟨b12, hb12⟩ : ∃ z, z = w5.heap.size := ⟨_, rfl⟩
  obtain ⟨w6, hw6⟩ : ∃ z, z = (w5.alloc (.cells #[.int .i64 fx, .int .i64 fy] 26)).alloc (.cells #[.int .i64 fx, .int .i64 fy] 26) := ⟨_, rfl⟩
  have hb6 : Below w5.heap.size w5 w6 := by rw [hw6]; exact bal (bal (Below.refl _ _) _) _
  have KP6 : Hid (w6.heap[b12]? = some (.cells #[.int .i64 fx, .int .i64 fy] 26 (0, 0))) := Lib.hid (by rw [hw6, hb12]; exact (Below.heap_alloc _ _ _ (by simp)).trans (heap_alloc_new w5 _))
  have KX6 : Hid (w6.heap[b12 + 1]? = some (.cells #[.int .i64 fx, .int .i64 fy] 26 (0, 0))) := Lib.hid (by rw [hw6, hb12]; have h := heap_alloc_new (w5.alloc (.cells #[.int .i64 fx, .int .i64 fy] 26)) (.cells #[.int .i64 fx, .int .i64 fy] 26); rwa [World.size_alloc] at h)
  have hz6 : w6.heap.size = b12 + 2 := by rw [hw6]; simp; omega
  have KB6 : Hid (w6.heap[b9]? = some (.cells #[.int .i64 W, .int .i64 H, .int .i64 M, .int .i64 B, .slice ao n cp, .map (some m)] 68 (0, 0))) := Lib.hid ((hb6.block _ (by first | omega | (simp; done) | (simp; omega))).trans KB5.out)
  have KT6 : Hid (w6.heap[bt]? = some (.cells #[.int .i64 tx, .int .i64 ty] 26 (0, 0))) := Lib.hid ((hb6.block _ (by first | omega | (simp; done) | (simp; omega))).trans KT5.out)
  have KS6 := Lib.hid (KS5.out.keep (hb6.block _ KS5.out.lt))
  have HB6 : Hid (Below w.heap.size w w6) := Lib.hid (HB5.out.trans (hb6.mono (by omega)))
  have hbl : b < b12 := by rw [hb12]; exact KS5.out.lt
  have HW6 := Lib.hid hw6
  have HB12 := Lib.hid hb12
  have q1 : bf < w5.heap.size := by omega
  have q2 : ¬ bf = w5.heap.size := by omega
  have q3 : ¬ w5.heap.size = bf := by omega
  clear hb12 hw6 hb6 KB5 KT5 KS5 HB5
  go_wp2_with fail
  rw [← HB12.out, ← HW6.out]
  clear q1 q2 q3 HB12 HW6
  obtain ⟨i0, hi, hz0, hz1', hz2'⟩ := info_parts xy_info
  have HI := Lib.hid (And.intro hi (And.intro hz0 (And.intro hz1' hz2')))
  clear hi hz0 hz1' hz2'
  have HLC := Lib.hid (rt_len hnum.2.2.2.2.1 hnum.2.2.2.2.2.2.1 _ _ _ _ _ _ HR.out)
  obtain ⟨bx, hbx⟩ : ∃ z, z = b12 + 1 := ⟨_, rfl⟩
  rw [← hbx] at KX6 ⊢
  have hbx' : b12 < bx := by omega
  have HOW6 : Hid (w6.ownsRow b12 26 2 (.slice (some ⟨b12, 0, none⟩) 1 1) 1 (xyC [(fx, fy)])) := Lib.hid ⟨rfl, Or.inr ⟨b12, 1, _, rfl, Nat.le_refl _, KP6.out, Nat.le_refl _, by unfold maxLen; omega, rfl, rfl⟩⟩
  have hz6' : bx < w6.heap.size := by omega
  clear KP6 hz6 hbx
  go_loopg [12, 13, 15] l.length (fun gg v12 v13 v15 wr => ∃ (x y i cs c' : Int) (pre l' : List (Int × Int)) (k : Nat), v13 = .int .i64 cs ∧ v15 = .int .i64 i ∧ Hid (l'.length ≤ gg) ∧ Hid (rt F M B tx ty k x y i = some (l', c')) ∧ Hid (pre ++ l' = (fx, fy) :: l) ∧ Hid (wr.ownsRow b12 26 2 v12 pre.length (xyC pre)) ∧ Hid (v12.ownBlock ≠ some bx) ∧ 0 ≤ cs ∧ cs + c' = c ∧ Hid (wr.heap[bx]? = some (.cells #[.int .i64 x, .int .i64 y] 26 (0, 0))) ∧ Hid (wr.heap[b9]? = some (.cells #[.int .i64 W, .int .i64 H, .int .i64 M, .int .i64 B, .slice ao n cp, .map (some m)] 68 (0, 0))) ∧ Hid (wr.heap[bt]? = some (.cells #[.int .i64 tx, .int .i64 ty] 26 (0, 0))) ∧ Hid (SMap wr b kn F) ∧ Hid (Below w.heap.size w wr) ∧ bx < wr.heap.size ∧ (0 ≤ x ∧ x < 30) ∧ 0 ≤ y ∧ y < 30)
  case atStart => exact ⟨fx, fy, -1, 0, c, [(fx, fy)], l, nn, rfl, rfl, Lib.hid (Nat.le_refl _), HR, Lib.hid rfl, HOW6, Lib.hid (by intro e; simp [Value.ownBlock] at e; omega), by omega, by omega, KX6, KB6, KT6, KS6, HB6, hz6', ⟨by omega, by omega⟩, by omega, by omega⟩
  case round =>
    obtain ⟨x, y, i, cs, c', pre, l', k, rfl, rfl, HG, HRT, HPL, HOW, HOB, hcs, hcc, KX, KB, KT, KS, HB, hz, hx, hy⟩ := hrel
    clear KX6 KB6 KT6 KS6 HB6 hz6' HOW6 HR
    obtain ⟨x0, x1⟩ : wr.cell? ⟨bx, 0, none⟩ = some (.int .i64 x) ∧ wr.cell? ⟨bx, 1, none⟩ = some (.int .i64 y) := ⟨cell_of_blk KX.out rfl, cell_of_blk KX.out rfl⟩
    obtain ⟨cT0, cT1⟩ : wr.cell? ⟨bt, 0, none⟩ = some (.int .i64 tx) ∧ wr.cell? ⟨bt, 1, none⟩ = some (.int .i64 ty) := ⟨cell_of_blk KT.out rfl, cell_of_blk KT.out rfl⟩
    have hc0 := rt_low (by omega) (by omega) _ _ _ _ _ _ HRT.out
    by_cases hp : x = tx ∧ y = ty
    · obtain ⟨rfl, rfl⟩ := hp
      have hne : ∀ w, (binOp .neq 26 (.agg #[.int .i64 x, .int .i64 y]) (.agg #[.int .i64 x, .int .i64 y])).run Try.prog w = .ok (.bool false) w := fun w => by have h := neXY x y x y w; simpa using h
      obtain ⟨hl0, hc0'⟩ := rt_at HRT.out
      have HPre : Hid (pre = (fx, fy) :: l) := Lib.hid (by have := HPL.out; rw [hl0] at this; simpa using this)
      have HCC : Hid (cs = c) := Lib.hid (by omega)
      clear hl0 hc0'
      go_wp2_with fail
      refine bodyPost_ret (v := .tuple #[u12, .int .i64 cs, .int .i64 0]) (by simp [results, Try.results28, go_sem, *]) rfl ⟨F, nn, l, c, u12, HCO.out, HR9.out, by rw [HCC.out], ?_, HB.out⟩
      have h := HOW.out
      rw [HPre.out] at h
      exact ownsRow_base h (by omega)
    have hne : ∀ w, (binOp .neq 26 (.agg #[.int .i64 x, .int .i64 y]) (.agg #[.int .i64 tx, .int .i64 ty])).run Try.prog w = .ok (.bool true) w := fun w => by
      have h := neXY x y tx ty w
      rw [show (x == tx && y == ty) = false from Bool.eq_false_iff.2 (fun e => hp (by simpa using e))] at h
      exact h
    obtain ⟨k2, l2, c2, hd, hr2, rfl, rfl⟩ := rt_go hp HRT.out
    obtain ⟨h0, h4, hop2⟩ := HCO.out.next HOT.out hd
    obtain ⟨d, hdd⟩ : ∃ d, (chp F B x y i).1 = d := ⟨_, rfl⟩
    rw [hdd] at hd hr2 h0 h4 hop2
    obtain ⟨px, hpx⟩ : ∃ z, nx x d = z := ⟨_, rfl⟩
    obtain ⟨py, hpy⟩ : ∃ z, ny y d = z := ⟨_, rfl⟩
    obtain ⟨bv, hbv⟩ : ∃ z, bd B i d = z := ⟨_, rfl⟩
    have hbd := bd_le (B := B) (i := i) (o := d) (by omega)
    rw [hpx, hpy] at hr2 hop2
    have hc2 := rt_low (by omega) (by omega) _ _ _ _ _ _ hr2
    have hpon := (opB_iff.1 hop2).1
    have HR2 := Lib.hid hr2
    have HDD := Lib.hid hdd
    rw [hdd, hpx, hpy] at HPL
    rw [hdd, hbv] at hcc
    rw [hbv] at hbd
    have HPX := Lib.hid (And.intro hpx (And.intro hpy hbv))
    have hd1 : (d == -1) = false := beq_eq_false_iff_ne.2 hd
    have HGG : Hid (l2.length + 1 ≤ gk) := Lib.hid (by have := HG.out; simpa using this)
    have WR1 : Hid (IntKind.i64.wrap (M + bv) = M + bv) := Lib.hid (by rw [IntKind.wrap_i64]; omega)
    have WR2 : Hid (IntKind.i64.wrap (cs + (M + bv)) = cs + (M + bv)) := Lib.hid (by rw [IntKind.wrap_i64]; omega)
    clear hr2 hdd hpx hpy hbv hp HRT hop2 HG
    obtain ⟨cB0, cB1, cB2, cB3, cB4, cB5⟩ : wr.cell? ⟨b9, 0, none⟩ = some (.int .i64 W) ∧ wr.cell? ⟨b9, 1, none⟩ = some (.int .i64 H) ∧ wr.cell? ⟨b9, 2, none⟩ = some (.int .i64 M) ∧ wr.cell? ⟨b9, 3, none⟩ = some (.int .i64 B) ∧ wr.cell? ⟨b9, 4, none⟩ = some (.slice ao n cp) ∧ wr.cell? ⟨b9, 5, none⟩ = some (.map (some m)) := ⟨cell_of_blk KB.out rfl, cell_of_blk KB.out rfl, cell_of_blk KB.out rfl, cell_of_blk KB.out rfl, cell_of_blk KB.out rfl, cell_of_blk KB.out rfl⟩
    go_wp2_with fail
    refine (cheapest_any W H M B x y i n cp m b kn ao F _ KS.out (HCO.out.bd (by omega) (by omega)) (by omega) hx hy).mono ?_
    rw [HDD.out]
    rintro e w1 ⟨rfl, hb⟩
    have hz1 : bx < w1.heap.size := by have := hb.size; omega
    have KX1 : Hid (w1.heap[bx]? = some (.cells #[.int .i64 x, .int .i64 y] 26 (0, 0))) := Lib.hid ((hb.block _ hz).trans KX.out)
    have KB1 : Hid (w1.heap[b9]? = some (.cells #[.int .i64 W, .int .i64 H, .int .i64 M, .int .i64 B, .slice ao n cp, .map (some m)] 68 (0, 0))) := Lib.hid ((hb.block _ (by omega)).trans KB.out)
    have KT1 : Hid (w1.heap[bt]? = some (.cells #[.int .i64 tx, .int .i64 ty] 26 (0, 0))) := Lib.hid ((hb.block _ (by omega)).trans KT.out)
    have KS1 := Lib.hid (KS.out.keep (hb.block _ KS.out.lt))
    have HB1 : Hid (Below w.heap.size w w1) := Lib.hid (HB.out.trans (hb.mono (by omega)))
    have HOW1 : Hid (w1.ownsRow b12 26 2 u12 pre.length (xyC pre)) := Lib.hid (own_below' HOW.out hb)
    clear hb KX KB KT KS HB HOW x0 x1 cT0 cT1 hne cB0 cB1 cB2 cB3 cB4 cB5
    go_upto_region 13 with fail
    have G1 : Hid (∀ w' : World, w'.heap[b9]? = w1.heap[b9]? → w'.heap[b9]? = some (.cells #[.int .i64 W, .int .i64 H, .int .i64 M, .int .i64 B, .slice ao n cp, .map (some m)] 68 (0, 0)) ∧ w'.cell? ⟨b9, 2, none⟩ = some (.int .i64 M)) := Lib.hid (fun w' q => ⟨q.trans KB1.out, cell_of_blk (q.trans KB1.out) rfl⟩)
    have l9 : b9 < w1.heap.size := by omega

    refine wp_region_held_drew (S := fun w' => w'.heap[b9]? = some (.cells #[.int .i64 W, .int .i64 H, .int .i64 M, .int .i64 B, .slice ao n cp, .map (some m)] 68 (0, 0)) ∧ w'.cell? ⟨b9, 2, none⟩ = some (.int .i64 M)) (by kernel_rfl) (G1.out w1.drew rfl) (fun hHeld => ?_)
    refine wpAnyH_take (i := 0) (oi := _) (v := ?_) rfl (by kernel_rfl) (by kernel_rfl) (by kernel_rfl) (fun _ _ _ h => h) (Or.inl ⟨by rfl, ?_⟩) (by assumption) ?_
    rotate_left
    · intro w hSw; obtain ⟨s0, s1⟩ := hSw; go_simp; (try with_reducible rfl)
    try change wpAnyH _ _ _ _ _ _ _ (Act.put _ (some 51) _) _
    try simp only [act_all]
    refine wpAnyH_take (i := 1) (oi := _) (v := ?_) rfl (by kernel_rfl) (by kernel_rfl) (by kernel_rfl) (fun _ _ _ h => h) (Or.inl ⟨by rfl, ?_⟩) (by assumption) ?_
    rotate_left
    · intro w hSw; obtain ⟨s0, s1⟩ := hSw; go_simp; (try with_reducible rfl)
    try change wpAnyH _ _ _ _ _ _ _ (Act.put _ (some 52) _) _
    try simp only [act_all]
    refine wpAnyH_take (i := 2) (oi := _) (v := ?_) rfl (by kernel_rfl) (by kernel_rfl) (by kernel_rfl) (fun _ _ _ h => h) (Or.inl ⟨by rfl, ?_⟩) (by assumption) ?_
    rotate_left
    · intro w hSw; obtain ⟨s0, s1⟩ := hSw; go_simp; (try with_reducible rfl)
    try change wpAnyH _ _ _ _ _ _ _ (Act.put _ (some 53) _) _
    try simp only [act_all]
    refine wpAnyH_take (i := 3) (oi := _) (v := ?_) rfl (by kernel_rfl) (by kernel_rfl) (by kernel_rfl) (fun _ _ _ h => h) (Or.inl ⟨by rfl, ?_⟩) (by assumption) ?_
    rotate_left
    · intro w hSw; obtain ⟨s0, s1⟩ := hSw; go_simp; (try with_reducible rfl)
    try change wpAnyH _ _ _ _ _ _ _ (Act.put _ (some 54) _) _
    try simp only [act_all]
    refine wpAnyH_take (i := 4) (oi := _) (v := _) rfl (by kernel_rfl) (by kernel_rfl) (by kernel_rfl) (fun _ _ _ h => h) (yieldsIf_load_mid (by rfl) 68 _ rfl b9 0 rfl ([.int .i64 W, .int .i64 H, .int .i64 M, .int .i64 B, .slice ao n cp, .map (some m)]) _ (fun w' hh => range_row hh.1 0 [.int .i64 W, .int .i64 H, .int .i64 M, .int .i64 B, .slice ao n cp, .map (some m)] (fun j hj => by simp only [Nat.zero_add, List.getElem?_toArray])) Try.underlying68 rfl (by kernel_rfl)) (by assumption) ?_
    try change wpAnyH _ _ _ _ _ _ _ (Act.put _ (some 55) _) _
    try simp only [act_all]
    refine wpAnyH_take (i := 5) (oi := _) (v := ?_) rfl (by kernel_rfl) (by kernel_rfl) (by kernel_rfl) (fun _ _ _ h => h) (Or.inl ⟨by rfl, ?_⟩) (by assumption) ?_
    rotate_left
    · intro w hSw; obtain ⟨s0, s1⟩ := hSw; go_simp; (try with_reducible rfl)
    try change wpAnyH _ _ _ _ _ _ _ (Act.put _ (some 56) _) _
    try simp only [act_all]
    refine wpAnyH_take (i := 6) (oi := _) (v := ?_) rfl (by kernel_rfl) (by kernel_rfl) (by kernel_rfl) (fun _ _ _ h => h) (Or.inl ⟨by rfl, ?_⟩) (by assumption) ?_
    rotate_left
    · intro w hSw; obtain ⟨s0, s1⟩ := hSw; go_simp; (try with_reducible rfl)
    try change wpAnyH _ _ _ _ _ _ _ (Act.put _ (some 57) _) _
    try simp only [act_all]
    refine wpAnyH_ready (rs := [7]) (by kernel_rfl) (by simp) ?_
    refine AllReadyH.cons (o := _) rfl (fun K hK => ?_) AllReadyH.nil
    go_simp
    refine (bend_any W H M B i d n cp m ao _).mono ?_
    rw [HPX.out.2.2]
    rintro e_ w2 ⟨rfl, hb⟩
    have hb2 : Below w1.heap.size w1 w2 := (Below.refl w1.heap.size w1).drew.trans hb
    have hz2 : bx < w2.heap.size := by have := hb2.size; omega
    have KX2 : Hid (w2.heap[bx]? = some (.cells #[.int .i64 x, .int .i64 y] 26 (0, 0))) := Lib.hid ((hb2.block _ hz1).trans KX1.out)
    have KB2 : Hid (w2.heap[b9]? = some (.cells #[.int .i64 W, .int .i64 H, .int .i64 M, .int .i64 B, .slice ao n cp, .map (some m)] 68 (0, 0))) := Lib.hid ((hb2.block _ l9).trans KB1.out)
    have KT2 : Hid (w2.heap[bt]? = some (.cells #[.int .i64 tx, .int .i64 ty] 26 (0, 0))) := Lib.hid ((hb2.block _ (by omega)).trans KT1.out)
    have KS2 := Lib.hid (KS1.out.keep (hb2.block _ KS1.out.lt))
    have HB2 : Hid (Below w.heap.size w w2) := Lib.hid (HB1.out.trans (hb2.mono (by omega)))
    have HOW2 : Hid (w2.ownsRow b12 26 2 u12 pre.length (xyC pre)) := Lib.hid (own_below' HOW1.out hb2)
    have S2 := G1.out w2 (hb2.block _ l9)
    clear hb hb2 KX1 KB1 KT1 KS1 HB1 HOW1
    refine hK.out _ _ S2 (fun hHeld => ?_)
    clear hK K
    try simp only [act_all]
    refine wpAnyH_take (i := 8) (oi := _) (v := ?_) rfl (by kernel_rfl) (by kernel_rfl) (by kernel_rfl) (fun _ _ _ h => h) (Or.inl ⟨by rfl, ?_⟩) (by assumption) ?_
    rotate_left
    · intro w hSw; obtain ⟨s0, s1⟩ := hSw; go_simp; (try with_reducible rfl)
    try change wpAnyH _ _ _ _ _ _ _ (Act.put _ (some 59) _) _
    try simp only [act_all]
    refine wpAnyH_take (i := 9) (oi := _) (v := ?_) rfl (by kernel_rfl) (by kernel_rfl) (by kernel_rfl) (fun _ _ _ h => h) (Or.inl ⟨by rfl, ?_⟩) (by assumption) ?_
    rotate_left
    · intro w hSw; obtain ⟨s0, s1⟩ := hSw; go_simp; (try with_reducible rfl)
    try change wpAnyH _ _ _ _ _ _ _ (Act.put _ (some 60) _) _
    try simp only [act_all]
    refine wpAnyH_take (i := 10) (oi := _) (v := ?_) rfl (by kernel_rfl) (by kernel_rfl) (by kernel_rfl) (fun _ _ _ h => h) (Or.inl ⟨by rfl, ?_⟩) (by assumption) ?_
    rotate_left
    · intro w hSw; obtain ⟨s0, s1⟩ := hSw; go_simp; (try with_reducible rfl)
    try change wpAnyH _ _ _ _ _ _ _ (Act.put _ (some 13) _) _
    try simp only [act_all]
    refine wpAnyH_done (by kernel_rfl) ?_ _
    clear hHeld S2 G1
    rw [WR1.out, WR2.out]
    obtain ⟨x0, x1⟩ : w2.cell? ⟨bx, 0, none⟩ = some (.int .i64 x) ∧ w2.cell? ⟨bx, 1, none⟩ = some (.int .i64 y) := ⟨cell_of_blk KX2.out rfl, cell_of_blk KX2.out rfl⟩
    go_wp2_with fail
    refine (beside_any x y d _ (by omega) (by omega) (by omega) (by omega)).mono ?_
    rw [HPX.out.1, HPX.out.2.1]
    rintro e w3 ⟨rfl, hb⟩
    have hz3 : bx < w3.heap.size := by have := hb.size; omega
    have kx3 : w3.heap[bx]? = some (.cells #[.int .i64 x, .int .i64 y] 26 (0, 0)) := (hb.block _ hz2).trans KX2.out
    have KB3 : Hid (w3.heap[b9]? = some (.cells #[.int .i64 W, .int .i64 H, .int .i64 M, .int .i64 B, .slice ao n cp, .map (some m)] 68 (0, 0))) := Lib.hid ((hb.block _ (by omega)).trans KB2.out)
    have KT3 : Hid (w3.heap[bt]? = some (.cells #[.int .i64 tx, .int .i64 ty] 26 (0, 0))) := Lib.hid ((hb.block _ (by omega)).trans KT2.out)
    have KS3 := Lib.hid (KS2.out.keep (hb.block _ KS2.out.lt))
    have HB3 : Hid (Below w.heap.size w w3) := Lib.hid (HB2.out.trans (hb.mono (by omega)))
    have HOW3 : Hid (w3.ownsRow b12 26 2 u12 pre.length (xyC pre)) := Lib.hid (own_below' HOW2.out hb)
    have y0 : w3.cell? ⟨bx, 0, none⟩ = some (.int .i64 x) := cell_of_blk kx3 rfl
    have y1 : w3.cell? ⟨bx, 1, none⟩ = some (.int .i64 y) := cell_of_blk kx3 rfl
    have yf : ∀ j, w3.frozen? ⟨bx, j, none⟩ = false := fun j => by simp [World.frozen?, kx3]
    obtain ⟨w4, hw4⟩ : ∃ z, z = (w3.setCell ⟨bx, 0, none⟩ (.int .i64 px)).setCell ⟨bx, 1, none⟩ (.int .i64 py) := ⟨_, rfl⟩
    have kx4 : w4.heap[bx]? = some (.cells #[.int .i64 px, .int .i64 py] 26 (0, 0)) := by rw [hw4]; exact blk_set (blk_set kx3 _) _
    have hs4 : w4.heap.size = w3.heap.size := by rw [hw4]; simp
    have ho4 : ∀ k, k ≠ bx → w4.heap[k]? = w3.heap[k]? := fun k hk => by rw [hw4, Below.heap_setCell _ _ _ _ hk, Below.heap_setCell _ _ _ _ hk]
    have KB4 : Hid (w4.heap[b9]? = some (.cells #[.int .i64 W, .int .i64 H, .int .i64 M, .int .i64 B, .slice ao n cp, .map (some m)] 68 (0, 0))) := Lib.hid ((ho4 _ (by omega)).trans KB3.out)
    have KT4 : Hid (w4.heap[bt]? = some (.cells #[.int .i64 tx, .int .i64 ty] 26 (0, 0))) := Lib.hid ((ho4 _ (by omega)).trans KT3.out)
    have KS4 := Lib.hid (KS3.out.keep (ho4 _ (by omega)))
    have HB4 : Hid (Below w.heap.size w w4) := Lib.hid (by rw [hw4]; exact (HB3.out.setCell (p := ⟨bx, 0, none⟩) (by show w.heap.size ≤ bx; omega) _).setCell (p := ⟨bx, 1, none⟩) (by show w.heap.size ≤ bx; omega) _)
    have HOW4 : Hid (w4.ownsRow b12 26 2 u12 pre.length (xyC pre)) := Lib.hid (by
      obtain ⟨q1, q2 | ⟨g, cap, cur, q3, q4, q5, q6⟩⟩ := HOW3.out
      · exact ⟨q1, Or.inl q2⟩
      · exact ⟨q1, Or.inr ⟨g, cap, cur, q3, q4, (ho4 g (fun e => HOB.out (by rw [q3]; simp [Value.ownBlock]; exact e))).trans q5, q6⟩⟩)
    have KX4 := Lib.hid kx4
    have hz4 : bx < w4.heap.size := by omega
    have HW4 := Lib.hid hw4
    clear hb kx3 ho4 KX2 KB2 KT2 KS2 HB2 HOW2 KB3 KT3 KS3 HB3 HOW3 x0 x1 kx4 hw4 hs4 hz3 hz2
    go_upto_region 15 with fail
    rw [← HW4.out]
    clear HW4 y0 y1 yf
    obtain ⟨x0, x1⟩ : w4.cell? ⟨bx, 0, none⟩ = some (.int .i64 px) ∧ w4.cell? ⟨bx, 1, none⟩ = some (.int .i64 py) := ⟨cell_of_blk KX4.out rfl, cell_of_blk KX4.out rfl⟩
    refine wp_region_lit ?_
    refine wpList_step (fun K hK => ?_); go_simp; refine hK _ _ ?_; clear hK K
    refine wpList_step (fun K hK => ?_); go_simp; refine hK _ _ ?_; clear hK K
    refine wpList_step (fun K hK => ?_); go_simp; refine hK _ _ ?_; clear hK K
    have hNB : (w4.alloc (.cells #[.int .i64 px, .int .i64 py] 26)).heap[w4.heap.size]? = some (.cells #[.int .i64 px, .int .i64 py] 26 (0, 0)) := heap_alloc_new w4 _
    have hlen : (pre.length : Int) ≤ 10000000 := by
      have h1 := congrArg List.length HPL.out
      have h2 := HLC.out
      simp at h1
      omega
    refine wpList_step (fun K hK => ?_)
    refine step_append_lies _ (by rfl) _ _ 22 (by rfl) b12 26 i0 _ 2 16 Try.underlying22 HI.out.1 HI.out.2.1 HI.out.2.2.1 HI.out.2.2.2 (by rfl) (by decide) u12 pre.length (xyC pre) (by rfl) (HOW4.out.alloc _) ⟨w4.heap.size, 0, none⟩ 1 1 [.int .i64 px, .int .i64 py] (by rfl) rfl (fun j u hu => World.news_of_block (cs := #[.int .i64 px, .int .i64 py]) hNB j u hu) (by intro u hu; simp only [List.mem_cons, List.not_mem_nil, or_false] at hu; rcases hu with rfl | rfl <;> rfl) (by omega) (by unfold maxLen; omega) (by omega) (by simp; omega) _ rfl ?_
    intro g' cap' w9 hown' hgrow hor hlg'
    have hz9 : bx < w9.heap.size := by have := hgrow.size; simp at this; omega
    have hlb : ∀ k, u12.ownBlock = some k → b12 ≤ k := fun k hk => (HOW4.out.lt k hk).1
    have hk9 : ∀ k, k < w4.heap.size → (k < b12 ∨ k = bx) → w9.heap[k]? = w4.heap[k]? := fun k hk hkk => (hgrow.block k (by simp; omega) (fun e => by
      rcases hkk with h | h
      · have := hlb k e.symm; omega
      · subst h; exact HOB.out e.symm)).trans (Below.heap_alloc _ _ _ hk)
    have KX9 : Hid (w9.heap[bx]? = some (.cells #[.int .i64 px, .int .i64 py] 26 (0, 0))) := Lib.hid ((hk9 _ hz4 (Or.inr rfl)).trans KX4.out)
    have KB9 : Hid (w9.heap[b9]? = some (.cells #[.int .i64 W, .int .i64 H, .int .i64 M, .int .i64 B, .slice ao n cp, .map (some m)] 68 (0, 0))) := Lib.hid ((hk9 _ (by omega) (Or.inl (by omega))).trans KB4.out)
    have KT9 : Hid (w9.heap[bt]? = some (.cells #[.int .i64 tx, .int .i64 ty] 26 (0, 0))) := Lib.hid ((hk9 _ (by omega) (Or.inl (by omega))).trans KT4.out)
    have KS9 := Lib.hid (KS4.out.keep (hk9 _ (by omega) (Or.inl (by omega))))
    have HB9 : Hid (Below w.heap.size w w9) := Lib.hid ((HB4.out.alloc (by omega) _).grown hgrow (by simp; omega) (fun k hk => by have := hlb k hk; omega))
    have HOW9 : Hid (w9.ownsRow b12 26 2 (.slice (some ⟨g', 0, none⟩) (pre.length + 1) cap') (pre ++ [(px, py)]).length (xyC (pre ++ [(px, py)]))) := Lib.hid (by rw [xyC_snoc, List.length_append]; exact hown')
    have HOB9 : Hid ((Value.slice (some ⟨g', 0, none⟩) (pre.length + 1) cap').ownBlock ≠ some bx) := Lib.hid (by
      rcases hor with h | h
      · exact fun e => HOB.out (h.trans e)
      · intro e; simp only [Value.ownBlock, Option.some.injEq] at e; simp at h; omega)
    have HPL9 : Hid ((pre ++ [(px, py)]) ++ l2 = (fx, fy) :: l) := Lib.hid (by rw [List.append_assoc]; exact HPL.out)
    refine hK _ _ ?_
    clear hK K hown' hgrow hor hlg' hk9 hlb hNB KX4 KB4 KT4 KS4 HB4 HOW4 x0 x1
    refine wpList_step (fun K hK => ?_); go_simp; refine hK _ _ ?_; clear hK K
    refine wpList_nil ?_
    go_wp2_with fail
    go_roundg l2.length
    case measure => have := HGG.out; omega
    case rel => exact ⟨px, py, d, cs + (M + bv), c2, pre ++ [(px, py)], l2, k2, rfl, rfl, Lib.hid (Nat.le_refl _), HR2, HPL9, HOW9, HOB9, by omega, by omega, KX9, KB9, KT9, KS9, HB9, hz9, ⟨by omega, by omega⟩, by omega, by omega⟩
end Go.Proofs.Ytkkcnhhfdicppaa

namespace Go.Proofs.Ytkkcnhhfdicppaa
open Go.RowKit Lay
set_option maxRecDepth 100000 in
set_option maxHeartbeats 16000000 in
theorem pRoute_grid (W H M B fx fy tx ty : Int) (n cp : Nat) (ao : Option Addr) (X Y : Nat → Int) (w : World) (hn : n ≤ 9223372036854775807) (hc : XYs w ao n X Y) (hv : vaG W H M B n X Y = false) :
    Calls Try.prog 28 #[.agg #[.int .i64 W, .int .i64 H, .int .i64 M, .int .i64 B, .slice ao n cp], .agg #[.int .i64 fx, .int .i64 fy], .agg #[.int .i64 tx, .int .i64 ty]] w fun e w' => e = .returned (.tuple #[.slice none 0 0, .int .i64 0, .int .i64 70]) ∧ Below w.heap.size w w' := by
  have HC := Lib.hid hc
  have HV := Lib.hid hv
  clear hc hv
  go_enter Try.func28, Try.ntmps28
  go_wp2_with fail
  refine (pRead_no W H M B n cp ao X Y _ hn (HC.out.keep (by go_grown)) HV.out).mono ?_
  rintro e w1 ⟨rfl, hb⟩
  have HB1 : Hid (Below w.heap.size w w1) := Lib.hid (Below.trans (by go_grown) (hb.mono (by simp; omega)))
  have hz : w.heap.size ≤ w1.heap.size := HB1.out.size
  clear hb
  go_wp2_with fail
  refine bodyPost_ret (v := .tuple #[.slice none 0 0, .int .i64 0, .int .i64 70]) (by simp [results, Try.results28, go_sem]) rfl ⟨rfl, HB1.out.alloc hz _⟩
set_option maxRecDepth 100000 in
set_option maxHeartbeats 16000000 in
theorem pRoute_from (W H M B fx fy tx ty : Int) (n cp : Nat) (ao : Option Addr) (X Y : Nat → Int) (w : World) (hc : XYs w ao n X Y) (hv : vaG W H M B n X Y = true) (hof : opB W H (blkN X Y n) fx fy = false) :
    Calls Try.prog 28 #[.agg #[.int .i64 W, .int .i64 H, .int .i64 M, .int .i64 B, .slice ao n cp], .agg #[.int .i64 fx, .int .i64 fy], .agg #[.int .i64 tx, .int .i64 ty]] w fun e w' => e = .returned (.tuple #[.slice none 0 0, .int .i64 0, .int .i64 72]) ∧ Below w.heap.size w w' := by
  have HC := Lib.hid hc
  have HV := Lib.hid hv
  have HOF := Lib.hid hof
  obtain ⟨hnum, _⟩ := vaG_num hv
  clear hc hv hof
  go_enter Try.func28, Try.ntmps28
  go_wp2_with fail
  refine (pRead_ok W H M B n cp ao X Y _ (HC.out.keep (by go_grown)) HV.out).mono ?_
  rintro e w1 ⟨m, rfl, hm1, hbm, hb⟩
  obtain ⟨bf, hbf⟩ : ∃ b, b = w.heap.size + 1 := ⟨_, rfl⟩
  obtain ⟨bt, hbt⟩ : ∃ b, b = w.heap.size + 1 + 1 := ⟨_, rfl⟩
  obtain ⟨b9, hb9⟩ : ∃ b, b = w1.heap.size := ⟨_, rfl⟩
  have hz1 : bt < b9 := by have h9 := hb.size; simp at h9; omega
  have KF1 : Hid (w1.heap[bf]? = some (.cells #[.int .i64 fx, .int .i64 fy] 26 (0, 0))) := Lib.hid ((hb.block _ (by simp; omega)).trans ((Below.heap_alloc _ _ _ (by simp; omega)).trans (by rw [hbf]; have h := heap_alloc_new (w.alloc (.cells #[.int .i64 W, .int .i64 H, .int .i64 M, .int .i64 B, .slice ao n cp] 24)) (.cells #[.int .i64 fx, .int .i64 fy] 26); rwa [World.size_alloc] at h)))
  have KT1 : Hid (w1.heap[bt]? = some (.cells #[.int .i64 tx, .int .i64 ty] 26 (0, 0))) := Lib.hid ((hb.block _ (by simp; omega)).trans (by rw [hbt]; have h := heap_alloc_new ((w.alloc (.cells #[.int .i64 W, .int .i64 H, .int .i64 M, .int .i64 B, .slice ao n cp] 24)).alloc (.cells #[.int .i64 fx, .int .i64 fy] 26)) (.cells #[.int .i64 tx, .int .i64 ty] 26); simpa using h))
  have HB1 : Hid (Below w.heap.size w w1) := Lib.hid (Below.trans (by go_grown) (hb.mono (by simp; omega)))
  obtain ⟨w2, hw2⟩ : ∃ z, z = w1.alloc (.cells #[.int .i64 W, .int .i64 H, .int .i64 M, .int .i64 B, .slice ao n cp, .map (some m)] 68) := ⟨_, rfl⟩
  have hb2 : Below w1.heap.size w1 w2 := by rw [hw2]; exact bal (Below.refl _ _) _
  have KB2 : Hid (w2.heap[b9]? = some (.cells #[.int .i64 W, .int .i64 H, .int .i64 M, .int .i64 B, .slice ao n cp, .map (some m)] 68 (0, 0))) := Lib.hid (by rw [hw2, hb9]; exact heap_alloc_new w1 _)
  have hz2 : w2.heap.size = b9 + 1 := by rw [hw2]; simp; omega
  have KM2 := Lib.hid (hbm.keep (hb2.block _ hbm.lt))
  have HB2 : Hid (Below w.heap.size w w2) := Lib.hid (HB1.out.trans (hb2.mono (by omega)))
  have KF2 : Hid (w2.heap[bf]? = some (.cells #[.int .i64 fx, .int .i64 fy] 26 (0, 0))) := Lib.hid ((hb2.block _ (by first | omega | (simp; done) | (simp; omega))).trans KF1.out)
  have KT2 : Hid (w2.heap[bt]? = some (.cells #[.int .i64 tx, .int .i64 ty] 26 (0, 0))) := Lib.hid ((hb2.block _ (by first | omega | (simp; done) | (simp; omega))).trans KT1.out)
  have hwm : w.heap.size < bf := by omega
  have hft : bf < bt := by omega
  clear hb hbm KF1 KT1 HB1 hb2
  have HW2 := Lib.hid hw2
  have HB9 := Lib.hid hb9
  have hm0 : w.heap.size ≤ m := by simp at hm1; omega
  clear hb9 hw2 hm1
  go_upto_region 4 with fail
  rw [← HB9.out, ← HW2.out]
  try rw [← hbt, ← hbf]
  clear hbf hbt HW2 HB9
  obtain ⟨cB0, cB1, cB2, cB3, cB4, cB5⟩ : w2.cell? ⟨b9, 0, none⟩ = some (.int .i64 W) ∧ w2.cell? ⟨b9, 1, none⟩ = some (.int .i64 H) ∧ w2.cell? ⟨b9, 2, none⟩ = some (.int .i64 M) ∧ w2.cell? ⟨b9, 3, none⟩ = some (.int .i64 B) ∧ w2.cell? ⟨b9, 4, none⟩ = some (.slice ao n cp) ∧ w2.cell? ⟨b9, 5, none⟩ = some (.map (some m)) := ⟨cell_of_blk KB2.out rfl, cell_of_blk KB2.out rfl, cell_of_blk KB2.out rfl, cell_of_blk KB2.out rfl, cell_of_blk KB2.out rfl, cell_of_blk KB2.out rfl⟩
  obtain ⟨cF0, cF1⟩ : w2.cell? ⟨bf, 0, none⟩ = some (.int .i64 fx) ∧ w2.cell? ⟨bf, 1, none⟩ = some (.int .i64 fy) := ⟨cell_of_blk KF2.out rfl, cell_of_blk KF2.out rfl⟩
  obtain ⟨cT0, cT1⟩ : w2.cell? ⟨bt, 0, none⟩ = some (.int .i64 tx) ∧ w2.cell? ⟨bt, 1, none⟩ = some (.int .i64 ty) := ⟨cell_of_blk KT2.out rfl, cell_of_blk KT2.out rfl⟩
  go_wp2_with fail
  refine (has_any W H M B fx fy n cp m n ao (blkN X Y n) _ (by omega) (by omega) KM2.out).mono ?_
  rw [HOF.out]
  rintro e wE ⟨rfl, hb⟩
  have HBE : Hid (Below w.heap.size w wE) := Lib.hid (HB2.out.trans (hb.mono HB2.out.size))
  clear hb
  go_wp2_with fail
  refine bodyPost_ret (v := .tuple #[.slice none 0 0, .int .i64 0, .int .i64 72]) (by simp [results, Try.results28, go_sem]) rfl ⟨rfl, HBE.out⟩
set_option maxRecDepth 100000 in
set_option maxHeartbeats 16000000 in
theorem pRoute_to (W H M B fx fy tx ty : Int) (n cp : Nat) (ao : Option Addr) (X Y : Nat → Int) (w : World) (hc : XYs w ao n X Y) (hv : vaG W H M B n X Y = true) (hof : opB W H (blkN X Y n) fx fy = true) (hot : opB W H (blkN X Y n) tx ty = false) :
    Calls Try.prog 28 #[.agg #[.int .i64 W, .int .i64 H, .int .i64 M, .int .i64 B, .slice ao n cp], .agg #[.int .i64 fx, .int .i64 fy], .agg #[.int .i64 tx, .int .i64 ty]] w fun e w' => e = .returned (.tuple #[.slice none 0 0, .int .i64 0, .int .i64 72]) ∧ Below w.heap.size w w' := by
  have HC := Lib.hid hc
  have HV := Lib.hid hv
  have HOF := Lib.hid hof
  have HOT := Lib.hid hot
  obtain ⟨hnum, _⟩ := vaG_num hv
  have honf := (opB_iff.1 hof).1
  clear hc hv hof hot
  go_enter Try.func28, Try.ntmps28
  go_wp2_with fail
  refine (pRead_ok W H M B n cp ao X Y _ (HC.out.keep (by go_grown)) HV.out).mono ?_
  rintro e w1 ⟨m, rfl, hm1, hbm, hb⟩
  obtain ⟨bf, hbf⟩ : ∃ b, b = w.heap.size + 1 := ⟨_, rfl⟩
  obtain ⟨bt, hbt⟩ : ∃ b, b = w.heap.size + 1 + 1 := ⟨_, rfl⟩
  obtain ⟨b9, hb9⟩ : ∃ b, b = w1.heap.size := ⟨_, rfl⟩
  have hz1 : bt < b9 := by have h9 := hb.size; simp at h9; omega
  have KF1 : Hid (w1.heap[bf]? = some (.cells #[.int .i64 fx, .int .i64 fy] 26 (0, 0))) := Lib.hid ((hb.block _ (by simp; omega)).trans ((Below.heap_alloc _ _ _ (by simp; omega)).trans (by rw [hbf]; have h := heap_alloc_new (w.alloc (.cells #[.int .i64 W, .int .i64 H, .int .i64 M, .int .i64 B, .slice ao n cp] 24)) (.cells #[.int .i64 fx, .int .i64 fy] 26); rwa [World.size_alloc] at h)))
  have KT1 : Hid (w1.heap[bt]? = some (.cells #[.int .i64 tx, .int .i64 ty] 26 (0, 0))) := Lib.hid ((hb.block _ (by simp; omega)).trans (by rw [hbt]; have h := heap_alloc_new ((w.alloc (.cells #[.int .i64 W, .int .i64 H, .int .i64 M, .int .i64 B, .slice ao n cp] 24)).alloc (.cells #[.int .i64 fx, .int .i64 fy] 26)) (.cells #[.int .i64 tx, .int .i64 ty] 26); simpa using h))
  have HB1 : Hid (Below w.heap.size w w1) := Lib.hid (Below.trans (by go_grown) (hb.mono (by simp; omega)))
  obtain ⟨w2, hw2⟩ : ∃ z, z = w1.alloc (.cells #[.int .i64 W, .int .i64 H, .int .i64 M, .int .i64 B, .slice ao n cp, .map (some m)] 68) := ⟨_, rfl⟩
  have hb2 : Below w1.heap.size w1 w2 := by rw [hw2]; exact bal (Below.refl _ _) _
  have KB2 : Hid (w2.heap[b9]? = some (.cells #[.int .i64 W, .int .i64 H, .int .i64 M, .int .i64 B, .slice ao n cp, .map (some m)] 68 (0, 0))) := Lib.hid (by rw [hw2, hb9]; exact heap_alloc_new w1 _)
  have hz2 : w2.heap.size = b9 + 1 := by rw [hw2]; simp; omega
  have KM2 := Lib.hid (hbm.keep (hb2.block _ hbm.lt))
  have HB2 : Hid (Below w.heap.size w w2) := Lib.hid (HB1.out.trans (hb2.mono (by omega)))
  have KF2 : Hid (w2.heap[bf]? = some (.cells #[.int .i64 fx, .int .i64 fy] 26 (0, 0))) := Lib.hid ((hb2.block _ (by first | omega | (simp; done) | (simp; omega))).trans KF1.out)
  have KT2 : Hid (w2.heap[bt]? = some (.cells #[.int .i64 tx, .int .i64 ty] 26 (0, 0))) := Lib.hid ((hb2.block _ (by first | omega | (simp; done) | (simp; omega))).trans KT1.out)
  have hwm : w.heap.size < bf := by omega
  have hft : bf < bt := by omega
  clear hb hbm KF1 KT1 HB1 hb2
  have HW2 := Lib.hid hw2
  have HB9 := Lib.hid hb9
  have hm0 : w.heap.size ≤ m := by simp at hm1; omega
  clear hb9 hw2 hm1
  go_upto_region 4 with fail
  rw [← HB9.out, ← HW2.out]
  try rw [← hbt, ← hbf]
  clear hbf hbt HW2 HB9
  obtain ⟨cB0, cB1, cB2, cB3, cB4, cB5⟩ : w2.cell? ⟨b9, 0, none⟩ = some (.int .i64 W) ∧ w2.cell? ⟨b9, 1, none⟩ = some (.int .i64 H) ∧ w2.cell? ⟨b9, 2, none⟩ = some (.int .i64 M) ∧ w2.cell? ⟨b9, 3, none⟩ = some (.int .i64 B) ∧ w2.cell? ⟨b9, 4, none⟩ = some (.slice ao n cp) ∧ w2.cell? ⟨b9, 5, none⟩ = some (.map (some m)) := ⟨cell_of_blk KB2.out rfl, cell_of_blk KB2.out rfl, cell_of_blk KB2.out rfl, cell_of_blk KB2.out rfl, cell_of_blk KB2.out rfl, cell_of_blk KB2.out rfl⟩
  obtain ⟨cF0, cF1⟩ : w2.cell? ⟨bf, 0, none⟩ = some (.int .i64 fx) ∧ w2.cell? ⟨bf, 1, none⟩ = some (.int .i64 fy) := ⟨cell_of_blk KF2.out rfl, cell_of_blk KF2.out rfl⟩
  obtain ⟨cT0, cT1⟩ : w2.cell? ⟨bt, 0, none⟩ = some (.int .i64 tx) ∧ w2.cell? ⟨bt, 1, none⟩ = some (.int .i64 ty) := ⟨cell_of_blk KT2.out rfl, cell_of_blk KT2.out rfl⟩
  go_wp2_with fail
  refine (has_any W H M B fx fy n cp m n ao (blkN X Y n) _ (by omega) (by omega) KM2.out).mono ?_
  rw [HOF.out]
  rintro e w3 ⟨rfl, hb⟩
  have hz3 : b9 < w3.heap.size := by have := hb.size; omega
  have KB3 : Hid (w3.heap[b9]? = some (.cells #[.int .i64 W, .int .i64 H, .int .i64 M, .int .i64 B, .slice ao n cp, .map (some m)] 68 (0, 0))) := Lib.hid ((hb.block _ (by first | omega | (simp; done) | (simp; omega))).trans KB2.out)
  have KF3 : Hid (w3.heap[bf]? = some (.cells #[.int .i64 fx, .int .i64 fy] 26 (0, 0))) := Lib.hid ((hb.block _ (by first | omega | (simp; done) | (simp; omega))).trans KF2.out)
  have KT3 : Hid (w3.heap[bt]? = some (.cells #[.int .i64 tx, .int .i64 ty] 26 (0, 0))) := Lib.hid ((hb.block _ (by first | omega | (simp; done) | (simp; omega))).trans KT2.out)
  have KM3 := Lib.hid (KM2.out.keep (hb.block _ KM2.out.lt))
  have HB3 : Hid (Below w.heap.size w w3) := Lib.hid (HB2.out.trans (hb.mono (by omega)))
  clear hb KB2 KF2 KT2 KM2 HB2 cB0 cB1 cB2 cB3 cB4 cB5 cF0 cF1 cT0 cT1
  obtain ⟨cB0, cB1, cB2, cB3, cB4, cB5⟩ : w3.cell? ⟨b9, 0, none⟩ = some (.int .i64 W) ∧ w3.cell? ⟨b9, 1, none⟩ = some (.int .i64 H) ∧ w3.cell? ⟨b9, 2, none⟩ = some (.int .i64 M) ∧ w3.cell? ⟨b9, 3, none⟩ = some (.int .i64 B) ∧ w3.cell? ⟨b9, 4, none⟩ = some (.slice ao n cp) ∧ w3.cell? ⟨b9, 5, none⟩ = some (.map (some m)) := ⟨cell_of_blk KB3.out rfl, cell_of_blk KB3.out rfl, cell_of_blk KB3.out rfl, cell_of_blk KB3.out rfl, cell_of_blk KB3.out rfl, cell_of_blk KB3.out rfl⟩
  obtain ⟨cF0, cF1⟩ : w3.cell? ⟨bf, 0, none⟩ = some (.int .i64 fx) ∧ w3.cell? ⟨bf, 1, none⟩ = some (.int .i64 fy) := ⟨cell_of_blk KF3.out rfl, cell_of_blk KF3.out rfl⟩
  obtain ⟨cT0, cT1⟩ : w3.cell? ⟨bt, 0, none⟩ = some (.int .i64 tx) ∧ w3.cell? ⟨bt, 1, none⟩ = some (.int .i64 ty) := ⟨cell_of_blk KT3.out rfl, cell_of_blk KT3.out rfl⟩
  go_wp2_with fail
  refine (has_any W H M B tx ty n cp m n ao (blkN X Y n) _ (by omega) (by omega) KM3.out).mono ?_
  rw [HOT.out]
  rintro e wE ⟨rfl, hb⟩
  have HBE : Hid (Below w.heap.size w wE) := Lib.hid (HB3.out.trans (hb.mono HB3.out.size))
  clear hb
  go_wp2_with fail
  refine bodyPost_ret (v := .tuple #[.slice none 0 0, .int .i64 0, .int .i64 72]) (by simp [results, Try.results28, go_sem]) rfl ⟨rfl, HBE.out⟩
set_option maxRecDepth 100000 in
set_option maxHeartbeats 16000000 in
theorem pRoute_none (W H M B fx fy tx ty : Int) (n cp : Nat) (ao : Option Addr) (X Y : Nat → Int) (w : World) (hc : XYs w ao n X Y) (hv : vaG W H M B n X Y = true) (hof : opB W H (blkN X Y n) fx fy = true) (hot : opB W H (blkN X Y n) tx ty = true) (hp : ¬ (fx = tx ∧ fy = ty)) (hno : ∀ F, Costs W H (blkN X Y n) M B tx ty F → (chp F B fx fy (-1)).1 = -1) :
    Calls Try.prog 28 #[.agg #[.int .i64 W, .int .i64 H, .int .i64 M, .int .i64 B, .slice ao n cp], .agg #[.int .i64 fx, .int .i64 fy], .agg #[.int .i64 tx, .int .i64 ty]] w fun e w' => e = .returned (.tuple #[.slice none 0 0, .int .i64 0, .int .i64 5]) ∧ Below w.heap.size w w' := by
  have HN := Lib.hid hno
  clear hno
  have HC := Lib.hid hc
  have HV := Lib.hid hv
  have HOF := Lib.hid hof
  have HOT := Lib.hid hot
  obtain ⟨hnum, _⟩ := vaG_num hv
  have hont := (opB_iff.1 hot).1
  have honf := (opB_iff.1 hof).1
  clear hc hv hof hot
  go_enter Try.func28, Try.ntmps28
  go_wp2_with fail
  refine (pRead_ok W H M B n cp ao X Y _ (HC.out.keep (by go_grown)) HV.out).mono ?_
  rintro e w1 ⟨m, rfl, hm1, hbm, hb⟩
  obtain ⟨bf, hbf⟩ : ∃ b, b = w.heap.size + 1 := ⟨_, rfl⟩
  obtain ⟨bt, hbt⟩ : ∃ b, b = w.heap.size + 1 + 1 := ⟨_, rfl⟩
  obtain ⟨b9, hb9⟩ : ∃ b, b = w1.heap.size := ⟨_, rfl⟩
  have hz1 : bt < b9 := by have h9 := hb.size; simp at h9; omega
  have KF1 : Hid (w1.heap[bf]? = some (.cells #[.int .i64 fx, .int .i64 fy] 26 (0, 0))) := Lib.hid ((hb.block _ (by simp; omega)).trans ((Below.heap_alloc _ _ _ (by simp; omega)).trans (by rw [hbf]; have h := heap_alloc_new (w.alloc (.cells #[.int .i64 W, .int .i64 H, .int .i64 M, .int .i64 B, .slice ao n cp] 24)) (.cells #[.int .i64 fx, .int .i64 fy] 26); rwa [World.size_alloc] at h)))
  have KT1 : Hid (w1.heap[bt]? = some (.cells #[.int .i64 tx, .int .i64 ty] 26 (0, 0))) := Lib.hid ((hb.block _ (by simp; omega)).trans (by rw [hbt]; have h := heap_alloc_new ((w.alloc (.cells #[.int .i64 W, .int .i64 H, .int .i64 M, .int .i64 B, .slice ao n cp] 24)).alloc (.cells #[.int .i64 fx, .int .i64 fy] 26)) (.cells #[.int .i64 tx, .int .i64 ty] 26); simpa using h))
  have HB1 : Hid (Below w.heap.size w w1) := Lib.hid (Below.trans (by go_grown) (hb.mono (by simp; omega)))
  obtain ⟨w2, hw2⟩ : ∃ z, z = w1.alloc (.cells #[.int .i64 W, .int .i64 H, .int .i64 M, .int .i64 B, .slice ao n cp, .map (some m)] 68) := ⟨_, rfl⟩
  have hb2 : Below w1.heap.size w1 w2 := by rw [hw2]; exact bal (Below.refl _ _) _
  have KB2 : Hid (w2.heap[b9]? = some (.cells #[.int .i64 W, .int .i64 H, .int .i64 M, .int .i64 B, .slice ao n cp, .map (some m)] 68 (0, 0))) := Lib.hid (by rw [hw2, hb9]; exact heap_alloc_new w1 _)
  have hz2 : w2.heap.size = b9 + 1 := by rw [hw2]; simp; omega
  have KM2 := Lib.hid (hbm.keep (hb2.block _ hbm.lt))
  have HB2 : Hid (Below w.heap.size w w2) := Lib.hid (HB1.out.trans (hb2.mono (by omega)))
  have KF2 : Hid (w2.heap[bf]? = some (.cells #[.int .i64 fx, .int .i64 fy] 26 (0, 0))) := Lib.hid ((hb2.block _ (by first | omega | (simp; done) | (simp; omega))).trans KF1.out)
  have KT2 : Hid (w2.heap[bt]? = some (.cells #[.int .i64 tx, .int .i64 ty] 26 (0, 0))) := Lib.hid ((hb2.block _ (by first | omega | (simp; done) | (simp; omega))).trans KT1.out)
  have hwm : w.heap.size < bf := by omega
  have hft : bf < bt := by omega
  clear hb hbm KF1 KT1 HB1 hb2
  have HW2 := Lib.hid hw2
  have HB9 := Lib.hid hb9
  have hm0 : w.heap.size ≤ m := by simp at hm1; omega
  clear hb9 hw2 hm1
  go_upto_region 4 with fail
  rw [← HB9.out, ← HW2.out]
  try rw [← hbt, ← hbf]
  clear hbf hbt HW2 HB9
  obtain ⟨cB0, cB1, cB2, cB3, cB4, cB5⟩ : w2.cell? ⟨b9, 0, none⟩ = some (.int .i64 W) ∧ w2.cell? ⟨b9, 1, none⟩ = some (.int .i64 H) ∧ w2.cell? ⟨b9, 2, none⟩ = some (.int .i64 M) ∧ w2.cell? ⟨b9, 3, none⟩ = some (.int .i64 B) ∧ w2.cell? ⟨b9, 4, none⟩ = some (.slice ao n cp) ∧ w2.cell? ⟨b9, 5, none⟩ = some (.map (some m)) := ⟨cell_of_blk KB2.out rfl, cell_of_blk KB2.out rfl, cell_of_blk KB2.out rfl, cell_of_blk KB2.out rfl, cell_of_blk KB2.out rfl, cell_of_blk KB2.out rfl⟩
  obtain ⟨cF0, cF1⟩ : w2.cell? ⟨bf, 0, none⟩ = some (.int .i64 fx) ∧ w2.cell? ⟨bf, 1, none⟩ = some (.int .i64 fy) := ⟨cell_of_blk KF2.out rfl, cell_of_blk KF2.out rfl⟩
  obtain ⟨cT0, cT1⟩ : w2.cell? ⟨bt, 0, none⟩ = some (.int .i64 tx) ∧ w2.cell? ⟨bt, 1, none⟩ = some (.int .i64 ty) := ⟨cell_of_blk KT2.out rfl, cell_of_blk KT2.out rfl⟩
  go_wp2_with fail
  refine (has_any W H M B fx fy n cp m n ao (blkN X Y n) _ (by omega) (by omega) KM2.out).mono ?_
  rw [HOF.out]
  rintro e w3 ⟨rfl, hb⟩
  have hz3 : b9 < w3.heap.size := by have := hb.size; omega
  have KB3 : Hid (w3.heap[b9]? = some (.cells #[.int .i64 W, .int .i64 H, .int .i64 M, .int .i64 B, .slice ao n cp, .map (some m)] 68 (0, 0))) := Lib.hid ((hb.block _ (by first | omega | (simp; done) | (simp; omega))).trans KB2.out)
  have KF3 : Hid (w3.heap[bf]? = some (.cells #[.int .i64 fx, .int .i64 fy] 26 (0, 0))) := Lib.hid ((hb.block _ (by first | omega | (simp; done) | (simp; omega))).trans KF2.out)
  have KT3 : Hid (w3.heap[bt]? = some (.cells #[.int .i64 tx, .int .i64 ty] 26 (0, 0))) := Lib.hid ((hb.block _ (by first | omega | (simp; done) | (simp; omega))).trans KT2.out)
  have KM3 := Lib.hid (KM2.out.keep (hb.block _ KM2.out.lt))
  have HB3 : Hid (Below w.heap.size w w3) := Lib.hid (HB2.out.trans (hb.mono (by omega)))
  clear hb KB2 KF2 KT2 KM2 HB2 cB0 cB1 cB2 cB3 cB4 cB5 cF0 cF1 cT0 cT1
  obtain ⟨cB0, cB1, cB2, cB3, cB4, cB5⟩ : w3.cell? ⟨b9, 0, none⟩ = some (.int .i64 W) ∧ w3.cell? ⟨b9, 1, none⟩ = some (.int .i64 H) ∧ w3.cell? ⟨b9, 2, none⟩ = some (.int .i64 M) ∧ w3.cell? ⟨b9, 3, none⟩ = some (.int .i64 B) ∧ w3.cell? ⟨b9, 4, none⟩ = some (.slice ao n cp) ∧ w3.cell? ⟨b9, 5, none⟩ = some (.map (some m)) := ⟨cell_of_blk KB3.out rfl, cell_of_blk KB3.out rfl, cell_of_blk KB3.out rfl, cell_of_blk KB3.out rfl, cell_of_blk KB3.out rfl, cell_of_blk KB3.out rfl⟩
  obtain ⟨cF0, cF1⟩ : w3.cell? ⟨bf, 0, none⟩ = some (.int .i64 fx) ∧ w3.cell? ⟨bf, 1, none⟩ = some (.int .i64 fy) := ⟨cell_of_blk KF3.out rfl, cell_of_blk KF3.out rfl⟩
  obtain ⟨cT0, cT1⟩ : w3.cell? ⟨bt, 0, none⟩ = some (.int .i64 tx) ∧ w3.cell? ⟨bt, 1, none⟩ = some (.int .i64 ty) := ⟨cell_of_blk KT3.out rfl, cell_of_blk KT3.out rfl⟩
  go_wp2_with fail
  refine (has_any W H M B tx ty n cp m n ao (blkN X Y n) _ (by omega) (by omega) KM3.out).mono ?_
  rw [HOT.out]
  rintro e w4 ⟨rfl, hb⟩
  have hz4 : b9 < w4.heap.size := by have := hb.size; omega
  have KB4 : Hid (w4.heap[b9]? = some (.cells #[.int .i64 W, .int .i64 H, .int .i64 M, .int .i64 B, .slice ao n cp, .map (some m)] 68 (0, 0))) := Lib.hid ((hb.block _ (by first | omega | (simp; done) | (simp; omega))).trans KB3.out)
  have KF4 : Hid (w4.heap[bf]? = some (.cells #[.int .i64 fx, .int .i64 fy] 26 (0, 0))) := Lib.hid ((hb.block _ (by first | omega | (simp; done) | (simp; omega))).trans KF3.out)
  have KT4 : Hid (w4.heap[bt]? = some (.cells #[.int .i64 tx, .int .i64 ty] 26 (0, 0))) := Lib.hid ((hb.block _ (by first | omega | (simp; done) | (simp; omega))).trans KT3.out)
  have KM4 := Lib.hid (KM3.out.keep (hb.block _ KM3.out.lt))
  have HB4 : Hid (Below w.heap.size w w4) := Lib.hid (HB3.out.trans (hb.mono (by omega)))
  clear hb KB3 KF3 KT3 KM3 HB3 cB0 cB1 cB2 cB3 cB4 cB5 cF0 cF1 cT0 cT1
  obtain ⟨cB0, cB1, cB2, cB3, cB4, cB5⟩ : w4.cell? ⟨b9, 0, none⟩ = some (.int .i64 W) ∧ w4.cell? ⟨b9, 1, none⟩ = some (.int .i64 H) ∧ w4.cell? ⟨b9, 2, none⟩ = some (.int .i64 M) ∧ w4.cell? ⟨b9, 3, none⟩ = some (.int .i64 B) ∧ w4.cell? ⟨b9, 4, none⟩ = some (.slice ao n cp) ∧ w4.cell? ⟨b9, 5, none⟩ = some (.map (some m)) := ⟨cell_of_blk KB4.out rfl, cell_of_blk KB4.out rfl, cell_of_blk KB4.out rfl, cell_of_blk KB4.out rfl, cell_of_blk KB4.out rfl, cell_of_blk KB4.out rfl⟩
  obtain ⟨cF0, cF1⟩ : w4.cell? ⟨bf, 0, none⟩ = some (.int .i64 fx) ∧ w4.cell? ⟨bf, 1, none⟩ = some (.int .i64 fy) := ⟨cell_of_blk KF4.out rfl, cell_of_blk KF4.out rfl⟩
  obtain ⟨cT0, cT1⟩ : w4.cell? ⟨bt, 0, none⟩ = some (.int .i64 tx) ∧ w4.cell? ⟨bt, 1, none⟩ = some (.int .i64 ty) := ⟨cell_of_blk KT4.out rfl, cell_of_blk KT4.out rfl⟩
  go_wp2_with fail
  refine (costs_any W H M B tx ty n cp m n ao (blkN X Y n) _ KM4.out (by omega) (by omega) (by omega) (by omega) (by omega) (by omega)).mono ?_
  rintro e w5 ⟨b, kn, F, rfl, hbb, hsm, hco, hb⟩
  have HNW := Lib.hid (HN.out F hco)
  have hz5 : b9 < w5.heap.size := by have := hb.size; omega
  have KB5 : Hid (w5.heap[b9]? = some (.cells #[.int .i64 W, .int .i64 H, .int .i64 M, .int .i64 B, .slice ao n cp, .map (some m)] 68 (0, 0))) := Lib.hid ((hb.block _ (by first | omega | (simp; done) | (simp; omega))).trans KB4.out)
  have KF5 : Hid (w5.heap[bf]? = some (.cells #[.int .i64 fx, .int .i64 fy] 26 (0, 0))) := Lib.hid ((hb.block _ (by first | omega | (simp; done) | (simp; omega))).trans KF4.out)
  have KT5 : Hid (w5.heap[bt]? = some (.cells #[.int .i64 tx, .int .i64 ty] 26 (0, 0))) := Lib.hid ((hb.block _ (by first | omega | (simp; done) | (simp; omega))).trans KT4.out)
  have KS5 := Lib.hid hsm
  have HCO := Lib.hid hco
  have HB5 : Hid (Below w.heap.size w w5) := Lib.hid (HB4.out.trans (hb.mono (by omega)))
  clear hb hsm hco KB4 KF4 KT4 KM4 HB4 cB0 cB1 cB2 cB3 cB4 cB5 cF0 cF1 cT0 cT1
  obtain ⟨cB0, cB1, cB2, cB3, cB4, cB5⟩ : w5.cell? ⟨b9, 0, none⟩ = some (.int .i64 W) ∧ w5.cell? ⟨b9, 1, none⟩ = some (.int .i64 H) ∧ w5.cell? ⟨b9, 2, none⟩ = some (.int .i64 M) ∧ w5.cell? ⟨b9, 3, none⟩ = some (.int .i64 B) ∧ w5.cell? ⟨b9, 4, none⟩ = some (.slice ao n cp) ∧ w5.cell? ⟨b9, 5, none⟩ = some (.map (some m)) := ⟨cell_of_blk KB5.out rfl, cell_of_blk KB5.out rfl, cell_of_blk KB5.out rfl, cell_of_blk KB5.out rfl, cell_of_blk KB5.out rfl, cell_of_blk KB5.out rfl⟩
  obtain ⟨cF0, cF1⟩ : w5.cell? ⟨bf, 0, none⟩ = some (.int .i64 fx) ∧ w5.cell? ⟨bf, 1, none⟩ = some (.int .i64 fy) := ⟨cell_of_blk KF5.out rfl, cell_of_blk KF5.out rfl⟩
  obtain ⟨cT0, cT1⟩ : w5.cell? ⟨bt, 0, none⟩ = some (.int .i64 tx) ∧ w5.cell? ⟨bt, 1, none⟩ = some (.int .i64 ty) := ⟨cell_of_blk KT5.out rfl, cell_of_blk KT5.out rfl⟩
  obtain ⟨b12, hb12⟩ : ∃ z, z = w5.heap.size := ⟨_, rfl⟩
  obtain ⟨w6, hw6⟩ : ∃ z, z = (w5.alloc (.cells #[.int .i64 fx, .int .i64 fy] 26)).alloc (.cells #[.int .i64 fx, .int .i64 fy] 26) := ⟨_, rfl⟩
  have hb6 : Below w5.heap.size w5 w6 := by rw [hw6]; exact bal (bal (Below.refl _ _) _) _
  have KP6 : Hid (w6.heap[b12]? = some (.cells #[.int .i64 fx, .int .i64 fy] 26 (0, 0))) := Lib.hid (by rw [hw6, hb12]; exact (Below.heap_alloc _ _ _ (by simp)).trans (heap_alloc_new w5 _))
  have KX6 : Hid (w6.heap[b12 + 1]? = some (.cells #[.int .i64 fx, .int .i64 fy] 26 (0, 0))) := Lib.hid (by rw [hw6, hb12]; have h := heap_alloc_new (w5.alloc (.cells #[.int .i64 fx, .int .i64 fy] 26)) (.cells #[.int .i64 fx, .int .i64 fy] 26); rwa [World.size_alloc] at h)
  have hz6 : w6.heap.size = b12 + 2 := by rw [hw6]; simp; omega
  have KB6 : Hid (w6.heap[b9]? = some (.cells #[.int .i64 W, .int .i64 H, .int .i64 M, .int .i64 B, .slice ao n cp, .map (some m)] 68 (0, 0))) := Lib.hid ((hb6.block _ (by first | omega | (simp; done) | (simp; omega))).trans KB5.out)
  have KT6 : Hid (w6.heap[bt]? = some (.cells #[.int .i64 tx, .int .i64 ty] 26 (0, 0))) := Lib.hid ((hb6.block _ (by first | omega | (simp; done) | (simp; omega))).trans KT5.out)
  have KS6 := Lib.hid (KS5.out.keep (hb6.block _ KS5.out.lt))
  have HB6 : Hid (Below w.heap.size w w6) := Lib.hid (HB5.out.trans (hb6.mono (by omega)))
  have hbl : b < b12 := by rw [hb12]; exact KS5.out.lt
  have HW6 := Lib.hid hw6
  have HB12 := Lib.hid hb12
  have q1 : bf < w5.heap.size := by omega
  have q2 : ¬ bf = w5.heap.size := by omega
  have q3 : ¬ w5.heap.size = bf := by omega
  clear hb12 hw6 hb6 KB5 KT5 KS5 HB5
  go_wp2_with fail
  rw [← HB12.out, ← HW6.out]
  clear q1 q2 q3 HB12 HW6
  obtain ⟨bx, hbx⟩ : ∃ z, z = b12 + 1 := ⟨_, rfl⟩
  rw [← hbx] at KX6 ⊢
  have hz6' : bx < w6.heap.size := by omega
  clear KP6 hz6 hbx
  go_loopg [12, 13, 15] 1 (fun gg v12 v13 v15 wr => v13 = .int .i64 0 ∧ v15 = .int .i64 (-1) ∧ 0 ≤ gg ∧ Hid (wr.heap[bx]? = some (.cells #[.int .i64 fx, .int .i64 fy] 26 (0, 0))) ∧ Hid (wr.heap[b9]? = some (.cells #[.int .i64 W, .int .i64 H, .int .i64 M, .int .i64 B, .slice ao n cp, .map (some m)] 68 (0, 0))) ∧ Hid (wr.heap[bt]? = some (.cells #[.int .i64 tx, .int .i64 ty] 26 (0, 0))) ∧ Hid (SMap wr b kn F) ∧ Hid (Below w.heap.size w wr))
  case atStart => exact ⟨rfl, rfl, Nat.zero_le _, KX6, KB6, KT6, KS6, HB6⟩
  case round =>
    obtain ⟨rfl, rfl, hg, KX, KB, KT, KS, HB⟩ := hrel
    clear KX6 KB6 KT6 KS6 HB6 hz6'
    obtain ⟨x0, x1⟩ : wr.cell? ⟨bx, 0, none⟩ = some (.int .i64 fx) ∧ wr.cell? ⟨bx, 1, none⟩ = some (.int .i64 fy) := ⟨cell_of_blk KX.out rfl, cell_of_blk KX.out rfl⟩
    obtain ⟨cT0, cT1⟩ : wr.cell? ⟨bt, 0, none⟩ = some (.int .i64 tx) ∧ wr.cell? ⟨bt, 1, none⟩ = some (.int .i64 ty) := ⟨cell_of_blk KT.out rfl, cell_of_blk KT.out rfl⟩
    have hne : ∀ w, (binOp .neq 26 (.agg #[.int .i64 fx, .int .i64 fy]) (.agg #[.int .i64 tx, .int .i64 ty])).run Try.prog w = .ok (.bool true) w := fun w => by
      have h := neXY fx fy tx ty w
      rw [show (fx == tx && fy == ty) = false from Bool.eq_false_iff.2 (fun e => hp (by simpa using e))] at h
      exact h
    obtain ⟨cB0, cB1, cB2, cB3, cB4, cB5⟩ : wr.cell? ⟨b9, 0, none⟩ = some (.int .i64 W) ∧ wr.cell? ⟨b9, 1, none⟩ = some (.int .i64 H) ∧ wr.cell? ⟨b9, 2, none⟩ = some (.int .i64 M) ∧ wr.cell? ⟨b9, 3, none⟩ = some (.int .i64 B) ∧ wr.cell? ⟨b9, 4, none⟩ = some (.slice ao n cp) ∧ wr.cell? ⟨b9, 5, none⟩ = some (.map (some m)) := ⟨cell_of_blk KB.out rfl, cell_of_blk KB.out rfl, cell_of_blk KB.out rfl, cell_of_blk KB.out rfl, cell_of_blk KB.out rfl, cell_of_blk KB.out rfl⟩
    go_wp2_with fail
    refine (cheapest_any W H M B fx fy (-1) n cp m b kn ao F _ KS.out (HCO.out.bd (by omega) (by omega)) (by omega) (by omega) (by omega)).mono ?_
    rw [HNW.out]
    rintro e wE ⟨rfl, hb⟩
    have HBE : Hid (Below w.heap.size w wE) := Lib.hid (HB.out.trans (hb.mono HB.out.size))
    clear hb
    go_wp2_with fail
    refine bodyPost_ret (v := .tuple #[.slice none 0 0, .int .i64 0, .int .i64 5]) (by simp [results, Try.results28, go_sem]) rfl ⟨rfl, HBE.out⟩
end Go.Proofs.Ytkkcnhhfdicppaa
