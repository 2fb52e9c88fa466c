import Derived.Test.YtkkcnhhfdicppaaRx7
namespace Go.Proofs.Ytkkcnhhfdicppaa
open Go.RowKit Lay
set_option maxRecDepth 100000 in
set_option maxHeartbeats 16000000 in
theorem pRoute_grid (W H M B fx fy tx ty : Int) (n cp : Nat) (ao : Option Addr) (X Y : Nat → Int) (w : World) (hn : n ≤ 9223372036854775807) (hc : XYs w ao n X Y) (hv : vaG W H M B n X Y = false) :
    Calls Try.prog 28 #[.agg #[.int .i64 W, .int .i64 H, .int .i64 M, .int .i64 B, .slice ao n cp], .agg #[.int .i64 fx, .int .i64 fy], .agg #[.int .i64 tx, .int .i64 ty]] w fun e w' => e = .returned (.tuple #[.slice none 0 0, .int .i64 0, .int .i64 70]) ∧ Below w.heap.size w w' := by
  have HC := Lib.hid hc
  have HV := Lib.hid hv
  clear hc hv
  go_enter Try.func28, Try.ntmps28
  go_wp2_with fail
  refine (pRead_no W H M B n cp ao X Y _ hn (HC.out.keep (by go_grown)) HV.out).mono ?_
  rintro e w1 ⟨rfl, hb⟩
  have HB1 : Hid (Below w.heap.size w w1) := Lib.hid (Below.trans (by go_grown) (hb.mono (by simp; omega)))
  have hz : w.heap.size ≤ w1.heap.size := HB1.out.size
  clear hb
  go_wp2_with fail
  refine bodyPost_ret (v := .tuple #[.slice none 0 0, .int .i64 0, .int .i64 70]) (by simp [results, Try.results28, go_sem]) rfl ⟨rfl, HB1.out.alloc hz _⟩
set_option maxRecDepth 100000 in
set_option maxHeartbeats 16000000 in
theorem pRoute_from (W H M B fx fy tx ty : Int) (n cp : Nat) (ao : Option Addr) (X Y : Nat → Int) (w : World) (hc : XYs w ao n X Y) (hv : vaG W H M B n X Y = true) (hof : opB W H (blkN X Y n) fx fy = false) :
    Calls Try.prog 28 #[.agg #[.int .i64 W, .int .i64 H, .int .i64 M, .int .i64 B, .slice ao n cp], .agg #[.int .i64 fx, .int .i64 fy], .agg #[.int .i64 tx, .int .i64 ty]] w fun e w' => e = .returned (.tuple #[.slice none 0 0, .int .i64 0, .int .i64 72]) ∧ Below w.heap.size w w' := by
  have HC := Lib.hid hc
  have HV := Lib.hid hv
  have HOF := Lib.hid hof
  obtain ⟨hnum, _⟩ := vaG_num hv
  clear hc hv hof
  go_enter Try.func28, Try.ntmps28
  go_wp2_with fail
  refine (pRead_ok W H M B n cp ao X Y _ (HC.out.keep (by go_grown)) HV.out).mono ?_
  rintro e w1 ⟨m, rfl, hm1, hbm, hb⟩
  obtain ⟨bf, hbf⟩ : ∃ b, b = w.heap.size + 1 := ⟨_, rfl⟩
  obtain ⟨bt, hbt⟩ : ∃ b, b = w.heap.size + 1 + 1 := ⟨_, rfl⟩
  obtain ⟨b9, hb9⟩ : ∃ b, b = w1.heap.size := ⟨_, rfl⟩
  have hz1 : bt < b9 := by have h9 := hb.size; simp at h9; omega
  have KF1 : Hid (w1.heap[bf]? = some (.cells #[.int .i64 fx, .int .i64 fy] 26 (0, 0))) := Lib.hid ((hb.block _ (by simp; omega)).trans ((Below.heap_alloc _ _ _ (by simp; omega)).trans (by rw [hbf]; have h := heap_alloc_new (w.alloc (.cells #[.int .i64 W, .int .i64 H, .int .i64 M, .int .i64 B, .slice ao n cp] 24)) (.cells #[.int .i64 fx, .int .i64 fy] 26); rwa [World.size_alloc] at h)))
  have KT1 : Hid (w1.heap[bt]? = some (.cells #[.int .i64 tx, .int .i64 ty] 26 (0, 0))) := Lib.hid ((hb.block _ (by simp; omega)).trans (by rw [hbt]; have h := heap_alloc_new ((w.alloc (.cells #[.int .i64 W, .int .i64 H, .int .i64 M, .int .i64 B, .slice ao n cp] 24)).alloc (.cells #[.int .i64 fx, .int .i64 fy] 26)) (.cells #[.int .i64 tx, .int .i64 ty] 26); simpa using h))
  have HB1 : Hid (Below w.heap.size w w1) := Lib.hid (Below.trans (by go_grown) (hb.mono (by simp; omega)))
  obtain ⟨w2, hw2⟩ : ∃ z, z = w1.alloc (.cells #[.int .i64 W, .int .i64 H, .int .i64 M, .int .i64 B, .slice ao n cp, .map (some m)] 68) := ⟨_, rfl⟩
  have hb2 : Below w1.heap.size w1 w2 := by rw [hw2]; exact bal (Below.refl _ _) _
  have KB2 : Hid (w2.heap[b9]? = some (.cells #[.int .i64 W, .int .i64 H, .int .i64 M, .int .i64 B, .slice ao n cp, .map (some m)] 68 (0, 0))) := Lib.hid (by rw [hw2, hb9]; exact heap_alloc_new w1 _)
  have hz2 : w2.heap.size = b9 + 1 := by rw [hw2]; simp; omega
  have KM2 := Lib.hid (hbm.keep (hb2.block _ hbm.lt))
  have HB2 : Hid (Below w.heap.size w w2) := Lib.hid (HB1.out.trans (hb2.mono (by omega)))
  have KF2 : Hid (w2.heap[bf]? = some (.cells #[.int .i64 fx, .int .i64 fy] 26 (0, 0))) := Lib.hid ((hb2.block _ (by first | omega | (simp; done) | (simp; omega))).trans KF1.out)
  have KT2 : Hid (w2.heap[bt]? = some (.cells #[.int .i64 tx, .int .i64 ty] 26 (0, 0))) := Lib.hid ((hb2.block _ (by first | omega | (simp; done) | (simp; omega))).trans KT1.out)
  have hwm : w.heap.size < bf := by omega
  have hft : bf < bt := by omega
  clear hb hbm KF1 KT1 HB1 hb2
  have HW2 := Lib.hid hw2
  have HB9 := Lib.hid hb9
  have hm0 : w.heap.size ≤ m := by simp at hm1; omega
  clear hb9 hw2 hm1
  go_upto_region 4 with fail
  rw [← HB9.out, ← HW2.out]
  try rw [← hbt, ← hbf]
  clear hbf hbt HW2 HB9
  obtain ⟨cB0, cB1, cB2, cB3, cB4, cB5⟩ : w2.cell? ⟨b9, 0, none⟩ = some (.int .i64 W) ∧ w2.cell? ⟨b9, 1, none⟩ = some (.int .i64 H) ∧ w2.cell? ⟨b9, 2, none⟩ = some (.int .i64 M) ∧ w2.cell? ⟨b9, 3, none⟩ = some (.int .i64 B) ∧ w2.cell? ⟨b9, 4, none⟩ = some (.slice ao n cp) ∧ w2.cell? ⟨b9, 5, none⟩ = some (.map (some m)) := ⟨cell_of_blk KB2.out rfl, cell_of_blk KB2.out rfl, cell_of_blk KB2.out rfl, cell_of_blk KB2.out rfl, cell_of_blk KB2.out rfl, cell_of_blk KB2.out rfl⟩
  obtain ⟨cF0, cF1⟩ : w2.cell? ⟨bf, 0, none⟩ = some (.int .i64 fx) ∧ w2.cell? ⟨bf, 1, none⟩ = some (.int .i64 fy) := ⟨cell_of_blk KF2.out rfl, cell_of_blk KF2.out rfl⟩
  obtain ⟨cT0, cT1⟩ : w2.cell? ⟨bt, 0, none⟩ = some (.int .i64 tx) ∧ w2.cell? ⟨bt, 1, none⟩ = some (.int .i64 ty) := ⟨cell_of_blk KT2.out rfl, cell_of_blk KT2.out rfl⟩
  go_wp2_with fail
  refine (has_any W H M B fx fy n cp m n ao (blkN X Y n) _ (by omega) (by omega) KM2.out).mono ?_
  rw [HOF.out]
  rintro e wE ⟨rfl, hb⟩
  have HBE : Hid (Below w.heap.size w wE) := Lib.hid (HB2.out.trans (hb.mono HB2.out.size))
  clear hb
  go_wp2_with fail
  refine bodyPost_ret (v := .tuple #[.slice none 0 0, .int .i64 0, .int .i64 72]) (by simp [results, Try.results28, go_sem]) rfl ⟨rfl, HBE.out⟩
set_option maxRecDepth 100000 in
set_option maxHeartbeats 16000000 in
theorem pRoute_to (W H M B fx fy tx ty : Int) (n cp : Nat) (ao : Option Addr) (X Y : Nat → Int) (w : World) (hc : XYs w ao n X Y) (hv : vaG W H M B n X Y = true) (hof : opB W H (blkN X Y n) fx fy = true) (hot : opB W H (blkN X Y n) tx ty = false) :
    Calls Try.prog 28 #[.agg #[.int .i64 W, .int .i64 H, .int .i64 M, .int .i64 B, .slice ao n cp], .agg #[.int .i64 fx, .int .i64 fy], .agg #[.int .i64 tx, .int .i64 ty]] w fun e w' => e = .returned (.tuple #[.slice none 0 0, .int .i64 0, .int .i64 72]) ∧ Below w.heap.size w w' := by
  have HC := Lib.hid hc
  have HV := Lib.hid hv
  have HOF := Lib.hid hof
  have HOT := Lib.hid hot
  obtain ⟨hnum, _⟩ := vaG_num hv
  have honf := (opB_iff.1 hof).1
  clear hc hv hof hot
  go_enter Try.func28, Try.ntmps28
  go_wp2_with fail
  refine (pRead_ok W H M B n cp ao X Y _ (HC.out.keep (by go_grown)) HV.out).mono ?_
  rintro e w1 ⟨m, rfl, hm1, hbm, hb⟩
  obtain ⟨bf, hbf⟩ : ∃ b, b = w.heap.size + 1 := ⟨_, rfl⟩
  obtain ⟨bt, hbt⟩ : ∃ b, b = w.heap.size + 1 + 1 := ⟨_, rfl⟩
  obtain ⟨b9, hb9⟩ : ∃ b, b = w1.heap.size := ⟨_, rfl⟩
  have hz1 : bt < b9 := by have h9 := hb.size; simp at h9; omega
  have KF1 : Hid (w1.heap[bf]? = some (.cells #[.int .i64 fx, .int .i64 fy] 26 (0, 0))) := Lib.hid ((hb.block _ (by simp; omega)).trans ((Below.heap_alloc _ _ _ (by simp; omega)).trans (by rw [hbf]; have h := heap_alloc_new (w.alloc (.cells #[.int .i64 W, .int .i64 H, .int .i64 M, .int .i64 B, .slice ao n cp] 24)) (.cells #[.int .i64 fx, .int .i64 fy] 26); rwa [World.size_alloc] at h)))
  have KT1 : Hid (w1.heap[bt]? = some (.cells #[.int .i64 tx, .int .i64 ty] 26 (0, 0))) := Lib.hid ((hb.block _ (by simp; omega)).trans (by rw [hbt]; have h := heap_alloc_new ((w.alloc (.cells #[.int .i64 W, .int .i64 H, .int .i64 M, .int .i64 B, .slice ao n cp] 24)).alloc (.cells #[.int .i64 fx, .int .i64 fy] 26)) (.cells #[.int .i64 tx, .int .i64 ty] 26); simpa using h))
  have HB1 : Hid (Below w.heap.size w w1) := Lib.hid (Below.trans (by go_grown) (hb.mono (by simp; omega)))
  obtain ⟨w2, hw2⟩ : ∃ z, z = w1.alloc (.cells #[.int .i64 W, .int .i64 H, .int .i64 M, .int .i64 B, .slice ao n cp, .map (some m)] 68) := ⟨_, rfl⟩
  have hb2 : Below w1.heap.size w1 w2 := by rw [hw2]; exact bal (Below.refl _ _) _
  have KB2 : Hid (w2.heap[b9]? = some (.cells #[.int .i64 W, .int .i64 H, .int .i64 M, .int .i64 B, .slice ao n cp, .map (some m)] 68 (0, 0))) := Lib.hid (by rw [hw2, hb9]; exact heap_alloc_new w1 _)
  have hz2 : w2.heap.size = b9 + 1 := by rw [hw2]; simp; omega
  have KM2 := Lib.hid (hbm.keep (hb2.block _ hbm.lt))
  have HB2 : Hid (Below w.heap.size w w2) := Lib.hid (HB1.out.trans (hb2.mono (by omega)))
  have KF2 : Hid (w2.heap[bf]? = some (.cells #[.int .i64 fx, .int .i64 fy] 26 (0, 0))) := Lib.hid ((hb2.block _ (by first | omega | (simp; done) | (simp; omega))).trans KF1.out)
  have KT2 : Hid (w2.heap[bt]? = some (.cells #[.int .i64 tx, .int .i64 ty] 26 (0, 0))) := Lib.hid ((hb2.block _ (by first | omega | (simp; done) | (simp; omega))).trans KT1.out)
  have hwm : w.heap.size < bf := by omega
  have hft : bf < bt := by omega
  clear hb hbm KF1 KT1 HB1 hb2
  have HW2 := Lib.hid hw2
  have HB9 := Lib.hid hb9
  have hm0 : w.heap.size ≤ m := by simp at hm1; omega
  clear hb9 hw2 hm1
  go_upto_region 4 with fail
  rw [← HB9.out, ← HW2.out]
  try rw [← hbt, ← hbf]
  clear hbf hbt HW2 HB9
  obtain ⟨cB0, cB1, cB2, cB3, cB4, cB5⟩ : w2.cell? ⟨b9, 0, none⟩ = some (.int .i64 W) ∧ w2.cell? ⟨b9, 1, none⟩ = some (.int .i64 H) ∧ w2.cell? ⟨b9, 2, none⟩ = some (.int .i64 M) ∧ w2.cell? ⟨b9, 3, none⟩ = some (.int .i64 B) ∧ w2.cell? ⟨b9, 4, none⟩ = some (.slice ao n cp) ∧ w2.cell? ⟨b9, 5, none⟩ = some (.map (some m)) := ⟨cell_of_blk KB2.out rfl, cell_of_blk KB2.out rfl, cell_of_blk KB2.out rfl, cell_of_blk KB2.out rfl, cell_of_blk KB2.out rfl, cell_of_blk KB2.out rfl⟩
  obtain ⟨cF0, cF1⟩ : w2.cell? ⟨bf, 0, none⟩ = some (.int .i64 fx) ∧ w2.cell? ⟨bf, 1, none⟩ = some (.int .i64 fy) := ⟨cell_of_blk KF2.out rfl, cell_of_blk KF2.out rfl⟩
  obtain ⟨cT0, cT1⟩ : w2.cell? ⟨bt, 0, none⟩ = some (.int .i64 tx) ∧ w2.cell? ⟨bt, 1, none⟩ = some (.int .i64 ty) := ⟨cell_of_blk KT2.out rfl, cell_of_blk KT2.out rfl⟩
  go_wp2_with fail
  refine (has_any W H M B fx fy n cp m n ao (blkN X Y n) _ (by omega) (by omega) KM2.out).mono ?_
  rw [HOF.out]
  rintro e w3 ⟨rfl, hb⟩
  have hz3 : b9 < w3.heap.size := by have := hb.size; omega
  have KB3 : Hid (w3.heap[b9]? = some (.cells #[.int .i64 W, .int .i64 H, .int .i64 M, .int .i64 B, .slice ao n cp, .map (some m)] 68 (0, 0))) := Lib.hid ((hb.block _ (by first | omega | (simp; done) | (simp; omega))).trans KB2.out)
  have KF3 : Hid (w3.heap[bf]? = some (.cells #[.int .i64 fx, .int .i64 fy] 26 (0, 0))) := Lib.hid ((hb.block _ (by first | omega | (simp; done) | (simp; omega))).trans KF2.out)
  have KT3 : Hid (w3.heap[bt]? = some (.cells #[.int .i64 tx, .int .i64 ty] 26 (0, 0))) := Lib.hid ((hb.block _ (by first | omega | (simp; done) | (simp; omega))).trans KT2.out)
  have KM3 := Lib.hid (KM2.out.keep (hb.block _ KM2.out.lt))
  have HB3 : Hid (Below w.heap.size w w3) := Lib.hid (HB2.out.trans (hb.mono (by omega)))
  clear hb KB2 KF2 KT2 KM2 HB2 cB0 cB1 cB2 cB3 cB4 cB5 cF0 cF1 cT0 cT1
  obtain ⟨cB0, cB1, cB2, cB3, cB4, cB5⟩ : w3.cell? ⟨b9, 0, none⟩ = some (.int .i64 W) ∧ w3.cell? ⟨b9, 1, none⟩ = some (.int .i64 H) ∧ w3.cell? ⟨b9, 2, none⟩ = some (.int .i64 M) ∧ w3.cell? ⟨b9, 3, none⟩ = some (.int .i64 B) ∧ w3.cell? ⟨b9, 4, none⟩ = some (.slice ao n cp) ∧ w3.cell? ⟨b9, 5, none⟩ = some (.map (some m)) := ⟨cell_of_blk KB3.out rfl, cell_of_blk KB3.out rfl, cell_of_blk KB3.out rfl, cell_of_blk KB3.out rfl, cell_of_blk KB3.out rfl, cell_of_blk KB3.out rfl⟩
  obtain ⟨cF0, cF1⟩ : w3.cell? ⟨bf, 0, none⟩ = some (.int .i64 fx) ∧ w3.cell? ⟨bf, 1, none⟩ = some (.int .i64 fy) := ⟨cell_of_blk KF3.out rfl, cell_of_blk KF3.out rfl⟩
  obtain ⟨cT0, cT1⟩ : w3.cell? ⟨bt, 0, none⟩ = some (.int .i64 tx) ∧ w3.cell? ⟨bt, 1, none⟩ = some (.int .i64 ty) := ⟨cell_of_blk KT3.out rfl, cell_of_blk KT3.out rfl⟩
  go_wp2_with fail
  refine (has_any W H M B tx ty n cp m n ao (blkN X Y n) _ (by omega) (by omega) KM3.out).mono ?_
  rw [HOT.out]
  rintro e wE ⟨rfl, hb⟩
  have HBE : Hid (Below w.heap.size w wE) := Lib.hid (HB3.out.trans (hb.mono HB3.out.size))
  clear hb
  go_wp2_with fail
  refine bodyPost_ret (v := .tuple #[.slice none 0 0, .int .i64 0, .int .i64 72]) (by simp [results, Try.results28, go_sem]) rfl ⟨rfl, HBE.out⟩
set_option maxRecDepth 100000 in
set_option maxHeartbeats 16000000 in
theorem pRoute_none (W H M B fx fy tx ty : Int) (n cp : Nat) (ao : Option Addr) (X Y : Nat → Int) (w : World) (hc : XYs w ao n X Y) (hv : vaG W H M B n X Y = true) (hof : opB W H (blkN X Y n) fx fy = true) (hot : opB W H (blkN X Y n) tx ty = true) (hp : ¬ (fx = tx ∧ fy = ty)) (hno : ∀ F, Costs W H (blkN X Y n) M B tx ty F → (chp F B fx fy (-1)).1 = -1) :
    Calls Try.prog 28 #[.agg #[.int .i64 W, .int .i64 H, .int .i64 M, .int .i64 B, .slice ao n cp], .agg #[.int .i64 fx, .int .i64 fy], .agg #[.int .i64 tx, .int .i64 ty]] w fun e w' => e = .returned (.tuple #[.slice none 0 0, .int .i64 0, .int .i64 5]) ∧ Below w.heap.size w w' := by
  have HN := Lib.hid hno
  clear hno
  have HC := Lib.hid hc
  have HV := Lib.hid hv
  have HOF := Lib.hid hof
  have HOT := Lib.hid hot
  obtain ⟨hnum, _⟩ := vaG_num hv
  have hont := (opB_iff.1 hot).1
  have honf := (opB_iff.1 hof).1
  clear hc hv hof hot
  go_enter Try.func28, Try.ntmps28
  go_wp2_with fail
  refine (pRead_ok W H M B n cp ao X Y _ (HC.out.keep (by go_grown)) HV.out).mono ?_
  rintro e w1 ⟨m, rfl, hm1, hbm, hb⟩
  obtain ⟨bf, hbf⟩ : ∃ b, b = w.heap.size + 1 := ⟨_, rfl⟩
  obtain ⟨bt, hbt⟩ : ∃ b, b = w.heap.size + 1 + 1 := ⟨_, rfl⟩
  obtain ⟨b9, hb9⟩ : ∃ b, b = w1.heap.size := ⟨_, rfl⟩
  have hz1 : bt < b9 := by have h9 := hb.size; simp at h9; omega
  have KF1 : Hid (w1.heap[bf]? = some (.cells #[.int .i64 fx, .int .i64 fy] 26 (0, 0))) := Lib.hid ((hb.block _ (by simp; omega)).trans ((Below.heap_alloc _ _ _ (by simp; omega)).trans (by rw [hbf]; have h := heap_alloc_new (w.alloc (.cells #[.int .i64 W, .int .i64 H, .int .i64 M, .int .i64 B, .slice ao n cp] 24)) (.cells #[.int .i64 fx, .int .i64 fy] 26); rwa [World.size_alloc] at h)))
  have KT1 : Hid (w1.heap[bt]? = some (.cells #[.int .i64 tx, .int .i64 ty] 26 (0, 0))) := Lib.hid ((hb.block _ (by simp; omega)).trans (by rw [hbt]; have h := heap_alloc_new ((w.alloc (.cells #[.int .i64 W, .int .i64 H, .int .i64 M, .int .i64 B, .slice ao n cp] 24)).alloc (.cells #[.int .i64 fx, .int .i64 fy] 26)) (.cells #[.int .i64 tx, .int .i64 ty] 26); simpa using h))
  have HB1 : Hid (Below w.heap.size w w1) := Lib.hid (Below.trans (by go_grown) (hb.mono (by simp; omega)))
  obtain ⟨w2, hw2⟩ : ∃ z, z = w1.alloc (.cells #[.int .i64 W, .int .i64 H, .int .i64 M, .int .i64 B, .slice ao n cp, .map (some m)] 68) := ⟨_, rfl⟩
  have hb2 : Below w1.heap.size w1 w2 := by rw [hw2]; exact bal (Below.refl _ _) _
  have KB2 : Hid (w2.heap[b9]? = some (.cells #[.int .i64 W, .int .i64 H, .int .i64 M, .int .i64 B, .slice ao n cp, .map (some m)] 68 (0, 0))) := Lib.hid (by rw [hw2, hb9]; exact heap_alloc_new w1 _)
  have hz2 : w2.heap.size = b9 + 1 := by rw [hw2]; simp; omega
  have KM2 := Lib.hid (hbm.keep (hb2.block _ hbm.lt))
  have HB2 : Hid (Below w.heap.size w w2) := Lib.hid (HB1.out.trans (hb2.mono (by omega)))
  have KF2 : Hid (w2.heap[bf]? = some (.cells #[.int .i64 fx, .int .i64 fy] 26 (0, 0))) := Lib.hid ((hb2.block _ (by first | omega | (simp; done) | (simp; omega))).trans KF1.out)
  have KT2 : Hid (w2.heap[bt]? = some (.cells #[.int .i64 tx, .int .i64 ty] 26 (0, 0))) := Lib.hid ((hb2.block _ (by first | omega | (simp; done) | (simp; omega))).trans KT1.out)
  have hwm : w.heap.size < bf := by omega
  have hft : bf < bt := by omega
  clear hb hbm KF1 KT1 HB1 hb2
  have HW2 := Lib.hid hw2
  have HB9 := Lib.hid hb9
  have hm0 : w.heap.size ≤ m := by simp at hm1; omega
  clear hb9 hw2 hm1
  go_upto_region 4 with fail
  rw [← HB9.out, ← HW2.out]
  try rw [← hbt, ← hbf]
  clear hbf hbt HW2 HB9
  obtain ⟨cB0, cB1, cB2, cB3, cB4, cB5⟩ : w2.cell? ⟨b9, 0, none⟩ = some (.int .i64 W) ∧ w2.cell? ⟨b9, 1, none⟩ = some (.int .i64 H) ∧ w2.cell? ⟨b9, 2, none⟩ = some (.int .i64 M) ∧ w2.cell? ⟨b9, 3, none⟩ = some (.int .i64 B) ∧ w2.cell? ⟨b9, 4, none⟩ = some (.slice ao n cp) ∧ w2.cell? ⟨b9, 5, none⟩ = some (.map (some m)) := ⟨cell_of_blk KB2.out rfl, cell_of_blk KB2.out rfl, cell_of_blk KB2.out rfl, cell_of_blk KB2.out rfl, cell_of_blk KB2.out rfl, cell_of_blk KB2.out rfl⟩
  obtain ⟨cF0, cF1⟩ : w2.cell? ⟨bf, 0, none⟩ = some (.int .i64 fx) ∧ w2.cell? ⟨bf, 1, none⟩ = some (.int .i64 fy) := ⟨cell_of_blk KF2.out rfl, cell_of_blk KF2.out rfl⟩
  obtain ⟨cT0, cT1⟩ : w2.cell? ⟨bt, 0, none⟩ = some (.int .i64 tx) ∧ w2.cell? ⟨bt, 1, none⟩ = some (.int .i64 ty) := ⟨cell_of_blk KT2.out rfl, cell_of_blk KT2.out rfl⟩
  go_wp2_with fail
  refine (has_any W H M B fx fy n cp m n ao (blkN X Y n) _ (by omega) (by omega) KM2.out).mono ?_
  rw [HOF.out]
  rintro e w3 ⟨rfl, hb⟩
  have hz3 : b9 < w3.heap.size := by have := hb.size; omega
  have KB3 : Hid (w3.heap[b9]? = some (.cells #[.int .i64 W, .int .i64 H, .int .i64 M, .int .i64 B, .slice ao n cp, .map (some m)] 68 (0, 0))) := Lib.hid ((hb.block _ (by first | omega | (simp; done) | (simp; omega))).trans KB2.out)
  have KF3 : Hid (w3.heap[bf]? = some (.cells #[.int .i64 fx, .int .i64 fy] 26 (0, 0))) := Lib.hid ((hb.block _ (by first | omega | (simp; done) | (simp; omega))).trans KF2.out)
  have KT3 : Hid (w3.heap[bt]? = some (.cells #[.int .i64 tx, .int .i64 ty] 26 (0, 0))) := Lib.hid ((hb.block _ (by first | omega | (simp; done) | (simp; omega))).trans KT2.out)
  have KM3 := Lib.hid (KM2.out.keep (hb.block _ KM2.out.lt))
  have HB3 : Hid (Below w.heap.size w w3) := Lib.hid (HB2.out.trans (hb.mono (by omega)))
  clear hb KB2 KF2 KT2 KM2 HB2 cB0 cB1 cB2 cB3 cB4 cB5 cF0 cF1 cT0 cT1
  obtain ⟨cB0, cB1, cB2, cB3, cB4, cB5⟩ : w3.cell? ⟨b9, 0, none⟩ = some (.int .i64 W) ∧ w3.cell? ⟨b9, 1, none⟩ = some (.int .i64 H) ∧ w3.cell? ⟨b9, 2, none⟩ = some (.int .i64 M) ∧ w3.cell? ⟨b9, 3, none⟩ = some (.int .i64 B) ∧ w3.cell? ⟨b9, 4, none⟩ = some (.slice ao n cp) ∧ w3.cell? ⟨b9, 5, none⟩ = some (.map (some m)) := ⟨cell_of_blk KB3.out rfl, cell_of_blk KB3.out rfl, cell_of_blk KB3.out rfl, cell_of_blk KB3.out rfl, cell_of_blk KB3.out rfl, cell_of_blk KB3.out rfl⟩
  obtain ⟨cF0, cF1⟩ : w3.cell? ⟨bf, 0, none⟩ = some (.int .i64 fx) ∧ w3.cell? ⟨bf, 1, none⟩ = some (.int .i64 fy) := ⟨cell_of_blk KF3.out rfl, cell_of_blk KF3.out rfl⟩
  obtain ⟨cT0, cT1⟩ : w3.cell? ⟨bt, 0, none⟩ = some (.int .i64 tx) ∧ w3.cell? ⟨bt, 1, none⟩ = some (.int .i64 ty) := ⟨cell_of_blk KT3.out rfl, cell_of_blk KT3.out rfl⟩
  go_wp2_with fail
  refine (has_any W H M B tx ty n cp m n ao (blkN X Y n) _ (by omega) (by omega) KM3.out).mono ?_
  rw [HOT.out]
  rintro e w4 ⟨rfl, hb⟩
  have hz4 : b9 < w4.heap.size := by have := hb.size; omega
  have KB4 : Hid (w4.heap[b9]? = some (.cells #[.int .i64 W, .int .i64 H, .int .i64 M, .int .i64 B, .slice ao n cp, .map (some m)] 68 (0, 0))) := Lib.hid ((hb.block _ (by first | omega | (simp; done) | (simp; omega))).trans KB3.out)
  have KF4 : Hid (w4.heap[bf]? = some (.cells #[.int .i64 fx, .int .i64 fy] 26 (0, 0))) := Lib.hid ((hb.block _ (by first | omega | (simp; done) | (simp; omega))).trans KF3.out)
  have KT4 : Hid (w4.heap[bt]? = some (.cells #[.int .i64 tx, .int .i64 ty] 26 (0, 0))) := Lib.hid ((hb.block _ (by first | omega | (simp; done) | (simp; omega))).trans KT3.out)
  have KM4 := Lib.hid (KM3.out.keep (hb.block _ KM3.out.lt))
  have HB4 : Hid (Below w.heap.size w w4) := Lib.hid (HB3.out.trans (hb.mono (by omega)))
  clear hb KB3 KF3 KT3 KM3 HB3 cB0 cB1 cB2 cB3 cB4 cB5 cF0 cF1 cT0 cT1
  obtain ⟨cB0, cB1, cB2, cB3, cB4, cB5⟩ : w4.cell? ⟨b9, 0, none⟩ = some (.int .i64 W) ∧ w4.cell? ⟨b9, 1, none⟩ = some (.int .i64 H) ∧ w4.cell? ⟨b9, 2, none⟩ = some (.int .i64 M) ∧ w4.cell? ⟨b9, 3, none⟩ = some (.int .i64 B) ∧ w4.cell? ⟨b9, 4, none⟩ = some (.slice ao n cp) ∧ w4.cell? ⟨b9, 5, none⟩ = some (.map (some m)) := ⟨cell_of_blk KB4.out rfl, cell_of_blk KB4.out rfl, cell_of_blk KB4.out rfl, cell_of_blk KB4.out rfl, cell_of_blk KB4.out rfl, cell_of_blk KB4.out rfl⟩
  obtain ⟨cF0, cF1⟩ : w4.cell? ⟨bf, 0, none⟩ = some (.int .i64 fx) ∧ w4.cell? ⟨bf, 1, none⟩ = some (.int .i64 fy) := ⟨cell_of_blk KF4.out rfl, cell_of_blk KF4.out rfl⟩
  obtain ⟨cT0, cT1⟩ : w4.cell? ⟨bt, 0, none⟩ = some (.int .i64 tx) ∧ w4.cell? ⟨bt, 1, none⟩ = some (.int .i64 ty) := ⟨cell_of_blk KT4.out rfl, cell_of_blk KT4.out rfl⟩
  go_wp2_with fail
  refine (costs_any W H M B tx ty n cp m n ao (blkN X Y n) _ KM4.out (by omega) (by omega) (by omega) (by omega) (by omega) (by omega)).mono ?_
  rintro e w5 ⟨b, kn, F, rfl, hbb, hsm, hco, hb⟩
  have HNW := Lib.hid (HN.out F hco)
  have hz5 : b9 < w5.heap.size := by have := hb.size; omega
  have KB5 : Hid (w5.heap[b9]? = some (.cells #[.int .i64 W, .int .i64 H, .int .i64 M, .int .i64 B, .slice ao n cp, .map (some m)] 68 (0, 0))) := Lib.hid ((hb.block _ (by first | omega | (simp; done) | (simp; omega))).trans KB4.out)
  have KF5 : Hid (w5.heap[bf]? = some (.cells #[.int .i64 fx, .int .i64 fy] 26 (0, 0))) := Lib.hid ((hb.block _ (by first | omega | (simp; done) | (simp; omega))).trans KF4.out)
  have KT5 : Hid (w5.heap[bt]? = some (.cells #[.int .i64 tx, .int .i64 ty] 26 (0, 0))) := Lib.hid ((hb.block _ (by first | omega | (simp; done) | (simp; omega))).trans KT4.out)
  have KS5 := Lib.hid hsm
  have HCO := Lib.hid hco
  have HB5 : Hid (Below w.heap.size w w5) := Lib.hid (HB4.out.trans (hb.mono (by omega)))
  clear hb hsm hco KB4 KF4 KT4 KM4 HB4 cB0 cB1 cB2 cB3 cB4 cB5 cF0 cF1 cT0 cT1
  obtain ⟨cB0, cB1, cB2, cB3, cB4, cB5⟩ : w5.cell? ⟨b9, 0, none⟩ = some (.int .i64 W) ∧ w5.cell? ⟨b9, 1, none⟩ = some (.int .i64 H) ∧ w5.cell? ⟨b9, 2, none⟩ = some (.int .i64 M) ∧ w5.cell? ⟨b9, 3, none⟩ = some (.int .i64 B) ∧ w5.cell? ⟨b9, 4, none⟩ = some (.slice ao n cp) ∧ w5.cell? ⟨b9, 5, none⟩ = some (.map (some m)) := ⟨cell_of_blk KB5.out rfl, cell_of_blk KB5.out rfl, cell_of_blk KB5.out rfl, cell_of_blk KB5.out rfl, cell_of_blk KB5.out rfl, cell_of_blk KB5.out rfl⟩
  obtain ⟨cF0, cF1⟩ : w5.cell? ⟨bf, 0, none⟩ = some (.int .i64 fx) ∧ w5.cell? ⟨bf, 1, none⟩ = some (.int .i64 fy) := ⟨cell_of_blk KF5.out rfl, cell_of_blk KF5.out rfl⟩
  obtain ⟨cT0, cT1⟩ : w5.cell? ⟨bt, 0, none⟩ = some (.int .i64 tx) ∧ w5.cell? ⟨bt, 1, none⟩ = some (.int .i64 ty) := ⟨cell_of_blk KT5.out rfl, cell_of_blk KT5.out rfl⟩
  obtain ⟨b12, hb12⟩ : ∃ z, z = w5.heap.size := ⟨_, rfl⟩
  obtain ⟨w6, hw6⟩ : ∃ z, z = (w5.alloc (.cells #[.int .i64 fx, .int .i64 fy] 26)).alloc (.cells #[.int .i64 fx, .int .i64 fy] 26) := ⟨_, rfl⟩
  have hb6 : Below w5.heap.size w5 w6 := by rw [hw6]; exact bal (bal (Below.refl _ _) _) _
  have KP6 : Hid (w6.heap[b12]? = some (.cells #[.int .i64 fx, .int .i64 fy] 26 (0, 0))) := Lib.hid (by rw [hw6, hb12]; exact (Below.heap_alloc _ _ _ (by simp)).trans (heap_alloc_new w5 _))
  have KX6 : Hid (w6.heap[b12 + 1]? = some (.cells #[.int .i64 fx, .int .i64 fy] 26 (0, 0))) := Lib.hid (by rw [hw6, hb12]; have h := heap_alloc_new (w5.alloc (.cells #[.int .i64 fx, .int .i64 fy] 26)) (.cells #[.int .i64 fx, .int .i64 fy] 26); rwa [World.size_alloc] at h)
  have hz6 : w6.heap.size = b12 + 2 := by rw [hw6]; simp; omega
  have KB6 : Hid (w6.heap[b9]? = some (.cells #[.int .i64 W, .int .i64 H, .int .i64 M, .int .i64 B, .slice ao n cp, .map (some m)] 68 (0, 0))) := Lib.hid ((hb6.block _ (by first | omega | (simp; done) | (simp; omega))).trans KB5.out)
  have KT6 : Hid (w6.heap[bt]? = some (.cells #[.int .i64 tx, .int .i64 ty] 26 (0, 0))) := Lib.hid ((hb6.block _ (by first | omega | (simp; done) | (simp; omega))).trans KT5.out)
  have KS6 := Lib.hid (KS5.out.keep (hb6.block _ KS5.out.lt))
  have HB6 : Hid (Below w.heap.size w w6) := Lib.hid (HB5.out.trans (hb6.mono (by omega)))
  have hbl : b < b12 := by rw [hb12]; exact KS5.out.lt
  have HW6 := Lib.hid hw6
  have HB12 := Lib.hid hb12
  have q1 : bf < w5.heap.size := by omega
  have q2 : ¬ bf = w5.heap.size := by omega
  have q3 : ¬ w5.heap.size = bf := by omega
  clear hb12 hw6 hb6 KB5 KT5 KS5 HB5
  go_wp2_with fail
  rw [← HB12.out, ← HW6.out]
  clear q1 q2 q3 HB12 HW6
  obtain ⟨bx, hbx⟩ : ∃ z, z = b12 + 1 := ⟨_, rfl⟩
  rw [← hbx] at KX6 ⊢
  have hz6' : bx < w6.heap.size := by omega
  clear KP6 hz6 hbx
  go_loopg [12, 13, 15] 1 (fun gg v12 v13 v15 wr => v13 = .int .i64 0 ∧ v15 = .int .i64 (-1) ∧ 0 ≤ gg ∧ Hid (wr.heap[bx]? = some (.cells #[.int .i64 fx, .int .i64 fy] 26 (0, 0))) ∧ Hid (wr.heap[b9]? = some (.cells #[.int .i64 W, .int .i64 H, .int .i64 M, .int .i64 B, .slice ao n cp, .map (some m)] 68 (0, 0))) ∧ Hid (wr.heap[bt]? = some (.cells #[.int .i64 tx, .int .i64 ty] 26 (0, 0))) ∧ Hid (SMap wr b kn F) ∧ Hid (Below w.heap.size w wr))
  case atStart => exact ⟨rfl, rfl, Nat.zero_le _, KX6, KB6, KT6, KS6, HB6⟩
  case round =>
    obtain ⟨rfl, rfl, hg, KX, KB, KT, KS, HB⟩ := hrel
    clear KX6 KB6 KT6 KS6 HB6 hz6'
    obtain ⟨x0, x1⟩ : wr.cell? ⟨bx, 0, none⟩ = some (.int .i64 fx) ∧ wr.cell? ⟨bx, 1, none⟩ = some (.int .i64 fy) := ⟨cell_of_blk KX.out rfl, cell_of_blk KX.out rfl⟩
    obtain ⟨cT0, cT1⟩ : wr.cell? ⟨bt, 0, none⟩ = some (.int .i64 tx) ∧ wr.cell? ⟨bt, 1, none⟩ = some (.int .i64 ty) := ⟨cell_of_blk KT.out rfl, cell_of_blk KT.out rfl⟩
    have hne : ∀ w, (binOp .neq 26 (.agg #[.int .i64 fx, .int .i64 fy]) (.agg #[.int .i64 tx, .int .i64 ty])).run Try.prog w = .ok (.bool true) w := fun w => by
      have h := neXY fx fy tx ty w
      rw [show (fx == tx && fy == ty) = false from Bool.eq_false_iff.2 (fun e => hp (by simpa using e))] at h
      exact h
    obtain ⟨cB0, cB1, cB2, cB3, cB4, cB5⟩ : wr.cell? ⟨b9, 0, none⟩ = some (.int .i64 W) ∧ wr.cell? ⟨b9, 1, none⟩ = some (.int .i64 H) ∧ wr.cell? ⟨b9, 2, none⟩ = some (.int .i64 M) ∧ wr.cell? ⟨b9, 3, none⟩ = some (.int .i64 B) ∧ wr.cell? ⟨b9, 4, none⟩ = some (.slice ao n cp) ∧ wr.cell? ⟨b9, 5, none⟩ = some (.map (some m)) := ⟨cell_of_blk KB.out rfl, cell_of_blk KB.out rfl, cell_of_blk KB.out rfl, cell_of_blk KB.out rfl, cell_of_blk KB.out rfl, cell_of_blk KB.out rfl⟩
    go_wp2_with fail
    refine (cheapest_any W H M B fx fy (-1) n cp m b kn ao F _ KS.out (HCO.out.bd (by omega) (by omega)) (by omega) (by omega) (by omega)).mono ?_
    rw [HNW.out]
    rintro e wE ⟨rfl, hb⟩
    have HBE : Hid (Below w.heap.size w wE) := Lib.hid (HB.out.trans (hb.mono HB.out.size))
    clear hb
    go_wp2_with fail
    refine bodyPost_ret (v := .tuple #[.slice none 0 0, .int .i64 0, .int .i64 5]) (by simp [results, Try.results28, go_sem]) rfl ⟨rfl, HBE.out⟩
end Go.Proofs.Ytkkcnhhfdicppaa
