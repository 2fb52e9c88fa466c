import Derived.Test.YtkkcnhhfdicppaaTi7
import Derived.Test.YtkkcnhhfdicppaaTg7
import Derived.Test.YtkkcnhhfdicppaaRx7
import Derived.Test.YtkkcnhhfdicppaaDb7
import Derived.Test.YtkkcnhhfdicppaaRy7
namespace Go.Proofs.Ytkkcnhhfdicppaa
open Go.RowKit Lay
theorem Ints.keepB {w w1 : World} {ao : Option Addr} {n : Nat} {f : Nat → Int} (h : Ints w ao n f) (hb : Below w.heap.size w w1) : Ints w1 ao n f := h.keep hb
set_option maxRecDepth 100000 in
set_option maxHeartbeats 16000000 in
theorem routes_law (W H M B fx fy tx ty : Int) (n cp : Nat) (ao : Option Addr) (XB YB : Nat → Int) (w : World) (hn : n ≤ 9223372036854775807) (hc : XYs w ao n XB YB) (N1 N2 : Nat) (f1 X2 Y2 : Nat → Int) (fe c re : Int) (h1 : N1 ≤ 1000000) (h2 : N2 ≤ 10000000)
    (hP : ∀ w1, Below w.heap.size w w1 → Calls Try.prog 25 #[.agg #[.int .i64 W, .int .i64 H, .int .i64 M, .int .i64 B, .slice ao n cp], .agg #[.int .i64 tx, .int .i64 ty]] w1 fun e w' => ∃ a cap, e = .returned (.tuple #[.slice a N1 cap, .int .i64 fe]) ∧ Ints w' a N1 f1 ∧ Below w1.heap.size w1 w')
    (hQ : ∀ w1, Below w.heap.size w w1 → Calls Try.prog 26 #[.agg #[.int .i64 W, .int .i64 H, .int .i64 M, .int .i64 B, .slice ao n cp], .agg #[.int .i64 tx, .int .i64 ty]] w1 fun e w' => ∃ a cap, e = .returned (.tuple #[.slice a N1 cap, .int .i64 fe]) ∧ Ints w' a N1 f1 ∧ Below w1.heap.size w1 w')
    (hR : ∀ w1, Below w.heap.size w w1 → Calls Try.prog 28 #[.agg #[.int .i64 W, .int .i64 H, .int .i64 M, .int .i64 B, .slice ao n cp], .agg #[.int .i64 fx, .int .i64 fy], .agg #[.int .i64 tx, .int .i64 ty]] w1 fun e w' => ∃ a cap, e = .returned (.tuple #[.slice a N2 cap, .int .i64 c, .int .i64 re]) ∧ XYs w' a N2 X2 Y2 ∧ Below w1.heap.size w1 w')
    (hS : ∀ w1, Below w.heap.size w w1 → Calls Try.prog 29 #[.agg #[.int .i64 W, .int .i64 H, .int .i64 M, .int .i64 B, .slice ao n cp], .agg #[.int .i64 fx, .int .i64 fy], .agg #[.int .i64 tx, .int .i64 ty]] w1 fun e w' => ∃ a cap, e = .returned (.tuple #[.slice a N2 cap, .int .i64 c, .int .i64 re]) ∧ XYs w' a N2 X2 Y2 ∧ Below w1.heap.size w1 w') :
    Calls Try.prog 7 #[.agg #[.int .i64 W, .int .i64 H, .int .i64 M, .int .i64 B, .slice ao n cp], .agg #[.int .i64 fx, .int .i64 fy], .agg #[.int .i64 tx, .int .i64 ty]] w fun e w' => e = .returned (.bool true) ∧ Below w.heap.size w w' := by
  have HP := Lib.hid hP
  have HQ := Lib.hid hQ
  have HR := Lib.hid hR
  have HS := Lib.hid hS
  have HC := Lib.hid hc
  clear hP hQ hR hS hc
  go_enter Try.func7, Try.ntmps7
  go_wp2_with fail
  refine (small_any W H M B n cp ao XB YB _ hn (HC.out.keep (by go_grown))).mono ?_
  obtain ⟨s, hs⟩ : ∃ z, smG W H M B n XB YB = z := ⟨_, rfl⟩
  rw [hs]
  rintro e w1 ⟨rfl, hb⟩
  clear hs
  obtain ⟨bG, hbG⟩ : ∃ b, b = w.heap.size := ⟨_, rfl⟩
  obtain ⟨bf, hbf⟩ : ∃ b, b = w.heap.size + 1 := ⟨_, rfl⟩
  obtain ⟨bt, hbt⟩ : ∃ b, b = w.heap.size + 1 + 1 := ⟨_, rfl⟩
  have hz1 : bt < w1.heap.size := by have h9 := hb.size; simp at h9; omega
  have KG1 : Hid (G5 w1 bG W H M B ao n cp) := Lib.hid ((hb.block _ (by simp; omega)).trans ((Below.heap_alloc _ _ _ (by simp; omega)).trans ((Below.heap_alloc _ _ _ (by simp; omega)).trans (by rw [hbG]; exact heap_alloc_new w _))))
  have KF1 : Hid (w1.heap[bf]? = some (.cells #[.int .i64 fx, .int .i64 fy] 26 (0, 0))) := Lib.hid ((hb.block _ (by simp; omega)).trans ((Below.heap_alloc _ _ _ (by simp; omega)).trans (by rw [hbf]; have h := heap_alloc_new (w.alloc (.cells #[.int .i64 W, .int .i64 H, .int .i64 M, .int .i64 B, .slice ao n cp] 24)) (.cells #[.int .i64 fx, .int .i64 fy] 26); rwa [World.size_alloc] at h)))
  have KT1 : Hid (w1.heap[bt]? = some (.cells #[.int .i64 tx, .int .i64 ty] 26 (0, 0))) := Lib.hid ((hb.block _ (by simp; omega)).trans (by rw [hbt]; have h := heap_alloc_new ((w.alloc (.cells #[.int .i64 W, .int .i64 H, .int .i64 M, .int .i64 B, .slice ao n cp] 24)).alloc (.cells #[.int .i64 fx, .int .i64 fy] 26)) (.cells #[.int .i64 tx, .int .i64 ty] 26); rwa [World.size_alloc, World.size_alloc] at h))
  have HB1 : Hid (Below w.heap.size w w1) := Lib.hid (Below.trans (by go_grown) (hb.mono (by simp; omega)))
  have h0 : w.heap.size ≤ bG ∧ bG < bf ∧ bf < bt := by omega
  have HXS := Lib.hid (And.intro hbG (And.intro hbf hbt))
  clear hb hbG hbf hbt
  cases s with
  | false =>
    go_wp2_with fail
    refine (lawake_any _).mono ?_
    rintro e wA ⟨rfl, hb⟩
    have HBA : Hid (Below w.heap.size w wA) := Lib.hid (HB1.out.trans (hb.mono HB1.out.size))
    clear hb HB1
    go_wp2_with fail
    refine bodyPost_ret (v := .bool true) (by simp [results, Try.results7, go_sem]) rfl ⟨rfl, HBA.out⟩
  | true =>
    obtain ⟨g0, g1, g2, g3, g4⟩ := G5.c KG1.out
    obtain ⟨p0, p1⟩ : w1.cell? ⟨bf, 0, none⟩ = some (.int .i64 fx) ∧ w1.cell? ⟨bf, 1, none⟩ = some (.int .i64 fy) := ⟨cell_of_blk KF1.out rfl, cell_of_blk KF1.out rfl⟩
    obtain ⟨q0, q1⟩ : w1.cell? ⟨bt, 0, none⟩ = some (.int .i64 tx) ∧ w1.cell? ⟨bt, 1, none⟩ = some (.int .i64 ty) := ⟨cell_of_blk KT1.out rfl, cell_of_blk KT1.out rfl⟩
    go_upto_region 3 with fail
    try rw [← HXS.out.2.2]
    try rw [← HXS.out.2.1]
    try rw [← HXS.out.1]
    clear HXS
    go_wp2_with fail
    refine (HP.out _ HB1.out).mono ?_
    rintro e w2 ⟨a1, c1, rfl, i1, hb⟩
    have HI2 := Lib.hid i1
    clear i1
    have KG2 : Hid (G5 w2 bG W H M B ao n cp) := Lib.hid ((hb.block _ (by omega)).trans KG1.out)
    have KF2 : Hid (w2.heap[bf]? = some (.cells #[.int .i64 fx, .int .i64 fy] 26 (0, 0))) := Lib.hid ((hb.block _ (by omega)).trans KF1.out)
    have KT2 : Hid (w2.heap[bt]? = some (.cells #[.int .i64 tx, .int .i64 ty] 26 (0, 0))) := Lib.hid ((hb.block _ (by omega)).trans KT1.out)
    have HB2 : Hid (Below w.heap.size w w2) := Lib.hid (HB1.out.trans (hb.mono HB1.out.size))
    have hz2 : bt < w2.heap.size := by have := hb.size; omega
    clear hb g0 g1 g2 g3 g4 p0 p1 q0 q1 KG1 KF1 KT1 HB1 
    obtain ⟨g0, g1, g2, g3, g4⟩ := G5.c KG2.out
    obtain ⟨p0, p1⟩ : w2.cell? ⟨bf, 0, none⟩ = some (.int .i64 fx) ∧ w2.cell? ⟨bf, 1, none⟩ = some (.int .i64 fy) := ⟨cell_of_blk KF2.out rfl, cell_of_blk KF2.out rfl⟩
    obtain ⟨q0, q1⟩ : w2.cell? ⟨bt, 0, none⟩ = some (.int .i64 tx) ∧ w2.cell? ⟨bt, 1, none⟩ = some (.int .i64 ty) := ⟨cell_of_blk KT2.out rfl, cell_of_blk KT2.out rfl⟩
    go_wp2_with fail
    refine (HQ.out _ HB2.out).mono ?_
    rintro e w3 ⟨a2, c2, rfl, i2, hb⟩
    have HJ3 := Lib.hid i2
    clear i2
    have KG3 : Hid (G5 w3 bG W H M B ao n cp) := Lib.hid ((hb.block _ (by omega)).trans KG2.out)
    have KF3 : Hid (w3.heap[bf]? = some (.cells #[.int .i64 fx, .int .i64 fy] 26 (0, 0))) := Lib.hid ((hb.block _ (by omega)).trans KF2.out)
    have KT3 : Hid (w3.heap[bt]? = some (.cells #[.int .i64 tx, .int .i64 ty] 26 (0, 0))) := Lib.hid ((hb.block _ (by omega)).trans KT2.out)
    have HB3 : Hid (Below w.heap.size w w3) := Lib.hid (HB2.out.trans (hb.mono HB2.out.size))
    have hz3 : bt < w3.heap.size := by have := hb.size; omega
    have HI3 := Lib.hid (HI2.out.keep hb)
    clear hb g0 g1 g2 g3 g4 p0 p1 q0 q1 KG2 KF2 KT2 HB2 HI2
    go_wp2_with fail
    refine (sameInts_yes N1 c1 c2 a1 a2 f1 _ h1 HI3.out HJ3.out).mono ?_
    rintro e w4 ⟨rfl, hb⟩
    clear HI3 HJ3
    try clear g0 g1 g2 g3 g4 p0 p1 q0 q1
    have KG4 : Hid (G5 w4 bG W H M B ao n cp) := Lib.hid ((hb.block _ (by omega)).trans KG3.out)
    have KF4 : Hid (w4.heap[bf]? = some (.cells #[.int .i64 fx, .int .i64 fy] 26 (0, 0))) := Lib.hid ((hb.block _ (by omega)).trans KF3.out)
    have KT4 : Hid (w4.heap[bt]? = some (.cells #[.int .i64 tx, .int .i64 ty] 26 (0, 0))) := Lib.hid ((hb.block _ (by omega)).trans KT3.out)
    have HB4 : Hid (Below w.heap.size w w4) := Lib.hid (HB3.out.trans (hb.mono HB3.out.size))
    have hz4 : bt < w4.heap.size := by have := hb.size; omega
    clear hb  KG3 KF3 KT3 HB3 
    obtain ⟨g0, g1, g2, g3, g4⟩ := G5.c KG4.out
    obtain ⟨p0, p1⟩ : w4.cell? ⟨bf, 0, none⟩ = some (.int .i64 fx) ∧ w4.cell? ⟨bf, 1, none⟩ = some (.int .i64 fy) := ⟨cell_of_blk KF4.out rfl, cell_of_blk KF4.out rfl⟩
    obtain ⟨q0, q1⟩ : w4.cell? ⟨bt, 0, none⟩ = some (.int .i64 tx) ∧ w4.cell? ⟨bt, 1, none⟩ = some (.int .i64 ty) := ⟨cell_of_blk KT4.out rfl, cell_of_blk KT4.out rfl⟩
    go_wp2_with fail
    refine (HR.out _ HB4.out).mono ?_
    rintro e w5 ⟨a3, c3, rfl, i3, hb⟩
    have HI5 := Lib.hid i3
    clear i3
    have KG5 : Hid (G5 w5 bG W H M B ao n cp) := Lib.hid ((hb.block _ (by omega)).trans KG4.out)
    have KF5 : Hid (w5.heap[bf]? = some (.cells #[.int .i64 fx, .int .i64 fy] 26 (0, 0))) := Lib.hid ((hb.block _ (by omega)).trans KF4.out)
    have KT5 : Hid (w5.heap[bt]? = some (.cells #[.int .i64 tx, .int .i64 ty] 26 (0, 0))) := Lib.hid ((hb.block _ (by omega)).trans KT4.out)
    have HB5 : Hid (Below w.heap.size w w5) := Lib.hid (HB4.out.trans (hb.mono HB4.out.size))
    have hz5 : bt < w5.heap.size := by have := hb.size; omega
    clear hb g0 g1 g2 g3 g4 p0 p1 q0 q1 KG4 KF4 KT4 HB4 
    obtain ⟨g0, g1, g2, g3, g4⟩ := G5.c KG5.out
    obtain ⟨p0, p1⟩ : w5.cell? ⟨bf, 0, none⟩ = some (.int .i64 fx) ∧ w5.cell? ⟨bf, 1, none⟩ = some (.int .i64 fy) := ⟨cell_of_blk KF5.out rfl, cell_of_blk KF5.out rfl⟩
    obtain ⟨q0, q1⟩ : w5.cell? ⟨bt, 0, none⟩ = some (.int .i64 tx) ∧ w5.cell? ⟨bt, 1, none⟩ = some (.int .i64 ty) := ⟨cell_of_blk KT5.out rfl, cell_of_blk KT5.out rfl⟩
    go_wp2_with fail
    refine (HS.out _ HB5.out).mono ?_
    rintro e w6 ⟨a4, c4, rfl, i4, hb⟩
    have HJ6 := Lib.hid i4
    clear i4
    have KG6 : Hid (G5 w6 bG W H M B ao n cp) := Lib.hid ((hb.block _ (by omega)).trans KG5.out)
    have KF6 : Hid (w6.heap[bf]? = some (.cells #[.int .i64 fx, .int .i64 fy] 26 (0, 0))) := Lib.hid ((hb.block _ (by omega)).trans KF5.out)
    have KT6 : Hid (w6.heap[bt]? = some (.cells #[.int .i64 tx, .int .i64 ty] 26 (0, 0))) := Lib.hid ((hb.block _ (by omega)).trans KT5.out)
    have HB6 : Hid (Below w.heap.size w w6) := Lib.hid (HB5.out.trans (hb.mono HB5.out.size))
    have hz6 : bt < w6.heap.size := by have := hb.size; omega
    have HI6 := Lib.hid (HI5.out.keep hb)
    clear hb g0 g1 g2 g3 g4 p0 p1 q0 q1 KG5 KF5 KT5 HB5 HI5
    go_wp2_with fail
    refine (sameXY_yes N2 c3 c4 a3 a4 X2 Y2 _ h2 HI6.out HJ6.out).mono ?_
    rintro e w7 ⟨rfl, hb⟩
    have HB7 : Hid (Below w.heap.size w w7) := Lib.hid (HB6.out.trans (hb.mono HB6.out.size))
    clear hb HB6
    go_wp2_with fail
    refine (lawake_any _).mono ?_
    rintro e wA ⟨rfl, hb⟩
    have HBA : Hid (Below w.heap.size w wA) := Lib.hid (HB7.out.trans (hb.mono HB7.out.size))
    clear hb HB7
    go_wp2_with fail
    refine bodyPost_ret (v := .bool true) (by simp [results, Try.results7, go_sem]) rfl ⟨rfl, HBA.out⟩

set_option maxRecDepth 100000 in
set_option maxHeartbeats 16000000 in
theorem routes_dead (W H M B fx fy tx ty : Int) (n cp : Nat) (ao : Option Addr) (XB YB : Nat → Int) (w : World) (hn : n ≤ 9223372036854775807) (hc : XYs w ao n XB YB)
    (hP : ∀ w1, Below w.heap.size w w1 → Calls Try.prog 25 #[.agg #[.int .i64 W, .int .i64 H, .int .i64 M, .int .i64 B, .slice ao n cp], .agg #[.int .i64 tx, .int .i64 ty]] w1 fun _ _ => False) :
    Calls Try.prog 7 #[.agg #[.int .i64 W, .int .i64 H, .int .i64 M, .int .i64 B, .slice ao n cp], .agg #[.int .i64 fx, .int .i64 fy], .agg #[.int .i64 tx, .int .i64 ty]] w fun e w' => e = .returned (.bool true) ∧ Below w.heap.size w w' := by
  have HP := Lib.hid hP
  have HC := Lib.hid hc
  clear hP hc
  go_enter Try.func7, Try.ntmps7
  go_wp2_with fail
  refine (small_any W H M B n cp ao XB YB _ hn (HC.out.keep (by go_grown))).mono ?_
  obtain ⟨s, hs⟩ : ∃ z, smG W H M B n XB YB = z := ⟨_, rfl⟩
  rw [hs]
  rintro e w1 ⟨rfl, hb⟩
  clear hs
  obtain ⟨bG, hbG⟩ : ∃ b, b = w.heap.size := ⟨_, rfl⟩
  obtain ⟨bf, hbf⟩ : ∃ b, b = w.heap.size + 1 := ⟨_, rfl⟩
  obtain ⟨bt, hbt⟩ : ∃ b, b = w.heap.size + 1 + 1 := ⟨_, rfl⟩
  have hz1 : bt < w1.heap.size := by have h9 := hb.size; simp at h9; omega
  have KG1 : Hid (G5 w1 bG W H M B ao n cp) := Lib.hid ((hb.block _ (by simp; omega)).trans ((Below.heap_alloc _ _ _ (by simp; omega)).trans ((Below.heap_alloc _ _ _ (by simp; omega)).trans (by rw [hbG]; exact heap_alloc_new w _))))
  have KF1 : Hid (w1.heap[bf]? = some (.cells #[.int .i64 fx, .int .i64 fy] 26 (0, 0))) := Lib.hid ((hb.block _ (by simp; omega)).trans ((Below.heap_alloc _ _ _ (by simp; omega)).trans (by rw [hbf]; have h := heap_alloc_new (w.alloc (.cells #[.int .i64 W, .int .i64 H, .int .i64 M, .int .i64 B, .slice ao n cp] 24)) (.cells #[.int .i64 fx, .int .i64 fy] 26); rwa [World.size_alloc] at h)))
  have KT1 : Hid (w1.heap[bt]? = some (.cells #[.int .i64 tx, .int .i64 ty] 26 (0, 0))) := Lib.hid ((hb.block _ (by simp; omega)).trans (by rw [hbt]; have h := heap_alloc_new ((w.alloc (.cells #[.int .i64 W, .int .i64 H, .int .i64 M, .int .i64 B, .slice ao n cp] 24)).alloc (.cells #[.int .i64 fx, .int .i64 fy] 26)) (.cells #[.int .i64 tx, .int .i64 ty] 26); rwa [World.size_alloc, World.size_alloc] at h))
  have HB1 : Hid (Below w.heap.size w w1) := Lib.hid (Below.trans (by go_grown) (hb.mono (by simp; omega)))
  have h0 : w.heap.size ≤ bG ∧ bG < bf ∧ bf < bt := by omega
  have HXS := Lib.hid (And.intro hbG (And.intro hbf hbt))
  clear hb hbG hbf hbt
  cases s with
  | false =>
    go_wp2_with fail
    refine (lawake_any _).mono ?_
    rintro e wA ⟨rfl, hb⟩
    have HBA : Hid (Below w.heap.size w wA) := Lib.hid (HB1.out.trans (hb.mono HB1.out.size))
    clear hb HB1
    go_wp2_with fail
    refine bodyPost_ret (v := .bool true) (by simp [results, Try.results7, go_sem]) rfl ⟨rfl, HBA.out⟩
  | true =>
    obtain ⟨g0, g1, g2, g3, g4⟩ := G5.c KG1.out
    obtain ⟨p0, p1⟩ : w1.cell? ⟨bf, 0, none⟩ = some (.int .i64 fx) ∧ w1.cell? ⟨bf, 1, none⟩ = some (.int .i64 fy) := ⟨cell_of_blk KF1.out rfl, cell_of_blk KF1.out rfl⟩
    obtain ⟨q0, q1⟩ : w1.cell? ⟨bt, 0, none⟩ = some (.int .i64 tx) ∧ w1.cell? ⟨bt, 1, none⟩ = some (.int .i64 ty) := ⟨cell_of_blk KT1.out rfl, cell_of_blk KT1.out rfl⟩
    go_upto_region 3 with fail
    try rw [← HXS.out.2.2]
    try rw [← HXS.out.2.1]
    try rw [← HXS.out.1]
    clear HXS
    go_wp2_with fail
    refine (HP.out _ HB1.out).mono ?_
    intro e w2 h
    exact h.elim
theorem LayoutRoutes_any (W H M B fx fy tx ty : Int) (n cp : Nat) (ao : Option Addr) (X Y : Nat → Int) (w : World) (hn : n ≤ 9223372036854775807) (hc : XYs w ao n X Y) :
    Calls Try.prog 7 #[.agg #[.int .i64 W, .int .i64 H, .int .i64 M, .int .i64 B, .slice ao n cp], .agg #[.int .i64 fx, .int .i64 fy], .agg #[.int .i64 tx, .int .i64 ty]] w fun e w' => e = .returned (.bool true) ∧ Below w.heap.size w w' := by
  by_cases hv : vaG W H M B n X Y = true
  case neg =>
    have hv' : vaG W H M B n X Y = false := by simpa using hv
    refine routes_law W H M B fx fy tx ty n cp ao X Y w hn hc 0 0 (fun _ => 0) (fun _ => 0) (fun _ => 0) 70 0 70 (by omega) (by omega) ?_ ?_ ?_ ?_
    · intro w1 h1
      refine (pFar_grid W H M B tx ty n cp ao X Y w1 hn (hc.keep h1) hv').mono ?_
      rintro e w2 ⟨rfl, hb⟩
      exact ⟨none, 0, rfl, fun h => absurd h (by omega), hb⟩
    · intro w1 h1
      refine (rFar_grid W H M B tx ty n cp ao X Y w1 hn (hc.keep h1) hv').mono ?_
      rintro e w2 ⟨rfl, hb⟩
      exact ⟨none, 0, rfl, fun h => absurd h (by omega), hb⟩
    · intro w1 h1
      refine (pRoute_grid W H M B fx fy tx ty n cp ao X Y w1 hn (hc.keep h1) hv').mono ?_
      rintro e w2 ⟨rfl, hb⟩
      exact ⟨none, 0, rfl, fun h => absurd h (by omega), hb⟩
    · intro w1 h1
      refine (rRoute_grid W H M B fx fy tx ty n cp ao X Y w1 hn (hc.keep h1) hv').mono ?_
      rintro e w2 ⟨rfl, hb⟩
      exact ⟨none, 0, rfl, fun h => absurd h (by omega), hb⟩
  by_cases hto : opB W H (blkN X Y n) tx ty = true
  case neg =>
    have hto' : opB W H (blkN X Y n) tx ty = false := by simpa using hto
    by_cases hfo : opB W H (blkN X Y n) fx fy = true
    case neg =>
      have hfo' : opB W H (blkN X Y n) fx fy = false := by simpa using hfo
      refine routes_law W H M B fx fy tx ty n cp ao X Y w hn hc 0 0 (fun _ => 0) (fun _ => 0) (fun _ => 0) 72 0 72 (by omega) (by omega) ?_ ?_ ?_ ?_
      · intro w1 h1
        refine (pFar_block W H M B tx ty n cp ao X Y w1 (hc.keep h1) hv hto').mono ?_
        rintro e w2 ⟨rfl, hb⟩
        exact ⟨none, 0, rfl, fun h => absurd h (by omega), hb⟩
      · intro w1 h1
        refine (rFar_block W H M B tx ty n cp ao X Y w1 (hc.keep h1) hv hto').mono ?_
        rintro e w2 ⟨rfl, hb⟩
        exact ⟨none, 0, rfl, fun h => absurd h (by omega), hb⟩
      · intro w1 h1
        refine (pRoute_from W H M B fx fy tx ty n cp ao X Y w1 (hc.keep h1) hv hfo').mono ?_
        rintro e w2 ⟨rfl, hb⟩
        exact ⟨none, 0, rfl, fun h => absurd h (by omega), hb⟩
      · intro w1 h1
        refine (rRoute_from W H M B fx fy tx ty n cp ao X Y w1 (hc.keep h1) hv hfo').mono ?_
        rintro e w2 ⟨rfl, hb⟩
        exact ⟨none, 0, rfl, fun h => absurd h (by omega), hb⟩
    refine routes_law W H M B fx fy tx ty n cp ao X Y w hn hc 0 0 (fun _ => 0) (fun _ => 0) (fun _ => 0) 72 0 72 (by omega) (by omega) ?_ ?_ ?_ ?_
    · intro w1 h1
      refine (pFar_block W H M B tx ty n cp ao X Y w1 (hc.keep h1) hv hto').mono ?_
      rintro e w2 ⟨rfl, hb⟩
      exact ⟨none, 0, rfl, fun h => absurd h (by omega), hb⟩
    · intro w1 h1
      refine (rFar_block W H M B tx ty n cp ao X Y w1 (hc.keep h1) hv hto').mono ?_
      rintro e w2 ⟨rfl, hb⟩
      exact ⟨none, 0, rfl, fun h => absurd h (by omega), hb⟩
    · intro w1 h1
      refine (pRoute_to W H M B fx fy tx ty n cp ao X Y w1 (hc.keep h1) hv hfo hto').mono ?_
      rintro e w2 ⟨rfl, hb⟩
      exact ⟨none, 0, rfl, fun h => absurd h (by omega), hb⟩
    · intro w1 h1
      refine (rRoute_to W H M B fx fy tx ty n cp ao X Y w1 (hc.keep h1) hv hfo hto').mono ?_
      rintro e w2 ⟨rfl, hb⟩
      exact ⟨none, 0, rfl, fun h => absurd h (by omega), hb⟩
  obtain ⟨hnum, _⟩ := vaG_num hv
  obtain ⟨Wn, hWn⟩ : ∃ k : Nat, W = k := ⟨W.toNat, by omega⟩
  obtain ⟨Hn, hHn⟩ : ∃ k : Nat, H = k := ⟨H.toNat, by omega⟩
  obtain ⟨N, hN⟩ : ∃ k, k = Hn * Wn := ⟨_, rfl⟩
  have hWn' : W.toNat = Wn := by omega
  have hNW : (N : Int) = W * H := by rw [hN, hWn, hHn, Int.natCast_mul, Int.mul_comm]
  have hN9 : N ≤ 900 := by rw [hN]; exact Nat.le_trans (Nat.mul_le_mul (show Hn ≤ 30 by omega) (show Wn ≤ 30 by omega)) (by decide)
  by_cases hex : ∃ F, Costs W H (blkN X Y n) M B tx ty F
  case neg =>
    refine routes_dead W H M B fx fy tx ty n cp ao X Y w hn hc ?_
    intro w1 h1
    refine (pFar_ok W H M B tx ty n cp N ao X Y w1 (hc.keep h1) hv hto hNW).mono ?_
    rintro e w2 ⟨v, F', _, hF', _⟩
    exact hex ⟨F', hF'⟩
  obtain ⟨F, hF⟩ := hex
  by_cases hfo : opB W H (blkN X Y n) fx fy = true
  case neg =>
    have hfo' : opB W H (blkN X Y n) fx fy = false := by simpa using hfo
    refine routes_law W H M B fx fy tx ty n cp ao X Y w hn hc N 0 (fun j => farS F B tx ty (j % Wn : Nat) (j / Wn : Nat)) (fun _ => 0) (fun _ => 0) 0 0 72 (by omega) (by omega) ?_ ?_ ?_ ?_
    · intro w1 h1
      refine (pFar_ok W H M B tx ty n cp N ao X Y w1 (hc.keep h1) hv hto hNW).mono ?_
      rintro e w2 ⟨v, F', rfl, hF', hown, hb⟩
      have hFF := hF'.uniq hF
      rw [hFF, hWn'] at hown
      obtain ⟨a, c, rfl, hi⟩ := own_ints hown
      exact ⟨a, c, rfl, hi, hb⟩
    · intro w1 h1
      refine (rFar_ok W H M B tx ty n cp ao X Y w1 Wn Hn N F (hc.keep h1) hv hto hWn hHn hN hF).mono ?_
      rintro e w2 ⟨v, rfl, hown, hb⟩
      obtain ⟨a, c, rfl, hi⟩ := own_ints hown
      exact ⟨a, c, rfl, hi, hb⟩
    · intro w1 h1
      refine (pRoute_from W H M B fx fy tx ty n cp ao X Y w1 (hc.keep h1) hv hfo').mono ?_
      rintro e w2 ⟨rfl, hb⟩
      exact ⟨none, 0, rfl, fun h => absurd h (by omega), hb⟩
    · intro w1 h1
      refine (rRoute_from W H M B fx fy tx ty n cp ao X Y w1 (hc.keep h1) hv hfo').mono ?_
      rintro e w2 ⟨rfl, hb⟩
      exact ⟨none, 0, rfl, fun h => absurd h (by omega), hb⟩
  by_cases hway : ∃ nn l c, rt F M B tx ty nn fx fy (-1) = some (l, c) ∧ c ≤ 9000000
  case neg =>
    have hp : ¬ (fx = tx ∧ fy = ty) := by
      rintro ⟨rfl, rfl⟩
      exact hway ⟨0, [], 0, by unfold rt; rw [if_pos ⟨rfl, rfl⟩], by decide⟩
    have hno : (chp F B fx fy (-1)).1 = -1 := by
      by_cases h : (chp F B fx fy (-1)).1 = -1
      · exact h
      obtain ⟨l, hl⟩ := hF.1.rt_some (by omega) (by omega) (chp F B fx fy (-1)).2.toNat fx fy (-1) hp h (by omega)
      refine absurd ⟨_, l, _, hl, ?_⟩ hway
      rcases chN_is F B fx fy (-1) 4 with ⟨h1, _⟩ | ⟨d1, v1, _, _, hf, he, _, _⟩
      · exact absurd h1 h
      · have he' : chp F B fx fy (-1) = (d1, v1 + bd B (-1) d1) := he
        have h8 := hF.2 _ _ _ _ hf
        have hb := (bd_le (i := -1) (o := d1) (show 0 ≤ B by omega)).2
        rw [he']
        simp only
        omega
    refine routes_law W H M B fx fy tx ty n cp ao X Y w hn hc N 0 (fun j => farS F B tx ty (j % Wn : Nat) (j / Wn : Nat)) (fun _ => 0) (fun _ => 0) 0 0 5 (by omega) (by omega) ?_ ?_ ?_ ?_
    · intro w1 h1
      refine (pFar_ok W H M B tx ty n cp N ao X Y w1 (hc.keep h1) hv hto hNW).mono ?_
      rintro e w2 ⟨v, F', rfl, hF', hown, hb⟩
      have hFF := hF'.uniq hF
      rw [hFF, hWn'] at hown
      obtain ⟨a, c, rfl, hi⟩ := own_ints hown
      exact ⟨a, c, rfl, hi, hb⟩
    · intro w1 h1
      refine (rFar_ok W H M B tx ty n cp ao X Y w1 Wn Hn N F (hc.keep h1) hv hto hWn hHn hN hF).mono ?_
      rintro e w2 ⟨v, rfl, hown, hb⟩
      obtain ⟨a, c, rfl, hi⟩ := own_ints hown
      exact ⟨a, c, rfl, hi, hb⟩
    · intro w1 h1
      refine (pRoute_none W H M B fx fy tx ty n cp ao X Y w1 (hc.keep h1) hv hfo hto hp fun F' hF' => ?_).mono ?_
      · rw [hF'.uniq hF]; exact hno
      rintro e w2 ⟨rfl, hb⟩
      exact ⟨none, 0, rfl, fun h => absurd h (by omega), hb⟩
    · intro w1 h1
      refine (rRoute_none W H M B fx fy tx ty n cp ao X Y w1 Wn Hn N F (hc.keep h1) hv hfo hto hWn hHn hN hF hp hno).mono ?_
      rintro e w2 ⟨rfl, hb⟩
      exact ⟨none, 0, rfl, fun h => absurd h (by omega), hb⟩
  obtain ⟨nn, l, c, hr, hc9⟩ := hway
  have hlen := rt_len hnum.2.2.2.2.1 hnum.2.2.2.2.2.2.1 _ _ _ _ _ _ hr
  refine routes_law W H M B fx fy tx ty n cp ao X Y w hn hc N (l.length + 1) (fun j => farS F B tx ty (j % Wn : Nat) (j / Wn : Nat)) (fun i => (((fx, fy) :: l).getD i (0, 0)).1) (fun i => (((fx, fy) :: l).getD i (0, 0)).2) 0 c 0 (by omega) (by omega) ?_ ?_ ?_ ?_
  · intro w1 h1
    refine (pFar_ok W H M B tx ty n cp N ao X Y w1 (hc.keep h1) hv hto hNW).mono ?_
    rintro e w2 ⟨v, F', rfl, hF', hown, hb⟩
    have hFF := hF'.uniq hF
    rw [hFF, hWn'] at hown
    obtain ⟨a, c, rfl, hi⟩ := own_ints hown
    exact ⟨a, c, rfl, hi, hb⟩
  · intro w1 h1
    refine (rFar_ok W H M B tx ty n cp ao X Y w1 Wn Hn N F (hc.keep h1) hv hto hWn hHn hN hF).mono ?_
    rintro e w2 ⟨v, rfl, hown, hb⟩
    obtain ⟨a, c, rfl, hi⟩ := own_ints hown
    exact ⟨a, c, rfl, hi, hb⟩
  · intro w1 h1
    refine (pRoute_any W H M B fx fy tx ty n cp ao X Y w1 (hc.keep h1) hv hfo hto fun F' hF' => ⟨nn, l, c, by rw [hF'.uniq hF]; exact hr, hc9⟩).mono ?_
    rintro e w2 ⟨F', nn', l', c', v, hF', hr', rfl, hown, hb⟩
    rw [hF'.uniq hF] at hr'
    have hu := rt_uniq hr' hr
    obtain ⟨rfl, rfl⟩ : l' = l ∧ c' = c := by simpa using hu
    obtain ⟨a, cc, rfl, hi⟩ := own_xys hown (by simp)
    exact ⟨a, cc, rfl, hi, hb⟩
  · intro w1 h1
    refine (rRoute_ok W H M B fx fy tx ty n cp ao X Y w1 Wn Hn N F (hc.keep h1) hv hfo hto hWn hHn hN hF nn l c hr hc9).mono ?_
    rintro e w2 ⟨v, rfl, hown, hb⟩
    obtain ⟨a, cc, rfl, hi⟩ := own_xys hown (by simp)
    exact ⟨a, cc, rfl, hi, hb⟩
end Go.Proofs.Ytkkcnhhfdicppaa
