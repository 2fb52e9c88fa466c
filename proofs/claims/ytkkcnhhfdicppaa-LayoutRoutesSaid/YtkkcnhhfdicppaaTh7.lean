import Derived.Test.YtkkcnhhfdicppaaTf7
namespace Go.Proofs.Ytkkcnhhfdicppaa
open Go.RowKit Lay
set_option maxRecDepth 100000 in
set_option maxHeartbeats 4000000 in
theorem rRoute_grid (W H M B fx fy tx ty : Int) (nb cb : Nat) (ao : Option Addr) (XB YB : Nat → Int) (w : World) (hn : nb ≤ 9223372036854775807) (hc : XYs w ao nb XB YB) (hv : vaG W H M B nb XB YB = false) :
    Calls Try.prog 29 #[.agg #[.int .i64 W, .int .i64 H, .int .i64 M, .int .i64 B, .slice ao nb cb], .agg #[.int .i64 fx, .int .i64 fy], .agg #[.int .i64 tx, .int .i64 ty]] w fun e w' => e = .returned (.tuple #[.slice none 0 0, .int .i64 0, .int .i64 70]) ∧ Below w.heap.size w w' := by
  have HC := Lib.hid hc
  have HV := Lib.hid hv
  clear hc hv
  go_enter Try.func29, Try.ntmps29
  go_wp2_with fail
  refine (rValid_any W H M B nb cb ao XB YB _ hn (HC.out.keep (by go_grown))).mono ?_
  rw [HV.out]
  rintro e w1 ⟨rfl, hb⟩
  have HB1 : Hid (Below w.heap.size w w1) := Lib.hid (Below.trans (by go_grown) (hb.mono (by simp; omega)))
  clear hb
  go_wp2_with fail
  refine bodyPost_ret (v := .tuple #[.slice none 0 0, .int .i64 0, .int .i64 70]) (by simp [results, Try.results29, go_sem]) rfl ⟨rfl, HB1.out⟩
set_option maxRecDepth 100000 in
set_option maxHeartbeats 8000000 in
theorem rRoute_from (W H M B fx fy tx ty : Int) (nb cb : Nat) (ao : Option Addr) (XB YB : Nat → Int) (w : World) (hc : XYs w ao nb XB YB) (hv : vaG W H M B nb XB YB = true) (hof : opB W H (blkN XB YB nb) fx fy = false) :
    Calls Try.prog 29 #[.agg #[.int .i64 W, .int .i64 H, .int .i64 M, .int .i64 B, .slice ao nb cb], .agg #[.int .i64 fx, .int .i64 fy], .agg #[.int .i64 tx, .int .i64 ty]] w fun e w' => e = .returned (.tuple #[.slice none 0 0, .int .i64 0, .int .i64 72]) ∧ Below w.heap.size w w' := by
  have HC := Lib.hid hc
  have HV := Lib.hid hv
  have HOF := Lib.hid hof
  obtain ⟨hnum, _⟩ := vaG_num hv
  have hn63 : nb ≤ 9223372036854775807 := by omega
  clear hc hv hof
  go_enter Try.func29, Try.ntmps29
  go_wp2_with fail
  refine (rValid_any W H M B nb cb ao XB YB _ hn63 (HC.out.keep (by go_grown))).mono ?_
  rw [HV.out]
  rintro e w1 ⟨rfl, hb⟩
  obtain ⟨bG, hbG⟩ : ∃ b, b = w.heap.size := ⟨_, rfl⟩
  obtain ⟨bf, hbf⟩ : ∃ b, b = w.heap.size + 1 := ⟨_, rfl⟩
  obtain ⟨bt, hbt⟩ : ∃ b, b = w.heap.size + 1 + 1 := ⟨_, rfl⟩
  have hz1 : bt < w1.heap.size := by have h9 := hb.size; simp at h9; omega
  have KG1 : Hid (G5 w1 bG W H M B ao nb cb) := Lib.hid ((hb.block _ (by simp; omega)).trans (by rw [hbG]; exact (Below.heap_alloc _ _ _ (by simp; omega)).trans ((Below.heap_alloc _ _ _ (by simp)).trans (heap_alloc_new w _))))
  have KF1 : Hid (w1.heap[bf]? = some (.cells #[.int .i64 fx, .int .i64 fy] 26 (0, 0))) := Lib.hid ((hb.block _ (by simp; omega)).trans ((Below.heap_alloc _ _ _ (by simp; omega)).trans (by rw [hbf]; have h := heap_alloc_new (w.alloc (.cells #[.int .i64 W, .int .i64 H, .int .i64 M, .int .i64 B, .slice ao nb cb] 24)) (.cells #[.int .i64 fx, .int .i64 fy] 26); rwa [World.size_alloc] at h)))
  have KT1 : Hid (w1.heap[bt]? = some (.cells #[.int .i64 tx, .int .i64 ty] 26 (0, 0))) := Lib.hid ((hb.block _ (by simp; omega)).trans (by rw [hbt]; have h := heap_alloc_new ((w.alloc (.cells #[.int .i64 W, .int .i64 H, .int .i64 M, .int .i64 B, .slice ao nb cb] 24)).alloc (.cells #[.int .i64 fx, .int .i64 fy] 26)) (.cells #[.int .i64 tx, .int .i64 ty] 26); simpa using h))
  have HB1 : Hid (Below w.heap.size w w1) := Lib.hid (Below.trans (by go_grown) (hb.mono (by simp; omega)))
  have hGt : w.heap.size ≤ bG ∧ bG < bf ∧ bf < bt := by omega
  have HXS := Lib.hid (And.intro hbG (And.intro hbf hbt))
  clear hb hbG hbf hbt
  obtain ⟨g0, g1, g2, g3, g4⟩ := G5.c KG1.out
  obtain ⟨q0, q1⟩ : w1.cell? ⟨bf, 0, none⟩ = some (.int .i64 fx) ∧ w1.cell? ⟨bf, 1, none⟩ = some (.int .i64 fy) := ⟨cell_of_blk KF1.out rfl, cell_of_blk KF1.out rfl⟩
  obtain ⟨p0, p1⟩ : w1.cell? ⟨bt, 0, none⟩ = some (.int .i64 tx) ∧ w1.cell? ⟨bt, 1, none⟩ = some (.int .i64 ty) := ⟨cell_of_blk KT1.out rfl, cell_of_blk KT1.out rfl⟩
  go_upto_region 3 with fail
  try rw [← HXS.out.2.2]
  try rw [← HXS.out.2.1]
  try rw [← HXS.out.1]
  clear HXS
  go_wp2_with fail
  refine (rOpen_any W H M B fx fy nb cb ao XB YB _ hn63 (HC.out.keep HB1.out)).mono ?_
  rw [HOF.out]
  rintro e w2 ⟨rfl, hb⟩
  have HB2 : Hid (Below w.heap.size w w2) := Lib.hid (HB1.out.trans (hb.mono HB1.out.size))
  clear hb
  go_wp2_with fail
  refine bodyPost_ret (v := .tuple #[.slice none 0 0, .int .i64 0, .int .i64 72]) (by simp [results, Try.results29, go_sem]) rfl ⟨rfl, HB2.out⟩
set_option maxRecDepth 100000 in
set_option maxHeartbeats 8000000 in
theorem rRoute_to (W H M B fx fy tx ty : Int) (nb cb : Nat) (ao : Option Addr) (XB YB : Nat → Int) (w : World) (hc : XYs w ao nb XB YB) (hv : vaG W H M B nb XB YB = true) (hof : opB W H (blkN XB YB nb) fx fy = true) (hot : opB W H (blkN XB YB nb) tx ty = false) :
    Calls Try.prog 29 #[.agg #[.int .i64 W, .int .i64 H, .int .i64 M, .int .i64 B, .slice ao nb cb], .agg #[.int .i64 fx, .int .i64 fy], .agg #[.int .i64 tx, .int .i64 ty]] w fun e w' => e = .returned (.tuple #[.slice none 0 0, .int .i64 0, .int .i64 72]) ∧ Below w.heap.size w w' := by
  have HOT := Lib.hid hot
  clear hot
  have HC := Lib.hid hc
  have HV := Lib.hid hv
  have HOF := Lib.hid hof
  obtain ⟨hnum, _⟩ := vaG_num hv
  have hn63 : nb ≤ 9223372036854775807 := by omega
  clear hc hv hof
  go_enter Try.func29, Try.ntmps29
  go_wp2_with fail
  refine (rValid_any W H M B nb cb ao XB YB _ hn63 (HC.out.keep (by go_grown))).mono ?_
  rw [HV.out]
  rintro e w1 ⟨rfl, hb⟩
  obtain ⟨bG, hbG⟩ : ∃ b, b = w.heap.size := ⟨_, rfl⟩
  obtain ⟨bf, hbf⟩ : ∃ b, b = w.heap.size + 1 := ⟨_, rfl⟩
  obtain ⟨bt, hbt⟩ : ∃ b, b = w.heap.size + 1 + 1 := ⟨_, rfl⟩
  have hz1 : bt < w1.heap.size := by have h9 := hb.size; simp at h9; omega
  have KG1 : Hid (G5 w1 bG W H M B ao nb cb) := Lib.hid ((hb.block _ (by simp; omega)).trans (by rw [hbG]; exact (Below.heap_alloc _ _ _ (by simp; omega)).trans ((Below.heap_alloc _ _ _ (by simp)).trans (heap_alloc_new w _))))
  have KF1 : Hid (w1.heap[bf]? = some (.cells #[.int .i64 fx, .int .i64 fy] 26 (0, 0))) := Lib.hid ((hb.block _ (by simp; omega)).trans ((Below.heap_alloc _ _ _ (by simp; omega)).trans (by rw [hbf]; have h := heap_alloc_new (w.alloc (.cells #[.int .i64 W, .int .i64 H, .int .i64 M, .int .i64 B, .slice ao nb cb] 24)) (.cells #[.int .i64 fx, .int .i64 fy] 26); rwa [World.size_alloc] at h)))
  have KT1 : Hid (w1.heap[bt]? = some (.cells #[.int .i64 tx, .int .i64 ty] 26 (0, 0))) := Lib.hid ((hb.block _ (by simp; omega)).trans (by rw [hbt]; have h := heap_alloc_new ((w.alloc (.cells #[.int .i64 W, .int .i64 H, .int .i64 M, .int .i64 B, .slice ao nb cb] 24)).alloc (.cells #[.int .i64 fx, .int .i64 fy] 26)) (.cells #[.int .i64 tx, .int .i64 ty] 26); simpa using h))
  have HB1 : Hid (Below w.heap.size w w1) := Lib.hid (Below.trans (by go_grown) (hb.mono (by simp; omega)))
  have hGt : w.heap.size ≤ bG ∧ bG < bf ∧ bf < bt := by omega
  have HXS := Lib.hid (And.intro hbG (And.intro hbf hbt))
  clear hb hbG hbf hbt
  obtain ⟨g0, g1, g2, g3, g4⟩ := G5.c KG1.out
  obtain ⟨q0, q1⟩ : w1.cell? ⟨bf, 0, none⟩ = some (.int .i64 fx) ∧ w1.cell? ⟨bf, 1, none⟩ = some (.int .i64 fy) := ⟨cell_of_blk KF1.out rfl, cell_of_blk KF1.out rfl⟩
  obtain ⟨p0, p1⟩ : w1.cell? ⟨bt, 0, none⟩ = some (.int .i64 tx) ∧ w1.cell? ⟨bt, 1, none⟩ = some (.int .i64 ty) := ⟨cell_of_blk KT1.out rfl, cell_of_blk KT1.out rfl⟩
  go_upto_region 3 with fail
  try rw [← HXS.out.2.2]
  try rw [← HXS.out.2.1]
  try rw [← HXS.out.1]
  clear HXS
  go_wp2_with fail
  refine (rOpen_any W H M B fx fy nb cb ao XB YB _ hn63 (HC.out.keep HB1.out)).mono ?_
  rw [HOF.out]
  rintro e w2 ⟨rfl, hb⟩
  have HB2 : Hid (Below w.heap.size w w2) := Lib.hid (HB1.out.trans (hb.mono HB1.out.size))
  have KG2 : Hid (G5 w2 bG W H M B ao nb cb) := Lib.hid ((hb.block _ (by omega)).trans KG1.out)
  have KF2 : Hid (w2.heap[bf]? = some (.cells #[.int .i64 fx, .int .i64 fy] 26 (0, 0))) := Lib.hid ((hb.block _ (by omega)).trans KF1.out)
  have KT2 : Hid (w2.heap[bt]? = some (.cells #[.int .i64 tx, .int .i64 ty] 26 (0, 0))) := Lib.hid ((hb.block _ (by omega)).trans KT1.out)
  have hz2 : bt < w2.heap.size := by have := hb.size; omega
  clear hb g0 g1 g2 g3 g4 p0 p1 q0 q1 KG1 KF1 KT1 HB1 hz1
  obtain ⟨g0, g1, g2, g3, g4⟩ := G5.c KG2.out
  obtain ⟨q0, q1⟩ : w2.cell? ⟨bf, 0, none⟩ = some (.int .i64 fx) ∧ w2.cell? ⟨bf, 1, none⟩ = some (.int .i64 fy) := ⟨cell_of_blk KF2.out rfl, cell_of_blk KF2.out rfl⟩
  obtain ⟨p0, p1⟩ : w2.cell? ⟨bt, 0, none⟩ = some (.int .i64 tx) ∧ w2.cell? ⟨bt, 1, none⟩ = some (.int .i64 ty) := ⟨cell_of_blk KT2.out rfl, cell_of_blk KT2.out rfl⟩
  go_wp2_with fail
  refine (rOpen_any W H M B tx ty nb cb ao XB YB _ hn63 (HC.out.keep HB2.out)).mono ?_
  rw [HOT.out]
  rintro e w3 ⟨rfl, hb⟩
  have HB3 : Hid (Below w.heap.size w w3) := Lib.hid (HB2.out.trans (hb.mono HB2.out.size))
  clear hb
  go_wp2_with fail
  refine bodyPost_ret (v := .tuple #[.slice none 0 0, .int .i64 0, .int .i64 72]) (by simp [results, Try.results29, go_sem]) rfl ⟨rfl, HB3.out⟩
set_option maxRecDepth 100000 in
set_option maxHeartbeats 8000000 in
theorem rRoute_none (W H M B fx fy tx ty : Int) (nb cb : Nat) (ao : Option Addr) (XB YB : Nat → Int) (w : World) (Wn Hn N : Nat) (F : Int → Int → Int → Option Int) (hc : XYs w ao nb XB YB) (hv : vaG W H M B nb XB YB = true) (hof : opB W H (blkN XB YB nb) fx fy = true) (hot : opB W H (blkN XB YB nb) tx ty = true) (hW : W = Wn) (hH : H = Hn) (hN : N = Hn * Wn) (hF : Costs W H (blkN XB YB nb) M B tx ty F) (hp : ¬ (fx = tx ∧ fy = ty)) (hno : (chp F B fx fy (-1)).1 = -1) :
    Calls Try.prog 29 #[.agg #[.int .i64 W, .int .i64 H, .int .i64 M, .int .i64 B, .slice ao nb cb], .agg #[.int .i64 fx, .int .i64 fy], .agg #[.int .i64 tx, .int .i64 ty]] w fun e w' => e = .returned (.tuple #[.slice none 0 0, .int .i64 0, .int .i64 5]) ∧ Below w.heap.size w w' := by
  have HF := Lib.hid hF
  have HOT := Lib.hid hot
  have HNW := Lib.hid (And.intro hW (And.intro hH hN))
  have hN9 : N ≤ 900 := by rw [hN]; exact Nat.le_trans (Nat.mul_le_mul (show Hn ≤ 30 by have := (vaG_num hv).1; omega) (show Wn ≤ 30 by have := (vaG_num hv).1; omega)) (by decide)
  have hWn0 : 0 < Wn := by have := (vaG_num hv).1; omega
  clear hF hW hH hN hot
  have HC := Lib.hid hc
  have HV := Lib.hid hv
  have HOF := Lib.hid hof
  obtain ⟨hnum, _⟩ := vaG_num hv
  have hn63 : nb ≤ 9223372036854775807 := by omega
  clear hc hv hof
  go_enter Try.func29, Try.ntmps29
  go_wp2_with fail
  refine (rValid_any W H M B nb cb ao XB YB _ hn63 (HC.out.keep (by go_grown))).mono ?_
  rw [HV.out]
  rintro e w1 ⟨rfl, hb⟩
  obtain ⟨bG, hbG⟩ : ∃ b, b = w.heap.size := ⟨_, rfl⟩
  obtain ⟨bf, hbf⟩ : ∃ b, b = w.heap.size + 1 := ⟨_, rfl⟩
  obtain ⟨bt, hbt⟩ : ∃ b, b = w.heap.size + 1 + 1 := ⟨_, rfl⟩
  have hz1 : bt < w1.heap.size := by have h9 := hb.size; simp at h9; omega
  have KG1 : Hid (G5 w1 bG W H M B ao nb cb) := Lib.hid ((hb.block _ (by simp; omega)).trans (by rw [hbG]; exact (Below.heap_alloc _ _ _ (by simp; omega)).trans ((Below.heap_alloc _ _ _ (by simp)).trans (heap_alloc_new w _))))
  have KF1 : Hid (w1.heap[bf]? = some (.cells #[.int .i64 fx, .int .i64 fy] 26 (0, 0))) := Lib.hid ((hb.block _ (by simp; omega)).trans ((Below.heap_alloc _ _ _ (by simp; omega)).trans (by rw [hbf]; have h := heap_alloc_new (w.alloc (.cells #[.int .i64 W, .int .i64 H, .int .i64 M, .int .i64 B, .slice ao nb cb] 24)) (.cells #[.int .i64 fx, .int .i64 fy] 26); rwa [World.size_alloc] at h)))
  have KT1 : Hid (w1.heap[bt]? = some (.cells #[.int .i64 tx, .int .i64 ty] 26 (0, 0))) := Lib.hid ((hb.block _ (by simp; omega)).trans (by rw [hbt]; have h := heap_alloc_new ((w.alloc (.cells #[.int .i64 W, .int .i64 H, .int .i64 M, .int .i64 B, .slice ao nb cb] 24)).alloc (.cells #[.int .i64 fx, .int .i64 fy] 26)) (.cells #[.int .i64 tx, .int .i64 ty] 26); simpa using h))
  have HB1 : Hid (Below w.heap.size w w1) := Lib.hid (Below.trans (by go_grown) (hb.mono (by simp; omega)))
  have hGt : w.heap.size ≤ bG ∧ bG < bf ∧ bf < bt := by omega
  have HXS := Lib.hid (And.intro hbG (And.intro hbf hbt))
  clear hb hbG hbf hbt
  obtain ⟨g0, g1, g2, g3, g4⟩ := G5.c KG1.out
  obtain ⟨q0, q1⟩ : w1.cell? ⟨bf, 0, none⟩ = some (.int .i64 fx) ∧ w1.cell? ⟨bf, 1, none⟩ = some (.int .i64 fy) := ⟨cell_of_blk KF1.out rfl, cell_of_blk KF1.out rfl⟩
  obtain ⟨p0, p1⟩ : w1.cell? ⟨bt, 0, none⟩ = some (.int .i64 tx) ∧ w1.cell? ⟨bt, 1, none⟩ = some (.int .i64 ty) := ⟨cell_of_blk KT1.out rfl, cell_of_blk KT1.out rfl⟩
  go_upto_region 3 with fail
  try rw [← HXS.out.2.2]
  try rw [← HXS.out.2.1]
  try rw [← HXS.out.1]
  clear HXS
  go_wp2_with fail
  refine (rOpen_any W H M B fx fy nb cb ao XB YB _ hn63 (HC.out.keep HB1.out)).mono ?_
  rw [HOF.out]
  rintro e w2 ⟨rfl, hb⟩
  have HB2 : Hid (Below w.heap.size w w2) := Lib.hid (HB1.out.trans (hb.mono HB1.out.size))
  have KG2 : Hid (G5 w2 bG W H M B ao nb cb) := Lib.hid ((hb.block _ (by omega)).trans KG1.out)
  have KF2 : Hid (w2.heap[bf]? = some (.cells #[.int .i64 fx, .int .i64 fy] 26 (0, 0))) := Lib.hid ((hb.block _ (by omega)).trans KF1.out)
  have KT2 : Hid (w2.heap[bt]? = some (.cells #[.int .i64 tx, .int .i64 ty] 26 (0, 0))) := Lib.hid ((hb.block _ (by omega)).trans KT1.out)
  have hz2 : bt < w2.heap.size := by have := hb.size; omega
  clear hb g0 g1 g2 g3 g4 p0 p1 q0 q1 KG1 KF1 KT1 HB1 hz1
  obtain ⟨g0, g1, g2, g3, g4⟩ := G5.c KG2.out
  obtain ⟨q0, q1⟩ : w2.cell? ⟨bf, 0, none⟩ = some (.int .i64 fx) ∧ w2.cell? ⟨bf, 1, none⟩ = some (.int .i64 fy) := ⟨cell_of_blk KF2.out rfl, cell_of_blk KF2.out rfl⟩
  obtain ⟨p0, p1⟩ : w2.cell? ⟨bt, 0, none⟩ = some (.int .i64 tx) ∧ w2.cell? ⟨bt, 1, none⟩ = some (.int .i64 ty) := ⟨cell_of_blk KT2.out rfl, cell_of_blk KT2.out rfl⟩
  go_wp2_with fail
  refine (rOpen_any W H M B tx ty nb cb ao XB YB _ hn63 (HC.out.keep HB2.out)).mono ?_
  rw [HOT.out]
  rintro e w3 ⟨rfl, hb⟩
  have HB3 : Hid (Below w.heap.size w w3) := Lib.hid (HB2.out.trans (hb.mono HB2.out.size))
  have KG3 : Hid (G5 w3 bG W H M B ao nb cb) := Lib.hid ((hb.block _ (by omega)).trans KG2.out)
  have KF3 : Hid (w3.heap[bf]? = some (.cells #[.int .i64 fx, .int .i64 fy] 26 (0, 0))) := Lib.hid ((hb.block _ (by omega)).trans KF2.out)
  have KT3 : Hid (w3.heap[bt]? = some (.cells #[.int .i64 tx, .int .i64 ty] 26 (0, 0))) := Lib.hid ((hb.block _ (by omega)).trans KT2.out)
  have hz3 : bt < w3.heap.size := by have := hb.size; omega
  clear hb g0 g1 g2 g3 g4 p0 p1 q0 q1 KG2 KF2 KT2 HB2 hz2
  obtain ⟨g0, g1, g2, g3, g4⟩ := G5.c KG3.out
  obtain ⟨p0, p1⟩ : w3.cell? ⟨bt, 0, none⟩ = some (.int .i64 tx) ∧ w3.cell? ⟨bt, 1, none⟩ = some (.int .i64 ty) := ⟨cell_of_blk KT3.out rfl, cell_of_blk KT3.out rfl⟩
  go_wp2_with fail
  refine (table_any W H M B tx ty nb cb Wn Hn N ao XB YB _ (HC.out.keep HB3.out) HV.out HOT.out HNW.out.1 HNW.out.2.1 HNW.out.2.2).mono ?_
  rintro e w4 ⟨bT, T, rfl, hT, hfin, hbT, hb⟩
  have KG4 : Hid (G5 w4 bG W H M B ao nb cb) := Lib.hid ((hb.block _ (by omega)).trans KG3.out)
  have KF4 : Hid (w4.heap[bf]? = some (.cells #[.int .i64 fx, .int .i64 fy] 26 (0, 0))) := Lib.hid ((hb.block _ (by omega)).trans KF3.out)
  have KT4 : Hid (w4.heap[bt]? = some (.cells #[.int .i64 tx, .int .i64 ty] 26 (0, 0))) := Lib.hid ((hb.block _ (by omega)).trans KT3.out)
  have HT4 := Lib.hid hT
  have HB4 : Hid (Below w.heap.size w w4) := Lib.hid (HB3.out.trans (hb.mono HB3.out.size))
  have hz4 : bt < w4.heap.size ∧ bT < w4.heap.size := ⟨by have := hb.size; omega, hT.lt⟩
  have HSP : Hid (∀ i c : Nat, i < N → c < 4 → T (i * 4 + c) = tS F B tx ty (i % Wn : Nat) (i / Wn : Nat) c) := Lib.hid (fun i c hi hc => hfin.spec HNW.out.2.2 (fun x y ho => by
    have h := (opB_iff.1 ho).1
    rw [HNW.out.1, HNW.out.2.1] at h
    omega) HOT.out HF.out.1 HF.out.2 (by omega) hi hc)
  have hofn := (opB_iff.1 HOF.out).1
  obtain ⟨jf, hjf⟩ : ∃ j : Nat, fy * W + fx = j := ⟨(fy * W + fx).toNat, by have := Int.mul_nonneg hofn.2.2.1 (show 0 ≤ W by omega); omega⟩
  have hjd : jf < N ∧ ((jf % Wn : Nat) : Int) = fx ∧ ((jf / Wn : Nat) : Int) = fy := by
    obtain ⟨e2, e3, e4⟩ := HNW.out
    obtain ⟨xa, hxa⟩ : ∃ k : Nat, fx = k := ⟨fx.toNat, by omega⟩
    obtain ⟨ya, hya⟩ : ∃ k : Nat, fy = k := ⟨fy.toNat, by omega⟩
    have hj : jf = ya * Wn + xa := by have h := hjf; rw [e2, hxa, hya, ← Int.natCast_mul, ← Int.natCast_add] at h; exact (Int.ofNat.inj h).symm
    obtain ⟨d1, d2, d3⟩ := idx_dm3 (x := xa) (y := ya) e4 (by omega) (by omega)
    rw [hj, d2, d3]
    exact ⟨d1, hxa.symm, hya.symm⟩
  obtain ⟨mv, hmv⟩ : ∃ z, mn4 (T (jf * 4)) (T (jf * 4 + 1)) (T (jf * 4 + 2)) (T (jf * 4 + 3)) = z := ⟨_, rfl⟩
  have hms : mv = if fx = tx ∧ fy = ty then 0 else if (chp F B fx fy (-1)).1 = -1 then Nn else (chp F B fx fy (-1)).2 := by
    rw [← hmv]
    have h0 := HSP.out jf 0 hjd.1 (by omega)
    have h1 := HSP.out jf 1 hjd.1 (by omega)
    have h2 := HSP.out jf 2 hjd.1 (by omega)
    have h3 := HSP.out jf 3 hjd.1 (by omega)
    rw [Nat.add_zero] at h0
    rw [h0, h1, h2, h3, hjd.2.1, hjd.2.2]
    exact least_spec (by omega)
  have HMV := Lib.hid hmv
  have HMS := Lib.hid hms
  clear hb g0 g1 g2 g3 g4 p0 p1 KG3 KF3 KT3 HB3 hz3 hT hfin hmv hms
  obtain ⟨g0, g1, g2, g3, g4⟩ := G5.c KG4.out
  obtain ⟨q0, q1⟩ : w4.cell? ⟨bf, 0, none⟩ = some (.int .i64 fx) ∧ w4.cell? ⟨bf, 1, none⟩ = some (.int .i64 fy) := ⟨cell_of_blk KF4.out rfl, cell_of_blk KF4.out rfl⟩
  go_wp2_with fail
  refine (least_any W H M B fx fy nb cb N bT jf ao T _ HT4.out hjf hjd.1 hN9 (by omega) (by omega) (by omega)).mono ?_
  rw [HMV.out]
  rintro e w5 ⟨rfl, hb⟩
  have HB5 : Hid (Below w.heap.size w w5) := Lib.hid (HB4.out.trans (hb.mono HB4.out.size))
  have hge : 1099511627776 ≤ mv := by rw [HMS.out, if_neg hp, if_pos hno]; exact Int.le_refl _
  clear hb
  go_wp2_with fail
  refine bodyPost_ret (v := .tuple #[.slice none 0 0, .int .i64 0, .int .i64 5]) (by simp [results, Try.results29, go_sem]) rfl ⟨rfl, HB5.out⟩
end Go.Proofs.Ytkkcnhhfdicppaa
