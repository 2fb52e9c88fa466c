import Derived.Test.YtkkcnhhfdicppaaLm7
import Derived.Test.YtkkcnhhfdicppaaRv7
namespace Go.Proofs.Ytkkcnhhfdicppaa
open Go.RowKit Lay

set_option maxRecDepth 100000 in
set_option maxHeartbeats 8000000 in
theorem bounds_err (W H M B tx ty k : Int) (s : Bool) (n cp nf cf : Nat) (ao af : Option Addr) (w : World) (hk : k ≠ 0)
    (hsm : ∀ w1, Below w.heap.size w w1 → Calls Try.prog 24 #[.agg #[.int .i64 W, .int .i64 H, .int .i64 M, .int .i64 B, .slice ao n cp]] w1 fun e w' => e = .returned (.bool s) ∧ Below w1.heap.size w1 w')
    (hfar : ∀ w1, Below w.heap.size w w1 → Calls Try.prog 25 #[.agg #[.int .i64 W, .int .i64 H, .int .i64 M, .int .i64 B, .slice ao n cp], .agg #[.int .i64 tx, .int .i64 ty]] w1 fun e w' => e = .returned (.tuple #[.slice none 0 0, .int .i64 k]) ∧ Below w1.heap.size w1 w') :
    Calls Try.prog 10 #[.agg #[.int .i64 W, .int .i64 H, .int .i64 M, .int .i64 B, .slice ao n cp], .agg #[.int .i64 tx, .int .i64 ty], .slice af nf cf] w fun e w' => e = .returned (.bool true) ∧ Below w.heap.size w w' := by
  have HS := Lib.hid hsm
  have HF := Lib.hid hfar
  have hb1 : (k != 0) = true := bne_iff_ne.2 hk
  clear hsm hfar hk
  go_enter Try.func10, Try.ntmps10
  go_wp2_with fail
  refine (HS.out _ (by go_grown)).mono ?_
  rintro e w1 ⟨rfl, hb⟩
  obtain ⟨b3, hb3⟩ : ∃ b, b = w.heap.size := ⟨_, rfl⟩
  obtain ⟨bt, hbt⟩ : ∃ b, b = w.heap.size + 1 := ⟨_, rfl⟩
  have hz1 : bt < w1.heap.size := by have h9 := hb.size; simp at h9; omega
  have KG1 : Hid (G5 w1 b3 W H M B ao n cp) := Lib.hid ((hb.block _ (by simp; omega)).trans ((Below.heap_alloc _ _ _ (by simp; omega)).trans (by rw [hb3]; exact heap_alloc_new w _)))
  have KT1 : Hid (w1.heap[bt]? = some (.cells #[.int .i64 tx, .int .i64 ty] 26 (0, 0))) := Lib.hid ((hb.block _ (by simp; omega)).trans (by rw [hbt]; have h := heap_alloc_new (w.alloc (.cells #[.int .i64 W, .int .i64 H, .int .i64 M, .int .i64 B, .slice ao n cp] 24)) (.cells #[.int .i64 tx, .int .i64 ty] 26); rwa [World.size_alloc] at h))
  have HB1 : Hid (Below w.heap.size w w1) := Lib.hid (Below.trans (by go_grown) (hb.mono (by simp; omega)))
  have h3t : b3 < bt := by omega
  have hw3 : w.heap.size ≤ b3 := by omega
  have HB3 := Lib.hid hb3
  have HBT := Lib.hid hbt
  clear hb hb3 hbt
  cases s with
  | false =>
    go_wp2_with fail
    refine (lawake_any _).mono ?_
    rintro e wA ⟨rfl, hb⟩
    have HBA : Hid (Below w.heap.size w wA) := Lib.hid (HB1.out.trans (hb.mono HB1.out.size))
    clear hb HB1
    go_wp2_with fail
    refine bodyPost_ret (v := .bool true) (by simp [results, Try.results10, go_sem]) rfl ⟨rfl, HBA.out⟩
  | true =>
    obtain ⟨g0, g1, g2, g3, g4⟩ := G5.c KG1.out
    obtain ⟨t0, t1⟩ : w1.cell? ⟨bt, 0, none⟩ = some (.int .i64 tx) ∧ w1.cell? ⟨bt, 1, none⟩ = some (.int .i64 ty) := ⟨cell_of_blk KT1.out rfl, cell_of_blk KT1.out rfl⟩
    go_upto_region 3 with fail
    rw [← HBT.out, ← HB3.out]
    go_wp2_with fail
    refine (HF.out _ HB1.out).mono ?_
    rintro e w2 ⟨rfl, hb⟩
    have HB2 : Hid (Below w.heap.size w w2) := Lib.hid (HB1.out.trans (hb.mono HB1.out.size))
    clear hb HB1 KG1 KT1 g0 g1 g2 g3 g4 t0 t1
    go_wp2_with fail
    refine (lawake_any _).mono ?_
    rintro e wA ⟨rfl, hb⟩
    have HBA : Hid (Below w.heap.size w wA) := Lib.hid (HB2.out.trans (hb.mono HB2.out.size))
    clear hb HB2
    go_wp2_with fail
    refine bodyPost_ret (v := .bool true) (by simp [results, Try.results10, go_sem]) rfl ⟨rfl, HBA.out⟩
set_option maxRecDepth 100000 in
set_option maxHeartbeats 16000000 in
theorem bounds_ok (W H M B tx ty : Int) (n cp nf cf : Nat) (ao af : Option Addr) (X Y f : Nat → Int) (w : World) (hnf : nf ≤ 9223372036854775807) (hc : XYs w ao n X Y) (hf : Ints w af nf f) (hv : vaG W H M B n X Y = true) (hot : opB W H (blkN X Y n) tx ty = true) :
    Calls Try.prog 10 #[.agg #[.int .i64 W, .int .i64 H, .int .i64 M, .int .i64 B, .slice ao n cp], .agg #[.int .i64 tx, .int .i64 ty], .slice af nf cf] w fun e w' => e = .returned (.bool true) ∧ Below w.heap.size w w' := by
  have HC := Lib.hid hc
  have HFAR := Lib.hid hf
  have HV := Lib.hid hv
  have HOT := Lib.hid hot
  obtain ⟨hnum, _⟩ := vaG_num hv
  have hont := (opB_iff.1 hot).1
  have hn63 : n ≤ 9223372036854775807 := by omega
  obtain ⟨Wn, hWn⟩ : ∃ k : Nat, W = k := ⟨W.toNat, by omega⟩
  obtain ⟨Hn, hHn⟩ : ∃ k : Nat, H = k := ⟨H.toNat, by omega⟩
  obtain ⟨N, hNd⟩ : ∃ k : Nat, k = Hn * Wn := ⟨_, rfl⟩
  have hN : (N : Int) = W * H := by rw [hNd, hWn, hHn]; push_cast; exact Int.mul_comm _ _
  have hN9 : N ≤ 900 := by rw [hNd]; exact Nat.le_trans (Nat.mul_le_mul (show Hn ≤ 30 by omega) (show Wn ≤ 30 by omega)) (by decide)
  have hWn1 : 1 ≤ Wn := by omega
  have hWn9 : Wn ≤ 30 := by omega
  have hHn9 : Hn ≤ 30 := by omega
  have HWN := Lib.hid hWn
  have HHN := Lib.hid hHn
  have HND := Lib.hid hNd
  have HN := Lib.hid hN
  have HDI := Lib.hid (di_ok (M := M) (tx := tx) (ty := ty) (K := blkN X Y n) hNd hWn1 hWn9 hHn9 (by omega) ⟨hont.1, by rw [← hWn]; exact hont.2.1⟩ ⟨hont.2.2.1, by rw [← hHn]; exact hont.2.2.2⟩)
  clear hc hf hv hot hWn hHn hNd hN
  go_enter Try.func10, Try.ntmps10
  go_wp2_with fail
  refine (small_any W H M B n cp ao X Y _ hn63 (HC.out.keep (by go_grown))).mono ?_
  obtain ⟨s, hs⟩ : ∃ z, smG W H M B n X Y = z := ⟨_, rfl⟩
  rw [hs]
  rintro e w1 ⟨rfl, hb⟩
  obtain ⟨b3, hb3⟩ : ∃ b, b = w.heap.size := ⟨_, rfl⟩
  obtain ⟨bt, hbt⟩ : ∃ b, b = w.heap.size + 1 := ⟨_, rfl⟩
  have hz1 : bt < w1.heap.size := by have h9 := hb.size; simp at h9; omega
  have KG1 : Hid (G5 w1 b3 W H M B ao n cp) := Lib.hid ((hb.block _ (by simp; omega)).trans ((Below.heap_alloc _ _ _ (by simp; omega)).trans (by rw [hb3]; exact heap_alloc_new w _)))
  have KT1 : Hid (w1.heap[bt]? = some (.cells #[.int .i64 tx, .int .i64 ty] 26 (0, 0))) := Lib.hid ((hb.block _ (by simp; omega)).trans (by rw [hbt]; have h := heap_alloc_new (w.alloc (.cells #[.int .i64 W, .int .i64 H, .int .i64 M, .int .i64 B, .slice ao n cp] 24)) (.cells #[.int .i64 tx, .int .i64 ty] 26); rwa [World.size_alloc] at h))
  have HB1 : Hid (Below w.heap.size w w1) := Lib.hid (Below.trans (by go_grown) (hb.mono (by simp; omega)))
  have h3t : b3 < bt := by omega
  have hw3 : w.heap.size ≤ b3 := by omega
  have HB3 := Lib.hid hb3
  have HBT := Lib.hid hbt
  clear hb hb3 hbt
  cases s with
  | false =>
    clear hs
    go_wp2_with fail
    refine (lawake_any _).mono ?_
    rintro e wA ⟨rfl, hb⟩
    have HBA : Hid (Below w.heap.size w wA) := Lib.hid (HB1.out.trans (hb.mono HB1.out.size))
    clear hb HB1
    go_wp2_with fail
    refine bodyPost_ret (v := .bool true) (by simp [results, Try.results10, go_sem]) rfl ⟨rfl, HBA.out⟩
  | true =>
    clear hs
    obtain ⟨g0, g1, g2, g3, g4⟩ := G5.c KG1.out
    obtain ⟨t0, t1⟩ : w1.cell? ⟨bt, 0, none⟩ = some (.int .i64 tx) ∧ w1.cell? ⟨bt, 1, none⟩ = some (.int .i64 ty) := ⟨cell_of_blk KT1.out rfl, cell_of_blk KT1.out rfl⟩
    go_upto_region 3 with fail
    rw [← HBT.out, ← HB3.out]
    clear HBT HB3
    go_wp2_with fail
    refine (pFar_ok W H M B tx ty n cp N ao X Y _ (HC.out.keep HB1.out) HV.out HOT.out HN.out).mono ?_
    rintro e w2 ⟨vc, F, rfl, hco, hcown, hb⟩
    obtain ⟨ac, cc, rfl, hcint⟩ := own_ints hcown
    have KG2 : Hid (G5 w2 b3 W H M B ao n cp) := Lib.hid ((hb.block _ (by omega)).trans KG1.out)
    have KT2 : Hid (w2.heap[bt]? = some (.cells #[.int .i64 tx, .int .i64 ty] 26 (0, 0))) := Lib.hid ((hb.block _ (by omega)).trans KT1.out)
    have HB2 : Hid (Below w.heap.size w w2) := Lib.hid (HB1.out.trans (hb.mono (by omega)))
    have hz2 : bt < w2.heap.size := by have := hb.size; omega
    have HCO := Lib.hid hco
    have HCI := Lib.hid hcint
    clear hb hco hcint hcown HB1 KG1 KT1 g0 g1 g2 g3 g4 t0 t1
    obtain ⟨g0, g1, g2, g3, g4⟩ := G5.c KG2.out
    obtain ⟨t0, t1⟩ : w2.cell? ⟨bt, 0, none⟩ = some (.int .i64 tx) ∧ w2.cell? ⟨bt, 1, none⟩ = some (.int .i64 ty) := ⟨cell_of_blk KT2.out rfl, cell_of_blk KT2.out rfl⟩
    go_wp2_with fail
    refine (rValid_any W H M B n cp ao X Y _ hn63 (HC.out.keep HB2.out)).mono ?_
    rw [HV.out]
    rintro e w3 ⟨rfl, hb⟩
    have KG3 : Hid (G5 w3 b3 W H M B ao n cp) := Lib.hid ((hb.block _ (by omega)).trans KG2.out)
    have KT3 : Hid (w3.heap[bt]? = some (.cells #[.int .i64 tx, .int .i64 ty] 26 (0, 0))) := Lib.hid ((hb.block _ (by omega)).trans KT2.out)
    have HB3 : Hid (Below w.heap.size w w3) := Lib.hid (HB2.out.trans (hb.mono (by omega)))
    have hz3 : bt < w3.heap.size := by have := hb.size; omega
    have HCI3 := Lib.hid (HCI.out.keep hb)
    clear hb HCI HB2 KG2 KT2 g0 g1 g2 g3 g4 t0 t1
    go_upto_region 6 with fail
    have G0 : Hid (∀ w' : World, Below w3.heap.size w3 w' → w'.heap[b3]? = some (.cells #[.int .i64 W, .int .i64 H, .int .i64 M, .int .i64 B, .slice ao n cp] 24 (0, 0)) ∧ w'.heap[bt]? = some (.cells #[.int .i64 tx, .int .i64 ty] 26 (0, 0))) := Lib.hid (fun w' hb => ⟨(hb.block _ (by omega)).trans KG3.out, (hb.block _ (by omega)).trans KT3.out⟩)
    have HQ0 : Below w3.heap.size w3 w3.drew := (Below.refl _ _).drew
    refine wp_region_held_drew (S := fun w' => w'.heap[b3]? = some (.cells #[.int .i64 W, .int .i64 H, .int .i64 M, .int .i64 B, .slice ao n cp] 24 (0, 0)) ∧ w'.heap[bt]? = some (.cells #[.int .i64 tx, .int .i64 ty] 26 (0, 0))) (by kernel_rfl) (G0.out w3.drew HQ0) (fun hHeld => ?_)
    refine wpAnyH_take (i := 0) (oi := _) (v := _) rfl (by kernel_rfl) (by kernel_rfl) (by kernel_rfl) (fun _ _ _ h => h) (yieldsIf_load_mid (by rfl) 24 _ rfl b3 0 rfl ([.int .i64 W, .int .i64 H, .int .i64 M, .int .i64 B, .slice ao n cp]) _ (fun w' hh => range_row hh.1 0 [.int .i64 W, .int .i64 H, .int .i64 M, .int .i64 B, .slice ao n cp] (fun j hj => by simp only [Nat.zero_add, List.getElem?_toArray])) Try.underlying24 rfl (by kernel_rfl)) (by assumption) ?_
    try change wpAnyH _ _ _ _ _ _ _ (Act.put _ (some 36) _) _
    try simp only [act_all]
    refine wpAnyH_take (i := 1) (oi := _) (v := _) rfl (by kernel_rfl) (by kernel_rfl) (by kernel_rfl) (fun _ _ _ h => h) (yieldsIf_load_mid (by rfl) 26 _ rfl bt 0 rfl ([.int .i64 tx, .int .i64 ty]) _ (fun w' hh => range_row hh.2 0 [.int .i64 tx, .int .i64 ty] (fun j hj => by simp only [Nat.zero_add, List.getElem?_toArray])) Try.underlying26 rfl (by kernel_rfl)) (by assumption) ?_
    try change wpAnyH _ _ _ _ _ _ _ (Act.put _ (some 37) _) _
    try simp only [act_all]
    refine wpAnyH_take (i := 2) (oi := _) (v := _) rfl (by kernel_rfl) (by kernel_rfl) (by kernel_rfl) (fun _ _ _ h => h) (yieldsIf_load_mid (by rfl) 24 _ rfl b3 0 rfl ([.int .i64 W, .int .i64 H, .int .i64 M, .int .i64 B, .slice ao n cp]) _ (fun w' hh => range_row hh.1 0 [.int .i64 W, .int .i64 H, .int .i64 M, .int .i64 B, .slice ao n cp] (fun j hj => by simp only [Nat.zero_add, List.getElem?_toArray])) Try.underlying24 rfl (by kernel_rfl)) (by assumption) ?_
    try change wpAnyH _ _ _ _ _ _ _ (Act.put _ (some 38) _) _
    try simp only [act_all]
    refine wpAnyH_take (i := 3) (oi := _) (v := _) rfl (by kernel_rfl) (by kernel_rfl) (by kernel_rfl) (fun _ _ _ h => h) (yieldsIf_load_mid (by rfl) 26 _ rfl bt 0 rfl ([.int .i64 tx, .int .i64 ty]) _ (fun w' hh => range_row hh.2 0 [.int .i64 tx, .int .i64 ty] (fun j hj => by simp only [Nat.zero_add, List.getElem?_toArray])) Try.underlying26 rfl (by kernel_rfl)) (by assumption) ?_
    try change wpAnyH _ _ _ _ _ _ _ (Act.put _ (some 39) _) _
    try simp only [act_all]
    refine wpAnyH_ready (rs := [4]) (by kernel_rfl) (by simp) ?_
    refine AllReadyH.cons (o := _) rfl (fun K hK => ?_) AllReadyH.nil
    go_simp
    refine (distance_any W H M B tx ty n cp Wn Hn N ao _ HWN.out HHN.out HND.out hWn1 hWn9 hHn9 (by omega) (by omega) (by omega)).mono ?_
    rintro e_ w4 ⟨vd, rfl, hdown, hb⟩
    obtain ⟨ad, cd, rfl, hdint⟩ := own_ints hdown
    have HQ1 : Below w3.heap.size w3 w4 := HQ0.trans hb
    have HDN := Lib.hid hdint
    clear hb hHeld hdint hdown
    refine hK.out _ _ (G0.out _ HQ1) (fun hHeld => ?_)
    clear hK K
    try simp only [act_all]
    refine wpAnyH_ready (rs := [5]) (by kernel_rfl) (by simp) ?_
    refine AllReadyH.cons (o := _) rfl (fun K hK => ?_) AllReadyH.nil
    go_simp
    refine (pIsProof_ok W H M B tx ty N n cp N cd ao ad X Y (diS Wn M tx ty) _ (by omega) (HC.out.keep (HB3.out.trans (HQ1.mono (by omega)))) HDN.out HV.out HOT.out HN.out).mono ?_
    rw [HWN.out, HHN.out, HDI.out.1, HDI.out.2, ← HWN.out, ← HHN.out, show (true && true) = true from rfl, show erS true = 0 from rfl]
    rintro e_ w5 ⟨rfl, hb⟩
    have HQ2 : Below w3.heap.size w3 w5 := HQ1.trans (hb.mono HQ1.size)
    clear hb hHeld HDN
    refine hK.out _ _ (G0.out _ HQ2) (fun hHeld => ?_)
    clear hK K
    try simp only [act_all]
    refine wpAnyH_take (i := 6) (oi := _) (v := ?_) rfl (by kernel_rfl) (by kernel_rfl) (by kernel_rfl) (fun _ _ _ h => h) (Or.inl ⟨by rfl, ?_⟩) (by assumption) ?_
    rotate_left
    · intro w hSw; go_simp; (try with_reducible rfl)
    try change wpAnyH _ _ _ _ _ _ _ (Act.put _ (some 35) _) _
    try simp only [act_all]
    refine wpAnyH_take (i := 7) (oi := _) (v := ?_) rfl (by kernel_rfl) (by kernel_rfl) (by kernel_rfl) (fun _ _ _ h => h) (Or.inl ⟨by rfl, ?_⟩) (by assumption) ?_
    rotate_left
    · intro w hSw; go_simp; (try with_reducible rfl)
    try change wpAnyH _ _ _ _ _ _ _ (Act.put _ (some 42) _) _
    try simp only [act_all]
    refine wpAnyH_take (i := 8) (oi := _) (v := ?_) rfl (by kernel_rfl) (by kernel_rfl) (by kernel_rfl) (fun _ _ _ h => h) (Or.inl ⟨by rfl, ?_⟩) (by assumption) ?_
    rotate_left
    · intro w hSw; go_simp; (try with_reducible rfl)
    try change wpAnyH _ _ _ _ _ _ _ (Act.put _ (some 43) _) _
    try simp only [act_all]
    refine wpAnyH_take (i := 9) (oi := _) (v := ?_) rfl (by kernel_rfl) (by kernel_rfl) (by kernel_rfl) (fun _ _ _ h => h) (Or.inl ⟨by rfl, ?_⟩) (by assumption) ?_
    rotate_left
    · intro w hSw; go_simp; (try with_reducible rfl)
    try change wpAnyH _ _ _ _ _ _ _ (Act.put _ (some 9) _) _
    try simp only [act_all]
    refine wpAnyH_take (i := 10) (oi := _) (v := ?_) rfl (by kernel_rfl) (by kernel_rfl) (by kernel_rfl) (fun _ _ _ h => h) (Or.inl ⟨by rfl, ?_⟩) (by assumption) ?_
    rotate_left
    · intro w hSw; go_simp; (try with_reducible rfl)
    try change wpAnyH _ _ _ _ _ _ _ (Act.put _ (some 10) _) _
    try simp only [act_all]
    refine wpAnyH_done (by kernel_rfl) ?_ _
    clear hHeld G0
    have KG5 : Hid (G5 w5 b3 W H M B ao n cp) := Lib.hid ((HQ2.block _ (by omega)).trans KG3.out)
    have KT5 : Hid (w5.heap[bt]? = some (.cells #[.int .i64 tx, .int .i64 ty] 26 (0, 0))) := Lib.hid ((HQ2.block _ (by omega)).trans KT3.out)
    have HB5 : Hid (Below w.heap.size w w5) := Lib.hid (HB3.out.trans (HQ2.mono (by omega)))
    have hz5 : bt < w5.heap.size := by have := HQ2.size; omega
    have HCI5 := Lib.hid (HCI3.out.keep HQ2)
    have hwhn : W * H = (N : Int) := HN.out.symm
    clear HQ0 HQ1 HQ2 HCI3 HB3 KG3 KT3 hz3
    obtain ⟨g0, g1, g2, g3, g4⟩ := G5.c KG5.out
    obtain ⟨t0, t1⟩ : w5.cell? ⟨bt, 0, none⟩ = some (.int .i64 tx) ∧ w5.cell? ⟨bt, 1, none⟩ = some (.int .i64 ty) := ⟨cell_of_blk KT5.out rfl, cell_of_blk KT5.out rfl⟩
    go_wp2_with fail
    refine (pIsProof_ok W H M B tx ty N n cp nf cf ao af X Y f _ hnf (HC.out.keep HB5.out) (HFAR.out.keep HB5.out) HV.out HOT.out HN.out).mono ?_
    by_cases han : anS nf (W * H) f = true
    case neg =>
      have han' : anS nf (W * H) f = false := by simpa using han
      rw [han', show (false && prS W H M tx ty (blkN X Y n) f N) = false from rfl, show erS false = 2 from rfl]
      rintro e w6 ⟨rfl, hb⟩
      have HB6 : Hid (Below w.heap.size w w6) := Lib.hid (HB5.out.trans (hb.mono HB5.out.size))
      clear hb HB5 KG5 KT5 han han' g0 g1 g2 g3 g4 t0 t1
      go_wp2_with fail
      refine (lawake_any _).mono ?_
      rintro e wA ⟨rfl, hb⟩
      have HBA : Hid (Below w.heap.size w wA) := Lib.hid (HB6.out.trans (hb.mono HB6.out.size))
      clear hb HB6
      go_wp2_with fail
      refine bodyPost_ret (v := .bool true) (by simp [results, Try.results10, go_sem]) rfl ⟨rfl, HBA.out⟩
    have hnfN : nf = N := by
      have h := han
      unfold anS at h
      simp only [Bool.and_eq_true, decide_eq_true_eq] at h
      omega
    rw [han, Bool.true_and, show erS true = 0 from rfl]
    by_cases hpr : prS W H M tx ty (blkN X Y n) f N = true
    case neg =>
      have hpr' : prS W H M tx ty (blkN X Y n) f N = false := by simpa using hpr
      rw [hpr']
      rintro e w6 ⟨rfl, hb⟩
      have HB6 : Hid (Below w.heap.size w w6) := Lib.hid (HB5.out.trans (hb.mono HB5.out.size))
      clear hb HB5 KG5 KT5 han hpr hpr' hnfN g0 g1 g2 g3 g4 t0 t1
      go_wp2_with fail
      refine (lawake_any _).mono ?_
      rintro e wA ⟨rfl, hb⟩
      have HBA : Hid (Below w.heap.size w wA) := Lib.hid (HB6.out.trans (hb.mono HB6.out.size))
      clear hb HB6
      go_wp2_with fail
      refine bodyPost_ret (v := .bool true) (by simp [results, Try.results10, go_sem]) rfl ⟨rfl, HBA.out⟩
    have HLOW : Hid (∀ i, 0 ≤ farS F B tx ty ((i % Wn : Nat) : Int) ((i / Wn : Nat) : Int) → f i ≤ farS F B tx ty ((i % Wn : Nat) : Int) ((i / Wn : Nat) : Int)) := Lib.hid (fun i hi => by
      have h1 := hpr
      have h2 := HOT.out
      have h3 := HCO.out
      rw [HWN.out, HHN.out] at h1 h2 h3
      exact far_low HND.out (by omega) h1 h2 h3 hi)
    rw [hpr]
    rintro e w6 ⟨rfl, hb⟩
    have HB6 : Hid (Below w.heap.size w w6) := Lib.hid (HB5.out.trans (hb.mono HB5.out.size))
    have HCI6 := Lib.hid (HCI5.out.keep hb)
    clear hb HB5 KG5 KT5 HCI5 han hpr g0 g1 g2 g3 g4 t0 t1
    have HNF := Lib.hid hnfN
    have hNe : ((nf : Int) != (N : Int)) = false := by rw [hnfN]; simp
    clear hnfN
    go_wp2_with fail
    go_loopg [81] N (fun gg v81 wr => ∃ k : Nat, v81 = .int .i64 k ∧ k ≤ N ∧ Hid (N - k ≤ gg) ∧ Hid (Ints wr ac N (fun j => farS F B tx ty (j % W.toNat : Nat) (j / W.toNat : Nat))) ∧ Hid (Below w.heap.size w wr))
    case atStart => exact ⟨0, rfl, by omega, Lib.hid (by omega), HCI6, HB6⟩
    case round =>
      obtain ⟨k, rfl, hk, HG, HCI, HB⟩ := hrel
      clear HCI6 HB6
      by_cases hlt : k < N
      case neg =>
        go_wp2_with fail
        refine (lawake_any _).mono ?_
        rintro e wA ⟨rfl, hb⟩
        have HBA : Hid (Below w.heap.size w wA) := Lib.hid (HB.out.trans (hb.mono HB.out.size))
        clear hb HB
        go_wp2_with fail
        refine bodyPost_ret (v := .bool true) (by simp [results, Try.results10, go_sem]) rfl ⟨rfl, HBA.out⟩
      have HGG : Hid (N - k ≤ gk) := Lib.hid HG.out
      obtain ⟨bq, oq, rfl, hcc⟩ := HCI.out (by omega)
      have c0 := hcc k hlt
      obtain ⟨bf, of_, rfl, hff⟩ := (HFAR.out.keep HB.out) (by have := HNF.out; omega)
      have f0 := hff k (by have := HNF.out; omega)
      have hl := HLOW.out k
      have hwt : W.toNat = Wn := by have := HWN.out; omega
      simp only [hwt] at c0
      obtain ⟨cv, hcv⟩ : ∃ z, farS F B tx ty ((k % Wn : Nat) : Int) ((k / Wn : Nat) : Int) = z := ⟨_, rfl⟩
      obtain ⟨fv, hfv⟩ : ∃ z, f k = z := ⟨_, rfl⟩
      rw [hcv] at c0 hl
      rw [hfv] at f0 hl
      have hkf : k < nf := by have := HNF.out; omega
      clear hcc hff hcv hfv hwt HG
      by_cases h0 : 0 ≤ cv
      case pos =>
        have h1 := hl h0
        clear hl
        go_wp2_with fail
        go_roundg (N - (k + 1))
        case measure => have := HGG.out; omega
        case rel => exact ⟨k + 1, by go_num, by omega, Lib.hid (Nat.le_refl _), HCI, HB⟩
      case neg =>
        clear hl
        go_wp2_with fail
        go_roundg (N - (k + 1))
        case measure => have := HGG.out; omega
        case rel => exact ⟨k + 1, by go_num, by omega, Lib.hid (Nat.le_refl _), HCI, HB⟩
theorem LayoutBounds_any (W H M B tx ty : Int) (n cp nf cf : Nat) (ao af : Option Addr) (X Y f : Nat → Int) (w : World) (hn : n ≤ 9223372036854775807) (hnf : nf ≤ 9223372036854775807) (hc : XYs w ao n X Y) (hf : Ints w af nf f) :
    Calls Try.prog 10 #[.agg #[.int .i64 W, .int .i64 H, .int .i64 M, .int .i64 B, .slice ao n cp], .agg #[.int .i64 tx, .int .i64 ty], .slice af nf cf] w fun e w' => e = .returned (.bool true) ∧ Below w.heap.size w w' := by
  by_cases hv : vaG W H M B n X Y = true
  case neg =>
    have hv' : vaG W H M B n X Y = false := by simpa using hv
    exact bounds_err W H M B tx ty 70 _ n cp nf cf ao af w (by decide) (fun w1 hb => small_any W H M B n cp ao X Y w1 hn (hc.keep hb)) (fun w1 hb => pFar_grid W H M B tx ty n cp ao X Y w1 hn (hc.keep hb) hv')
  by_cases ho : opB W H (blkN X Y n) tx ty = true
  case neg =>
    have ho' : opB W H (blkN X Y n) tx ty = false := by simpa using ho
    exact bounds_err W H M B tx ty 72 _ n cp nf cf ao af w (by decide) (fun w1 hb => small_any W H M B n cp ao X Y w1 hn (hc.keep hb)) (fun w1 hb => pFar_block W H M B tx ty n cp ao X Y w1 (hc.keep hb) hv ho')
  exact bounds_ok W H M B tx ty n cp nf cf ao af X Y f w hnf hc hf hv ho
end Go.Proofs.Ytkkcnhhfdicppaa
