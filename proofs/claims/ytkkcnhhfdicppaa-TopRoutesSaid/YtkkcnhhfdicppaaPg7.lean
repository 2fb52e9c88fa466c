import Derived.Test.YtkkcnhhfdicppaaPc7
namespace Go.Proofs.Ytkkcnhhfdicppaa
open Go.RowKit Lay
set_option maxRecDepth 100000 in
set_option maxHeartbeats 8000000 in
theorem readPaths_no (W H M B : Int) (nb cb : Nat) (ao : Option Addr) (XB YB : Nat → Int) (mp cq : Nat) (sa : Option Addr) (A : Nat → Option Addr) (N C : Nat → Nat) (X Y : Nat → Nat → Int) (w : World) (E : Int) (hE : rdE (vaG W H M B nb XB YB) mp (erN (fun j => chE W H (blkN XB YB nb) (X j) (Y j) (N j)) mp) = E) (hne : E ≠ 0)
    (hn : nb ≤ 9223372036854775807) (hc : XYs w ao nb XB YB) (hmp : mp ≤ 9223372036854775807) (hp : PSl w sa mp A N C X Y) (hN : ∀ j, j < mp → N j ≤ 1000000 ∧ R2 (X j) (Y j) (N j)) :
    Calls Try.prog 70 #[.agg #[.int .i64 W, .int .i64 H, .int .i64 M, .int .i64 B, .slice ao nb cb], .slice sa mp cq] w fun e w' => e = .returned (.tuple #[.agg #[.int .i64 0, .int .i64 0, .int .i64 0, .int .i64 0, .slice none 0 0, .map none], .int .i64 E]) ∧ Below w.heap.size w w' := by
  have HC := Lib.hid hc
  have HP := Lib.hid hp
  have HN := Lib.hid hN
  clear hc hp hN
  have HE := Lib.hid hE
  clear hE
  cases hv : vaG W H M B nb XB YB with
  | false =>
    have HV := Lib.hid hv
    have hE70 : E = 70 := by rw [← HE.out, hv]; rfl
    subst hE70
    clear hv HE
    go_enter Try.func70, Try.ntmps70
    go_wp2_with fail
    refine (pRead_no W H M B nb cb ao XB YB _ hn (HC.out.keep (by go_grown)) HV.out).mono ?_
    rintro e w1 ⟨rfl, hb⟩
    have hR : Hid (w1.heap[w.heap.size + 1]? = some (.cells #[.int .i64 0, .int .i64 0, .int .i64 0, .int .i64 0, .slice none 0 0, .map none] 68 (0, 0))) := Lib.hid ((hb.block _ (by simp)).trans (by have h := heap_alloc_new (w.alloc (.cells #[.int .i64 W, .int .i64 H, .int .i64 M, .int .i64 B, .slice ao nb cb] 24)) (.cells #[.int .i64 0, .int .i64 0, .int .i64 0, .int .i64 0, .slice none 0 0, .map none] 68); rwa [World.size_alloc] at h))
    have HB : Hid (Below w.heap.size w w1) := Lib.hid (Below.trans (by go_grown) (hb.mono (by simp; omega)))
    have hl : w.heap.size + 1 < w1.heap.size := by have h9 := hb.size; simp at h9; omega
    clear hb
    obtain ⟨w2, hw2⟩ : ∃ z, z = w1.alloc (.cells #[.int .i64 0, .int .i64 0, .int .i64 0, .int .i64 0, .slice none 0 0, .map none] 68) := ⟨_, rfl⟩
    have hc12 : Below w1.heap.size w1 w2 := by rw [hw2]; exact bal (Below.refl _ _) _
    have hZ : w2.heap[w.heap.size + 1]? = some (.cells #[.int .i64 0, .int .i64 0, .int .i64 0, .int .i64 0, .slice none 0 0, .map none] 68 (0, 0)) := (hc12.block _ (by omega)).trans hR.out
    have hbl : Below w.heap.size w w2 := HB.out.trans (hc12.mono (by omega))
    have hz2 : w.heap.size + 1 < w2.heap.size := by have := hc12.size; omega
    have HW2 := Lib.hid hw2
    obtain ⟨r0, r1, r2, r3, r4, r5⟩ : w2.cell? ⟨w.heap.size + 1, 0, none⟩ = some (.int .i64 0) ∧ w2.cell? ⟨w.heap.size + 1, 1, none⟩ = some (.int .i64 0) ∧ w2.cell? ⟨w.heap.size + 1, 2, none⟩ = some (.int .i64 0) ∧ w2.cell? ⟨w.heap.size + 1, 3, none⟩ = some (.int .i64 0) ∧ w2.cell? ⟨w.heap.size + 1, 4, none⟩ = some (.slice none 0 0) ∧ w2.cell? ⟨w.heap.size + 1, 5, none⟩ = some (.map none) := ⟨cell_of_blk hZ rfl, cell_of_blk hZ rfl, cell_of_blk hZ rfl, cell_of_blk hZ rfl, cell_of_blk hZ rfl, cell_of_blk hZ rfl⟩
    have rf : ∀ j, w2.frozen? ⟨w.heap.size + 1, j, none⟩ = false := fun j => by simp [World.frozen?, hZ]
    clear hZ hR HB hw2 hc12 hl
    go_upto_region 2 with fail
    rw [← HW2.out]
    clear HW2
    have hle : w.heap.size ≤ w.heap.size + 1 := by omega
    generalize w.heap.size + 1 = bz at *
    go_wp2_with fail
    refine bodyPost_ret (v := .tuple #[.agg #[.int .i64 0, .int .i64 0, .int .i64 0, .int .i64 0, .slice none 0 0, .map none], .int .i64 70]) (by simp [results, Try.results70, go_sem, *]) rfl ⟨rfl, by go_grown⟩
  | true =>
    have HV := Lib.hid hv
    obtain ⟨hnum, _⟩ := vaG_num hv
    by_cases h12 : mp ≤ 12
    case neg =>
      have hE4 : E = 4 := by rw [← HE.out, hv]; unfold rdE; rw [if_pos rfl, if_neg h12]
      subst hE4
      have h12' : (12 : Int) < mp := by omega
      clear hv HE
      go_enter Try.func70, Try.ntmps70
      go_wp2_with fail
      refine (pRead_ok W H M B nb cb ao XB YB _ (HC.out.keep (by go_grown)) HV.out).mono ?_
      rintro e w1 ⟨m, rfl, hm1, hbm, hb⟩
      have hR : Hid (w1.heap[w.heap.size + 1]? = some (.cells #[.int .i64 0, .int .i64 0, .int .i64 0, .int .i64 0, .slice none 0 0, .map none] 68 (0, 0))) := Lib.hid ((hb.block _ (by simp)).trans (by have h := heap_alloc_new (w.alloc (.cells #[.int .i64 W, .int .i64 H, .int .i64 M, .int .i64 B, .slice ao nb cb] 24)) (.cells #[.int .i64 0, .int .i64 0, .int .i64 0, .int .i64 0, .slice none 0 0, .map none] 68); rwa [World.size_alloc] at h))
      have HB : Hid (Below w.heap.size w w1) := Lib.hid (Below.trans (by go_grown) (hb.mono (by simp; omega)))
      have hl : w.heap.size + 1 < w1.heap.size := by have h9 := hb.size; simp at h9; omega
      clear hb
      obtain ⟨w2, hw2⟩ : ∃ z, z = w1.alloc (.cells #[.int .i64 W, .int .i64 H, .int .i64 M, .int .i64 B, .slice ao nb cb, .map (some m)] 68) := ⟨_, rfl⟩
      have hc12 : Below w1.heap.size w1 w2 := by rw [hw2]; exact bal (Below.refl _ _) _
      have hZ : w2.heap[w.heap.size + 1]? = some (.cells #[.int .i64 0, .int .i64 0, .int .i64 0, .int .i64 0, .slice none 0 0, .map none] 68 (0, 0)) := (hc12.block _ (by omega)).trans hR.out
      have hbl : Below w.heap.size w w2 := HB.out.trans (hc12.mono (by omega))
      have hz2 : w.heap.size + 1 < w2.heap.size := by have := hc12.size; omega
      have HW2 := Lib.hid hw2
      obtain ⟨r0, r1, r2, r3, r4, r5⟩ : w2.cell? ⟨w.heap.size + 1, 0, none⟩ = some (.int .i64 0) ∧ w2.cell? ⟨w.heap.size + 1, 1, none⟩ = some (.int .i64 0) ∧ w2.cell? ⟨w.heap.size + 1, 2, none⟩ = some (.int .i64 0) ∧ w2.cell? ⟨w.heap.size + 1, 3, none⟩ = some (.int .i64 0) ∧ w2.cell? ⟨w.heap.size + 1, 4, none⟩ = some (.slice none 0 0) ∧ w2.cell? ⟨w.heap.size + 1, 5, none⟩ = some (.map none) := ⟨cell_of_blk hZ rfl, cell_of_blk hZ rfl, cell_of_blk hZ rfl, cell_of_blk hZ rfl, cell_of_blk hZ rfl, cell_of_blk hZ rfl⟩
      have rf : ∀ j, w2.frozen? ⟨w.heap.size + 1, j, none⟩ = false := fun j => by simp [World.frozen?, hZ]
      clear hZ hR HB hw2 hc12 hl hbm hm1
      go_upto_region 2 with fail
      rw [← HW2.out]
      clear HW2
      have hle : w.heap.size ≤ w.heap.size + 1 := by omega
      generalize w.heap.size + 1 = bz at *
      go_wp2_with fail
      refine bodyPost_ret (v := .tuple #[.agg #[.int .i64 0, .int .i64 0, .int .i64 0, .int .i64 0, .slice none 0 0, .map none], .int .i64 4]) (by simp [results, Try.results70, go_sem, *]) rfl ⟨rfl, by go_grown⟩
    obtain ⟨EF, hEF⟩ : ∃ z : Nat → Int, (fun j => chE W H (blkN XB YB nb) (X j) (Y j) (N j)) = z := ⟨_, rfl⟩
    have HEF : Hid (∀ j, chE W H (blkN XB YB nb) (X j) (Y j) (N j) = EF j) := Lib.hid (fun j => by rw [← hEF])
    have HEE : Hid (erN EF mp = E) := Lib.hid (by have h := HE.out; rw [hv, hEF] at h; unfold rdE at h; rwa [if_pos rfl, if_pos h12] at h)
    clear hv HE hEF
    go_enter Try.func70, Try.ntmps70
    go_wp2_with fail
    refine (pRead_ok W H M B nb cb ao XB YB _ (HC.out.keep (by go_grown)) HV.out).mono ?_
    rintro e w1 ⟨m, rfl, hm1, hbm, hb⟩
    have hR : Hid (w1.heap[w.heap.size + 1]? = some (.cells #[.int .i64 0, .int .i64 0, .int .i64 0, .int .i64 0, .slice none 0 0, .map none] 68 (0, 0))) := Lib.hid ((hb.block _ (by simp)).trans (by have h := heap_alloc_new (w.alloc (.cells #[.int .i64 W, .int .i64 H, .int .i64 M, .int .i64 B, .slice ao nb cb] 24)) (.cells #[.int .i64 0, .int .i64 0, .int .i64 0, .int .i64 0, .slice none 0 0, .map none] 68); rwa [World.size_alloc] at h))
    have HB : Hid (Below w.heap.size w w1) := Lib.hid (Below.trans (by go_grown) (hb.mono (by simp; omega)))
    have hl : w.heap.size + 1 < w1.heap.size := by have h9 := hb.size; simp at h9; omega
    have HM1 := Lib.hid hbm
    clear hb hbm
    obtain ⟨b6, hb6⟩ : ∃ z, z = w1.heap.size := ⟨_, rfl⟩
    obtain ⟨w2, hw2⟩ : ∃ z, z = w1.alloc (.cells #[.int .i64 W, .int .i64 H, .int .i64 M, .int .i64 B, .slice ao nb cb, .map (some m)] 68) := ⟨_, rfl⟩
    have hc12 : Below w1.heap.size w1 w2 := by rw [hw2]; exact bal (Below.refl _ _) _
    have KB2 : Hid (w2.heap[b6]? = some (.cells #[.int .i64 W, .int .i64 H, .int .i64 M, .int .i64 B, .slice ao nb cb, .map (some m)] 68 (0, 0))) := Lib.hid (by rw [hw2, hb6]; exact heap_alloc_new w1 _)
    have KR2 : Hid (w2.heap[w.heap.size + 1]? = some (.cells #[.int .i64 0, .int .i64 0, .int .i64 0, .int .i64 0, .slice none 0 0, .map none] 68 (0, 0))) := Lib.hid ((hc12.block _ (by omega)).trans hR.out)
    have KM2 := Lib.hid (HM1.out.keep (hc12.block _ HM1.out.lt))
    have HB2 : Hid (Below w.heap.size w w2) := Lib.hid (HB.out.trans (hc12.mono (by omega)))
    have h6 : w.heap.size + 1 < b6 := by omega
    have hz2 : b6 < w2.heap.size := by rw [hw2, hb6]; simp
    have HW2 := Lib.hid hw2
    have HB6 := Lib.hid hb6
    clear hc12 hR HM1 HB hw2 hb6
    have h12' : ¬ (12 : Int) < mp := by omega
    go_upto_region 6 with fail
    rw [← HW2.out]
    try rw [← HB6.out]
    clear HW2 HB6
    go_wp2_with fail
    go_loopw [26] (fun iv wr => ∃ k : Nat, iv = .int .i64 k ∧ k ≤ mp ∧ Hid (erN EF k = 0) ∧ Hid (wr.heap[b6]? = some (.cells #[.int .i64 W, .int .i64 H, .int .i64 M, .int .i64 B, .slice ao nb cb, .map (some m)] 68 (0, 0))) ∧ Hid (wr.heap[w.heap.size + 1]? = some (.cells #[.int .i64 0, .int .i64 0, .int .i64 0, .int .i64 0, .slice none 0 0, .map none] 68 (0, 0))) ∧ Hid (BMap wr m nb (blkN XB YB nb)) ∧ Hid (Below w.heap.size w wr) ∧ b6 < wr.heap.size) (fun iv _ => mp - (intOf iv).toNat)
    case atStart => exact ⟨0, rfl, Nat.zero_le _, Lib.hid rfl, KB2, KR2, KM2, HB2, hz2⟩
    case round =>
      obtain ⟨k, rfl, hk, HS, KB, KR, KM, HB, hz⟩ := hrel
      clear KB2 KR2 KM2 HB2 hz2
      by_cases hlt : k < mp
      case neg =>
        obtain rfl : mp = k := by omega
        exact absurd (HEE.out.symm.trans HS.out) hne
      obtain ⟨bs, os, rfl, hcell⟩ := (HP.out.keep HB.out) (by omega)
      obtain ⟨c0, hxy⟩ := hcell k hlt
      obtain ⟨hNk, hRk⟩ := HN.out k hlt
      have hEk := HEF.out k
      have HXY := Lib.hid hxy
      have HRk := Lib.hid hRk
      clear hxy hcell hRk
      obtain ⟨ak, hak⟩ : ∃ z, A k = z := ⟨_, rfl⟩
      obtain ⟨nk, hnk⟩ : ∃ z, N k = z := ⟨_, rfl⟩
      obtain ⟨ck, hck⟩ : ∃ z, C k = z := ⟨_, rfl⟩
      rw [hak, hnk, hck] at c0
      rw [hak, hnk] at HXY
      rw [hnk] at HRk hNk hEk
      obtain ⟨ek, hek⟩ : ∃ z, EF k = z := ⟨_, rfl⟩
      rw [hek] at hEk
      have HEk := Lib.hid (And.intro hEk hek)
      clear hak hnk hck hEk hek
      obtain ⟨r0, r1, r2, r3, r4, r5⟩ : wr.cell? ⟨b6, 0, none⟩ = some (.int .i64 W) ∧ wr.cell? ⟨b6, 1, none⟩ = some (.int .i64 H) ∧ wr.cell? ⟨b6, 2, none⟩ = some (.int .i64 M) ∧ wr.cell? ⟨b6, 3, none⟩ = some (.int .i64 B) ∧ wr.cell? ⟨b6, 4, none⟩ = some (.slice ao nb cb) ∧ wr.cell? ⟨b6, 5, none⟩ = some (.map (some m)) := ⟨cell_of_blk KB.out rfl, cell_of_blk KB.out rfl, cell_of_blk KB.out rfl, cell_of_blk KB.out rfl, cell_of_blk KB.out rfl, cell_of_blk KB.out rfl⟩
      go_wp2_with fail
      refine (check_any W H M B nb cb m nk ck ao ak (blkN XB YB nb) nb (X k) (Y k) _ (by omega) (by omega) KM.out hNk HXY.out HRk.out).mono ?_
      rw [HEk.out.1]
      rintro e w3 ⟨rfl, hb⟩
      have HB3 : Hid (Below w.heap.size w w3) := Lib.hid (HB.out.trans (hb.mono (by omega)))
      have KB3 : Hid (w3.heap[b6]? = some (.cells #[.int .i64 W, .int .i64 H, .int .i64 M, .int .i64 B, .slice ao nb cb, .map (some m)] 68 (0, 0))) := Lib.hid ((hb.block _ hz).trans KB.out)
      have KR3 : Hid (w3.heap[w.heap.size + 1]? = some (.cells #[.int .i64 0, .int .i64 0, .int .i64 0, .int .i64 0, .slice none 0 0, .map none] 68 (0, 0))) := Lib.hid ((hb.block _ (by omega)).trans KR.out)
      have KM3 := Lib.hid (KM.out.keep (hb.block _ KM.out.lt))
      have hz3 : b6 < w3.heap.size := by have := hb.size; omega
      clear hb r0 r1 r2 r3 r4 r5 KB KR KM HB c0
      by_cases he0 : ek = 0
      · have HS' : Hid (erN EF (k + 1) = 0) := Lib.hid (by simp only [erN]; rw [if_pos HS.out, HEk.out.2, he0])
        subst he0
        go_wp2_with fail
        go_roundw
        case rel => exact ⟨k + 1, by go_num, by omega, HS', KB3, KR3, KM3, HB3, hz3⟩
        case measure => simp [intOf]; omega
      · have hEE : ek = E := by rw [← HEE.out, erN_stop HS.out (by rw [HEk.out.2]; exact he0) mp hlt, HEk.out.2]
        subst hEE
        have heb : (ek != 0) = true := bne_iff_ne.2 he0
        have hZ := KR3.out
        obtain ⟨r0, r1, r2, r3, r4, r5⟩ : w3.cell? ⟨w.heap.size + 1, 0, none⟩ = some (.int .i64 0) ∧ w3.cell? ⟨w.heap.size + 1, 1, none⟩ = some (.int .i64 0) ∧ w3.cell? ⟨w.heap.size + 1, 2, none⟩ = some (.int .i64 0) ∧ w3.cell? ⟨w.heap.size + 1, 3, none⟩ = some (.int .i64 0) ∧ w3.cell? ⟨w.heap.size + 1, 4, none⟩ = some (.slice none 0 0) ∧ w3.cell? ⟨w.heap.size + 1, 5, none⟩ = some (.map none) := ⟨cell_of_blk hZ rfl, cell_of_blk hZ rfl, cell_of_blk hZ rfl, cell_of_blk hZ rfl, cell_of_blk hZ rfl, cell_of_blk hZ rfl⟩
        have rf : ∀ j, w3.frozen? ⟨w.heap.size + 1, j, none⟩ = false := fun j => by simp [World.frozen?, hZ]
        clear hZ
        have hbl := HB3.out
        go_wp2_with fail
        refine bodyPost_ret (v := .tuple #[.agg #[.int .i64 0, .int .i64 0, .int .i64 0, .int .i64 0, .slice none 0 0, .map none], .int .i64 ek]) (by simp [results, Try.results70, go_sem, *]) rfl ⟨rfl, by go_grown⟩
end Go.Proofs.Ytkkcnhhfdicppaa
