import Derived.Test.YtkkcnhhfdicppaaPg7
namespace Go.Proofs.Ytkkcnhhfdicppaa
open Go.RowKit Lay
set_option maxRecDepth 100000 in
set_option maxHeartbeats 8000000 in
theorem readPaths_ok (W H M B : Int) (nb cb : Nat) (ao : Option Addr) (XB YB : Nat → Int) (mp cq : Nat) (sa : Option Addr) (A : Nat → Option Addr) (N C : Nat → Nat) (X Y : Nat → Nat → Int) (w : World) (hv : vaG W H M B nb XB YB = true) (h12 : mp ≤ 12) (hE : erN (fun j => chE W H (blkN XB YB nb) (X j) (Y j) (N j)) mp = 0)
    (_hn : nb ≤ 9223372036854775807) (hc : XYs w ao nb XB YB) (_hmp : mp ≤ 9223372036854775807) (hp : PSl w sa mp A N C X Y) (hN : ∀ j, j < mp → N j ≤ 1000000 ∧ R2 (X j) (Y j) (N j)) :
    Calls Try.prog 70 #[.agg #[.int .i64 W, .int .i64 H, .int .i64 M, .int .i64 B, .slice ao nb cb], .slice sa mp cq] w fun e w' => ∃ m, e = .returned (.tuple #[bdV W H M B ao nb cb m, .int .i64 0]) ∧ w.heap.size ≤ m ∧ BMap w' m nb (blkN XB YB nb) ∧ Below w.heap.size w w' := by
  have HC := Lib.hid hc
  have HP := Lib.hid hp
  have HN := Lib.hid hN
  clear hc hp hN
  have HV := Lib.hid hv
  obtain ⟨hnum, _⟩ := vaG_num hv
  have HE : Hid (∀ j, j < mp → chE W H (blkN XB YB nb) (X j) (Y j) (N j) = 0) := Lib.hid (fun j hj => erN_get (E := fun j => chE W H (blkN XB YB nb) (X j) (Y j) (N j)) hE hj)
  clear hv hE
  go_enter Try.func70, Try.ntmps70
  go_wp2_with fail
  refine (pRead_ok W H M B nb cb ao XB YB _ (HC.out.keep (by go_grown)) HV.out).mono ?_
  rintro e w1 ⟨m, rfl, hm1, hbm, hb⟩
  have hR : Hid (w1.heap[w.heap.size + 1]? = some (.cells #[.int .i64 0, .int .i64 0, .int .i64 0, .int .i64 0, .slice none 0 0, .map none] 68 (0, 0))) := Lib.hid ((hb.block _ (by simp)).trans (by have h := heap_alloc_new (w.alloc (.cells #[.int .i64 W, .int .i64 H, .int .i64 M, .int .i64 B, .slice ao nb cb] 24)) (.cells #[.int .i64 0, .int .i64 0, .int .i64 0, .int .i64 0, .slice none 0 0, .map none] 68); rwa [World.size_alloc] at h))
  have HB : Hid (Below w.heap.size w w1) := Lib.hid (Below.trans (by go_grown) (hb.mono (by simp; omega)))
  have hl : w.heap.size + 1 < w1.heap.size := by have h9 := hb.size; simp at h9; omega
  have HM1 := Lib.hid hbm
  have HMM : Hid (w.heap.size + 1 < m) := Lib.hid (by simp at hm1; omega)
  clear hb hbm hm1
  obtain ⟨b6, hb6⟩ : ∃ z, z = w1.heap.size := ⟨_, rfl⟩
  obtain ⟨w2, hw2⟩ : ∃ z, z = w1.alloc (.cells #[.int .i64 W, .int .i64 H, .int .i64 M, .int .i64 B, .slice ao nb cb, .map (some m)] 68) := ⟨_, rfl⟩
  have hc12 : Below w1.heap.size w1 w2 := by rw [hw2]; exact bal (Below.refl _ _) _
  have KB2 : Hid (w2.heap[b6]? = some (.cells #[.int .i64 W, .int .i64 H, .int .i64 M, .int .i64 B, .slice ao nb cb, .map (some m)] 68 (0, 0))) := Lib.hid (by rw [hw2, hb6]; exact heap_alloc_new w1 _)
  have KR2 : Hid (w2.heap[w.heap.size + 1]? = some (.cells #[.int .i64 0, .int .i64 0, .int .i64 0, .int .i64 0, .slice none 0 0, .map none] 68 (0, 0))) := Lib.hid ((hc12.block _ (by omega)).trans hR.out)
  have KM2 := Lib.hid (HM1.out.keep (hc12.block _ HM1.out.lt))
  have HB2 : Hid (Below w.heap.size w w2) := Lib.hid (HB.out.trans (hc12.mono (by omega)))
  have h6 : w.heap.size + 1 < b6 := by omega
  have hz2 : b6 < w2.heap.size := by rw [hw2, hb6]; simp
  have HW2 := Lib.hid hw2
  have HB6 := Lib.hid hb6
  clear hc12 hR HM1 HB hw2 hb6
  have h12' : ¬ (12 : Int) < mp := by omega
  go_upto_region 6 with fail
  rw [← HW2.out]
  try rw [← HB6.out]
  clear HW2 HB6
  go_wp2_with fail
  go_loopw [26] (fun iv wr => ∃ k : Nat, iv = .int .i64 k ∧ k ≤ mp ∧ Hid (wr.heap[b6]? = some (.cells #[.int .i64 W, .int .i64 H, .int .i64 M, .int .i64 B, .slice ao nb cb, .map (some m)] 68 (0, 0))) ∧ Hid (wr.heap[w.heap.size + 1]? = some (.cells #[.int .i64 0, .int .i64 0, .int .i64 0, .int .i64 0, .slice none 0 0, .map none] 68 (0, 0))) ∧ Hid (BMap wr m nb (blkN XB YB nb)) ∧ Hid (Below w.heap.size w wr) ∧ b6 < wr.heap.size) (fun iv _ => mp - (intOf iv).toNat)
  case atStart => exact ⟨0, rfl, Nat.zero_le _, KB2, KR2, KM2, HB2, hz2⟩
  case round =>
    obtain ⟨k, rfl, hk, KB, KR, KM, HB, hz⟩ := hrel
    clear KB2 KR2 KM2 HB2 hz2
    by_cases hlt : k < mp
    case neg =>
      obtain rfl : mp = k := by omega
      have hZ := KR.out
      obtain ⟨r0, r1, r2, r3, r4, r5⟩ : wr.cell? ⟨w.heap.size + 1, 0, none⟩ = some (.int .i64 0) ∧ wr.cell? ⟨w.heap.size + 1, 1, none⟩ = some (.int .i64 0) ∧ wr.cell? ⟨w.heap.size + 1, 2, none⟩ = some (.int .i64 0) ∧ wr.cell? ⟨w.heap.size + 1, 3, none⟩ = some (.int .i64 0) ∧ wr.cell? ⟨w.heap.size + 1, 4, none⟩ = some (.slice none 0 0) ∧ wr.cell? ⟨w.heap.size + 1, 5, none⟩ = some (.map none) := ⟨cell_of_blk hZ rfl, cell_of_blk hZ rfl, cell_of_blk hZ rfl, cell_of_blk hZ rfl, cell_of_blk hZ rfl, cell_of_blk hZ rfl⟩
      obtain ⟨q0, q1, q2, q3, q4, q5⟩ : wr.cell? ⟨b6, 0, none⟩ = some (.int .i64 W) ∧ wr.cell? ⟨b6, 1, none⟩ = some (.int .i64 H) ∧ wr.cell? ⟨b6, 2, none⟩ = some (.int .i64 M) ∧ wr.cell? ⟨b6, 3, none⟩ = some (.int .i64 B) ∧ wr.cell? ⟨b6, 4, none⟩ = some (.slice ao nb cb) ∧ wr.cell? ⟨b6, 5, none⟩ = some (.map (some m)) := ⟨cell_of_blk KB.out rfl, cell_of_blk KB.out rfl, cell_of_blk KB.out rfl, cell_of_blk KB.out rfl, cell_of_blk KB.out rfl, cell_of_blk KB.out rfl⟩
      have rf : ∀ j, wr.frozen? ⟨w.heap.size + 1, j, none⟩ = false := fun j => by simp [World.frozen?, hZ]
      have hmz : w.heap.size ≤ m := by have := HMM.out; omega
      have hmn : m ≠ w.heap.size + 1 := by have := HMM.out; omega
      have hle : w.heap.size ≤ w.heap.size + 1 := by omega
      have e1 : ¬ b6 = w.heap.size + 1 := by omega
      have e2 : ¬ w.heap.size + 1 = b6 := by omega
      clear hZ KR HMM hl h6
      generalize w.heap.size + 1 = bz at *
      go_wp2_with fail
      refine bodyPost_ret (v := .tuple #[bdV W H M B ao nb cb m, .int .i64 0]) (by simp [results, Try.results70, go_sem, *]) rfl ⟨m, rfl, hmz, ?_, ?_⟩
      · exact KM.out.keep (by rw [Below.heap_setCell _ _ _ _ hmn, Below.heap_setCell _ _ _ _ hmn, Below.heap_setCell _ _ _ _ hmn, Below.heap_setCell _ _ _ _ hmn, Below.heap_setCell _ _ _ _ hmn, Below.heap_setCell _ _ _ _ hmn])
      · have hbl := HB.out
        go_grown
    obtain ⟨bs, os, rfl, hcell⟩ := (HP.out.keep HB.out) (by omega)
    obtain ⟨c0, hxy⟩ := hcell k hlt
    obtain ⟨hNk, hRk⟩ := HN.out k hlt
    have hEk := HE.out k hlt
    have HXY := Lib.hid hxy
    have HRk := Lib.hid hRk
    clear hxy hcell hRk
    obtain ⟨ak, hak⟩ : ∃ z, A k = z := ⟨_, rfl⟩
    obtain ⟨nk, hnk⟩ : ∃ z, N k = z := ⟨_, rfl⟩
    obtain ⟨ck, hck⟩ : ∃ z, C k = z := ⟨_, rfl⟩
    rw [hak, hnk, hck] at c0
    rw [hak, hnk] at HXY
    rw [hnk] at HRk hNk hEk
    have HEk := Lib.hid hEk
    clear hak hnk hck hEk
    obtain ⟨r0, r1, r2, r3, r4, r5⟩ : wr.cell? ⟨b6, 0, none⟩ = some (.int .i64 W) ∧ wr.cell? ⟨b6, 1, none⟩ = some (.int .i64 H) ∧ wr.cell? ⟨b6, 2, none⟩ = some (.int .i64 M) ∧ wr.cell? ⟨b6, 3, none⟩ = some (.int .i64 B) ∧ wr.cell? ⟨b6, 4, none⟩ = some (.slice ao nb cb) ∧ wr.cell? ⟨b6, 5, none⟩ = some (.map (some m)) := ⟨cell_of_blk KB.out rfl, cell_of_blk KB.out rfl, cell_of_blk KB.out rfl, cell_of_blk KB.out rfl, cell_of_blk KB.out rfl, cell_of_blk KB.out rfl⟩
    go_wp2_with fail
    refine (check_any W H M B nb cb m nk ck ao ak (blkN XB YB nb) nb (X k) (Y k) _ (by omega) (by omega) KM.out hNk HXY.out HRk.out).mono ?_
    rw [HEk.out]
    rintro e w3 ⟨rfl, hb⟩
    have HB3 : Hid (Below w.heap.size w w3) := Lib.hid (HB.out.trans (hb.mono (by omega)))
    have KB3 : Hid (w3.heap[b6]? = some (.cells #[.int .i64 W, .int .i64 H, .int .i64 M, .int .i64 B, .slice ao nb cb, .map (some m)] 68 (0, 0))) := Lib.hid ((hb.block _ hz).trans KB.out)
    have KR3 : Hid (w3.heap[w.heap.size + 1]? = some (.cells #[.int .i64 0, .int .i64 0, .int .i64 0, .int .i64 0, .slice none 0 0, .map none] 68 (0, 0))) := Lib.hid ((hb.block _ (by omega)).trans KR.out)
    have KM3 := Lib.hid (KM.out.keep (hb.block _ KM.out.lt))
    have hz3 : b6 < w3.heap.size := by have := hb.size; omega
    clear hb r0 r1 r2 r3 r4 r5 KB KR KM HB c0
    go_wp2_with fail
    go_roundw
    case rel => exact ⟨k + 1, by go_num, by omega, KB3, KR3, KM3, HB3, hz3⟩
    case measure => simp [intOf]; omega
set_option maxRecDepth 100000 in
set_option maxHeartbeats 8000000 in
theorem readPath_no (W H M B : Int) (nb cb : Nat) (ao : Option Addr) (XB YB : Nat → Int) (n cp : Nat) (ap : Option Addr) (X Y : Nat → Int) (w : World) (E : Int) (hE : rdE (vaG W H M B nb XB YB) 1 (chE W H (blkN XB YB nb) X Y n) = E) (hne : E ≠ 0)
    (hn : nb ≤ 9223372036854775807) (hc : XYs w ao nb XB YB) (hnp : n ≤ 1000000) (hp : XYs w ap n X Y) (hr : R2 X Y n) :
    Calls Try.prog 52 #[.agg #[.int .i64 W, .int .i64 H, .int .i64 M, .int .i64 B, .slice ao nb cb], .slice ap n cp] w fun e w' => e = .returned (.tuple #[.agg #[.int .i64 0, .int .i64 0, .int .i64 0, .int .i64 0, .slice none 0 0, .map none], .int .i64 E]) ∧ Below w.heap.size w w' := by
  have HC := Lib.hid hc
  have HP := Lib.hid hp
  have HR := Lib.hid hr
  clear hc hp hr
  have HE := Lib.hid hE
  clear hE
  go_enter Try.func52, Try.ntmps52
  obtain ⟨w2, hw2⟩ : ∃ z, z = (w.alloc (.cells #[.int .i64 W, .int .i64 H, .int .i64 M, .int .i64 B, .slice ao nb cb] 24)).alloc (.cells #[.int .i64 0, .int .i64 0, .int .i64 0, .int .i64 0, .slice none 0 0, .map none] 68) := ⟨_, rfl⟩
  obtain ⟨w3, hw3⟩ : ∃ z, z = w2.alloc (.cells #[.slice ap n cp] 22) := ⟨_, rfl⟩
  have hs2 : w2.heap.size = w.heap.size + 1 + 1 := by rw [hw2]; simp
  have hc3 : Below w.heap.size w w3 := by rw [hw3, hw2]; go_grown
  have hc23 : Below w2.heap.size w2 w3 := by rw [hw3]; exact bal (Below.refl _ _) _
  have hs3 : w3.heap.size = w.heap.size + 1 + 1 + 1 := by rw [hw3]; simp; omega
  have HZ3 : Hid (w3.heap[w.heap.size + 1]? = some (.cells #[.int .i64 0, .int .i64 0, .int .i64 0, .int .i64 0, .slice none 0 0, .map none] 68 (0, 0))) := Lib.hid ((hc23.block _ (by omega)).trans (by rw [hw2]; have h := heap_alloc_new (w.alloc (.cells #[.int .i64 W, .int .i64 H, .int .i64 M, .int .i64 B, .slice ao nb cb] 24)) (.cells #[.int .i64 0, .int .i64 0, .int .i64 0, .int .i64 0, .slice none 0 0, .map none] 68); rwa [World.size_alloc] at h))
  have HPS : Hid (PSl w3 (some ⟨w.heap.size + 1 + 1, 0, none⟩) 1 (fun _ => ap) (fun _ => n) (fun _ => cp) (fun _ => X) (fun _ => Y)) := Lib.hid (fun _ => ⟨_, 0, rfl, fun j hj => by
    obtain rfl : j = 0 := by omega
    refine ⟨?_, HP.out.keep hc3⟩
    have h := heap_alloc_new w2 (.cells #[.slice ap n cp] 22)
    rw [← hw3, hs2] at h
    exact cell_of_blk h rfl⟩)
  have HXB := Lib.hid (HC.out.keep hc3)
  have HB3 := Lib.hid hc3
  have HW2 := Lib.hid hw2
  have HW3 := Lib.hid hw3
  have HS2 := Lib.hid hs2
  clear hc3 hc23 hw2 hw3 hs2
  go_wp2_with (first | fail | fail)
  rw [← HW2.out]
  try rw [← HW3.out]
  try rw [HS2.out]
  refine (readPaths_no W H M B nb cb ao XB YB 1 1 _ (fun _ => ap) (fun _ => n) (fun _ => cp) (fun _ => X) (fun _ => Y) w3 E (by rw [← HE.out]; rfl) hne hn HXB.out (by omega) HPS.out (fun j hj => ⟨hnp, HR.out⟩)).mono ?_
  rintro e w4 ⟨rfl, hb⟩
  have hbl : Below w.heap.size w w4 := HB3.out.trans (hb.mono (by omega))
  have hZ : w4.heap[w.heap.size + 1]? = some (.cells #[.int .i64 0, .int .i64 0, .int .i64 0, .int .i64 0, .slice none 0 0, .map none] 68 (0, 0)) := (hb.block _ (by omega)).trans HZ3.out
  obtain ⟨r0, r1, r2, r3, r4, r5⟩ : w4.cell? ⟨w.heap.size + 1, 0, none⟩ = some (.int .i64 0) ∧ w4.cell? ⟨w.heap.size + 1, 1, none⟩ = some (.int .i64 0) ∧ w4.cell? ⟨w.heap.size + 1, 2, none⟩ = some (.int .i64 0) ∧ w4.cell? ⟨w.heap.size + 1, 3, none⟩ = some (.int .i64 0) ∧ w4.cell? ⟨w.heap.size + 1, 4, none⟩ = some (.slice none 0 0) ∧ w4.cell? ⟨w.heap.size + 1, 5, none⟩ = some (.map none) := ⟨cell_of_blk hZ rfl, cell_of_blk hZ rfl, cell_of_blk hZ rfl, cell_of_blk hZ rfl, cell_of_blk hZ rfl, cell_of_blk hZ rfl⟩
  have rf : ∀ j, w4.frozen? ⟨w.heap.size + 1, j, none⟩ = false := fun j => by simp [World.frozen?, hZ]
  have hle : w.heap.size ≤ w.heap.size + 1 := by omega
  clear hZ HZ3 HPS HXB HB3 HW2 HW3 HS2 hb hs3
  generalize w.heap.size + 1 = bz at *
  go_wp2_with fail
  refine bodyPost_ret (v := .tuple #[.agg #[.int .i64 0, .int .i64 0, .int .i64 0, .int .i64 0, .slice none 0 0, .map none], .int .i64 E]) (by simp [results, Try.results52, go_sem, *]) rfl ⟨rfl, by go_grown⟩
set_option maxRecDepth 100000 in
set_option maxHeartbeats 8000000 in
theorem readPath_ok (W H M B : Int) (nb cb : Nat) (ao : Option Addr) (XB YB : Nat → Int) (n cp : Nat) (ap : Option Addr) (X Y : Nat → Int) (w : World) (hv : vaG W H M B nb XB YB = true) (hE : chE W H (blkN XB YB nb) X Y n = 0)
    (hn : nb ≤ 9223372036854775807) (hc : XYs w ao nb XB YB) (hnp : n ≤ 1000000) (hp : XYs w ap n X Y) (hr : R2 X Y n) :
    Calls Try.prog 52 #[.agg #[.int .i64 W, .int .i64 H, .int .i64 M, .int .i64 B, .slice ao nb cb], .slice ap n cp] w fun e w' => ∃ m, e = .returned (.tuple #[bdV W H M B ao nb cb m, .int .i64 0]) ∧ w.heap.size ≤ m ∧ BMap w' m nb (blkN XB YB nb) ∧ Below w.heap.size w w' := by
  have HC := Lib.hid hc
  have HP := Lib.hid hp
  have HR := Lib.hid hr
  clear hc hp hr
  have HE := Lib.hid hE
  have HV := Lib.hid hv
  clear hE hv
  go_enter Try.func52, Try.ntmps52
  obtain ⟨w2, hw2⟩ : ∃ z, z = (w.alloc (.cells #[.int .i64 W, .int .i64 H, .int .i64 M, .int .i64 B, .slice ao nb cb] 24)).alloc (.cells #[.int .i64 0, .int .i64 0, .int .i64 0, .int .i64 0, .slice none 0 0, .map none] 68) := ⟨_, rfl⟩
  obtain ⟨w3, hw3⟩ : ∃ z, z = w2.alloc (.cells #[.slice ap n cp] 22) := ⟨_, rfl⟩
  have hs2 : w2.heap.size = w.heap.size + 1 + 1 := by rw [hw2]; simp
  have hc3 : Below w.heap.size w w3 := by rw [hw3, hw2]; go_grown
  have hc23 : Below w2.heap.size w2 w3 := by rw [hw3]; exact bal (Below.refl _ _) _
  have hs3 : w3.heap.size = w.heap.size + 1 + 1 + 1 := by rw [hw3]; simp; omega
  have HZ3 : Hid (w3.heap[w.heap.size + 1]? = some (.cells #[.int .i64 0, .int .i64 0, .int .i64 0, .int .i64 0, .slice none 0 0, .map none] 68 (0, 0))) := Lib.hid ((hc23.block _ (by omega)).trans (by rw [hw2]; have h := heap_alloc_new (w.alloc (.cells #[.int .i64 W, .int .i64 H, .int .i64 M, .int .i64 B, .slice ao nb cb] 24)) (.cells #[.int .i64 0, .int .i64 0, .int .i64 0, .int .i64 0, .slice none 0 0, .map none] 68); rwa [World.size_alloc] at h))
  have HPS : Hid (PSl w3 (some ⟨w.heap.size + 1 + 1, 0, none⟩) 1 (fun _ => ap) (fun _ => n) (fun _ => cp) (fun _ => X) (fun _ => Y)) := Lib.hid (fun _ => ⟨_, 0, rfl, fun j hj => by
    obtain rfl : j = 0 := by omega
    refine ⟨?_, HP.out.keep hc3⟩
    have h := heap_alloc_new w2 (.cells #[.slice ap n cp] 22)
    rw [← hw3, hs2] at h
    exact cell_of_blk h rfl⟩)
  have HXB := Lib.hid (HC.out.keep hc3)
  have HB3 := Lib.hid hc3
  have HW2 := Lib.hid hw2
  have HW3 := Lib.hid hw3
  have HS2 := Lib.hid hs2
  clear hc3 hc23 hw2 hw3 hs2
  go_wp2_with (first | fail | fail)
  rw [← HW2.out]
  try rw [← HW3.out]
  try rw [HS2.out]
  refine (readPaths_ok W H M B nb cb ao XB YB 1 1 _ (fun _ => ap) (fun _ => n) (fun _ => cp) (fun _ => X) (fun _ => Y) w3 HV.out (by omega) (by show (if (0 : Int) = 0 then chE W H (blkN XB YB nb) X Y n else 0) = 0; rw [if_pos rfl]; exact HE.out) hn HXB.out (by omega) HPS.out (fun j hj => ⟨hnp, HR.out⟩)).mono ?_
  rintro e w4 ⟨m, rfl, hm1, hM, hb⟩
  have hbl : Below w.heap.size w w4 := HB3.out.trans (hb.mono (by omega))
  have hZ : w4.heap[w.heap.size + 1]? = some (.cells #[.int .i64 0, .int .i64 0, .int .i64 0, .int .i64 0, .slice none 0 0, .map none] 68 (0, 0)) := (hb.block _ (by omega)).trans HZ3.out
  obtain ⟨r0, r1, r2, r3, r4, r5⟩ : w4.cell? ⟨w.heap.size + 1, 0, none⟩ = some (.int .i64 0) ∧ w4.cell? ⟨w.heap.size + 1, 1, none⟩ = some (.int .i64 0) ∧ w4.cell? ⟨w.heap.size + 1, 2, none⟩ = some (.int .i64 0) ∧ w4.cell? ⟨w.heap.size + 1, 3, none⟩ = some (.int .i64 0) ∧ w4.cell? ⟨w.heap.size + 1, 4, none⟩ = some (.slice none 0 0) ∧ w4.cell? ⟨w.heap.size + 1, 5, none⟩ = some (.map none) := ⟨cell_of_blk hZ rfl, cell_of_blk hZ rfl, cell_of_blk hZ rfl, cell_of_blk hZ rfl, cell_of_blk hZ rfl, cell_of_blk hZ rfl⟩
  have rf : ∀ j, w4.frozen? ⟨w.heap.size + 1, j, none⟩ = false := fun j => by simp [World.frozen?, hZ]
  have hle : w.heap.size ≤ w.heap.size + 1 := by omega
  have hmz : w.heap.size ≤ m := by omega
  have hmn : m ≠ w.heap.size + 1 := by omega
  have KM := Lib.hid hM
  clear hZ HZ3 HPS HXB HB3 HW2 HW3 HS2 hb hs3 hM hm1
  generalize w.heap.size + 1 = bz at *
  go_wp2_with fail
  refine bodyPost_ret (v := .tuple #[bdV W H M B ao nb cb m, .int .i64 0]) (by simp [results, Try.results52, go_sem, *]) rfl ⟨m, rfl, hmz, ?_, by go_grown⟩
  exact KM.out.keep (by rw [Below.heap_setCell _ _ _ _ hmn, Below.heap_setCell _ _ _ _ hmn, Below.heap_setCell _ _ _ _ hmn, Below.heap_setCell _ _ _ _ hmn, Below.heap_setCell _ _ _ _ hmn, Below.heap_setCell _ _ _ _ hmn])
set_option maxRecDepth 100000 in
set_option maxHeartbeats 8000000 in
theorem pCheck_any (W H M B : Int) (nb cb : Nat) (ao : Option Addr) (XB YB : Nat → Int) (n cp : Nat) (ap : Option Addr) (X Y : Nat → Int) (w : World) 
    (hn : nb ≤ 9223372036854775807) (hc : XYs w ao nb XB YB) (hnp : n ≤ 1000000) (hp : XYs w ap n X Y) (hr : R2 X Y n) :
    Calls Try.prog 21 #[.agg #[.int .i64 W, .int .i64 H, .int .i64 M, .int .i64 B, .slice ao nb cb], .slice ap n cp] w fun e w' => e = .returned (.int .i64 (rdE (vaG W H M B nb XB YB) 1 (chE W H (blkN XB YB nb) X Y n))) ∧ Below w.heap.size w w' := by
  have HC := Lib.hid hc
  have HP := Lib.hid hp
  have HR := Lib.hid hr
  clear hc hp hr
  obtain ⟨E, hE⟩ : ∃ z, rdE (vaG W H M B nb XB YB) 1 (chE W H (blkN XB YB nb) X Y n) = z := ⟨_, rfl⟩
  rw [hE]
  have HE := Lib.hid hE
  clear hE
  by_cases h0 : E = 0
  · have h2 : vaG W H M B nb XB YB = true ∧ chE W H (blkN XB YB nb) X Y n = 0 := by
      have h := HE.out
      unfold rdE at h
      by_cases hv : vaG W H M B nb XB YB = true
      · rw [if_pos hv, if_pos (by omega)] at h; exact ⟨hv, by omega⟩
      · rw [if_neg hv] at h; omega
    have H2 := Lib.hid h2
    subst h0
    clear h2 HE
    go_enter Try.func21, Try.ntmps21
    go_wp2_with fail
    refine (readPath_ok W H M B nb cb ao XB YB n cp ap X Y _ H2.out.1 H2.out.2 hn (HC.out.keep (by go_grown)) hnp (HP.out.keep (by go_grown)) HR.out).mono ?_
    rintro e w1 ⟨m, rfl, hm1, hM, hb⟩
    have hbl : Below w.heap.size w w1 := Below.trans (by go_grown) (hb.mono (by simp))
    clear hb hM hm1
    go_wp2_with fail
    refine bodyPost_ret (v := .int .i64 0) (by simp [results, Try.results21, go_sem]) rfl ⟨rfl, hbl.alloc hbl.size _⟩
  · go_enter Try.func21, Try.ntmps21
    go_wp2_with fail
    refine (readPath_no W H M B nb cb ao XB YB n cp ap X Y _ E HE.out h0 hn (HC.out.keep (by go_grown)) hnp (HP.out.keep (by go_grown)) HR.out).mono ?_
    rintro e w1 ⟨rfl, hb⟩
    have hbl : Below w.heap.size w w1 := Below.trans (by go_grown) (hb.mono (by simp))
    clear hb
    go_wp2_with fail
    refine bodyPost_ret (v := .int .i64 E) (by simp [results, Try.results21, go_sem]) rfl ⟨rfl, hbl.alloc hbl.size _⟩
end Go.Proofs.Ytkkcnhhfdicppaa
