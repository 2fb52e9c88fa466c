import Derived.Test.YtdhlikedjephmaaHm
namespace Go.Proofs.Ytdhlikedjephmaa
open Go.RowKit Heat
theorem Sqw.drew {w : World} {g : Nat} {n : Int} {L : Nat → Int} (h : Sqw w g n L) : Sqw w.drew g n L := h
set_option maxRecDepth 100000 in
set_option maxHeartbeats 8000000 in
theorem minor_any (n k : Nat) (L : Nat → Int) (w : World) (hn : n < 5) (hk : k < 5) :
    Calls Try.prog 72 #[sqV ((n : Int) + 1) L, .int .i64 k] w fun e w' => e = .returned (sqV n (minL k n L)) ∧ Below w.heap.size w w' := by
  have k0 : (0 : Int) ≤ (k : Int) := by omega
  have k5 : (k : Int) ≤ 5 := by omega
  have kp : wrap64 ((k : Int) + 1) = (k : Int) + 1 := by simp only [wrap64]; omega
  have k6 : (k : Int) + 1 ≤ 5 := by omega
  have wn : IntKind.i64.wrap (n : Int) = n := IntWalk.i64_in _ (by omega)
  unfold sqV
  go_enter Try.func72, Try.ntmps72
  go_upto_region 1 with fail
  refine wp_region_lit ?_
  refine wpList_step (fun K hK => ?_); go_simp; refine hK _ _ ?_; clear hK K
  refine wpList_step (fun K hK => ?_); go_simp; refine hK _ _ ?_; clear hK K
  refine wpList_step (fun K hK => ?_); go_simp; refine hK _ _ ?_; clear hK K
  refine wpList_step (fun K hK => ?_); go_simp; refine hK _ _ ?_; clear hK K
  refine wpList_step (fun K hK => ?_); go_simp; refine hK _ _ ?_; clear hK K
  have hb0 : Below w.heap.size w (((w.alloc (Obj.cells #[.int .i64 ((n : Int) + 1), .int .i64 (L 0), .int .i64 (L 1), .int .i64 (L 2), .int .i64 (L 3), .int .i64 (L 4), .int .i64 (L 5), .int .i64 (L 6), .int .i64 (L 7), .int .i64 (L 8), .int .i64 (L 9), .int .i64 (L 10), .int .i64 (L 11), .int .i64 (L 12), .int .i64 (L 13), .int .i64 (L 14), .int .i64 (L 15), .int .i64 (L 16), .int .i64 (L 17), .int .i64 (L 18), .int .i64 (L 19), .int .i64 (L 20), .int .i64 (L 21), .int .i64 (L 22), .int .i64 (L 23), .int .i64 (L 24)] 79)).alloc (Obj.cells #[.int .i64 0, .int .i64 0, .int .i64 0, .int .i64 0, .int .i64 0, .int .i64 0, .int .i64 0, .int .i64 0, .int .i64 0, .int .i64 0, .int .i64 0, .int .i64 0, .int .i64 0, .int .i64 0, .int .i64 0, .int .i64 0, .int .i64 0, .int .i64 0, .int .i64 0, .int .i64 0, .int .i64 0, .int .i64 0, .int .i64 0, .int .i64 0, .int .i64 0, .int .i64 0] 79)).alloc (Obj.cells #[.int .i64 0, .int .i64 0, .int .i64 0, .int .i64 0, .int .i64 0, .int .i64 0, .int .i64 0, .int .i64 0, .int .i64 0, .int .i64 0, .int .i64 0, .int .i64 0, .int .i64 0, .int .i64 0, .int .i64 0, .int .i64 0, .int .i64 0, .int .i64 0, .int .i64 0, .int .i64 0, .int .i64 0, .int .i64 0, .int .i64 0, .int .i64 0, .int .i64 0, .int .i64 0] 79)) := by go_grown
  have HSQ : Sqw (((w.alloc (Obj.cells #[.int .i64 ((n : Int) + 1), .int .i64 (L 0), .int .i64 (L 1), .int .i64 (L 2), .int .i64 (L 3), .int .i64 (L 4), .int .i64 (L 5), .int .i64 (L 6), .int .i64 (L 7), .int .i64 (L 8), .int .i64 (L 9), .int .i64 (L 10), .int .i64 (L 11), .int .i64 (L 12), .int .i64 (L 13), .int .i64 (L 14), .int .i64 (L 15), .int .i64 (L 16), .int .i64 (L 17), .int .i64 (L 18), .int .i64 (L 19), .int .i64 (L 20), .int .i64 (L 21), .int .i64 (L 22), .int .i64 (L 23), .int .i64 (L 24)] 79)).alloc (Obj.cells #[.int .i64 0, .int .i64 0, .int .i64 0, .int .i64 0, .int .i64 0, .int .i64 0, .int .i64 0, .int .i64 0, .int .i64 0, .int .i64 0, .int .i64 0, .int .i64 0, .int .i64 0, .int .i64 0, .int .i64 0, .int .i64 0, .int .i64 0, .int .i64 0, .int .i64 0, .int .i64 0, .int .i64 0, .int .i64 0, .int .i64 0, .int .i64 0, .int .i64 0, .int .i64 0] 79)).alloc (Obj.cells #[.int .i64 0, .int .i64 0, .int .i64 0, .int .i64 0, .int .i64 0, .int .i64 0, .int .i64 0, .int .i64 0, .int .i64 0, .int .i64 0, .int .i64 0, .int .i64 0, .int .i64 0, .int .i64 0, .int .i64 0, .int .i64 0, .int .i64 0, .int .i64 0, .int .i64 0, .int .i64 0, .int .i64 0, .int .i64 0, .int .i64 0, .int .i64 0, .int .i64 0, .int .i64 0] 79)) w.heap.size ((n : Int) + 1) L := Sqw.fresh (by refine ⟨?_, ?_, ?_, ?_, ?_, ?_, ?_, ?_, ?_, ?_, ?_, ?_, ?_, ?_, ?_, ?_, ?_, ?_, ?_, ?_, ?_, ?_, ?_, ?_, ?_, ?_⟩ <;> go_cell) (by refine ⟨?_, ?_, ?_, ?_, ?_, ?_, ?_, ?_, ?_, ?_, ?_, ?_, ?_, ?_, ?_, ?_, ?_, ?_, ?_, ?_, ?_, ?_, ?_, ?_, ?_, ?_⟩ <;> go_cell)
  have HRE : Sqw (((w.alloc (Obj.cells #[.int .i64 ((n : Int) + 1), .int .i64 (L 0), .int .i64 (L 1), .int .i64 (L 2), .int .i64 (L 3), .int .i64 (L 4), .int .i64 (L 5), .int .i64 (L 6), .int .i64 (L 7), .int .i64 (L 8), .int .i64 (L 9), .int .i64 (L 10), .int .i64 (L 11), .int .i64 (L 12), .int .i64 (L 13), .int .i64 (L 14), .int .i64 (L 15), .int .i64 (L 16), .int .i64 (L 17), .int .i64 (L 18), .int .i64 (L 19), .int .i64 (L 20), .int .i64 (L 21), .int .i64 (L 22), .int .i64 (L 23), .int .i64 (L 24)] 79)).alloc (Obj.cells #[.int .i64 0, .int .i64 0, .int .i64 0, .int .i64 0, .int .i64 0, .int .i64 0, .int .i64 0, .int .i64 0, .int .i64 0, .int .i64 0, .int .i64 0, .int .i64 0, .int .i64 0, .int .i64 0, .int .i64 0, .int .i64 0, .int .i64 0, .int .i64 0, .int .i64 0, .int .i64 0, .int .i64 0, .int .i64 0, .int .i64 0, .int .i64 0, .int .i64 0, .int .i64 0] 79)).alloc (Obj.cells #[.int .i64 0, .int .i64 0, .int .i64 0, .int .i64 0, .int .i64 0, .int .i64 0, .int .i64 0, .int .i64 0, .int .i64 0, .int .i64 0, .int .i64 0, .int .i64 0, .int .i64 0, .int .i64 0, .int .i64 0, .int .i64 0, .int .i64 0, .int .i64 0, .int .i64 0, .int .i64 0, .int .i64 0, .int .i64 0, .int .i64 0, .int .i64 0, .int .i64 0, .int .i64 0] 79)) (w.heap.size + 1) 0 (fun _ => 0) := Sqw.fresh (by refine ⟨?_, ?_, ?_, ?_, ?_, ?_, ?_, ?_, ?_, ?_, ?_, ?_, ?_, ?_, ?_, ?_, ?_, ?_, ?_, ?_, ?_, ?_, ?_, ?_, ?_, ?_⟩ <;> go_cell) (by refine ⟨?_, ?_, ?_, ?_, ?_, ?_, ?_, ?_, ?_, ?_, ?_, ?_, ?_, ?_, ?_, ?_, ?_, ?_, ?_, ?_, ?_, ?_, ?_, ?_, ?_, ?_⟩ <;> go_cell)
  have HMI : Sqw (((w.alloc (Obj.cells #[.int .i64 ((n : Int) + 1), .int .i64 (L 0), .int .i64 (L 1), .int .i64 (L 2), .int .i64 (L 3), .int .i64 (L 4), .int .i64 (L 5), .int .i64 (L 6), .int .i64 (L 7), .int .i64 (L 8), .int .i64 (L 9), .int .i64 (L 10), .int .i64 (L 11), .int .i64 (L 12), .int .i64 (L 13), .int .i64 (L 14), .int .i64 (L 15), .int .i64 (L 16), .int .i64 (L 17), .int .i64 (L 18), .int .i64 (L 19), .int .i64 (L 20), .int .i64 (L 21), .int .i64 (L 22), .int .i64 (L 23), .int .i64 (L 24)] 79)).alloc (Obj.cells #[.int .i64 0, .int .i64 0, .int .i64 0, .int .i64 0, .int .i64 0, .int .i64 0, .int .i64 0, .int .i64 0, .int .i64 0, .int .i64 0, .int .i64 0, .int .i64 0, .int .i64 0, .int .i64 0, .int .i64 0, .int .i64 0, .int .i64 0, .int .i64 0, .int .i64 0, .int .i64 0, .int .i64 0, .int .i64 0, .int .i64 0, .int .i64 0, .int .i64 0, .int .i64 0] 79)).alloc (Obj.cells #[.int .i64 0, .int .i64 0, .int .i64 0, .int .i64 0, .int .i64 0, .int .i64 0, .int .i64 0, .int .i64 0, .int .i64 0, .int .i64 0, .int .i64 0, .int .i64 0, .int .i64 0, .int .i64 0, .int .i64 0, .int .i64 0, .int .i64 0, .int .i64 0, .int .i64 0, .int .i64 0, .int .i64 0, .int .i64 0, .int .i64 0, .int .i64 0, .int .i64 0, .int .i64 0] 79)) (w.heap.size + 1 + 1) 0 (fun _ => 0) := Sqw.fresh (by refine ⟨?_, ?_, ?_, ?_, ?_, ?_, ?_, ?_, ?_, ?_, ?_, ?_, ?_, ?_, ?_, ?_, ?_, ?_, ?_, ?_, ?_, ?_, ?_, ?_, ?_, ?_⟩ <;> go_cell) (by refine ⟨?_, ?_, ?_, ?_, ?_, ?_, ?_, ?_, ?_, ?_, ?_, ?_, ?_, ?_, ?_, ?_, ?_, ?_, ?_, ?_, ?_, ?_, ?_, ?_, ?_, ?_⟩ <;> go_cell)
  have hsz : w.heap.size + 1 + 1 < (((w.alloc (Obj.cells #[.int .i64 ((n : Int) + 1), .int .i64 (L 0), .int .i64 (L 1), .int .i64 (L 2), .int .i64 (L 3), .int .i64 (L 4), .int .i64 (L 5), .int .i64 (L 6), .int .i64 (L 7), .int .i64 (L 8), .int .i64 (L 9), .int .i64 (L 10), .int .i64 (L 11), .int .i64 (L 12), .int .i64 (L 13), .int .i64 (L 14), .int .i64 (L 15), .int .i64 (L 16), .int .i64 (L 17), .int .i64 (L 18), .int .i64 (L 19), .int .i64 (L 20), .int .i64 (L 21), .int .i64 (L 22), .int .i64 (L 23), .int .i64 (L 24)] 79)).alloc (Obj.cells #[.int .i64 0, .int .i64 0, .int .i64 0, .int .i64 0, .int .i64 0, .int .i64 0, .int .i64 0, .int .i64 0, .int .i64 0, .int .i64 0, .int .i64 0, .int .i64 0, .int .i64 0, .int .i64 0, .int .i64 0, .int .i64 0, .int .i64 0, .int .i64 0, .int .i64 0, .int .i64 0, .int .i64 0, .int .i64 0, .int .i64 0, .int .i64 0, .int .i64 0, .int .i64 0] 79)).alloc (Obj.cells #[.int .i64 0, .int .i64 0, .int .i64 0, .int .i64 0, .int .i64 0, .int .i64 0, .int .i64 0, .int .i64 0, .int .i64 0, .int .i64 0, .int .i64 0, .int .i64 0, .int .i64 0, .int .i64 0, .int .i64 0, .int .i64 0, .int .i64 0, .int .i64 0, .int .i64 0, .int .i64 0, .int .i64 0, .int .i64 0, .int .i64 0, .int .i64 0, .int .i64 0, .int .i64 0] 79)).heap.size := by simp
  generalize (((w.alloc (Obj.cells #[.int .i64 ((n : Int) + 1), .int .i64 (L 0), .int .i64 (L 1), .int .i64 (L 2), .int .i64 (L 3), .int .i64 (L 4), .int .i64 (L 5), .int .i64 (L 6), .int .i64 (L 7), .int .i64 (L 8), .int .i64 (L 9), .int .i64 (L 10), .int .i64 (L 11), .int .i64 (L 12), .int .i64 (L 13), .int .i64 (L 14), .int .i64 (L 15), .int .i64 (L 16), .int .i64 (L 17), .int .i64 (L 18), .int .i64 (L 19), .int .i64 (L 20), .int .i64 (L 21), .int .i64 (L 22), .int .i64 (L 23), .int .i64 (L 24)] 79)).alloc (Obj.cells #[.int .i64 0, .int .i64 0, .int .i64 0, .int .i64 0, .int .i64 0, .int .i64 0, .int .i64 0, .int .i64 0, .int .i64 0, .int .i64 0, .int .i64 0, .int .i64 0, .int .i64 0, .int .i64 0, .int .i64 0, .int .i64 0, .int .i64 0, .int .i64 0, .int .i64 0, .int .i64 0, .int .i64 0, .int .i64 0, .int .i64 0, .int .i64 0, .int .i64 0, .int .i64 0] 79)).alloc (Obj.cells #[.int .i64 0, .int .i64 0, .int .i64 0, .int .i64 0, .int .i64 0, .int .i64 0, .int .i64 0, .int .i64 0, .int .i64 0, .int .i64 0, .int .i64 0, .int .i64 0, .int .i64 0, .int .i64 0, .int .i64 0, .int .i64 0, .int .i64 0, .int .i64 0, .int .i64 0, .int .i64 0, .int .i64 0, .int .i64 0, .int .i64 0, .int .i64 0, .int .i64 0, .int .i64 0] 79)) = W at *
  have HTH : Hid (W.there (w.heap.size + 1 + 1) 0 (sqL n (fun _ => 0)).toArray.size) := Lib.hid HMI.there
  (refine wpList_store_mid rfl 79 _ _ rfl (w.heap.size + 1 + 1) 0 (sqL n (fun _ => 0)).toArray rfl rfl HTH.out (infoSq n (fun _ => 0)) (all_oneCell_toArray (sqL_one n (fun _ => 0))) ?_)
  have hb1 : Hid (Below w.heap.size w (W.setCells (w.heap.size + 1 + 1) 0 (sqL n (fun _ => 0)).toArray.toList)) := Lib.hid (below_setCells hb0 (by omega) _ _)
  have HS1 : Hid (Sqw (W.setCells (w.heap.size + 1 + 1) 0 (sqL n (fun _ => 0)).toArray.toList) w.heap.size ((n : Int) + 1) L) := Lib.hid (HSQ.others (by omega))
  have HR1 : Hid (Sqw (W.setCells (w.heap.size + 1 + 1) 0 (sqL n (fun _ => 0)).toArray.toList) (w.heap.size + 1) 0 (fun _ => 0)) := Lib.hid (HRE.others (by omega))
  have HM1 : Hid (Sqw (W.setCells (w.heap.size + 1 + 1) 0 (sqL n (fun _ => 0)).toArray.toList) (w.heap.size + 1 + 1) n (fun _ => 0)) := Lib.hid (by rw [List.toList_toArray]; exact HMI.whole)
  have hsz1 : w.heap.size + 1 + 1 < (W.setCells (w.heap.size + 1 + 1) 0 (sqL n (fun _ => 0)).toArray.toList).heap.size := World.block_lt_of_cell? _ _ HM1.out.1
  generalize W.setCells (w.heap.size + 1 + 1) 0 (sqL n (fun _ => 0)).toArray.toList = W1 at *
  refine wpList_nil ?_
  have hnc := HM1.out.1
  clear HSQ HRE HMI hb0 hsz HTH
  go_wp2_with fail
  go_loopw [13] (fun iv wr => ∃ (z : Int) (i : Nat), iv = .int .i64 z ∧ z = i ∧ i ≤ n ∧ Hid (Sqw wr w.heap.size ((n : Int) + 1) L) ∧ Hid (Sqw wr (w.heap.size + 1) 0 (fun _ => 0)) ∧ Hid (Sqw wr (w.heap.size + 1 + 1) n (minL k i L)) ∧ Hid (Below w.heap.size w wr) ∧ w.heap.size + 1 + 1 < wr.heap.size) (fun iv _ => n - (intOf iv).toNat)
  case atStart =>
    have h00 : minL k 0 L = fun _ => 0 := by funext j; unfold minL; rw [if_neg (by omega)]
    exact ⟨0, 0, rfl, by omega, by omega, HS1, HR1, by rw [h00]; exact HM1, hb1, hsz1⟩
  case round =>
    obtain ⟨z, i, rfl, hz, hi, HS, HR, HM, HB, hsw⟩ := hrel
    by_cases hlt : i < n
    · have hlt' : z < (n : Int) := by omega
      subst hz
      have i0 : (0 : Int) ≤ (i : Int) := by omega
      have i5 : (i : Int) < 5 := by omega
      have wz : wrap64 ((i : Int) + 1) = (i : Int) + 1 := by simp only [wrap64]; omega
      have j5 : (i : Int) + 1 < 5 := by omega
      have wy : IntKind.i64.wrap ((i : Int) + 1) = (i : Int) + 1 := IntWalk.i64_in _ (by omega)
      have wx : IntKind.i64.wrap ((k : Int) + 1) = (k : Int) + 1 := IntWalk.i64_in _ (by omega)
      have n5k : ¬ 5 = k := by omega
      have kq : (0 : Int) ≤ (k : Int) + 1 := by omega
      have ti : ((i : Int) + 1).toNat = i + 1 := by omega
      have tk : ((k : Int) + 1).toNat = k + 1 := by omega
      have j0 : (0 : Int) ≤ (i : Int) + 1 := by omega
      clear HS1 HR1 HM1 hb1 hsz1 hnc
      have HC1 := Lib.hid (copy_sq HM.out.drew HS.out.drew (m := i * 5) (s := (i + 1) * 5) (k := k) (dl := k) (dc := 5) (sl := k) (sc := 5) (by omega) (by omega) (Nat.min_self k).symm)
      have HM2 := Lib.hid (Sqw.putL (F := L) (s := (i + 1) * 5) (m := i * 5) k HM.out.drew (by omega))
      have HS2 := Lib.hid (Sqw.others (o := 1 + i * 5) (b := w.heap.size + 1 + 1) (vs := cutI L ((i + 1) * 5) k) HS.out.drew (by omega))
      have HR2 := Lib.hid (Sqw.others (o := 1 + i * 5) (b := w.heap.size + 1 + 1) (vs := cutI L ((i + 1) * 5) k) HR.out.drew (by omega))
      have HB2 := Lib.hid (below_setCells (m := w.heap.size + 1 + 1) HB.out.drew (by omega) (cutI L ((i + 1) * 5) k) (1 + i * 5))
      go_upto_region 5 with fail
      refine wp_region_held_drew (S := fun _ => True) (by kernel_rfl) trivial (fun hHeld => ?_)
      refine wpAnyH_take (i := 0) (oi := _) (v := ?_) rfl (by kernel_rfl) (by kernel_rfl) (by kernel_rfl) (fun _ _ _ h => h) (Or.inl ⟨by rfl, ?_⟩) (by assumption) ?_
      rotate_left
      · intro w hSw; go_simp; (try with_reducible rfl)
      try change wpAnyH _ _ _ _ _ _ _ (Act.put _ (some 16) _) _
      try simp only [act_all]
      refine wpAnyH_take (i := 1) (oi := _) (v := ?_) rfl (by kernel_rfl) (by kernel_rfl) (by kernel_rfl) (fun _ _ _ h => h) (Or.inl ⟨by rfl, ?_⟩) (by assumption) ?_
      rotate_left
      · intro w hSw; go_simp; (try with_reducible rfl)
      try change wpAnyH _ _ _ _ _ _ _ (Act.put _ (some 17) _) _
      try simp only [act_all]
      refine wpAnyH_take (i := 2) (oi := _) (v := ?_) rfl (by kernel_rfl) (by kernel_rfl) (by kernel_rfl) (fun _ _ _ h => h) (Or.inl ⟨by rfl, ?_⟩) (by assumption) ?_
      rotate_left
      · intro w hSw; go_simp; (try with_reducible rfl)
      try change wpAnyH _ _ _ _ _ _ _ (Act.put _ (some 18) _) _
      try simp only [act_all]
      refine wpAnyH_take (i := 3) (oi := _) (v := ?_) rfl (by kernel_rfl) (by kernel_rfl) (by kernel_rfl) (fun _ _ _ h => h) (Or.inl ⟨by rfl, ?_⟩) (by assumption) ?_
      rotate_left
      · intro w hSw; go_simp; (try with_reducible rfl)
      try change wpAnyH _ _ _ _ _ _ _ (Act.put _ (some 19) _) _
      try simp only [act_all]
      refine wpAnyH_take (i := 4) (oi := _) (v := ?_) rfl (by kernel_rfl) (by kernel_rfl) (by kernel_rfl) (fun _ _ _ h => h) (Or.inl ⟨by rfl, ?_⟩) (by assumption) ?_
      rotate_left
      · intro w hSw; go_simp; (try with_reducible rfl)
      try change wpAnyH _ _ _ _ _ _ _ (Act.put _ (some 20) _) _
      try simp only [act_all]
      refine wpAnyH_take (i := 5) (oi := _) (v := ?_) rfl (by kernel_rfl) (by kernel_rfl) (by kernel_rfl) (fun _ _ _ h => h) (Or.inl ⟨by rfl, ?_⟩) (by assumption) ?_
      rotate_left
      · intro w hSw; go_simp; (try with_reducible rfl)
      try change wpAnyH _ _ _ _ _ _ _ (Act.put _ (some 21) _) _
      try simp only [act_all]
      refine wpAnyH_take (i := 6) (oi := _) (v := ?_) rfl (by kernel_rfl) (by kernel_rfl) (by kernel_rfl) (fun _ _ _ h => h) (Or.inl ⟨by rfl, ?_⟩) (by assumption) ?_
      rotate_left
      · intro w hSw; go_simp; (try with_reducible rfl)
      try change wpAnyH _ _ _ _ _ _ _ (Act.put _ (some 22) _) _
      try simp only [act_all]
      refine wpAnyH_take (i := 7) (oi := _) (v := ?_) rfl (by kernel_rfl) (by kernel_rfl) (by kernel_rfl) (fun _ _ _ h => h) (Or.inl ⟨by rfl, ?_⟩) (by assumption) ?_
      rotate_left
      · intro w hSw; go_simp; (try with_reducible rfl)
      try change wpAnyH _ _ _ _ _ _ _ (Act.put _ (some 23) _) _
      try simp only [act_all]
      refine wpAnyH_take (i := 8) (oi := _) (v := ?_) rfl (by kernel_rfl) (by kernel_rfl) (by kernel_rfl) (fun _ _ _ h => h) (Or.inl ⟨by rfl, ?_⟩) (by assumption) ?_
      rotate_left
      · intro w hSw; go_simp; (try with_reducible rfl)
      try change wpAnyH _ _ _ _ _ _ _ (Act.put _ (some 24) _) _
      try simp only [act_all]
      refine wpAnyH_take (i := 9) (oi := _) (v := ?_) rfl (by kernel_rfl) (by kernel_rfl) (by kernel_rfl) (fun _ _ _ h => h) (Or.inl ⟨by rfl, ?_⟩) (by assumption) ?_
      rotate_left
      · intro w hSw; go_simp; (try with_reducible rfl)
      try change wpAnyH _ _ _ _ _ _ _ (Act.put _ (some 25) _) _
      try simp only [act_all]
      refine wpAnyH_take (i := 10) (oi := _) (v := ?_) rfl (by kernel_rfl) (by kernel_rfl) (by kernel_rfl) (fun _ _ _ h => h) (Or.inl ⟨by rfl, ?_⟩) (by assumption) ?_
      rotate_left
      · intro w hSw; go_simp; (try with_reducible rfl)
      try change wpAnyH _ _ _ _ _ _ _ (Act.put _ (some 26) _) _
      try simp only [act_all]
      refine wpAnyH_ready (rs := [11]) (by kernel_rfl) (by simp) ?_
      refine AllReadyH.cons (o := _) rfl (fun K hK => ?_) AllReadyH.nil
      have hcp := HC1.out
      go_simp
      refine hK.out _ _ trivial (fun hHeld => ?_)
      clear hK K hcp
      try simp only [act_all]
      refine wpAnyH_done (by kernel_rfl) ?_ _
      clear HS HR HM HB HC1
      generalize wr.drew.setCells (w.heap.size + 1 + 1) (1 + i * 5) (cutI L ((i + 1) * 5) k) = wv at *
      have HC2 : Hid ((Builtin.copy_ #[24, 24] 3 #[.slice (some ⟨w.heap.size + 1 + 1, 1 + i * 5 + k, none⟩) (5 - k) (5 - k), .slice (some (if k = 4 then ⟨w.heap.size, 1 + (i + 1) * 5, none⟩ else ⟨w.heap.size, 1 + (i + 1) * 5 + (k + 1), none⟩)) (4 - k) (4 - k)]).run Try.prog wv.drew = .ok (goInt (4 - k : Nat)) (wv.drew.setCells (w.heap.size + 1 + 1) (1 + i * 5 + k) (cutI L ((i + 1) * 5 + k + 1) (4 - k)))) := Lib.hid (by
        rw [show 1 + i * 5 + k = 1 + (i * 5 + k) by omega]
        by_cases h4 : k = 4
        · rw [if_pos h4, show 4 - k = 0 by omega]
          exact copy_sq HM2.out.drew HS2.out.drew (m := i * 5 + k) (s := (i + 1) * 5) (k := 0) (dl := 5 - k) (dc := 5 - k) (sl := 0) (sc := 0) (by omega) (by omega) (Nat.zero_min _).symm
        · rw [if_neg h4, show 1 + (i + 1) * 5 + (k + 1) = 1 + ((i + 1) * 5 + k + 1) by omega]
          exact copy_sq HM2.out.drew HS2.out.drew (m := i * 5 + k) (s := (i + 1) * 5 + k + 1) (k := 4 - k) (dl := 5 - k) (dc := 5 - k) (sl := 4 - k) (sc := 4 - k) (by omega) (by omega) (Nat.min_eq_left (by omega)).symm)
      have HM3 : Hid (Sqw (wv.drew.setCells (w.heap.size + 1 + 1) (1 + i * 5 + k) (cutI L ((i + 1) * 5 + k + 1) (4 - k))) (w.heap.size + 1 + 1) n (minL k (i + 1) L)) := Lib.hid (by
        have h := Sqw.putL (F := L) (s := (i + 1) * 5 + k + 1) (m := i * 5 + k) (4 - k) HM2.out.drew (by omega)
        rw [minL_next hk, ← Nat.add_assoc] at h
        exact h)
      have HS3 := Lib.hid (Sqw.others (o := 1 + i * 5 + k) (b := w.heap.size + 1 + 1) (vs := cutI L ((i + 1) * 5 + k + 1) (4 - k)) HS2.out.drew (by omega))
      have HR3 := Lib.hid (Sqw.others (o := 1 + i * 5 + k) (b := w.heap.size + 1 + 1) (vs := cutI L ((i + 1) * 5 + k + 1) (4 - k)) HR2.out.drew (by omega))
      have HB3 := Lib.hid (below_setCells (m := w.heap.size + 1 + 1) HB2.out.drew (by omega) (cutI L ((i + 1) * 5 + k + 1) (4 - k)) (1 + i * 5 + k))
      clear HM2 HS2 HR2 HB2
      go_upto_region 6 with fail
      refine wp_region_held_drew (S := fun _ => True) (by kernel_rfl) trivial (fun hHeld => ?_)
      refine wpAnyH_take (i := 0) (oi := _) (v := ?_) rfl (by kernel_rfl) (by kernel_rfl) (by kernel_rfl) (fun _ _ _ h => h) (Or.inl ⟨by rfl, ?_⟩) (by assumption) ?_
      rotate_left
      · intro w hSw; go_simp; (try with_reducible rfl)
      try change wpAnyH _ _ _ _ _ _ _ (Act.put _ (some 28) _) _
      try simp only [act_all]
      refine wpAnyH_take (i := 1) (oi := _) (v := ?_) rfl (by kernel_rfl) (by kernel_rfl) (by kernel_rfl) (fun _ _ _ h => h) (Or.inl ⟨by rfl, ?_⟩) (by assumption) ?_
      rotate_left
      · intro w hSw; go_simp; (try with_reducible rfl)
      try change wpAnyH _ _ _ _ _ _ _ (Act.put _ (some 29) _) _
      try simp only [act_all]
      refine wpAnyH_take (i := 2) (oi := _) (v := ?_) rfl (by kernel_rfl) (by kernel_rfl) (by kernel_rfl) (fun _ _ _ h => h) (Or.inl ⟨by rfl, ?_⟩) (by assumption) ?_
      rotate_left
      · intro w hSw; go_simp; (try with_reducible rfl)
      try change wpAnyH _ _ _ _ _ _ _ (Act.put _ (some 30) _) _
      try simp only [act_all]
      refine wpAnyH_take (i := 3) (oi := _) (v := ?_) rfl (by kernel_rfl) (by kernel_rfl) (by kernel_rfl) (fun _ _ _ h => h) (Or.inl ⟨by rfl, ?_⟩) (by assumption) ?_
      rotate_left
      · intro w hSw; go_simp; (try with_reducible rfl)
      try change wpAnyH _ _ _ _ _ _ _ (Act.put _ (some 31) _) _
      try simp only [act_all]
      refine wpAnyH_take (i := 4) (oi := _) (v := ?_) rfl (by kernel_rfl) (by kernel_rfl) (by kernel_rfl) (fun _ _ _ h => h) (Or.inl ⟨by rfl, ?_⟩) (by assumption) ?_
      rotate_left
      · intro w hSw; go_simp; (try with_reducible rfl)
      try change wpAnyH _ _ _ _ _ _ _ (Act.put _ (some 32) _) _
      try simp only [act_all]
      refine wpAnyH_take (i := 5) (oi := _) (v := ?_) rfl (by kernel_rfl) (by kernel_rfl) (by kernel_rfl) (fun _ _ _ h => h) (Or.inl ⟨by rfl, ?_⟩) (by assumption) ?_
      rotate_left
      · intro w hSw; go_simp; (try with_reducible rfl)
      try change wpAnyH _ _ _ _ _ _ _ (Act.put _ (some 33) _) _
      try simp only [act_all]
      refine wpAnyH_take (i := 6) (oi := _) (v := ?_) rfl (by kernel_rfl) (by kernel_rfl) (by kernel_rfl) (fun _ _ _ h => h) (Or.inl ⟨by rfl, ?_⟩) (by assumption) ?_
      rotate_left
      · intro w hSw; go_simp; (try with_reducible rfl)
      try change wpAnyH _ _ _ _ _ _ _ (Act.put _ (some 34) _) _
      try simp only [act_all]
      refine wpAnyH_take (i := 7) (oi := _) (v := ?_) rfl (by kernel_rfl) (by kernel_rfl) (by kernel_rfl) (fun _ _ _ h => h) (Or.inl ⟨by rfl, ?_⟩) (by assumption) ?_
      rotate_left
      · intro w hSw; go_simp; (try with_reducible rfl)
      try change wpAnyH _ _ _ _ _ _ _ (Act.put _ (some 35) _) _
      try simp only [act_all]
      refine wpAnyH_take (i := 8) (oi := _) (v := ?_) rfl (by kernel_rfl) (by kernel_rfl) (by kernel_rfl) (fun _ _ _ h => h) (Or.inl ⟨by rfl, ?_⟩) (by assumption) ?_
      rotate_left
      · intro w hSw; go_simp; (try with_reducible rfl)
      try change wpAnyH _ _ _ _ _ _ _ (Act.put _ (some 36) _) _
      try simp only [act_all]
      refine wpAnyH_take (i := 9) (oi := _) (v := ?_) rfl (by kernel_rfl) (by kernel_rfl) (by kernel_rfl) (fun _ _ _ h => h) (Or.inl ⟨by rfl, ?_⟩) (by assumption) ?_
      rotate_left
      · intro w hSw; go_simp; (try with_reducible rfl)
      try change wpAnyH _ _ _ _ _ _ _ (Act.put _ (some 37) _) _
      try simp only [act_all]
      refine wpAnyH_take (i := 10) (oi := _) (v := ?_) rfl (by kernel_rfl) (by kernel_rfl) (by kernel_rfl) (fun _ _ _ h => h) (Or.inl ⟨by rfl, ?_⟩) (by assumption) ?_
      rotate_left
      · intro w hSw; go_simp; (try with_reducible rfl)
      try change wpAnyH _ _ _ _ _ _ _ (Act.put _ (some 38) _) _
      try simp only [act_all]
      refine wpAnyH_take (i := 11) (oi := _) (v := ?_) rfl (by kernel_rfl) (by kernel_rfl) (by kernel_rfl) (fun _ _ _ h => h) (Or.inl ⟨by rfl, ?_⟩) (by assumption) ?_
      rotate_left
      · intro w hSw; go_simp; (try with_reducible rfl)
      try change wpAnyH _ _ _ _ _ _ _ (Act.put _ (some 39) _) _
      try simp only [act_all]
      refine wpAnyH_ready (rs := [12]) (by kernel_rfl) (by simp) ?_
      refine AllReadyH.cons (o := _) rfl (fun K hK => ?_) AllReadyH.nil
      have hcp := HC2.out
      go_simp
      refine hK.out _ _ trivial (fun hHeld => ?_)
      clear hK K hcp
      try simp only [act_all]
      refine wpAnyH_done (by kernel_rfl) ?_ _
      clear HC2
      generalize wv.drew.setCells (w.heap.size + 1 + 1) (1 + i * 5 + k) (cutI L ((i + 1) * 5 + k + 1) (4 - k)) = wu at *
      have hsu : w.heap.size + 1 + 1 < wu.heap.size := World.block_lt_of_cell? _ _ HM3.out.1
      go_wp2_with fail
      go_roundw
      case rel => exact ⟨(i : Int) + 1, i + 1, by first | rfl | rw [wz], by omega, by omega, HS3, HR3, HM3, HB3, hsu⟩
      case measure => first | (simp [intOf]; done) | (simp [intOf]; omega)
    · obtain rfl : i = n := by omega
      have HRG := Lib.hid HM.out.range
      have hthere := HR.out.there
      have HW : (wr.setCells (w.heap.size + 1) 0 (sqL i (minL k i L)).toArray.toList).rangeAt (w.heap.size + 1) 0 (sqL i (minL k i L)) := World.rangeAt_setCells_same wr (w.heap.size + 1) 0 (sqL i (minL k i L)) hthere
      have HBW : Below w.heap.size w (wr.setCells (w.heap.size + 1) 0 (sqL i (minL k i L)).toArray.toList) := below_setCells HB.out (by omega) _ _
      have HTH : Hid (wr.there (w.heap.size + 1) 0 (sqL i (minL k i L)).toArray.size) := Lib.hid hthere
      clear hthere HS HR HM HB
      go_upto_region 8 with fail
      refine wp_region_lit ?_
      (refine wpList_load_mid rfl 79 _ rfl (w.heap.size + 1 + 1) 0 rfl (sqL i (minL k i L)) _ HRG.out Try.underlying79 rfl (infoSq i (minL k i L)) ?_)
      (refine wpList_store_mid rfl 79 _ _ rfl (w.heap.size + 1) 0 (sqL i (minL k i L)).toArray rfl rfl HTH.out (infoSq i (minL k i L)) (all_oneCell_toArray (sqL_one i (minL k i L))) ?_)
      generalize wr.setCells (w.heap.size + 1) 0 (sqL i (minL k i L)).toArray.toList = wz at *
      have HW := Lib.hid HW
      refine wpList_nil ?_
      go_wp2_with fail
      refine bodyPost_ret (v := .agg (sqL i (minL k i L)).toArray) (results_cell_mid rfl _ _ (w.heap.size + 1) 0 _ _ rfl HW.out Try.underlying79 rfl (infoSq i (minL k i L))) rfl ⟨rfl, HBW⟩
end Go.Proofs.Ytdhlikedjephmaa
