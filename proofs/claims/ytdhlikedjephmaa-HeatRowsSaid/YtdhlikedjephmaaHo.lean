import Derived.Test.YtdhlikedjephmaaHn
namespace Heat
open Go Go.RowKit
def sgnK (k : Nat) : Int := if k % 2 = 0 then 1 else -1
theorem sgnK_next (k : Nat) : sgnK (k + 1) = - sgnK k := by
  unfold sgnK
  by_cases h : k % 2 = 0
  · rw [if_pos h, if_neg (by omega)]
  · rw [if_neg h, if_pos (by omega)]; rfl
theorem sgnK_or (k : Nat) : sgnK k = 1 ∨ sgnK k = -1 := by
  unfold sgnK
  by_cases h : k % 2 = 0
  · exact .inl (if_pos h)
  · exact .inr (if_neg h)
/-- The determinant by the first row, in words of 64 bits: d k is that of the k-th minor. -/
def detU (d : Nat → Int) (L : Nat → Int) : Nat → Int
  | 0 => 0
  | k + 1 => wrap64 (detU d L k + wrap64 (wrap64 (sgnK k * L k) * d k))
def detN : Nat → (Nat → Int) → Int
  | 0, _ => 1
  | n + 1, L => detU (fun k => detN n (minL k n L)) L (n + 1)
end Heat
namespace Go.Proofs.Ytdhlikedjephmaa
open Go.RowKit Heat
set_option maxRecDepth 100000 in
set_option maxHeartbeats 8000000 in
theorem det_zero (L : Nat → Int) (w : World) :
    Calls Try.prog 67 #[sqV 0 L] w fun e w' => e = .returned (.int .i64 1) ∧ Below w.heap.size w w' := by
  unfold sqV
  go_enter Try.func67, Try.ntmps67
  go_wp2_with fail
  go_returns
  exact ⟨rfl, by go_grown⟩
set_option maxRecDepth 100000 in
set_option maxHeartbeats 8000000 in
theorem det_next (n : Nat) (hn : n < 5) (IH : ∀ (L : Nat → Int) (w : World), Calls Try.prog 67 #[sqV n L] w fun e w' => e = .returned (.int .i64 (detN n L)) ∧ Below w.heap.size w w') (L : Nat → Int) (w : World) :
    Calls Try.prog 67 #[sqV ((n : Int) + 1) L] w fun e w' => e = .returned (.int .i64 (detN (n + 1) L)) ∧ Below w.heap.size w w' := by
  have HIH := Lib.hid IH
  clear IH
  obtain ⟨d, hd⟩ : ∃ d : Nat → Int, (fun k => detN n (minL k n L)) = d := ⟨_, rfl⟩
  have HDK : Hid (∀ k, detN n (minL k n L) = d k) := Lib.hid (fun k => by rw [← hd])
  obtain ⟨r, hr⟩ : ∃ r, detN (n + 1) L = r := ⟨_, rfl⟩
  have HR : Hid (detU d L (n + 1) = r) := Lib.hid (by rw [← hr, ← hd]; rfl)
  rw [hr]
  clear hd hr
  have n0 : ((n : Int) + 1 == 0) = false := by rw [beq_eq_false_iff_ne]; omega
  have HQ : Hid (Sqw (w.alloc (Obj.cells #[.int .i64 ((n : Int) + 1), .int .i64 (L 0), .int .i64 (L 1), .int .i64 (L 2), .int .i64 (L 3), .int .i64 (L 4), .int .i64 (L 5), .int .i64 (L 6), .int .i64 (L 7), .int .i64 (L 8), .int .i64 (L 9), .int .i64 (L 10), .int .i64 (L 11), .int .i64 (L 12), .int .i64 (L 13), .int .i64 (L 14), .int .i64 (L 15), .int .i64 (L 16), .int .i64 (L 17), .int .i64 (L 18), .int .i64 (L 19), .int .i64 (L 20), .int .i64 (L 21), .int .i64 (L 22), .int .i64 (L 23), .int .i64 (L 24)] 79)) w.heap.size ((n : Int) + 1) L) := Lib.hid (Sqw.fresh (by refine ⟨?_, ?_, ?_, ?_, ?_, ?_, ?_, ?_, ?_, ?_, ?_, ?_, ?_, ?_, ?_, ?_, ?_, ?_, ?_, ?_, ?_, ?_, ?_, ?_, ?_, ?_⟩ <;> go_cell) (by refine ⟨?_, ?_, ?_, ?_, ?_, ?_, ?_, ?_, ?_, ?_, ?_, ?_, ?_, ?_, ?_, ?_, ?_, ?_, ?_, ?_, ?_, ?_, ?_, ?_, ?_, ?_⟩ <;> go_cell))
  unfold sqV
  go_enter Try.func67, Try.ntmps67
  have hc0 := HQ.out.1
  go_upto_region 4 with fail
  have hb0 : Below w.heap.size w (w.alloc (Obj.cells #[.int .i64 ((n : Int) + 1), .int .i64 (L 0), .int .i64 (L 1), .int .i64 (L 2), .int .i64 (L 3), .int .i64 (L 4), .int .i64 (L 5), .int .i64 (L 6), .int .i64 (L 7), .int .i64 (L 8), .int .i64 (L 9), .int .i64 (L 10), .int .i64 (L 11), .int .i64 (L 12), .int .i64 (L 13), .int .i64 (L 14), .int .i64 (L 15), .int .i64 (L 16), .int .i64 (L 17), .int .i64 (L 18), .int .i64 (L 19), .int .i64 (L 20), .int .i64 (L 21), .int .i64 (L 22), .int .i64 (L 23), .int .i64 (L 24)] 79)) := by go_grown
  have hsz : w.heap.size < (w.alloc (Obj.cells #[.int .i64 ((n : Int) + 1), .int .i64 (L 0), .int .i64 (L 1), .int .i64 (L 2), .int .i64 (L 3), .int .i64 (L 4), .int .i64 (L 5), .int .i64 (L 6), .int .i64 (L 7), .int .i64 (L 8), .int .i64 (L 9), .int .i64 (L 10), .int .i64 (L 11), .int .i64 (L 12), .int .i64 (L 13), .int .i64 (L 14), .int .i64 (L 15), .int .i64 (L 16), .int .i64 (L 17), .int .i64 (L 18), .int .i64 (L 19), .int .i64 (L 20), .int .i64 (L 21), .int .i64 (L 22), .int .i64 (L 23), .int .i64 (L 24)] 79)).heap.size := by simp
  generalize (w.alloc (Obj.cells #[.int .i64 ((n : Int) + 1), .int .i64 (L 0), .int .i64 (L 1), .int .i64 (L 2), .int .i64 (L 3), .int .i64 (L 4), .int .i64 (L 5), .int .i64 (L 6), .int .i64 (L 7), .int .i64 (L 8), .int .i64 (L 9), .int .i64 (L 10), .int .i64 (L 11), .int .i64 (L 12), .int .i64 (L 13), .int .i64 (L 14), .int .i64 (L 15), .int .i64 (L 16), .int .i64 (L 17), .int .i64 (L 18), .int .i64 (L 19), .int .i64 (L 20), .int .i64 (L 21), .int .i64 (L 22), .int .i64 (L 23), .int .i64 (L 24)] 79)) = W at *
  have HB0 := Lib.hid hb0
  clear hb0
  go_wp2_with fail
  go_loopw [3, 4, 11] (fun tv sv iv wr => ∃ (t sg z : Int) (i : Nat), tv = .int .i64 t ∧ sv = .int .i64 sg ∧ iv = .int .i64 z ∧ z = i ∧ i ≤ n + 1 ∧ Hid (t = detU d L i) ∧ Hid (sg = sgnK i) ∧ Hid (Sqw wr w.heap.size ((n : Int) + 1) L) ∧ Hid (Below w.heap.size w wr) ∧ w.heap.size < wr.heap.size) (fun _ _ iv _ => n + 1 - (intOf iv).toNat)
  case atStart => exact ⟨0, 1, 0, 0, rfl, rfl, rfl, rfl, by omega, Lib.hid rfl, Lib.hid rfl, HQ, HB0, hsz⟩
  case round =>
    obtain ⟨t, sg, z, i, rfl, rfl, rfl, hz, hi, HT, HS, HM, HB, hsw⟩ := hrel
    by_cases hlt : i < n + 1
    · have hlt' : z < (n : Int) + 1 := by omega
      subst hz
      have i0 : (0 : Int) ≤ (i : Int) := by omega
      have i5 : (i : Int) < 5 := by omega
      have wz : wrap64 ((i : Int) + 1) = (i : Int) + 1 := by simp only [wrap64]; omega
      have wy : IntKind.i64.wrap ((i : Int) + 1) = (i : Int) + 1 := IntWalk.i64_in _ (by omega)
      have wg : wrap64 (-sg) = -sg := by have := HS.out; rcases sgnK_or i with h | h <;> rw [this, h] <;> simp only [wrap64] <;> omega
      clear HQ HB0 hsz hc0
      go_upto_region 7 with fail
      have HMK : Hid (∀ w', Below wr.heap.size wr w' → Sqw w' w.heap.size ((n : Int) + 1) L) := Lib.hid (fun w' hb => HM.out.keep hb)
      refine wp_region_held_drew (S := fun w' => Sqw w' w.heap.size ((n : Int) + 1) L) (by kernel_rfl) (HM.out.drew) (fun hHeld => ?_)
      refine wpAnyH_take (i := 0) (oi := _) (v := ?_) rfl (by kernel_rfl) (by kernel_rfl) (by kernel_rfl) (fun _ _ _ h => h) (Or.inl ⟨by rfl, ?_⟩) (by assumption) ?_
      rotate_left
      · intro w hSw; go_simp; (try with_reducible rfl)
      try change wpAnyH _ _ _ _ _ _ _ (Act.put _ (some 14) _) _
      try simp only [act_all]
      refine wpAnyH_take (i := 1) (oi := _) (v := ?_) rfl (by kernel_rfl) (by kernel_rfl) (by kernel_rfl) (fun _ _ _ h => h) (Or.inl ⟨by rfl, ?_⟩) (by assumption) ?_
      rotate_left
      · intro w hSw; go_simp; (try with_reducible rfl)
      try change wpAnyH _ _ _ _ _ _ _ (Act.put _ (some 15) _) _
      try simp only [act_all]
      refine wpAnyH_take (i := 2) (oi := _) (v := ?_) rfl (by kernel_rfl) (by kernel_rfl) (by kernel_rfl) (fun _ _ _ h => h) (Or.inl ⟨by rfl, ?_⟩) (by assumption) ?_
      rotate_left
      · intro w hSw; go_simp; (try with_reducible rfl)
      try change wpAnyH _ _ _ _ _ _ _ (Act.put _ (some 16) _) _
      try simp only [act_all]
      refine wpAnyH_take (i := 3) (oi := _) (v := ?_) rfl (by kernel_rfl) (by kernel_rfl) (by kernel_rfl) (fun _ _ _ h => h) (Or.inl ⟨by rfl, ?_⟩) (by assumption) ?_
      rotate_left
      · intro w hSw; go_simp; (try with_reducible rfl)
      try change wpAnyH _ _ _ _ _ _ _ (Act.put _ (some 17) _) _
      try simp only [act_all]
      refine wpAnyH_take (i := 4) (oi := _) (v := ?_) rfl (by kernel_rfl) (by kernel_rfl) (by kernel_rfl) (fun _ _ _ h => h) (Or.inl ⟨by rfl, ?_⟩) (by assumption) ?_
      rotate_left
      · intro w hSw; go_simp; (try with_reducible rfl)
      try change wpAnyH _ _ _ _ _ _ _ (Act.put _ (some 18) _) _
      try simp only [act_all]
      refine wpAnyH_take (i := 5) (oi := _) (v := ?_) rfl (by kernel_rfl) (by kernel_rfl) (by kernel_rfl) (fun _ _ _ h => h) (Or.inl ⟨by rfl, ?_⟩) (by assumption) ?_
      rotate_left
      · intro w hSw; go_simp; (try with_reducible rfl)
      try change wpAnyH _ _ _ _ _ _ _ (Act.put _ (some 19) _) _
      try simp only [act_all]
      refine wpAnyH_take (i := 6) (oi := _) (v := ?_) rfl (by kernel_rfl) (by kernel_rfl) (by kernel_rfl) (fun _ _ _ h => h) (Or.inl ⟨by rfl, ?_⟩) (by assumption) ?_
      rotate_left
      · intro w hSw; obtain ⟨hcc, _⟩ := hSw.2.2 i (by omega); clear hSw; go_simp; (try with_reducible rfl)
      try change wpAnyH _ _ _ _ _ _ _ (Act.put _ (some 20) _) _
      try simp only [act_all]
      refine wpAnyH_take (i := 7) (oi := _) (v := ?_) rfl (by kernel_rfl) (by kernel_rfl) (by kernel_rfl) (fun _ _ _ h => h) (Or.inl ⟨by rfl, ?_⟩) (by assumption) ?_
      rotate_left
      · intro w hSw; go_simp; (try with_reducible rfl)
      try change wpAnyH _ _ _ _ _ _ _ (Act.put _ (some 21) _) _
      try simp only [act_all]
      refine wpAnyH_take (i := 8) (oi := _) (v := _) rfl (by kernel_rfl) (by kernel_rfl) (by kernel_rfl) (fun _ _ _ h => h) (yieldsIf_load_mid (by rfl) 79 _ rfl w.heap.size 0 rfl (sqL ((n : Int) + 1) L) _ (fun _ h => Sqw.range h) Try.underlying79 rfl (infoSq _ L)) (by assumption) ?_
      try change wpAnyH _ _ _ _ _ _ _ (Act.put _ (some 22) _) _
      try simp only [act_all]
      refine wpAnyH_take (i := 9) (oi := _) (v := ?_) rfl (by kernel_rfl) (by kernel_rfl) (by kernel_rfl) (fun _ _ _ h => h) (Or.inl ⟨by rfl, ?_⟩) (by assumption) ?_
      rotate_left
      · intro w hSw; go_simp; (try with_reducible rfl)
      try change wpAnyH _ _ _ _ _ _ _ (Act.put _ (some 23) _) _
      try simp only [act_all]
      refine wpAnyH_ready (rs := [10]) (by kernel_rfl) (by simp) ?_
      refine AllReadyH.cons (o := _) rfl (fun K hK => ?_) AllReadyH.nil
      go_simp
      refine (minor_any n i L _ (by omega) (by omega)).mono ?_
      rintro e w1 ⟨rfl, hb⟩
      have D1 : Below wr.heap.size wr w1 := (Below.refl _ _).drew.trans hb
      clear hb
      refine hK.out _ _ (HMK.out _ D1) (fun hHeld => ?_)
      clear hK K
      try simp only [act_all]
      refine wpAnyH_ready (rs := [11]) (by kernel_rfl) (by simp) ?_
      refine AllReadyH.cons (o := _) rfl (fun K hK => ?_) AllReadyH.nil
      go_simp
      refine (HIH.out (minL i n L) _).mono ?_
      rintro e w2 ⟨rfl, hb⟩
      rw [HDK.out i]
      have D2 : Below wr.heap.size wr w2 := D1.trans (hb.mono D1.size)
      clear hb D1
      refine hK.out _ _ (HMK.out _ D2) (fun hHeld => ?_)
      clear hK K
      try simp only [act_all]
      refine wpAnyH_take (i := 12) (oi := _) (v := ?_) rfl (by kernel_rfl) (by kernel_rfl) (by kernel_rfl) (fun _ _ _ h => h) (Or.inl ⟨by rfl, ?_⟩) (by assumption) ?_
      rotate_left
      · intro w hSw; go_simp; (try with_reducible rfl)
      try change wpAnyH _ _ _ _ _ _ _ (Act.put _ (some 26) _) _
      try simp only [act_all]
      refine wpAnyH_take (i := 13) (oi := _) (v := ?_) rfl (by kernel_rfl) (by kernel_rfl) (by kernel_rfl) (fun _ _ _ h => h) (Or.inl ⟨by rfl, ?_⟩) (by assumption) ?_
      rotate_left
      · intro w hSw; go_simp; (try with_reducible rfl)
      try change wpAnyH _ _ _ _ _ _ _ (Act.put _ (some 27) _) _
      try simp only [act_all]
      refine wpAnyH_take (i := 14) (oi := _) (v := ?_) rfl (by kernel_rfl) (by kernel_rfl) (by kernel_rfl) (fun _ _ _ h => h) (Or.inl ⟨by rfl, ?_⟩) (by assumption) ?_
      rotate_left
      · intro w hSw; go_simp; (try with_reducible rfl)
      try change wpAnyH _ _ _ _ _ _ _ (Act.put _ (some 3) _) _
      try simp only [act_all]
      refine wpAnyH_done (by kernel_rfl) ?_ _
      have hs2 : w.heap.size < w2.heap.size := by have := D2.size; omega
      have HB2 : Hid (Below w.heap.size w w2) := Lib.hid (HB.out.trans (D2.mono (by omega)))
      have HM2 := Lib.hid (HMK.out _ D2)
      clear HM HB HMK D2
      go_wp2_with fail
      go_roundw
      case rel => exact ⟨_, -sg, (i : Int) + 1, i + 1, rfl, by first | rfl | rw [wg], by first | rfl | rw [wz], by omega, by omega, Lib.hid (by rw [HT.out, HS.out]; simp only [IntWalk.i64_left]; rfl), Lib.hid (by rw [HS.out, sgnK_next]), HM2, HB2, hs2⟩
      case measure => first | (simp [intOf]; done) | (simp [intOf]; omega)
    · obtain rfl : i = n + 1 := by omega
      have HTR : Hid (t = r) := Lib.hid (HT.out.trans HR.out)
      have hbl := HB.out
      go_wp2_with fail
      go_returns
      exact ⟨by rw [HTR.out]; rfl, by go_grown⟩
theorem det_any : ∀ (n : Nat) (L : Nat → Int) (w : World), n ≤ 5 → Calls Try.prog 67 #[sqV n L] w fun e w' => e = .returned (.int .i64 (detN n L)) ∧ Below w.heap.size w w'
  | 0, L, w, _ => det_zero L w
  | n + 1, L, w, h => det_next n (by omega) (fun L w => det_any n L w (by omega)) L w
end Go.Proofs.Ytdhlikedjephmaa
