import Derived.Test.YtkkcnhhfdicppaaRc7
import Derived.Test.YtkkcnhhfdicppaaPc7
namespace Go.Proofs.Ytkkcnhhfdicppaa
open Go.RowKit Lay
theorem XYs.pre {w : World} {b o n k : Nat} {X Y : Nat → Int} (h : ∀ i, i < n → XyAt w b (o + i * 2) (X i) (Y i)) (hk : k ≤ n) : XYs w (some ⟨b, o, none⟩) k X Y := fun _ => ⟨b, o, rfl, fun i hi => h i (by omega)⟩
set_option maxRecDepth 100000 in
set_option maxHeartbeats 32000000 in
theorem rcheck_any (W H M B : Int) (nb cb n cp : Nat) (ao ap : Option Addr) (XB YB X Y : Nat → Int) (w : World) (hn : nb ≤ 9223372036854775807) (hc : XYs w ao nb XB YB) (hnp : n ≤ 1000000) (hcp : n ≤ cp) (hp : XYs w ap n X Y) (hr : R2 X Y n) :
    Calls Try.prog 65 #[.agg #[.int .i64 W, .int .i64 H, .int .i64 M, .int .i64 B, .slice ao nb cb], .slice ap n cp] w fun e w' => e = .returned (.int .i64 (chE W H (blkN XB YB nb) X Y n)) ∧ Below w.heap.size w w' := by
  have HC := Lib.hid hc
  have HP := Lib.hid hp
  have HRR := Lib.hid hr
  clear hc hp hr
  by_cases h1 : 1 ≤ n
  case neg =>
    have HR : Hid (chE W H (blkN XB YB nb) X Y n = 71) := Lib.hid (by unfold chE paB; rw [decide_eq_false (by omega)]; rfl)
    have h2 : (n : Int) < 1 := by omega
    go_enter Try.func65, Try.ntmps65
    go_wp2_with fail
    refine bodyPost_ret (v := .int .i64 71) (by simp [results, Try.results65, go_sem]) rfl ⟨by rw [HR.out], by go_grown⟩
  by_cases h9 : n ≤ 1000
  case neg =>
    have HR : Hid (chE W H (blkN XB YB nb) X Y n = 71) := Lib.hid (by unfold chE paB; rw [decide_eq_false (by omega)]; rfl)
    have h2 : ¬ (n : Int) < 1 := by omega
    have h3 : (1000 : Int) < n := by omega
    go_enter Try.func65, Try.ntmps65
    go_wp2_with fail
    refine bodyPost_ret (v := .int .i64 71) (by simp [results, Try.results65, go_sem]) rfl ⟨by rw [HR.out], by go_grown⟩
  have h2 : ¬ (n : Int) < 1 := by omega
  have h3 : ¬ (1000 : Int) < n := by omega
  obtain ⟨b, o, rfl, hcell⟩ := HP.out (by omega)
  have HCL := Lib.hid hcell
  clear hcell
  go_enter Try.func65, Try.ntmps65
  go_wp2_with fail
  go_loopw [19] (fun iv wr => ∃ k : Nat, iv = .int .i64 k ∧ k ≤ n ∧ Hid (repN X Y k = false ∧ ∀ j, j + 1 < k → wyN X Y j ≠ -1) ∧ Hid (wr.heap[w.heap.size]? = some (.cells #[.int .i64 W, .int .i64 H, .int .i64 M, .int .i64 B, .slice ao nb cb] 24 (0, 0))) ∧ Hid (Below w.heap.size w wr) ∧ w.heap.size < wr.heap.size) (fun iv _ => n - (intOf iv).toNat)
  case atStart => exact ⟨0, rfl, Nat.zero_le _, Lib.hid ⟨rfl, fun j hj => by omega⟩, Lib.hid (heap_alloc_new w _), Lib.hid (by go_grown), by simp⟩
  case round =>
    obtain ⟨k, rfl, hk, HS, KG, HB, hz⟩ := hrel
    by_cases hlt : k < n
    case pos =>
      obtain ⟨c0, c1⟩ := (HCL.out k hlt).keep HB.out
      obtain ⟨hx0, hy0⟩ := HRR.out k hlt
      obtain ⟨x, hx⟩ : ∃ z, X k = z := ⟨_, rfl⟩
      obtain ⟨y, hy⟩ : ∃ z, Y k = z := ⟨_, rfl⟩
      rw [hx] at c0 hx0
      rw [hy] at c1 hy0
      have HXY := Lib.hid (And.intro hx hy)
      clear hx hy
      obtain ⟨w2, hw2⟩ : ∃ z, z = wr.alloc (.cells #[.int .i64 x, .int .i64 y] 26) := ⟨_, rfl⟩
      obtain ⟨b6, hb6⟩ : ∃ z, z = wr.heap.size := ⟨_, rfl⟩
      have hc12 : Below wr.heap.size wr w2 := by rw [hw2]; exact bal (Below.refl _ _) _
      have K62 : Hid (w2.heap[b6]? = some (.cells #[.int .i64 x, .int .i64 y] 26 (0, 0))) := Lib.hid (by rw [hw2, hb6]; exact heap_alloc_new wr _)
      have KG2 : Hid (w2.heap[w.heap.size]? = some (.cells #[.int .i64 W, .int .i64 H, .int .i64 M, .int .i64 B, .slice ao nb cb] 24 (0, 0))) := Lib.hid ((hc12.block _ hz).trans KG.out)
      have HB2 : Hid (Below w.heap.size w w2) := Lib.hid (HB.out.trans (hc12.mono HB.out.size))
      have hz2 : w.heap.size < w2.heap.size ∧ b6 < w2.heap.size := by have := hc12.size; exact ⟨by omega, by rw [hw2, hb6]; simp⟩
      have HW2 := Lib.hid (And.intro hw2 hb6)
      clear hc12 hw2 hb6 KG HB hz
      have hkc : k ≤ cp := by omega
      have hkc' : (k : Int) ≤ cp := by omega
      have hk0 : (0 : Int) ≤ k := by omega
      go_upto_region 6 with fail
      rw [← HW2.out.1]
      try rw [← HW2.out.2]
      clear HW2 c0 c1
      have HPRE : Hid (∀ w' : World, Below w2.heap.size w2 w' → XYs w' (some ⟨b, o, none⟩) k X Y) := Lib.hid (fun w' hb => XYs.pre (fun i hi => (HCL.out i hi).keep (HB2.out.trans (hb.mono HB2.out.size))) hk)
      have HQ0 : Below w2.heap.size w2 w2.drew := (Below.refl _ _).drew
      obtain ⟨hs, hhs⟩ : ∃ z, blkN X Y k x y = z := ⟨_, rfl⟩
      have HHS := Lib.hid hhs
      clear hhs
      cases hs with
      | true =>
        have HR : Hid (chE W H (blkN XB YB nb) X Y n = 71) := Lib.hid (by
          unfold chE
          rw [if_neg]
          intro hp
          obtain ⟨i, hi, e1, e2⟩ := blkN_iff.1 HHS.out
          exact (paB_iff.1 hp).2.1 i k hi hlt ⟨by rw [HXY.out.1]; exact e1, by rw [HXY.out.2]; exact e2⟩)
        have G0 : Hid (∀ w' : World, Below w2.heap.size w2 w' → w'.heap[b6]? = some (.cells #[.int .i64 x, .int .i64 y] 26 (0, 0))) := Lib.hid (fun w' hb => (hb.block _ hz2.2).trans K62.out)
        refine wp_region_held_drew (S := fun w' => w'.heap[b6]? = some (.cells #[.int .i64 x, .int .i64 y] 26 (0, 0))) (by kernel_rfl) (G0.out _ HQ0) (fun hHeld => ?_)
        refine wpAnyH_take (i := 0) (oi := _) (v := ?_) rfl (by kernel_rfl) (by kernel_rfl) (by kernel_rfl) (fun _ _ _ h => h) (Or.inl ⟨by rfl, ?_⟩) (by assumption) ?_
        rotate_left
        · intro w hSw; obtain s0 := hSw; go_simp; (try with_reducible rfl)
        try change wpAnyH _ _ _ _ _ _ _ (Act.put _ (some 24) _) _
        try simp only [act_all]
        refine wpAnyH_take (i := 1) (oi := _) (v := ?_) rfl (by kernel_rfl) (by kernel_rfl) (by kernel_rfl) (fun _ _ _ h => h) (Or.inl ⟨by rfl, ?_⟩) (by assumption) ?_
        rotate_left
        · intro w hSw; obtain s0 := hSw; go_simp; (try with_reducible rfl)
        try change wpAnyH _ _ _ _ _ _ _ (Act.put _ (some 25) _) _
        try simp only [act_all]
        refine wpAnyH_take (i := 2) (oi := _) (v := ?_) rfl (by kernel_rfl) (by kernel_rfl) (by kernel_rfl) (fun _ _ _ h => h) (Or.inl ⟨by rfl, ?_⟩) (by assumption) ?_
        rotate_left
        · intro w hSw; obtain s0 := hSw; go_simp; (try with_reducible rfl)
        try change wpAnyH _ _ _ _ _ _ _ (Act.put _ (some 26) _) _
        try simp only [act_all]
        refine wpAnyH_take (i := 3) (oi := _) (v := _) rfl (by kernel_rfl) (by kernel_rfl) (by kernel_rfl) (fun _ _ _ h => h) (yieldsIf_load_mid (by rfl) 26 _ rfl b6 0 rfl ([.int .i64 x, .int .i64 y]) _ (fun w' hh => range_row hh 0 [.int .i64 x, .int .i64 y] (fun j hj => by simp only [Nat.zero_add, List.getElem?_toArray])) Try.underlying26 rfl (by kernel_rfl)) (by assumption) ?_
        try change wpAnyH _ _ _ _ _ _ _ (Act.put _ (some 27) _) _
        try simp only [act_all]
        refine wpAnyH_ready (rs := [4]) (by kernel_rfl) (by simp) ?_
        refine AllReadyH.cons (o := _) rfl (fun K hK => ?_) AllReadyH.nil
        go_simp
        refine (rHas_any x y k cp _ X Y _ (by omega) (HPRE.out _ HQ0)).mono ?_
        rw [HHS.out]
        rintro e_ t1 ⟨rfl, hb⟩
        have D1 : Below w2.heap.size w2 t1 := HQ0.trans (hb.mono HQ0.size)
        clear hb hHeld
        refine hK.out _ _ (G0.out _ D1) (fun hHeld => ?_)
        clear hK K
        try simp only [act_all]
        refine wpAnyH_take (i := 5) (oi := _) (v := ?_) rfl (by kernel_rfl) (by kernel_rfl) (by kernel_rfl) (fun _ _ _ h => h) (Or.inl ⟨by rfl, ?_⟩) (by assumption) ?_
        rotate_left
        · intro w hSw; obtain s0 := hSw; go_simp; (try with_reducible rfl)
        try change wpAnyH _ _ _ _ _ _ _ (Act.put _ (some 29) _) _
        try simp only [act_all]
        refine wpAnyH_take (i := 6) (oi := _) (v := _) rfl (by kernel_rfl) (by kernel_rfl) (by kernel_rfl) (fun _ _ _ h => h) (Or.inr ⟨by rfl, rfl⟩) (by assumption) ?_
        try change wpAnyH _ _ _ _ _ _ _ (Act.put _ (some 30) _) _
        try simp only [act_all]
        refine wpAnyH_take (i := 7) (oi := _) (v := _) rfl (by kernel_rfl) (by kernel_rfl) (by kernel_rfl) (fun _ _ _ h => h) (Or.inr ⟨by rfl, rfl⟩) (by assumption) ?_
        try change wpAnyH _ _ _ _ _ _ _ (Act.put _ (some 31) _) _
        try simp only [act_all]
        refine wpAnyH_take (i := 8) (oi := _) (v := _) rfl (by kernel_rfl) (by kernel_rfl) (by kernel_rfl) (fun _ _ _ h => h) (Or.inr ⟨by rfl, rfl⟩) (by assumption) ?_
        try change wpAnyH _ _ _ _ _ _ _ (Act.put _ (some 32) _) _
        try simp only [act_all]
        refine wpAnyH_take (i := 9) (oi := _) (v := _) rfl (by kernel_rfl) (by kernel_rfl) (by kernel_rfl) (fun _ _ _ h => h) (Or.inr ⟨by rfl, rfl⟩) (by assumption) ?_
        try change wpAnyH _ _ _ _ _ _ _ (Act.put _ (some 33) _) _
        try simp only [act_all]
        refine wpAnyH_take (i := 10) (oi := _) (v := _) rfl (by kernel_rfl) (by kernel_rfl) (by kernel_rfl) (fun _ _ _ h => h) (Or.inr ⟨by rfl, rfl⟩) (by assumption) ?_
        try change wpAnyH _ _ _ _ _ _ _ (Act.put _ (some 34) _) _
        try simp only [act_all]
        refine wpAnyH_take (i := 11) (oi := _) (v := _) rfl (by kernel_rfl) (by kernel_rfl) (by kernel_rfl) (fun _ _ _ h => h) (Or.inr ⟨by rfl, rfl⟩) (by assumption) ?_
        try change wpAnyH _ _ _ _ _ _ _ (Act.put _ (some 35) _) _
        try simp only [act_all]
        refine wpAnyH_take (i := 12) (oi := _) (v := _) rfl (by kernel_rfl) (by kernel_rfl) (by kernel_rfl) (fun _ _ _ h => h) (Or.inr ⟨by rfl, rfl⟩) (by assumption) ?_
        try change wpAnyH _ _ _ _ _ _ _ (Act.put _ (some 36) _) _
        try simp only [act_all]
        refine wpAnyH_take (i := 13) (oi := _) (v := _) rfl (by kernel_rfl) (by kernel_rfl) (by kernel_rfl) (fun _ _ _ h => h) (Or.inr ⟨by rfl, rfl⟩) (by assumption) ?_
        try change wpAnyH _ _ _ _ _ _ _ (Act.put _ (some 37) _) _
        try simp only [act_all]
        refine wpAnyH_take (i := 14) (oi := _) (v := _) rfl (by kernel_rfl) (by kernel_rfl) (by kernel_rfl) (fun _ _ _ h => h) (Or.inr ⟨by rfl, rfl⟩) (by assumption) ?_
        try change wpAnyH _ _ _ _ _ _ _ (Act.put _ (some 38) _) _
        try simp only [act_all]
        refine wpAnyH_take (i := 15) (oi := _) (v := _) rfl (by kernel_rfl) (by kernel_rfl) (by kernel_rfl) (fun _ _ _ h => h) (Or.inr ⟨by rfl, rfl⟩) (by assumption) ?_
        try change wpAnyH _ _ _ _ _ _ _ (Act.put _ (some 39) _) _
        try simp only [act_all]
        refine wpAnyH_take (i := 16) (oi := _) (v := _) rfl (by kernel_rfl) (by kernel_rfl) (by kernel_rfl) (fun _ _ _ h => h) (Or.inr ⟨by rfl, rfl⟩) (by assumption) ?_
        try change wpAnyH _ _ _ _ _ _ _ (Act.put _ (some 40) _) _
        try simp only [act_all]
        refine wpAnyH_take (i := 17) (oi := _) (v := _) rfl (by kernel_rfl) (by kernel_rfl) (by kernel_rfl) (fun _ _ _ h => h) (Or.inr ⟨by rfl, rfl⟩) (by assumption) ?_
        try change wpAnyH _ _ _ _ _ _ _ (Act.put _ (some 41) _) _
        try simp only [act_all]
        refine wpAnyH_take (i := 18) (oi := _) (v := ?_) rfl (by kernel_rfl) (by kernel_rfl) (by kernel_rfl) (fun _ _ _ h => h) (Or.inl ⟨by rfl, ?_⟩) (by assumption) ?_
        rotate_left
        · intro w hSw; obtain s0 := hSw; go_simp; (try with_reducible rfl)
        try change wpAnyH _ _ _ _ _ _ _ (Act.put _ (some 42) _) _
        try simp only [act_all]
        refine wpAnyH_done (by kernel_rfl) ?_ _
        clear hHeld
        have HBN : Hid (Below w.heap.size w _) := Lib.hid (HB2.out.trans (D1.mono HB2.out.size))
        clear HQ0 G0 HPRE
        go_wp2_with fail
        refine bodyPost_ret (v := .int .i64 71) (by simp [results, Try.results65, go_sem]) rfl ⟨by rw [HR.out], HBN.out⟩
      | false =>
        have hrep : repN X Y (k + 1) = false := by simp only [repN]; rw [HS.out.1, HXY.out.1, HXY.out.2, HHS.out]; rfl
        by_cases hk00 : k = 0
        · subst hk00
          have HS' : Hid (repN X Y (0 + 1) = false ∧ ∀ j, j + 1 < 0 + 1 → wyN X Y j ≠ -1) := Lib.hid ⟨hrep, fun j hj => by omega⟩
          clear hrep
          have G0 : Hid (∀ w' : World, Below w2.heap.size w2 w' → w'.heap[b6]? = some (.cells #[.int .i64 x, .int .i64 y] 26 (0, 0))) := Lib.hid (fun w' hb => (hb.block _ hz2.2).trans K62.out)
          refine wp_region_held_drew (S := fun w' => w'.heap[b6]? = some (.cells #[.int .i64 x, .int .i64 y] 26 (0, 0))) (by kernel_rfl) (G0.out _ HQ0) (fun hHeld => ?_)
          refine wpAnyH_take (i := 0) (oi := _) (v := ?_) rfl (by kernel_rfl) (by kernel_rfl) (by kernel_rfl) (fun _ _ _ h => h) (Or.inl ⟨by rfl, ?_⟩) (by assumption) ?_
          rotate_left
          · intro w hSw; obtain s0 := hSw; go_simp; (try with_reducible rfl)
          try change wpAnyH _ _ _ _ _ _ _ (Act.put _ (some 24) _) _
          try simp only [act_all]
          refine wpAnyH_take (i := 1) (oi := _) (v := ?_) rfl (by kernel_rfl) (by kernel_rfl) (by kernel_rfl) (fun _ _ _ h => h) (Or.inl ⟨by rfl, ?_⟩) (by assumption) ?_
          rotate_left
          · intro w hSw; obtain s0 := hSw; go_simp; (try with_reducible rfl)
          try change wpAnyH _ _ _ _ _ _ _ (Act.put _ (some 25) _) _
          try simp only [act_all]
          refine wpAnyH_take (i := 2) (oi := _) (v := ?_) rfl (by kernel_rfl) (by kernel_rfl) (by kernel_rfl) (fun _ _ _ h => h) (Or.inl ⟨by rfl, ?_⟩) (by assumption) ?_
          rotate_left
          · intro w hSw; obtain s0 := hSw; go_simp; (try with_reducible rfl)
          try change wpAnyH _ _ _ _ _ _ _ (Act.put _ (some 26) _) _
          try simp only [act_all]
          refine wpAnyH_take (i := 3) (oi := _) (v := _) rfl (by kernel_rfl) (by kernel_rfl) (by kernel_rfl) (fun _ _ _ h => h) (yieldsIf_load_mid (by rfl) 26 _ rfl b6 0 rfl ([.int .i64 x, .int .i64 y]) _ (fun w' hh => range_row hh 0 [.int .i64 x, .int .i64 y] (fun j hj => by simp only [Nat.zero_add, List.getElem?_toArray])) Try.underlying26 rfl (by kernel_rfl)) (by assumption) ?_
          try change wpAnyH _ _ _ _ _ _ _ (Act.put _ (some 27) _) _
          try simp only [act_all]
          refine wpAnyH_ready (rs := [4]) (by kernel_rfl) (by simp) ?_
          refine AllReadyH.cons (o := _) rfl (fun K hK => ?_) AllReadyH.nil
          go_simp
          refine (rHas_any x y 0 cp _ X Y _ (by omega) (HPRE.out _ HQ0)).mono ?_
          rw [HHS.out]
          rintro e_ t2 ⟨rfl, hb⟩
          have D2 : Below w2.heap.size w2 t2 := HQ0.trans (hb.mono HQ0.size)
          clear hb hHeld
          refine hK.out _ _ (G0.out _ D2) (fun hHeld => ?_)
          clear hK K
          try simp only [act_all]
          refine wpAnyH_take (i := 5) (oi := _) (v := ?_) rfl (by kernel_rfl) (by kernel_rfl) (by kernel_rfl) (fun _ _ _ h => h) (Or.inl ⟨by rfl, ?_⟩) (by assumption) ?_
          rotate_left
          · intro w hSw; obtain s0 := hSw; go_simp; (try with_reducible rfl)
          try change wpAnyH _ _ _ _ _ _ _ (Act.put _ (some 29) _) _
          try simp only [act_all]
          refine wpAnyH_take (i := 6) (oi := _) (v := ?_) rfl (by kernel_rfl) (by kernel_rfl) (by kernel_rfl) (fun _ _ _ h => h) (Or.inl ⟨by rfl, ?_⟩) (by assumption) ?_
          rotate_left
          · intro w hSw; obtain s0 := hSw; go_simp; (try with_reducible rfl)
          try change wpAnyH _ _ _ _ _ _ _ (Act.put _ (some 30) _) _
          try simp only [act_all]
          refine wpAnyH_take (i := 7) (oi := _) (v := ?_) rfl (by kernel_rfl) (by kernel_rfl) (by kernel_rfl) (fun _ _ _ h => h) (Or.inl ⟨by rfl, ?_⟩) (by assumption) ?_
          rotate_left
          · intro w hSw; obtain s0 := hSw; go_simp; (try with_reducible rfl)
          try change wpAnyH _ _ _ _ _ _ _ (Act.put _ (some 31) _) _
          try simp only [act_all]
          refine wpAnyH_take (i := 8) (oi := _) (v := ?_) rfl (by kernel_rfl) (by kernel_rfl) (by kernel_rfl) (fun _ _ _ h => h) (Or.inl ⟨by rfl, ?_⟩) (by assumption) ?_
          rotate_left
          · intro w hSw; obtain s0 := hSw; go_simp; (try with_reducible rfl)
          try change wpAnyH _ _ _ _ _ _ _ (Act.put _ (some 32) _) _
          try simp only [act_all]
          refine wpAnyH_take (i := 9) (oi := _) (v := _) rfl (by kernel_rfl) (by kernel_rfl) (by kernel_rfl) (fun _ _ _ h => h) (Or.inr ⟨by rfl, rfl⟩) (by assumption) ?_
          try change wpAnyH _ _ _ _ _ _ _ (Act.put _ (some 33) _) _
          try simp only [act_all]
          refine wpAnyH_take (i := 10) (oi := _) (v := _) rfl (by kernel_rfl) (by kernel_rfl) (by kernel_rfl) (fun _ _ _ h => h) (Or.inr ⟨by rfl, rfl⟩) (by assumption) ?_
          try change wpAnyH _ _ _ _ _ _ _ (Act.put _ (some 34) _) _
          try simp only [act_all]
          refine wpAnyH_take (i := 11) (oi := _) (v := _) rfl (by kernel_rfl) (by kernel_rfl) (by kernel_rfl) (fun _ _ _ h => h) (Or.inr ⟨by rfl, rfl⟩) (by assumption) ?_
          try change wpAnyH _ _ _ _ _ _ _ (Act.put _ (some 35) _) _
          try simp only [act_all]
          refine wpAnyH_take (i := 12) (oi := _) (v := _) rfl (by kernel_rfl) (by kernel_rfl) (by kernel_rfl) (fun _ _ _ h => h) (Or.inr ⟨by rfl, rfl⟩) (by assumption) ?_
          try change wpAnyH _ _ _ _ _ _ _ (Act.put _ (some 36) _) _
          try simp only [act_all]
          refine wpAnyH_take (i := 13) (oi := _) (v := _) rfl (by kernel_rfl) (by kernel_rfl) (by kernel_rfl) (fun _ _ _ h => h) (Or.inr ⟨by rfl, rfl⟩) (by assumption) ?_
          try change wpAnyH _ _ _ _ _ _ _ (Act.put _ (some 37) _) _
          try simp only [act_all]
          refine wpAnyH_take (i := 14) (oi := _) (v := _) rfl (by kernel_rfl) (by kernel_rfl) (by kernel_rfl) (fun _ _ _ h => h) (Or.inr ⟨by rfl, rfl⟩) (by assumption) ?_
          try change wpAnyH _ _ _ _ _ _ _ (Act.put _ (some 38) _) _
          try simp only [act_all]
          refine wpAnyH_take (i := 15) (oi := _) (v := _) rfl (by kernel_rfl) (by kernel_rfl) (by kernel_rfl) (fun _ _ _ h => h) (Or.inr ⟨by rfl, rfl⟩) (by assumption) ?_
          try change wpAnyH _ _ _ _ _ _ _ (Act.put _ (some 39) _) _
          try simp only [act_all]
          refine wpAnyH_take (i := 16) (oi := _) (v := _) rfl (by kernel_rfl) (by kernel_rfl) (by kernel_rfl) (fun _ _ _ h => h) (Or.inr ⟨by rfl, rfl⟩) (by assumption) ?_
          try change wpAnyH _ _ _ _ _ _ _ (Act.put _ (some 40) _) _
          try simp only [act_all]
          refine wpAnyH_take (i := 17) (oi := _) (v := ?_) rfl (by kernel_rfl) (by kernel_rfl) (by kernel_rfl) (fun _ _ _ h => h) (Or.inl ⟨by rfl, ?_⟩) (by assumption) ?_
          rotate_left
          · intro w hSw; obtain s0 := hSw; go_simp; (try with_reducible rfl)
          try change wpAnyH _ _ _ _ _ _ _ (Act.put _ (some 41) _) _
          try simp only [act_all]
          refine wpAnyH_take (i := 18) (oi := _) (v := ?_) rfl (by kernel_rfl) (by kernel_rfl) (by kernel_rfl) (fun _ _ _ h => h) (Or.inl ⟨by rfl, ?_⟩) (by assumption) ?_
          rotate_left
          · intro w hSw; obtain s0 := hSw; go_simp; (try with_reducible rfl)
          try change wpAnyH _ _ _ _ _ _ _ (Act.put _ (some 42) _) _
          try simp only [act_all]
          refine wpAnyH_done (by kernel_rfl) ?_ _
          clear hHeld
          have HBN : Hid (Below w.heap.size w _) := Lib.hid (HB2.out.trans (D2.mono HB2.out.size))
          have KGN := Lib.hid ((D2.block _ hz2.1).trans KG2.out)
          have hzN := Nat.lt_of_lt_of_le hz2.1 D2.size
          clear HQ0 G0 HPRE
          go_wp2_with fail
          go_roundw
          case rel => exact ⟨0 + 1, by go_num, by omega, HS', KGN, HBN, hzN⟩
          case measure => simp [intOf]; omega
        obtain ⟨j, rfl⟩ : ∃ j, k = j + 1 := ⟨k - 1, by omega⟩
        obtain ⟨px, hpx⟩ : ∃ z, X j = z := ⟨_, rfl⟩
        obtain ⟨py, hpy⟩ : ∃ z, Y j = z := ⟨_, rfl⟩
        have HPJ : Hid (XyAt w b (o + j * 2) px py) := Lib.hid (by have h := HCL.out j (by omega); rwa [hpx, hpy] at h)
        have HPR : Hid (i64r px ∧ i64r py) := Lib.hid (by have h := HRR.out j (by omega); rw [hpx, hpy] at h; exact h)
        have hwy : wyN X Y j = wyS px py x y := by show wyS (X j) (Y j) (X (j + 1)) (Y (j + 1)) = _; rw [hpx, hpy, HXY.out.1, HXY.out.2]
        have hwr := wyS_range px py x y
        obtain ⟨wy, hw⟩ : ∃ z, wyS px py x y = z := ⟨_, rfl⟩
        rw [hw] at hwy hwr
        have HWY := Lib.hid hw
        have e1 : ((j + 1 : Nat) : Int) - 1 = j := by omega
        have e2 : (j : Int) + 1 - 1 = j := by omega
        have e3 : (0 : Int) < (j : Int) + 1 := by omega
        have e4 : IntKind.i64.wrap (j : Int) = j := by rw [IntKind.wrap_i64]; omega
        have e5 : (j : Int) < n := by omega
        have f1 : (0 : Int) ≤ (j : Int) + 1 := by omega
        have f2 : (j : Int) + 1 ≤ cp := by omega
        have e6 : (0 : Int) ≤ j := by omega
        have e7 : IntKind.i64.wrap ((j : Int) + 1 - 1) = j := by rw [IntKind.wrap_i64]; omega
        clear hpx hpy hw hk00
        by_cases hwn : wy < 0
        · have HR : Hid (chE W H (blkN XB YB nb) X Y n = 71) := Lib.hid (by
            unfold chE
            rw [if_neg]
            intro hp
            exact (paB_iff.1 hp).2.2 j (by omega) (by rw [hwy]; omega))
          clear hwy hrep
          have G0 : Hid (∀ w' : World, Below w2.heap.size w2 w' → w'.heap[b6]? = some (.cells #[.int .i64 x, .int .i64 y] 26 (0, 0)) ∧ XyAt w' b (o + j * 2) px py) := Lib.hid (fun w' hb => ⟨(hb.block _ hz2.2).trans K62.out, HPJ.out.keep (HB2.out.trans (hb.mono HB2.out.size))⟩)
          refine wp_region_held_drew (S := fun w' => w'.heap[b6]? = some (.cells #[.int .i64 x, .int .i64 y] 26 (0, 0)) ∧ XyAt w' b (o + j * 2) px py) (by kernel_rfl) (G0.out _ HQ0) (fun hHeld => ?_)
          refine wpAnyH_take (i := 0) (oi := _) (v := ?_) rfl (by kernel_rfl) (by kernel_rfl) (by kernel_rfl) (fun _ _ _ h => h) (Or.inl ⟨by rfl, ?_⟩) (by assumption) ?_
          rotate_left
          · intro w hSw; obtain ⟨s0, s1⟩ := hSw; go_simp; (try with_reducible rfl)
          try change wpAnyH _ _ _ _ _ _ _ (Act.put _ (some 24) _) _
          try simp only [act_all]
          refine wpAnyH_take (i := 1) (oi := _) (v := ?_) rfl (by kernel_rfl) (by kernel_rfl) (by kernel_rfl) (fun _ _ _ h => h) (Or.inl ⟨by rfl, ?_⟩) (by assumption) ?_
          rotate_left
          · intro w hSw; obtain ⟨s0, s1⟩ := hSw; go_simp; (try with_reducible rfl)
          try change wpAnyH _ _ _ _ _ _ _ (Act.put _ (some 25) _) _
          try simp only [act_all]
          refine wpAnyH_take (i := 2) (oi := _) (v := ?_) rfl (by kernel_rfl) (by kernel_rfl) (by kernel_rfl) (fun _ _ _ h => h) (Or.inl ⟨by rfl, ?_⟩) (by assumption) ?_
          rotate_left
          · intro w hSw; obtain ⟨s0, s1⟩ := hSw; go_simp; (try with_reducible rfl)
          try change wpAnyH _ _ _ _ _ _ _ (Act.put _ (some 26) _) _
          try simp only [act_all]
          refine wpAnyH_take (i := 3) (oi := _) (v := _) rfl (by kernel_rfl) (by kernel_rfl) (by kernel_rfl) (fun _ _ _ h => h) (yieldsIf_load_mid (by rfl) 26 _ rfl b6 0 rfl ([.int .i64 x, .int .i64 y]) _ (fun w' hh => range_row hh.1 0 [.int .i64 x, .int .i64 y] (fun j hj => by simp only [Nat.zero_add, List.getElem?_toArray])) Try.underlying26 rfl (by kernel_rfl)) (by assumption) ?_
          try change wpAnyH _ _ _ _ _ _ _ (Act.put _ (some 27) _) _
          try simp only [act_all]
          refine wpAnyH_ready (rs := [4]) (by kernel_rfl) (by simp) ?_
          refine AllReadyH.cons (o := _) rfl (fun K hK => ?_) AllReadyH.nil
          go_simp
          refine (rHas_any x y (j + 1) cp _ X Y _ (by omega) (HPRE.out _ HQ0)).mono ?_
          rw [HHS.out]
          rintro e_ t3 ⟨rfl, hb⟩
          have D3 : Below w2.heap.size w2 t3 := HQ0.trans (hb.mono HQ0.size)
          clear hb hHeld
          refine hK.out _ _ (G0.out _ D3) (fun hHeld => ?_)
          clear hK K
          try simp only [act_all]
          refine wpAnyH_take (i := 5) (oi := _) (v := ?_) rfl (by kernel_rfl) (by kernel_rfl) (by kernel_rfl) (fun _ _ _ h => h) (Or.inl ⟨by rfl, ?_⟩) (by assumption) ?_
          rotate_left
          · intro w hSw; obtain ⟨s0, s1⟩ := hSw; go_simp; (try with_reducible rfl)
          try change wpAnyH _ _ _ _ _ _ _ (Act.put _ (some 29) _) _
          try simp only [act_all]
          refine wpAnyH_take (i := 6) (oi := _) (v := ?_) rfl (by kernel_rfl) (by kernel_rfl) (by kernel_rfl) (fun _ _ _ h => h) (Or.inl ⟨by rfl, ?_⟩) (by assumption) ?_
          rotate_left
          · intro w hSw; obtain ⟨s0, s1⟩ := hSw; go_simp; (try with_reducible rfl)
          try change wpAnyH _ _ _ _ _ _ _ (Act.put _ (some 30) _) _
          try simp only [act_all]
          refine wpAnyH_take (i := 7) (oi := _) (v := ?_) rfl (by kernel_rfl) (by kernel_rfl) (by kernel_rfl) (fun _ _ _ h => h) (Or.inl ⟨by rfl, ?_⟩) (by assumption) ?_
          rotate_left
          · intro w hSw; obtain ⟨s0, s1⟩ := hSw; go_simp; (try with_reducible rfl)
          try change wpAnyH _ _ _ _ _ _ _ (Act.put _ (some 31) _) _
          try simp only [act_all]
          refine wpAnyH_take (i := 8) (oi := _) (v := ?_) rfl (by kernel_rfl) (by kernel_rfl) (by kernel_rfl) (fun _ _ _ h => h) (Or.inl ⟨by rfl, ?_⟩) (by assumption) ?_
          rotate_left
          · intro w hSw; obtain ⟨s0, s1⟩ := hSw; go_simp; (try with_reducible rfl)
          try change wpAnyH _ _ _ _ _ _ _ (Act.put _ (some 32) _) _
          try simp only [act_all]
          refine wpAnyH_take (i := 9) (oi := _) (v := ?_) rfl (by kernel_rfl) (by kernel_rfl) (by kernel_rfl) (fun _ _ _ h => h) (Or.inl ⟨by rfl, ?_⟩) (by assumption) ?_
          rotate_left
          · intro w hSw; obtain ⟨s0, s1⟩ := hSw; go_simp; (try with_reducible rfl)
          try change wpAnyH _ _ _ _ _ _ _ (Act.put _ (some 33) _) _
          try simp only [act_all]
          refine wpAnyH_take (i := 10) (oi := _) (v := ?_) rfl (by kernel_rfl) (by kernel_rfl) (by kernel_rfl) (fun _ _ _ h => h) (Or.inl ⟨by rfl, ?_⟩) (by assumption) ?_
          rotate_left
          · intro w hSw; obtain ⟨s0, s1⟩ := hSw; go_simp; (try with_reducible rfl)
          try change wpAnyH _ _ _ _ _ _ _ (Act.put _ (some 34) _) _
          try simp only [act_all]
          refine wpAnyH_take (i := 11) (oi := _) (v := ?_) rfl (by kernel_rfl) (by kernel_rfl) (by kernel_rfl) (fun _ _ _ h => h) (Or.inl ⟨by rfl, ?_⟩) (by assumption) ?_
          rotate_left
          · intro w hSw; obtain ⟨s0, s1⟩ := hSw; go_simp; (try with_reducible rfl)
          try change wpAnyH _ _ _ _ _ _ _ (Act.put _ (some 35) _) _
          try simp only [act_all]
          refine wpAnyH_take (i := 12) (oi := _) (v := ?_) rfl (by kernel_rfl) (by kernel_rfl) (by kernel_rfl) (fun _ _ _ h => h) (Or.inl ⟨by rfl, ?_⟩) (by assumption) ?_
          rotate_left
          · intro w hSw; obtain ⟨s0, s1⟩ := hSw; go_simp; (try with_reducible rfl)
          try change wpAnyH _ _ _ _ _ _ _ (Act.put _ (some 36) _) _
          try simp only [act_all]
          refine wpAnyH_take (i := 13) (oi := _) (v := _) rfl (by kernel_rfl) (by kernel_rfl) (by kernel_rfl) (fun _ _ _ h => h) (yieldsIf_load_mid (by rfl) 26 _ rfl b _ rfl ([.int .i64 px, .int .i64 py]) _ (fun w' hh => by simpa using range_xy hh.2) Try.underlying26 rfl (by kernel_rfl)) (by assumption) ?_
          try change wpAnyH _ _ _ _ _ _ _ (Act.put _ (some 37) _) _
          try simp only [act_all]
          refine wpAnyH_take (i := 14) (oi := _) (v := _) rfl (by kernel_rfl) (by kernel_rfl) (by kernel_rfl) (fun _ _ _ h => h) (yieldsIf_load_mid (by rfl) 26 _ rfl b6 0 rfl ([.int .i64 x, .int .i64 y]) _ (fun w' hh => range_row hh.1 0 [.int .i64 x, .int .i64 y] (fun j hj => by simp only [Nat.zero_add, List.getElem?_toArray])) Try.underlying26 rfl (by kernel_rfl)) (by assumption) ?_
          try change wpAnyH _ _ _ _ _ _ _ (Act.put _ (some 38) _) _
          try simp only [act_all]
          refine wpAnyH_ready (rs := [15]) (by kernel_rfl) (by simp) ?_
          refine AllReadyH.cons (o := _) rfl (fun K hK => ?_) AllReadyH.nil
          go_simp
          refine (toward_any px py x y _ HPR.out.1 HPR.out.2 hx0 hy0).mono ?_
          rw [HWY.out]
          rintro e_ t4 ⟨rfl, hb⟩
          have D4 : Below w2.heap.size w2 t4 := D3.trans (hb.mono D3.size)
          clear hb hHeld
          refine hK.out _ _ (G0.out _ D4) (fun hHeld => ?_)
          clear hK K
          try simp only [act_all]
          refine wpAnyH_take (i := 16) (oi := _) (v := ?_) rfl (by kernel_rfl) (by kernel_rfl) (by kernel_rfl) (fun _ _ _ h => h) (Or.inl ⟨by rfl, ?_⟩) (by assumption) ?_
          rotate_left
          · intro w hSw; obtain ⟨s0, s1⟩ := hSw; go_simp; (try with_reducible rfl)
          try change wpAnyH _ _ _ _ _ _ _ (Act.put _ (some 40) _) _
          try simp only [act_all]
          refine wpAnyH_take (i := 17) (oi := _) (v := ?_) rfl (by kernel_rfl) (by kernel_rfl) (by kernel_rfl) (fun _ _ _ h => h) (Or.inl ⟨by rfl, ?_⟩) (by assumption) ?_
          rotate_left
          · intro w hSw; obtain ⟨s0, s1⟩ := hSw; go_simp; (try with_reducible rfl)
          try change wpAnyH _ _ _ _ _ _ _ (Act.put _ (some 41) _) _
          try simp only [act_all]
          refine wpAnyH_take (i := 18) (oi := _) (v := ?_) rfl (by kernel_rfl) (by kernel_rfl) (by kernel_rfl) (fun _ _ _ h => h) (Or.inl ⟨by rfl, ?_⟩) (by assumption) ?_
          rotate_left
          · intro w hSw; obtain ⟨s0, s1⟩ := hSw; go_simp; (try with_reducible rfl)
          try change wpAnyH _ _ _ _ _ _ _ (Act.put _ (some 42) _) _
          try simp only [act_all]
          refine wpAnyH_done (by kernel_rfl) ?_ _
          clear hHeld
          have HBN : Hid (Below w.heap.size w _) := Lib.hid (HB2.out.trans (D4.mono HB2.out.size))
          clear HQ0 G0 HPRE
          go_wp2_with fail
          refine bodyPost_ret (v := .int .i64 71) (by simp [results, Try.results65, go_sem]) rfl ⟨by rw [HR.out], HBN.out⟩
        have HS' : Hid (repN X Y (j + 1 + 1) = false ∧ ∀ i, i + 1 < j + 1 + 1 → wyN X Y i ≠ -1) := Lib.hid ⟨hrep, fun i hi => by
          by_cases e : i = j
          · rw [e, hwy]; omega
          · exact HS.out.2 i (by omega)⟩
        clear hwy hrep
        have G0 : Hid (∀ w' : World, Below w2.heap.size w2 w' → w'.heap[b6]? = some (.cells #[.int .i64 x, .int .i64 y] 26 (0, 0)) ∧ XyAt w' b (o + j * 2) px py) := Lib.hid (fun w' hb => ⟨(hb.block _ hz2.2).trans K62.out, HPJ.out.keep (HB2.out.trans (hb.mono HB2.out.size))⟩)
        refine wp_region_held_drew (S := fun w' => w'.heap[b6]? = some (.cells #[.int .i64 x, .int .i64 y] 26 (0, 0)) ∧ XyAt w' b (o + j * 2) px py) (by kernel_rfl) (G0.out _ HQ0) (fun hHeld => ?_)
        refine wpAnyH_take (i := 0) (oi := _) (v := ?_) rfl (by kernel_rfl) (by kernel_rfl) (by kernel_rfl) (fun _ _ _ h => h) (Or.inl ⟨by rfl, ?_⟩) (by assumption) ?_
        rotate_left
        · intro w hSw; obtain ⟨s0, s1⟩ := hSw; go_simp; (try with_reducible rfl)
        try change wpAnyH _ _ _ _ _ _ _ (Act.put _ (some 24) _) _
        try simp only [act_all]
        refine wpAnyH_take (i := 1) (oi := _) (v := ?_) rfl (by kernel_rfl) (by kernel_rfl) (by kernel_rfl) (fun _ _ _ h => h) (Or.inl ⟨by rfl, ?_⟩) (by assumption) ?_
        rotate_left
        · intro w hSw; obtain ⟨s0, s1⟩ := hSw; go_simp; (try with_reducible rfl)
        try change wpAnyH _ _ _ _ _ _ _ (Act.put _ (some 25) _) _
        try simp only [act_all]
        refine wpAnyH_take (i := 2) (oi := _) (v := ?_) rfl (by kernel_rfl) (by kernel_rfl) (by kernel_rfl) (fun _ _ _ h => h) (Or.inl ⟨by rfl, ?_⟩) (by assumption) ?_
        rotate_left
        · intro w hSw; obtain ⟨s0, s1⟩ := hSw; go_simp; (try with_reducible rfl)
        try change wpAnyH _ _ _ _ _ _ _ (Act.put _ (some 26) _) _
        try simp only [act_all]
        refine wpAnyH_take (i := 3) (oi := _) (v := _) rfl (by kernel_rfl) (by kernel_rfl) (by kernel_rfl) (fun _ _ _ h => h) (yieldsIf_load_mid (by rfl) 26 _ rfl b6 0 rfl ([.int .i64 x, .int .i64 y]) _ (fun w' hh => range_row hh.1 0 [.int .i64 x, .int .i64 y] (fun j hj => by simp only [Nat.zero_add, List.getElem?_toArray])) Try.underlying26 rfl (by kernel_rfl)) (by assumption) ?_
        try change wpAnyH _ _ _ _ _ _ _ (Act.put _ (some 27) _) _
        try simp only [act_all]
        refine wpAnyH_ready (rs := [4]) (by kernel_rfl) (by simp) ?_
        refine AllReadyH.cons (o := _) rfl (fun K hK => ?_) AllReadyH.nil
        go_simp
        refine (rHas_any x y (j + 1) cp _ X Y _ (by omega) (HPRE.out _ HQ0)).mono ?_
        rw [HHS.out]
        rintro e_ t5 ⟨rfl, hb⟩
        have D5 : Below w2.heap.size w2 t5 := HQ0.trans (hb.mono HQ0.size)
        clear hb hHeld
        refine hK.out _ _ (G0.out _ D5) (fun hHeld => ?_)
        clear hK K
        try simp only [act_all]
        refine wpAnyH_take (i := 5) (oi := _) (v := ?_) rfl (by kernel_rfl) (by kernel_rfl) (by kernel_rfl) (fun _ _ _ h => h) (Or.inl ⟨by rfl, ?_⟩) (by assumption) ?_
        rotate_left
        · intro w hSw; obtain ⟨s0, s1⟩ := hSw; go_simp; (try with_reducible rfl)
        try change wpAnyH _ _ _ _ _ _ _ (Act.put _ (some 29) _) _
        try simp only [act_all]
        refine wpAnyH_take (i := 6) (oi := _) (v := ?_) rfl (by kernel_rfl) (by kernel_rfl) (by kernel_rfl) (fun _ _ _ h => h) (Or.inl ⟨by rfl, ?_⟩) (by assumption) ?_
        rotate_left
        · intro w hSw; obtain ⟨s0, s1⟩ := hSw; go_simp; (try with_reducible rfl)
        try change wpAnyH _ _ _ _ _ _ _ (Act.put _ (some 30) _) _
        try simp only [act_all]
        refine wpAnyH_take (i := 7) (oi := _) (v := ?_) rfl (by kernel_rfl) (by kernel_rfl) (by kernel_rfl) (fun _ _ _ h => h) (Or.inl ⟨by rfl, ?_⟩) (by assumption) ?_
        rotate_left
        · intro w hSw; obtain ⟨s0, s1⟩ := hSw; go_simp; (try with_reducible rfl)
        try change wpAnyH _ _ _ _ _ _ _ (Act.put _ (some 31) _) _
        try simp only [act_all]
        refine wpAnyH_take (i := 8) (oi := _) (v := ?_) rfl (by kernel_rfl) (by kernel_rfl) (by kernel_rfl) (fun _ _ _ h => h) (Or.inl ⟨by rfl, ?_⟩) (by assumption) ?_
        rotate_left
        · intro w hSw; obtain ⟨s0, s1⟩ := hSw; go_simp; (try with_reducible rfl)
        try change wpAnyH _ _ _ _ _ _ _ (Act.put _ (some 32) _) _
        try simp only [act_all]
        refine wpAnyH_take (i := 9) (oi := _) (v := ?_) rfl (by kernel_rfl) (by kernel_rfl) (by kernel_rfl) (fun _ _ _ h => h) (Or.inl ⟨by rfl, ?_⟩) (by assumption) ?_
        rotate_left
        · intro w hSw; obtain ⟨s0, s1⟩ := hSw; go_simp; (try with_reducible rfl)
        try change wpAnyH _ _ _ _ _ _ _ (Act.put _ (some 33) _) _
        try simp only [act_all]
        refine wpAnyH_take (i := 10) (oi := _) (v := ?_) rfl (by kernel_rfl) (by kernel_rfl) (by kernel_rfl) (fun _ _ _ h => h) (Or.inl ⟨by rfl, ?_⟩) (by assumption) ?_
        rotate_left
        · intro w hSw; obtain ⟨s0, s1⟩ := hSw; go_simp; (try with_reducible rfl)
        try change wpAnyH _ _ _ _ _ _ _ (Act.put _ (some 34) _) _
        try simp only [act_all]
        refine wpAnyH_take (i := 11) (oi := _) (v := ?_) rfl (by kernel_rfl) (by kernel_rfl) (by kernel_rfl) (fun _ _ _ h => h) (Or.inl ⟨by rfl, ?_⟩) (by assumption) ?_
        rotate_left
        · intro w hSw; obtain ⟨s0, s1⟩ := hSw; go_simp; (try with_reducible rfl)
        try change wpAnyH _ _ _ _ _ _ _ (Act.put _ (some 35) _) _
        try simp only [act_all]
        refine wpAnyH_take (i := 12) (oi := _) (v := ?_) rfl (by kernel_rfl) (by kernel_rfl) (by kernel_rfl) (fun _ _ _ h => h) (Or.inl ⟨by rfl, ?_⟩) (by assumption) ?_
        rotate_left
        · intro w hSw; obtain ⟨s0, s1⟩ := hSw; go_simp; (try with_reducible rfl)
        try change wpAnyH _ _ _ _ _ _ _ (Act.put _ (some 36) _) _
        try simp only [act_all]
        refine wpAnyH_take (i := 13) (oi := _) (v := _) rfl (by kernel_rfl) (by kernel_rfl) (by kernel_rfl) (fun _ _ _ h => h) (yieldsIf_load_mid (by rfl) 26 _ rfl b _ rfl ([.int .i64 px, .int .i64 py]) _ (fun w' hh => by simpa using range_xy hh.2) Try.underlying26 rfl (by kernel_rfl)) (by assumption) ?_
        try change wpAnyH _ _ _ _ _ _ _ (Act.put _ (some 37) _) _
        try simp only [act_all]
        refine wpAnyH_take (i := 14) (oi := _) (v := _) rfl (by kernel_rfl) (by kernel_rfl) (by kernel_rfl) (fun _ _ _ h => h) (yieldsIf_load_mid (by rfl) 26 _ rfl b6 0 rfl ([.int .i64 x, .int .i64 y]) _ (fun w' hh => range_row hh.1 0 [.int .i64 x, .int .i64 y] (fun j hj => by simp only [Nat.zero_add, List.getElem?_toArray])) Try.underlying26 rfl (by kernel_rfl)) (by assumption) ?_
        try change wpAnyH _ _ _ _ _ _ _ (Act.put _ (some 38) _) _
        try simp only [act_all]
        refine wpAnyH_ready (rs := [15]) (by kernel_rfl) (by simp) ?_
        refine AllReadyH.cons (o := _) rfl (fun K hK => ?_) AllReadyH.nil
        go_simp
        refine (toward_any px py x y _ HPR.out.1 HPR.out.2 hx0 hy0).mono ?_
        rw [HWY.out]
        rintro e_ t6 ⟨rfl, hb⟩
        have D6 : Below w2.heap.size w2 t6 := D5.trans (hb.mono D5.size)
        clear hb hHeld
        refine hK.out _ _ (G0.out _ D6) (fun hHeld => ?_)
        clear hK K
        try simp only [act_all]
        refine wpAnyH_take (i := 16) (oi := _) (v := ?_) rfl (by kernel_rfl) (by kernel_rfl) (by kernel_rfl) (fun _ _ _ h => h) (Or.inl ⟨by rfl, ?_⟩) (by assumption) ?_
        rotate_left
        · intro w hSw; obtain ⟨s0, s1⟩ := hSw; go_simp; (try with_reducible rfl)
        try change wpAnyH _ _ _ _ _ _ _ (Act.put _ (some 40) _) _
        try simp only [act_all]
        refine wpAnyH_take (i := 17) (oi := _) (v := ?_) rfl (by kernel_rfl) (by kernel_rfl) (by kernel_rfl) (fun _ _ _ h => h) (Or.inl ⟨by rfl, ?_⟩) (by assumption) ?_
        rotate_left
        · intro w hSw; obtain ⟨s0, s1⟩ := hSw; go_simp; (try with_reducible rfl)
        try change wpAnyH _ _ _ _ _ _ _ (Act.put _ (some 41) _) _
        try simp only [act_all]
        refine wpAnyH_take (i := 18) (oi := _) (v := ?_) rfl (by kernel_rfl) (by kernel_rfl) (by kernel_rfl) (fun _ _ _ h => h) (Or.inl ⟨by rfl, ?_⟩) (by assumption) ?_
        rotate_left
        · intro w hSw; obtain ⟨s0, s1⟩ := hSw; go_simp; (try with_reducible rfl)
        try change wpAnyH _ _ _ _ _ _ _ (Act.put _ (some 42) _) _
        try simp only [act_all]
        refine wpAnyH_done (by kernel_rfl) ?_ _
        clear hHeld
        have HBN : Hid (Below w.heap.size w _) := Lib.hid (HB2.out.trans (D6.mono HB2.out.size))
        have KGN := Lib.hid ((D6.block _ hz2.1).trans KG2.out)
        have hzN := Nat.lt_of_lt_of_le hz2.1 D6.size
        clear HQ0 G0 HPRE
        go_wp2_with fail
        go_roundw
        case rel => exact ⟨j + 1 + 1, by go_num, by omega, HS', KGN, HBN, hzN⟩
        case measure => simp [intOf]; omega
    obtain rfl : n = k := by omega
    have HPA : Hid (paB X Y n = true) := Lib.hid (paB_iff.2 ⟨⟨h1, h9⟩, repN_iff.1 HS.out.1, fun k hk => HS.out.2 k (by omega)⟩)
    have HR0 : Hid (chE W H (blkN XB YB nb) X Y n = if opA W H (blkN XB YB nb) X Y n = true then 0 else 72) := Lib.hid (by unfold chE; rw [HPA.out]; rfl)
    go_wp2_with fail
    go_loopw [46] (fun iv wr => ∃ k : Nat, iv = .int .i64 k ∧ k ≤ n ∧ Hid (opA W H (blkN XB YB nb) X Y k = true) ∧ Hid (wr.heap[w.heap.size]? = some (.cells #[.int .i64 W, .int .i64 H, .int .i64 M, .int .i64 B, .slice ao nb cb] 24 (0, 0))) ∧ Hid (Below w.heap.size w wr) ∧ w.heap.size < wr.heap.size) (fun iv _ => n - (intOf iv).toNat)
    case atStart => exact ⟨0, rfl, Nat.zero_le _, Lib.hid rfl, KG, HB, hz⟩
    case round =>
      obtain ⟨k, rfl, hk2, HS2, KG2, HB2, hz2⟩ := hrel
      clear KG HB hz HS
      by_cases hlt2 : k < n
      case neg =>
        obtain rfl : n = k := by omega
        have HR : Hid (chE W H (blkN XB YB nb) X Y n = 0) := Lib.hid (by rw [HR0.out, HS2.out]; rfl)
        go_wp2_with fail
        refine bodyPost_ret (v := .int .i64 0) (by simp [results, Try.results65, go_sem]) rfl ⟨by rw [HR.out], HB2.out⟩
      obtain ⟨c0, c1⟩ := (HCL.out k hlt2).keep HB2.out
      obtain ⟨x, hx⟩ : ∃ z, X k = z := ⟨_, rfl⟩
      obtain ⟨y, hy⟩ : ∃ z, Y k = z := ⟨_, rfl⟩
      rw [hx] at c0
      rw [hy] at c1
      have HXY := Lib.hid (And.intro hx hy)
      clear hx hy
      obtain ⟨g0, g1, g2, g3, g4⟩ := G5.c KG2.out
      have l0 : ¬ w.heap.size = wr.heap.size := by omega
      have l1 : ¬ wr.heap.size = w.heap.size := by omega
      go_wp2_with fail
      have hba : Below wr.heap.size wr (wr.alloc (.cells #[.int .i64 x, .int .i64 y] 26)) := bal (Below.refl _ _) _
      refine (rOpen_any W H M B x y nb cb ao XB YB _ hn (HC.out.keep (HB2.out.trans (hba.mono HB2.out.size)))).mono ?_
      obtain ⟨op, hop⟩ : ∃ z, opB W H (blkN XB YB nb) x y = z := ⟨_, rfl⟩
      rw [hop]
      have HOP := Lib.hid hop
      clear hop
      rintro e w3 ⟨rfl, hb⟩
      have HB3 : Hid (Below w.heap.size w w3) := Lib.hid ((HB2.out.trans (hba.mono HB2.out.size)).trans (hb.mono (by simp; omega)))
      have KG3 : Hid (w3.heap[w.heap.size]? = some (.cells #[.int .i64 W, .int .i64 H, .int .i64 M, .int .i64 B, .slice ao nb cb] 24 (0, 0))) := Lib.hid ((hb.block _ (by simp; omega)).trans ((hba.block _ hz2).trans KG2.out))
      have hz3 : w.heap.size < w3.heap.size := by have := hb.size; simp at this; omega
      clear hb hba g0 g1 g2 g3 g4 c0 c1 KG2 HB2
      cases op with
      | false =>
        have HR : Hid (chE W H (blkN XB YB nb) X Y n = 72) := Lib.hid (by rw [HR0.out, opA_stop (k := k) (by rw [HXY.out.1, HXY.out.2]; exact HOP.out) n hlt2]; rfl)
        go_wp2_with fail
        refine bodyPost_ret (v := .int .i64 72) (by simp [results, Try.results65, go_sem]) rfl ⟨by rw [HR.out], HB3.out⟩
      | true =>
        have HS' : Hid (opA W H (blkN XB YB nb) X Y (k + 1) = true) := Lib.hid (by simp only [opA]; rw [HS2.out, HXY.out.1, HXY.out.2, HOP.out]; rfl)
        go_wp2_with fail
        go_roundw
        case rel => exact ⟨k + 1, by go_num, by omega, HS', KG3, HB3, hz3⟩
        case measure => simp [intOf]; omega

set_option maxRecDepth 100000 in
set_option maxHeartbeats 4000000 in
theorem rCheck_any (W H M B : Int) (nb cb n cp : Nat) (ao ap : Option Addr) (XB YB X Y : Nat → Int) (w : World) (hn : nb ≤ 9223372036854775807) (hc : XYs w ao nb XB YB) (hnp : n ≤ 1000000) (hcp : n ≤ cp) (hp : XYs w ap n X Y) (hr : R2 X Y n) :
    Calls Try.prog 31 #[.agg #[.int .i64 W, .int .i64 H, .int .i64 M, .int .i64 B, .slice ao nb cb], .slice ap n cp] w fun e w' => e = .returned (.int .i64 (rdE (vaG W H M B nb XB YB) 1 (chE W H (blkN XB YB nb) X Y n))) ∧ Below w.heap.size w w' := by
  have HC := Lib.hid hc
  have HP := Lib.hid hp
  have HRR := Lib.hid hr
  clear hc hp hr
  obtain ⟨va, hva⟩ : ∃ z, vaG W H M B nb XB YB = z := ⟨_, rfl⟩
  rw [hva]
  have HVA := Lib.hid hva
  clear hva
  go_enter Try.func31, Try.ntmps31
  go_wp2_with fail
  refine (rValid_any W H M B nb cb ao XB YB _ hn (HC.out.keep (by go_grown))).mono ?_
  rw [HVA.out]
  rintro e w1 ⟨rfl, hb⟩
  have HB1 : Hid (Below w.heap.size w w1) := Lib.hid (Below.trans (by go_grown) (hb.mono (by simp)))
  have KG1 : Hid (G5 w1 w.heap.size W H M B ao nb cb) := Lib.hid ((hb.block _ (by simp)).trans (heap_alloc_new w _))
  clear hb
  obtain ⟨g0, g1, g2, g3, g4⟩ := G5.c KG1.out
  cases va with
  | false =>
    go_wp2_with fail
    refine bodyPost_ret (v := .int .i64 70) (by simp [results, Try.results31, go_sem]) rfl ⟨rfl, HB1.out⟩
  | true =>
    go_wp2_with fail
    refine (rcheck_any W H M B nb cb n cp ao ap XB YB X Y _ hn (HC.out.keep HB1.out) hnp hcp (HP.out.keep HB1.out) HRR.out).mono ?_
    rintro e w2 ⟨rfl, hb⟩
    have HB2 : Hid (Below w.heap.size w w2) := Lib.hid (HB1.out.trans (hb.mono HB1.out.size))
    clear hb HB1 KG1 g0 g1 g2 g3 g4
    go_wp2_with fail
    refine bodyPost_ret (v := .int .i64 (chE W H (blkN XB YB nb) X Y n)) (by simp [results, Try.results31, go_sem]) rfl ⟨rfl, HB2.out⟩
end Go.Proofs.Ytkkcnhhfdicppaa
