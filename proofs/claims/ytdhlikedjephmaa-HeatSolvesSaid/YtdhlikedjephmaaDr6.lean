import Derived.Test.YtdhlikedjephmaaWo6
namespace Heat
open Go Go.RowKit
/-- The determinant of rows, in words of 64 bits. -/
def detM : Nat → (Nat → Nat → Int) → Int
  | 0, _ => 1
  | n + 1, F => detU (fun k => detM n (mnF k F)) (F 0) (n + 1)
theorem detM_P : ∀ {n : Nat} {F : Nat → Nat → Int}, detM n F = wrap64 (detP n F)
  | 0, _ => by unfold detM detP; simp [wrap64]
  | n + 1, F => by
    unfold detM detP
    exact detU_P fun k _ => detM_P
theorem detM_N {n : Nat} {F : Nat → Nat → Int} (h : n ≤ 5) : detM n F = detN n (gnL n n F) := by
  rw [detM_P, detN_P h]
  congr 1
  refine detP_congr fun i hi j hj => ?_
  have h5 : (i * 5 + j) / 5 = i ∧ (i * 5 + j) % 5 = j := by omega
  unfold gnL
  rw [h5.1, h5.2, if_pos ⟨hi, hj⟩]
end Heat
namespace Go.Proofs.Ytdhlikedjephmaa
open Go.RowKit Heat
set_option maxRecDepth 100000 in
theorem rdet_zero (cap : Nat) (ao : Option Addr) (w : World) :
    Calls Try.prog 68 #[.slice ao 0 cap] w fun e w' => e = .returned (.int .i64 1) ∧ Below w.heap.size w w' := by
  go_enter Try.func68, Try.ntmps68
  go_wp2_with fail
  go_returns
  exact ⟨rfl, Below.refl _ _⟩
set_option maxRecDepth 100000 in
set_option maxHeartbeats 8000000 in
theorem rdet_next (n N : Nat) (hN : N = n + 1) (hn : n < 5) (IH : ∀ (cap : Nat) (ao : Option Addr) (A : Nat → Option Addr) (c : Nat → Nat) (F : Nat → Nat → Int) (w : World), Rowsw w ao n A (fun _ => n) c F → Calls Try.prog 68 #[.slice ao n cap] w fun e w' => e = .returned (.int .i64 (detM n F)) ∧ Below w.heap.size w w')
    (cap : Nat) (ao : Option Addr) (A : Nat → Option Addr) (l c : Nat → Nat) (F : Nat → Nat → Int) (w : World) (hR : Rowsw w ao N A l c F) (hl : ∀ i, i < N → l i = N) :
    Calls Try.prog 68 #[.slice ao N cap] w fun e w' => e = .returned (.int .i64 (detM (n + 1) F)) ∧ Below w.heap.size w w' := by
  have HIH := Lib.hid IH
  have HG := Lib.hid hR
  have HL := Lib.hid hl
  have HSQ := Lib.hid (hR.sq hl (by omega) 0 (by omega))
  obtain ⟨d, hd⟩ : ∃ d : Nat → Int, (fun k => detM n (mnF k F)) = d := ⟨_, rfl⟩
  have HDK : Hid (∀ k, detM n (mnF k F) = d k) := Lib.hid (fun k => by rw [← hd])
  obtain ⟨r, hr⟩ : ∃ r, detM (n + 1) F = r := ⟨_, rfl⟩
  have HR : Hid (detU d (F 0) (n + 1) = r) := Lib.hid (by rw [← hr, ← hd]; rfl)
  rw [hr]
  clear hd hr IH hR hl
  have HN := Lib.hid hN
  have hN5 : N ≤ 5 := by omega
  have hN1 : 1 ≤ N := by omega
  have n0 : ((N : Int) == 0) = false := by rw [beq_eq_false_iff_ne]; omega
  clear hN hn
  go_enter Try.func68, Try.ntmps68
  go_wp2_with fail
  go_loopw [3, 4, 5] (fun tv sv iv wr => ∃ (t sg z : Int) (i : Nat), tv = .int .i64 t ∧ sv = .int .i64 sg ∧ iv = .int .i64 z ∧ z = i ∧ i ≤ N ∧ Hid (t = detU d (F 0) i) ∧ Hid (sg = sgnK i) ∧ Hid (Below w.heap.size w wr)) (fun _ _ iv _ => N - (intOf iv).toNat)
  case atStart => exact ⟨0, 1, 0, 0, rfl, rfl, rfl, rfl, by omega, Lib.hid rfl, Lib.hid rfl, Lib.hid (Below.refl _ _)⟩
  case round =>
    obtain ⟨t, sg, z, i, rfl, rfl, rfl, hz, hi, HT, HS, HB⟩ := hrel
    clear n0
    by_cases hlt : i < N
    · have hlt' : z < (N : Int) := by omega
      subst hz
      have i00 : (0 : Int) ≤ (i : Int) := by omega
      have hN0 : 0 < N := by omega
      have hsg : sg = 1 ∨ sg = -1 := by rw [HS.out]; exact sgnK_or i
      have wg : wrap64 (-sg) = -sg := by simp only [wrap64]; omega
      have wz : wrap64 ((i : Int) + 1) = (i : Int) + 1 := by clear wg; simp only [wrap64]; omega
      obtain ⟨b, o, b1, o1, hao, hbl, hrow, hb1l, hcl⟩ := HSQ.out
      have g0 := (HB.out.cell (p := ⟨b, o + 0, none⟩) hbl).trans hrow
      have g1 := (HB.out.cell (p := ⟨b1, o1 + i, none⟩) hb1l).trans (hcl i hlt)
      rw [Nat.add_zero] at g0
      subst hao
      obtain ⟨x, hx⟩ : ∃ x, F 0 i = x := ⟨_, rfl⟩
      have HX := Lib.hid hx
      rw [hx] at g1
      have HK : Hid (∀ w', Below wr.heap.size wr w' → w'.cell? ⟨b, o, none⟩ = some (.slice (some ⟨b1, o1, none⟩) N (c 0)) ∧ w'.cell? ⟨b1, o1 + i, none⟩ = some (.int .i64 x)) := Lib.hid (fun w' hb => ⟨(hb.cell (p := ⟨b, o, none⟩) (World.block_lt_of_cell? _ _ g0)).trans g0, (hb.cell (p := ⟨b1, o1 + i, none⟩) (World.block_lt_of_cell? _ _ g1)).trans g1⟩)
      have D0 : Below wr.heap.size wr wr.drew := (Below.refl _ _).drew
      clear hbl hrow hb1l hcl g0 g1 hx hsg
      go_upto_region 7 with fail
      refine wp_region_held_drew (S := fun w' => w'.cell? ⟨b, o, none⟩ = some (.slice (some ⟨b1, o1, none⟩) N (c 0)) ∧ w'.cell? ⟨b1, o1 + i, none⟩ = some (.int .i64 x)) (by kernel_rfl) (HK.out _ D0) (fun hHeld => ?_)
      refine wpAnyH_take (i := 0) (oi := _) (v := ?_) rfl (by kernel_rfl) (by kernel_rfl) (by kernel_rfl) (fun _ _ _ h => h) (Or.inl ⟨by rfl, ?_⟩) (by assumption) ?_
      rotate_left
      · intro w hSw; obtain ⟨_, _⟩ := hSw; go_simp; (try with_reducible rfl)
      try change wpAnyH _ _ _ _ _ _ _ (Act.put _ (some 15) _) _
      try simp only [act_all]
      refine wpAnyH_take (i := 1) (oi := _) (v := ?_) rfl (by kernel_rfl) (by kernel_rfl) (by kernel_rfl) (fun _ _ _ h => h) (Or.inl ⟨by rfl, ?_⟩) (by assumption) ?_
      rotate_left
      · intro w hSw; obtain ⟨_, _⟩ := hSw; go_simp; (try with_reducible rfl)
      try change wpAnyH _ _ _ _ _ _ _ (Act.put _ (some 16) _) _
      try simp only [act_all]
      refine wpAnyH_take (i := 2) (oi := _) (v := ?_) rfl (by kernel_rfl) (by kernel_rfl) (by kernel_rfl) (fun _ _ _ h => h) (Or.inl ⟨by rfl, ?_⟩) (by assumption) ?_
      rotate_left
      · intro w hSw; obtain ⟨_, _⟩ := hSw; go_simp; (try with_reducible rfl)
      try change wpAnyH _ _ _ _ _ _ _ (Act.put _ (some 17) _) _
      try simp only [act_all]
      refine wpAnyH_take (i := 3) (oi := _) (v := ?_) rfl (by kernel_rfl) (by kernel_rfl) (by kernel_rfl) (fun _ _ _ h => h) (Or.inl ⟨by rfl, ?_⟩) (by assumption) ?_
      rotate_left
      · intro w hSw; obtain ⟨_, _⟩ := hSw; go_simp; (try with_reducible rfl)
      try change wpAnyH _ _ _ _ _ _ _ (Act.put _ (some 18) _) _
      try simp only [act_all]
      refine wpAnyH_take (i := 4) (oi := _) (v := ?_) rfl (by kernel_rfl) (by kernel_rfl) (by kernel_rfl) (fun _ _ _ h => h) (Or.inl ⟨by rfl, ?_⟩) (by assumption) ?_
      rotate_left
      · intro w hSw; obtain ⟨_, _⟩ := hSw; go_simp; (try with_reducible rfl)
      try change wpAnyH _ _ _ _ _ _ _ (Act.put _ (some 19) _) _
      try simp only [act_all]
      refine wpAnyH_take (i := 5) (oi := _) (v := ?_) rfl (by kernel_rfl) (by kernel_rfl) (by kernel_rfl) (fun _ _ _ h => h) (Or.inl ⟨by rfl, ?_⟩) (by assumption) ?_
      rotate_left
      · intro w hSw; obtain ⟨_, _⟩ := hSw; go_simp; (try with_reducible rfl)
      try change wpAnyH _ _ _ _ _ _ _ (Act.put _ (some 20) _) _
      try simp only [act_all]
      refine wpAnyH_take (i := 6) (oi := _) (v := ?_) rfl (by kernel_rfl) (by kernel_rfl) (by kernel_rfl) (fun _ _ _ h => h) (Or.inl ⟨by rfl, ?_⟩) (by assumption) ?_
      rotate_left
      · intro w hSw; obtain ⟨_, _⟩ := hSw; go_simp; (try with_reducible rfl)
      try change wpAnyH _ _ _ _ _ _ _ (Act.put _ (some 21) _) _
      try simp only [act_all]
      refine wpAnyH_take (i := 7) (oi := _) (v := ?_) rfl (by kernel_rfl) (by kernel_rfl) (by kernel_rfl) (fun _ _ _ h => h) (Or.inl ⟨by rfl, ?_⟩) (by assumption) ?_
      rotate_left
      · intro w hSw; obtain ⟨_, _⟩ := hSw; go_simp; (try with_reducible rfl)
      try change wpAnyH _ _ _ _ _ _ _ (Act.put _ (some 22) _) _
      try simp only [act_all]
      refine wpAnyH_take (i := 8) (oi := _) (v := ?_) rfl (by kernel_rfl) (by kernel_rfl) (by kernel_rfl) (fun _ _ _ h => h) (Or.inl ⟨by rfl, ?_⟩) (by assumption) ?_
      rotate_left
      · intro w hSw; obtain ⟨_, _⟩ := hSw; go_simp; (try with_reducible rfl)
      try change wpAnyH _ _ _ _ _ _ _ (Act.put _ (some 23) _) _
      try simp only [act_all]
      refine wpAnyH_take (i := 9) (oi := _) (v := ?_) rfl (by kernel_rfl) (by kernel_rfl) (by kernel_rfl) (fun _ _ _ h => h) (Or.inl ⟨by rfl, ?_⟩) (by assumption) ?_
      rotate_left
      · intro w hSw; obtain ⟨_, _⟩ := hSw; go_simp; (try with_reducible rfl)
      try change wpAnyH _ _ _ _ _ _ _ (Act.put _ (some 24) _) _
      try simp only [act_all]
      refine wpAnyH_take (i := 10) (oi := _) (v := ?_) rfl (by kernel_rfl) (by kernel_rfl) (by kernel_rfl) (fun _ _ _ h => h) (Or.inl ⟨by rfl, ?_⟩) (by assumption) ?_
      rotate_left
      · intro w hSw; obtain ⟨_, _⟩ := hSw; go_simp; (try with_reducible rfl)
      try change wpAnyH _ _ _ _ _ _ _ (Act.put _ (some 25) _) _
      try simp only [act_all]
      refine wpAnyH_ready (rs := [11]) (by kernel_rfl) (by simp) ?_
      refine AllReadyH.cons (o := _) rfl (fun K hK => ?_) AllReadyH.nil
      go_simp
      refine (rWithout_any N cap (some ⟨b, o, none⟩) A l c F i _ (by omega) (by omega) HL.out (HG.out.keep (HB.out.trans (D0.mono HB.out.size))) hlt).mono ?_
      rintro e v1 ⟨⟨ao1, cap1, A1, c1, he, hr1⟩, hb⟩
      rw [show N - 1 = n from by rw [HN.out]; rfl] at he hr1
      subst he
      have D1 : Below wr.heap.size wr v1 := D0.trans (hb.mono D0.size)
      have HR1 : Hid (Rowsw v1 ao1 n A1 (fun _ => n) c1 (mnF i F)) := Lib.hid hr1
      clear hb hr1
      refine hK.out _ _ (HK.out _ D1) (fun hHeld => ?_)
      clear hK K
      try simp only [act_all]
      refine wpAnyH_ready (rs := [12]) (by kernel_rfl) (by simp) ?_
      refine AllReadyH.cons (o := _) rfl (fun K hK => ?_) AllReadyH.nil
      go_simp
      refine (HIH.out cap1 ao1 A1 c1 (mnF i F) _ HR1.out).mono ?_
      rw [HDK.out]
      rintro e v2 ⟨rfl, hb⟩
      have D2 : Below wr.heap.size wr v2 := D1.trans (hb.mono D1.size)
      clear hb
      refine hK.out _ _ (HK.out _ D2) (fun hHeld => ?_)
      clear hK K
      try simp only [act_all]
      refine wpAnyH_take (i := 13) (oi := _) (v := ?_) rfl (by kernel_rfl) (by kernel_rfl) (by kernel_rfl) (fun _ _ _ h => h) (Or.inl ⟨by rfl, ?_⟩) (by assumption) ?_
      rotate_left
      · intro w hSw; obtain ⟨_, _⟩ := hSw; go_simp; (try with_reducible rfl)
      try change wpAnyH _ _ _ _ _ _ _ (Act.put _ (some 28) _) _
      try simp only [act_all]
      refine wpAnyH_take (i := 14) (oi := _) (v := ?_) rfl (by kernel_rfl) (by kernel_rfl) (by kernel_rfl) (fun _ _ _ h => h) (Or.inl ⟨by rfl, ?_⟩) (by assumption) ?_
      rotate_left
      · intro w hSw; obtain ⟨_, _⟩ := hSw; go_simp; (try with_reducible rfl)
      try change wpAnyH _ _ _ _ _ _ _ (Act.put _ (some 29) _) _
      try simp only [act_all]
      refine wpAnyH_take (i := 15) (oi := _) (v := ?_) rfl (by kernel_rfl) (by kernel_rfl) (by kernel_rfl) (fun _ _ _ h => h) (Or.inl ⟨by rfl, ?_⟩) (by assumption) ?_
      rotate_left
      · intro w hSw; obtain ⟨_, _⟩ := hSw; go_simp; (try with_reducible rfl)
      try change wpAnyH _ _ _ _ _ _ _ (Act.put _ (some 3) _) _
      try simp only [act_all]
      refine wpAnyH_done (by kernel_rfl) ?_ _
      have HB2 := Lib.hid (HB.out.trans (D2.mono HB.out.size))
      clear hHeld HK HB D0 D1 D2 HR1
      go_wp2_with fail
      go_roundw
      case rel => exact ⟨_, -sg, (i : Int) + 1, i + 1, rfl, by first | rfl | rw [wg], by first | rfl | rw [wz], by omega, by omega, Lib.hid (by rw [HT.out, HS.out, ← HX.out]; simp only [IntWalk.i64_left]; rfl), Lib.hid (by rw [HS.out, sgnK_next]), HB2⟩
      case measure => first | (simp [intOf]; done) | (simp [intOf]; omega)
    · obtain rfl : i = N := by omega
      have HTR : Hid (t = r) := Lib.hid (HT.out.trans (by rw [HN.out]; exact HR.out))
      have hbl := HB.out
      subst hz
      clear HT HB
      go_wp2_with fail
      refine bodyPost_ret (v := .int .i64 t) (by simp [results, Try.results68, go_sem]) rfl ⟨by rw [HTR.out], hbl⟩
theorem rdet_any : ∀ (n : Nat) (cap : Nat) (ao : Option Addr) (A : Nat → Option Addr) (l c : Nat → Nat) (F : Nat → Nat → Int) (w : World), n ≤ 5 → Rowsw w ao n A l c F → (∀ i, i < n → l i = n) → Calls Try.prog 68 #[.slice ao n cap] w fun e w' => e = .returned (.int .i64 (detM n F)) ∧ Below w.heap.size w w'
  | 0, cap, ao, _, _, _, _, w, _, _, _ => rdet_zero cap ao w
  | n + 1, cap, ao, A, l, c, F, w, h, hR, hl => rdet_next n (n + 1) rfl (by omega) (fun cap ao A c F w hR => rdet_any n cap ao A (fun _ => n) c F w (by omega) hR (fun _ _ => rfl)) cap ao A l c F w hR hl
end Go.Proofs.Ytdhlikedjephmaa
