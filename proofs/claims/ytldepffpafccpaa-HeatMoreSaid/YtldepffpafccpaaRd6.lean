import Derived.Test.YtldepffpafccpaaRb6
namespace Go.Proofs.Ytldepffpafccpaa
open Go.RowKit Heat
def domV (N : Nat) (l : Nat → Nat) (F : Nat → Nat → Int) : Bool := okG N l F && domT N F N
def bankE (N : Nat) (l : Nat → Nat) (F : Nat → Nat → Int) : Int := if okG N l F = true then 0 else 60
set_option maxRecDepth 100000 in
set_option maxHeartbeats 8000000 in
theorem rDominant_any (N cap : Nat) (ao : Option Addr) (A : Nat → Option Addr) (l c : Nat → Nat) (F : Nat → Nat → Int) (w : World) (hN : N ≤ 9223372036854775807) (hR : Rowsw w ao N A l c F) :
    Calls Try.prog 26 #[.agg #[.slice ao N cap]] w fun e w' => e = .returned (.tuple #[.bool (domV N l F), .int .i64 (bankE N l F)]) ∧ Below w.heap.size w w' := by
  have HG := Lib.hid hR
  clear hR
  obtain ⟨bk, hbk⟩ : ∃ bk, okG N l F = bk := ⟨_, rfl⟩
  have HOK := Lib.hid hbk
  clear hbk
  have hbx : (w.alloc (Obj.cells #[.slice ao N cap] 40)).cell? ⟨w.heap.size, 0, none⟩ = some (.slice ao N cap) := by go_cell
  have hb0 : Below w.heap.size w (w.alloc (Obj.cells #[.slice ao N cap] 40)) := by go_grown
  have hsz : w.heap.size < (w.alloc (Obj.cells #[.slice ao N cap] 40)).heap.size := by simp
  go_enter Try.func26, Try.ntmps26
  go_upto_region 1 with fail
  generalize (w.alloc (Obj.cells #[.slice ao N cap] 40)) = W at *
  have HB0 := Lib.hid hb0
  clear hb0
  go_wp2_with fail
  refine (rBound_any N cap ao A l c F _ hN (HG.out.keep (HB0.out.mono (Nat.le_refl _)))).mono ?_
  unfold BoundR
  rw [HOK.out]
  rintro e w2 ⟨⟨a1, c1, rfl, hI1⟩, hb⟩
  have HB2 := Lib.hid (HB0.out.trans (hb.mono HB0.out.size))
  have hbx2 := (hb.cell (p := ⟨w.heap.size, 0, none⟩) hsz).trans hbx
  have hs2 : w.heap.size < w2.heap.size := by have := hb.size; omega
  have HI1 := Lib.hid hI1
  clear hb HB0 hbx hsz hI1
  have hbl := HB2.out
  cases bk with
  | false =>
    have HE : Hid (domV N l F = false ∧ bankE N l F = 60) := Lib.hid ⟨by unfold domV; rw [HOK.out]; rfl, by unfold bankE; rw [HOK.out]; rfl⟩
    simp only [Bool.false_eq_true, if_false]
    go_wp2_with fail
    go_loopw [6] (fun iv wr => iv = .int .i64 0 ∧ w2 = wr) (fun _ _ => 0)
    case atStart => exact ⟨rfl, by first | rfl | trivial⟩
    case round =>
    obtain ⟨rfl, rfl⟩ := hrel
    go_wp2_with fail
    refine bodyPost_ret (v := .tuple #[.bool false, .int .i64 60]) (by simp [results, Try.results26, go_sem]) rfl ⟨by rw [HE.out.1, HE.out.2], hbl⟩
  | true =>
    obtain ⟨hNN, hF⟩ := okG_iff.1 HOK.out
    have hN5 := hNN.2
    have hN1 := hNN.1
    have HF : Hid (∀ i, i < N → ∀ j, j < N → -200 ≤ F i j ∧ F i j ≤ 200) := Lib.hid (fun i hi => (hF i hi).2)
    have HRA := Lib.hid (HG.out.at HOK.out)
    have HE : Hid (domV N l F = domT N F N ∧ bankE N l F = 0) := Lib.hid ⟨by unfold domV; rw [HOK.out]; rfl, by unfold bankE; rw [HOK.out]; rfl⟩
    have HI2 : Hid (Ints w2 a1 N (fun i => sumA (F i) N)) := HI1
    clear hF hNN hbl HI1
    (try simp only [if_pos])
    go_wp2_with fail
    go_loopw [6] (fun iv wr => ∃ (z : Int) (i : Nat), iv = .int .i64 z ∧ z = i ∧ i ≤ N ∧ Hid (domT N F i = true) ∧ Hid (Below w2.heap.size w2 wr)) (fun iv _ => N - (intOf iv).toNat)
    case atStart => exact ⟨0, 0, rfl, by omega, by omega, Lib.hid rfl, Lib.hid (Below.refl _ _)⟩
    case round =>
      obtain ⟨z, i, rfl, hz, hi, HS, HB⟩ := hrel
      by_cases hlt : i < N
      · have hlt' : z < (N : Int) := by omega
        subst hz
        have i00 : (0 : Int) ≤ (i : Int) := by omega
        obtain ⟨b, o, b1, o1, hao, hbl, hrow, hb1l, hcl⟩ := HRA.out i hlt
        have g0 := (HB.out.cell (p := ⟨w.heap.size, 0, none⟩) hs2).trans hbx2
        have g1 := ((HB2.out.trans (HB.out.mono HB2.out.size)).cell (p := ⟨b, o + i, none⟩) hbl).trans hrow
        have g2 := ((HB2.out.trans (HB.out.mono HB2.out.size)).cell (p := ⟨b1, o1 + i, none⟩) hb1l).trans (hcl i hlt)
        obtain ⟨b4, o4, ha1, hc4⟩ := HI2.out (by omega)
        have g3 := (HB.out.cell (p := ⟨b4, o4 + i, none⟩) (World.block_lt_of_cell? w2 _ (hc4 i hlt))).trans (hc4 i hlt)
        have hfb := HF.out i hlt i hlt
        have hsb := sumA_bd (f := F i) (n := N) (fun q hq => HF.out i hlt q hq)
        obtain ⟨v, hv⟩ : ∃ v, F i i = v := ⟨_, rfl⟩
        obtain ⟨r, hr⟩ : ∃ r, sumA (F i) N = r := ⟨_, rfl⟩
        replace g3 : wr.cell? ⟨b4, o4 + i, none⟩ = some (.int .i64 (sumA (F i) N)) := g3
        rw [hv] at g2 hfb
        rw [hr] at g3 hsb
        have hab := absI_bd hfb
        have hv1 : -4611686018427387904 ≤ v := by omega
        have hv2 : v ≤ 4611686018427387904 := by omega
        obtain ⟨q, hq⟩ : ∃ q, absI v = q := ⟨_, rfl⟩
        have HQ := Lib.hid hq
        have HVR := Lib.hid (And.intro hv hr)
        rw [hq] at hab
        have w2q : IntKind.i64.wrap (2 * q) = 2 * q := IntWalk.i64_in _ (by omega)
        subst hao
        subst ha1
        have HG0 : Hid (∀ w', Below wr.heap.size wr w' → w'.cell? ⟨w.heap.size, 0, none⟩ = some (.slice (some ⟨b, o, none⟩) N cap) ∧ w'.cell? ⟨b, o + i, none⟩ = some (.slice (some ⟨b1, o1, none⟩) N (c i)) ∧ w'.cell? ⟨b1, o1 + i, none⟩ = some (.int .i64 v) ∧ w'.cell? ⟨b4, o4 + i, none⟩ = some (.int .i64 r)) := Lib.hid (fun w' hb => ⟨(hb.cell (p := ⟨w.heap.size, 0, none⟩) (World.block_lt_of_cell? _ _ g0)).trans g0, (hb.cell (p := ⟨b, o + i, none⟩) (World.block_lt_of_cell? _ _ g1)).trans g1, (hb.cell (p := ⟨b1, o1 + i, none⟩) (World.block_lt_of_cell? _ _ g2)).trans g2, (hb.cell (p := ⟨b4, o4 + i, none⟩) (World.block_lt_of_cell? _ _ g3)).trans g3⟩)
        clear hcl hrow hfb hsb hv hr hq hab hc4 g0 g1 g2 g3
        go_upto_region 5 with fail
        refine wp_region_held_drew (S := fun w' => w'.cell? ⟨w.heap.size, 0, none⟩ = some (.slice (some ⟨b, o, none⟩) N cap) ∧ w'.cell? ⟨b, o + i, none⟩ = some (.slice (some ⟨b1, o1, none⟩) N (c i)) ∧ w'.cell? ⟨b1, o1 + i, none⟩ = some (.int .i64 v) ∧ w'.cell? ⟨b4, o4 + i, none⟩ = some (.int .i64 r)) (by kernel_rfl) (HG0.out _ ((Below.refl _ _).drew)) (fun hHeld => ?_)
        refine wpAnyH_take (i := 0) (oi := _) (v := ?_) rfl (by kernel_rfl) (by kernel_rfl) (by kernel_rfl) (fun _ _ _ h => h) (Or.inl ⟨by rfl, ?_⟩) (by assumption) ?_
        rotate_left
        · intro w hSw; obtain ⟨s0, s1, s2, s3⟩ := hSw; go_simp; (try with_reducible rfl)
        try change wpAnyH _ _ _ _ _ _ _ (Act.put _ (some 18) _) _
        try simp only [act_all]
        refine wpAnyH_take (i := 1) (oi := _) (v := ?_) rfl (by kernel_rfl) (by kernel_rfl) (by kernel_rfl) (fun _ _ _ h => h) (Or.inl ⟨by rfl, ?_⟩) (by assumption) ?_
        rotate_left
        · intro w hSw; obtain ⟨s0, s1, s2, s3⟩ := hSw; go_simp; (try with_reducible rfl)
        try change wpAnyH _ _ _ _ _ _ _ (Act.put _ (some 19) _) _
        try simp only [act_all]
        refine wpAnyH_take (i := 2) (oi := _) (v := ?_) rfl (by kernel_rfl) (by kernel_rfl) (by kernel_rfl) (fun _ _ _ h => h) (Or.inl ⟨by rfl, ?_⟩) (by assumption) ?_
        rotate_left
        · intro w hSw; obtain ⟨s0, s1, s2, s3⟩ := hSw; go_simp; (try with_reducible rfl)
        try change wpAnyH _ _ _ _ _ _ _ (Act.put _ (some 20) _) _
        try simp only [act_all]
        refine wpAnyH_take (i := 3) (oi := _) (v := ?_) rfl (by kernel_rfl) (by kernel_rfl) (by kernel_rfl) (fun _ _ _ h => h) (Or.inl ⟨by rfl, ?_⟩) (by assumption) ?_
        rotate_left
        · intro w hSw; obtain ⟨s0, s1, s2, s3⟩ := hSw; go_simp; (try with_reducible rfl)
        try change wpAnyH _ _ _ _ _ _ _ (Act.put _ (some 21) _) _
        try simp only [act_all]
        refine wpAnyH_take (i := 4) (oi := _) (v := ?_) rfl (by kernel_rfl) (by kernel_rfl) (by kernel_rfl) (fun _ _ _ h => h) (Or.inl ⟨by rfl, ?_⟩) (by assumption) ?_
        rotate_left
        · intro w hSw; obtain ⟨s0, s1, s2, s3⟩ := hSw; go_simp; (try with_reducible rfl)
        try change wpAnyH _ _ _ _ _ _ _ (Act.put _ (some 22) _) _
        try simp only [act_all]
        refine wpAnyH_take (i := 5) (oi := _) (v := ?_) rfl (by kernel_rfl) (by kernel_rfl) (by kernel_rfl) (fun _ _ _ h => h) (Or.inl ⟨by rfl, ?_⟩) (by assumption) ?_
        rotate_left
        · intro w hSw; obtain ⟨s0, s1, s2, s3⟩ := hSw; go_simp; (try with_reducible rfl)
        try change wpAnyH _ _ _ _ _ _ _ (Act.put _ (some 23) _) _
        try simp only [act_all]
        refine wpAnyH_take (i := 6) (oi := _) (v := ?_) rfl (by kernel_rfl) (by kernel_rfl) (by kernel_rfl) (fun _ _ _ h => h) (Or.inl ⟨by rfl, ?_⟩) (by assumption) ?_
        rotate_left
        · intro w hSw; obtain ⟨s0, s1, s2, s3⟩ := hSw; go_simp; (try with_reducible rfl)
        try change wpAnyH _ _ _ _ _ _ _ (Act.put _ (some 24) _) _
        try simp only [act_all]
        refine wpAnyH_take (i := 7) (oi := _) (v := ?_) rfl (by kernel_rfl) (by kernel_rfl) (by kernel_rfl) (fun _ _ _ h => h) (Or.inl ⟨by rfl, ?_⟩) (by assumption) ?_
        rotate_left
        · intro w hSw; obtain ⟨s0, s1, s2, s3⟩ := hSw; go_simp; (try with_reducible rfl)
        try change wpAnyH _ _ _ _ _ _ _ (Act.put _ (some 25) _) _
        try simp only [act_all]
        refine wpAnyH_take (i := 10) (oi := _) (v := ?_) rfl (by kernel_rfl) (by kernel_rfl) (by kernel_rfl) (fun _ _ _ h => h) (Or.inl ⟨by rfl, ?_⟩) (by assumption) ?_
        rotate_left
        · intro w hSw; obtain ⟨s0, s1, s2, s3⟩ := hSw; go_simp; (try with_reducible rfl)
        try change wpAnyH _ _ _ _ _ _ _ (Act.put _ (some 28) _) _
        try simp only [act_all]
        refine wpAnyH_take (i := 11) (oi := _) (v := ?_) rfl (by kernel_rfl) (by kernel_rfl) (by kernel_rfl) (fun _ _ _ h => h) (Or.inl ⟨by rfl, ?_⟩) (by assumption) ?_
        rotate_left
        · intro w hSw; obtain ⟨s0, s1, s2, s3⟩ := hSw; go_simp; (try with_reducible rfl)
        try change wpAnyH _ _ _ _ _ _ _ (Act.put _ (some 29) _) _
        try simp only [act_all]
        refine wpAnyH_take (i := 12) (oi := _) (v := ?_) rfl (by kernel_rfl) (by kernel_rfl) (by kernel_rfl) (fun _ _ _ h => h) (Or.inl ⟨by rfl, ?_⟩) (by assumption) ?_
        rotate_left
        · intro w hSw; obtain ⟨s0, s1, s2, s3⟩ := hSw; go_simp; (try with_reducible rfl)
        try change wpAnyH _ _ _ _ _ _ _ (Act.put _ (some 30) _) _
        try simp only [act_all]
        refine wpAnyH_take (i := 13) (oi := _) (v := ?_) rfl (by kernel_rfl) (by kernel_rfl) (by kernel_rfl) (fun _ _ _ h => h) (Or.inl ⟨by rfl, ?_⟩) (by assumption) ?_
        rotate_left
        · intro w hSw; obtain ⟨s0, s1, s2, s3⟩ := hSw; go_simp; (try with_reducible rfl)
        try change wpAnyH _ _ _ _ _ _ _ (Act.put _ (some 31) _) _
        try simp only [act_all]
        refine wpAnyH_ready (rs := [8]) (by kernel_rfl) (by simp) ?_
        refine AllReadyH.cons (o := _) rfl (fun K hK => ?_) AllReadyH.nil
        go_simp
        refine (rAbs_any v _ hv1 hv2).mono ?_
        rw [HQ.out]
        rintro e w4 ⟨rfl, hb⟩
        have D4 : Below wr.heap.size wr w4 := (Below.refl _ _).drew.trans hb
        clear hb
        refine hK.out _ _ (HG0.out _ D4) (fun hHeld => ?_)
        clear hK K
        try simp only [act_all]
        refine wpAnyH_take (i := 9) (oi := _) (v := ?_) rfl (by kernel_rfl) (by kernel_rfl) (by kernel_rfl) (fun _ _ _ h => h) (Or.inl ⟨by rfl, ?_⟩) (by assumption) ?_
        rotate_left
        · intro w hSw; obtain ⟨s0, s1, s2, s3⟩ := hSw; go_simp; (try with_reducible rfl)
        try change wpAnyH _ _ _ _ _ _ _ (Act.put _ (some 27) _) _
        try simp only [act_all]
        refine wpAnyH_take (i := 14) (oi := _) (v := ?_) rfl (by kernel_rfl) (by kernel_rfl) (by kernel_rfl) (fun _ _ _ h => h) (Or.inl ⟨by rfl, ?_⟩) (by assumption) ?_
        rotate_left
        · intro w hSw; obtain ⟨s0, s1, s2, s3⟩ := hSw; go_simp; (try with_reducible rfl)
        try change wpAnyH _ _ _ _ _ _ _ (Act.put _ (some 32) _) _
        try simp only [act_all]
        refine wpAnyH_done (by kernel_rfl) ?_ _
        have HB4 : Hid (Below w2.heap.size w2 w4) := Lib.hid (HB.out.trans (D4.mono HB.out.size))
        have hbl := HB2.out.trans (HB4.out.mono HB2.out.size)
        clear D4 HG0 HB w2q hHeld
        by_cases hd : 2 * q ≤ r
        · have HN : Hid (domT N F N = false) := Lib.hid (domT_stop (k := i) (by rw [HVR.out.1, HVR.out.2, HQ.out]; omega) N hlt)
          go_wp2_with fail
          refine bodyPost_ret (v := .tuple #[.bool false, .int .i64 0]) (by simp [results, Try.results26, go_sem]) rfl ⟨by rw [HE.out.1, HE.out.2, HN.out], hbl⟩
        · have HN : Hid (domT N F (i + 1) = true) := Lib.hid (domT_next HS.out (by rw [HVR.out.1, HVR.out.2, HQ.out]; omega))
          have wz : wrap64 ((i : Int) + 1) = (i : Int) + 1 := by simp only [wrap64]; omega
          go_wp2_with fail
          go_roundw
          case rel => exact ⟨(i : Int) + 1, i + 1, by first | rfl | rw [wz], by omega, by omega, HN, HB4⟩
          case measure => first | (simp [intOf]; done) | (simp [intOf]; omega)
      · obtain rfl : i = N := by omega
        subst hz
        have hbl := HB2.out.trans (HB.out.mono HB2.out.size)
        go_wp2_with fail
        refine bodyPost_ret (v := .tuple #[.bool true, .int .i64 0]) (by simp [results, Try.results26, go_sem]) rfl ⟨by rw [HE.out.1, HE.out.2, HS.out], hbl⟩
end Go.Proofs.Ytldepffpafccpaa
