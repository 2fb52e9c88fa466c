import Derived.Test.YtkkcnhhfdicppaaPh7
namespace Go.Proofs.Ytkkcnhhfdicppaa
open Go.RowKit Lay
set_option maxRecDepth 100000 in
set_option maxHeartbeats 8000000 in
theorem pCost_no (W H M B : Int) (nb cb : Nat) (ao : Option Addr) (XB YB : Nat → Int) (n cp : Nat) (ap : Option Addr) (X Y : Nat → Int) (w : World) (E : Int) (hE : rdE (vaG W H M B nb XB YB) 1 (chE W H (blkN XB YB nb) X Y n) = E) (hne : E ≠ 0)
    (hn : nb ≤ 9223372036854775807) (hc : XYs w ao nb XB YB) (hnp : n ≤ 1000000) (hp : XYs w ap n X Y) (hr : R2 X Y n) :
    Calls Try.prog 19 #[.agg #[.int .i64 W, .int .i64 H, .int .i64 M, .int .i64 B, .slice ao nb cb], .slice ap n cp] w fun e w' => e = .returned (.tuple #[.int .i64 0, .int .i64 0, .int .i64 0, .int .i64 E]) ∧ Below w.heap.size w w' := by
  have HC := Lib.hid hc
  have HP := Lib.hid hp
  have HR := Lib.hid hr
  clear hc hp hr
  have HE := Lib.hid hE
  clear hE
  go_enter Try.func19, Try.ntmps19
  go_wp2_with fail
  refine (readPath_no W H M B nb cb ao XB YB n cp ap X Y _ E HE.out hne hn (HC.out.keep (by go_grown)) hnp (HP.out.keep (by go_grown)) HR.out).mono ?_
  rintro e w1 ⟨rfl, hb⟩
  have hbl : Below w.heap.size w w1 := Below.trans (by go_grown) (hb.mono (by simp))
  have heb : (E != 0) = true := bne_iff_ne.2 hne
  clear hb
  go_wp2_with fail
  refine bodyPost_ret (v := .tuple #[.int .i64 0, .int .i64 0, .int .i64 0, .int .i64 E]) (by simp [results, Try.results19, go_sem]) rfl ⟨rfl, hbl.alloc hbl.size _⟩
set_option maxRecDepth 100000 in
set_option maxHeartbeats 8000000 in
theorem pCost_ok (W H M B : Int) (nb cb : Nat) (ao : Option Addr) (XB YB : Nat → Int) (n cp : Nat) (ap : Option Addr) (X Y : Nat → Int) (w : World) (hv : vaG W H M B nb XB YB = true) (hE : chE W H (blkN XB YB nb) X Y n = 0)
    (hn : nb ≤ 9223372036854775807) (hc : XYs w ao nb XB YB) (hnp : n ≤ 1000000) (hp : XYs w ap n X Y) (hr : R2 X Y n) :
    Calls Try.prog 19 #[.agg #[.int .i64 W, .int .i64 H, .int .i64 M, .int .i64 B, .slice ao nb cb], .slice ap n cp] w fun e w' => e = .returned (.tuple #[.int .i64 ((n - 1 : Nat) : Int), .int .i64 (beN X Y (n - 1)), .int .i64 (coN M B X Y (n - 1)), .int .i64 0]) ∧ Below w.heap.size w w' := by
  have HC := Lib.hid hc
  have HP := Lib.hid hp
  have HR := Lib.hid hr
  clear hc hp hr
  have HE := Lib.hid hE
  have HV := Lib.hid hv
  have hpa := (chE_ok.1 hE).1
  obtain ⟨⟨hn1, hn2⟩, _⟩ := paB_iff.1 hpa
  obtain ⟨hnum, _⟩ := vaG_num hv
  obtain ⟨l, rfl⟩ : ∃ k, n = k + 1 := ⟨n - 1, by omega⟩
  have hl9 : l < 1000 := by omega
  rw [show l + 1 - 1 = l by omega]
  clear hE hv hpa hn1 hn2
  go_enter Try.func19, Try.ntmps19
  go_wp2_with fail
  refine (readPath_ok W H M B nb cb ao XB YB (l + 1) cp ap X Y _ HV.out HE.out hn (HC.out.keep (by go_grown)) hnp (HP.out.keep (by go_grown)) HR.out).mono ?_
  rintro e w1 ⟨m, rfl, hm1, hM, hb⟩
  have hb1 : Below w.heap.size w w1 := Below.trans (by go_grown) (hb.mono (by simp))
  obtain ⟨b8, hb8⟩ : ∃ z, z = w1.heap.size := ⟨_, rfl⟩
  obtain ⟨w2, hw2⟩ : ∃ z, z = w1.alloc (.cells #[.int .i64 W, .int .i64 H, .int .i64 M, .int .i64 B, .slice ao nb cb, .map (some m)] 68) := ⟨_, rfl⟩
  have hc12 : Below w1.heap.size w1 w2 := by rw [hw2]; exact bal (Below.refl _ _) _
  have KB2 : Hid (w2.heap[b8]? = some (.cells #[.int .i64 W, .int .i64 H, .int .i64 M, .int .i64 B, .slice ao nb cb, .map (some m)] 68 (0, 0))) := Lib.hid (by rw [hw2, hb8]; exact heap_alloc_new w1 _)
  have HB2 : Hid (Below w.heap.size w w2) := Lib.hid (hb1.trans (hc12.mono hb1.size))
  have hz2 : b8 < w2.heap.size := by rw [hw2, hb8]; simp
  have h8 : w.heap.size ≤ b8 := by rw [hb8]; exact hb1.size
  have HW2 := Lib.hid hw2
  have HB8 := Lib.hid hb8
  clear hb hM hm1 hb1 hw2 hb8 hc12
  go_upto_region 2 with fail
  rw [← HW2.out]
  try rw [← HB8.out]
  clear HW2 HB8
  go_wp2_with fail
  refine (waysOf_any l cp ap X Y _ (by omega) (HP.out.keep HB2.out) HR.out).mono ?_
  rintro e w3 ⟨v, rfl, hown, hb⟩
  obtain ⟨av, cv, rfl, hI⟩ := own_ints hown
  have HI3 := Lib.hid hI
  have HB3 : Hid (Below w.heap.size w w3) := Lib.hid (HB2.out.trans (hb.mono HB2.out.size))
  have KB3 : Hid (w3.heap[b8]? = some (.cells #[.int .i64 W, .int .i64 H, .int .i64 M, .int .i64 B, .slice ao nb cb, .map (some m)] 68 (0, 0))) := Lib.hid ((hb.block _ hz2).trans KB2.out)
  have hz3 : b8 < w3.heap.size := by have := hb.size; omega
  clear hb hown hI HB2 KB2 hz2
  go_wp2_with fail
  go_loopg [4, 5, 6, 10, 25] l (fun gg v4 v5 v6 v10 v25 wr => ∃ k : Nat, v25 = .int .i64 k ∧ v4 = .int .i64 k ∧ v5 = .int .i64 (beN X Y k) ∧ v6 = .int .i64 (coN M B X Y k) ∧ v10 = .int .i64 (pvN X Y k) ∧ k ≤ l ∧ Hid (l - k ≤ gg) ∧ Hid (Ints wr av l (wyN X Y)) ∧ Hid (wr.heap[b8]? = some (.cells #[.int .i64 W, .int .i64 H, .int .i64 M, .int .i64 B, .slice ao nb cb, .map (some m)] 68 (0, 0))) ∧ Hid (Below w.heap.size w wr) ∧ b8 < wr.heap.size)
  case atStart => exact ⟨0, rfl, rfl, rfl, rfl, rfl, Nat.zero_le _, Lib.hid (by omega), HI3, KB3, HB3, hz3⟩
  case round =>
    obtain ⟨k, rfl, rfl, rfl, rfl, rfl, hk, HG, HI, KB, HB, hz⟩ := hrel
    clear HI3 KB3 HB3 hz3
    have hbe := beN_le (X := X) (Y := Y) k
    have hco := coN_le (M := M) (B := B) (X := X) (Y := Y) (by omega) (by omega) k
    obtain ⟨be, hbeq⟩ : ∃ z, beN X Y k = z := ⟨_, rfl⟩
    obtain ⟨co, hcoq⟩ : ∃ z, coN M B X Y k = z := ⟨_, rfl⟩
    rw [hbeq] at hbe ⊢
    rw [hcoq] at hco ⊢
    by_cases hlt : k < l
    case neg =>
      obtain rfl : k = l := by omega
      have HRR : Hid (beN X Y k = be ∧ coN M B X Y k = co) := Lib.hid ⟨hbeq, hcoq⟩
      clear hbeq hcoq
      go_wp2_with fail
      refine bodyPost_ret (v := .tuple #[.int .i64 (k : Int), .int .i64 be, .int .i64 co, .int .i64 0]) (by simp [results, Try.results19, go_sem]) rfl ⟨by rw [HRR.out.1, HRR.out.2], HB.out⟩
    have HGG : Hid (l - k ≤ gk) := Lib.hid HG.out
    obtain ⟨bi, oi, rfl, hci⟩ := HI.out (by omega)
    have c0 := hci k hlt
    have hpv : -1 ≤ pvN X Y k ∧ pvN X Y k < 4 := by
      cases k with
      | zero => exact ⟨Int.le_refl _, by show (-1 : Int) < 4; decide⟩
      | succ j => exact wyS_range _ _ _ _
    have hwr := wyS_range (X k) (Y k) (X (k + 1)) (Y (k + 1))
    have hw0 : wyN X Y k = wyS (X k) (Y k) (X (k + 1)) (Y (k + 1)) := rfl
    rw [← hw0] at hwr
    have hn5 : pvN X Y (k + 1) = wyN X Y k := rfl
    have hn6 : beN X Y (k + 1) = beN X Y k + (if pvN X Y k ≠ -1 ∧ wyN X Y k ≠ -1 ∧ pvN X Y k ≠ wyN X Y k then 1 else 0) := rfl
    have hn7 : coN M B X Y (k + 1) = coN M B X Y k + (M + bd B (pvN X Y k) (wyN X Y k)) := rfl
    have hbd := bd_le (B := B) (i := pvN X Y k) (o := wyN X Y k) (by omega)
    obtain ⟨pv, hpvq⟩ : ∃ z, pvN X Y k = z := ⟨_, rfl⟩
    obtain ⟨wy, hwyq⟩ : ∃ z, wyN X Y k = z := ⟨_, rfl⟩
    rw [hpvq, hwyq] at hbd hn6 hn7
    rw [hwyq] at c0 hwr hn5
    rw [hpvq] at hpv ⊢
    rw [hbeq] at hn6
    rw [hcoq] at hn7
    obtain ⟨bw, hbw⟩ : ∃ z, bd B pv wy = z := ⟨_, rfl⟩
    rw [hbw] at hbd hn7
    have HN := Lib.hid (And.intro hn5 (And.intro hn6 (And.intro hn7 hbw)))
    clear hw0 hn5 hn6 hn7 hpvq hwyq hbeq hcoq hbw hci HG
    go_wp2_with fail
    refine (isBend_any pv wy _).mono ?_
    obtain ⟨ib, hib⟩ : ∃ z, decide (pv ≠ -1 ∧ wy ≠ -1 ∧ pv ≠ wy) = z := ⟨_, rfl⟩
    rw [hib]
    have HIB := Lib.hid hib
    clear hib
    rintro e w4 ⟨rfl, hb⟩
    have HI4 := Lib.hid (HI.out.keep hb)
    have KB4 : Hid (w4.heap[b8]? = some (.cells #[.int .i64 W, .int .i64 H, .int .i64 M, .int .i64 B, .slice ao nb cb, .map (some m)] 68 (0, 0))) := Lib.hid ((hb.block _ hz).trans KB.out)
    have HB4 : Hid (Below w.heap.size w w4) := Lib.hid (HB.out.trans (hb.mono HB.out.size))
    have hz4 : b8 < w4.heap.size := by have := hb.size; omega
    have G0 : Hid (∀ w' : World, Below w4.heap.size w4 w' → w'.heap[b8]? = some (.cells #[.int .i64 W, .int .i64 H, .int .i64 M, .int .i64 B, .slice ao nb cb, .map (some m)] 68 (0, 0)) ∧ w'.cell? ⟨b8, 2, none⟩ = some (.int .i64 M)) := Lib.hid (fun w' hb => ⟨(hb.block _ hz4).trans KB4.out, cell_of_blk ((hb.block _ hz4).trans KB4.out) rfl⟩)
    have HQ0 : Below w4.heap.size w4 w4.drew := (Below.refl _ _).drew
    have n1 : IntKind.i64.wrap (M + bw) = M + bw := by rw [IntKind.wrap_i64]; omega
    have n2 : IntKind.i64.wrap (co + (M + bw)) = co + (M + bw) := by rw [IntKind.wrap_i64]; omega
    have n3 : IntKind.i64.wrap (be + 1) = be + 1 := by rw [IntKind.wrap_i64]; omega
    clear hb HI KB HB c0
    cases ib with
    | true =>
      have HBE : Hid (beN X Y (k + 1) = be + 1) := Lib.hid (by rw [HN.out.2.1]; rw [if_pos (of_decide_eq_true HIB.out)])
      go_upto_region 11 with fail
      refine wp_region_held_drew (S := fun w' => w'.heap[b8]? = some (.cells #[.int .i64 W, .int .i64 H, .int .i64 M, .int .i64 B, .slice ao nb cb, .map (some m)] 68 (0, 0)) ∧ w'.cell? ⟨b8, 2, none⟩ = some (.int .i64 M)) (by kernel_rfl) (G0.out _ HQ0) (fun hHeld => ?_)
      refine wpAnyH_take (i := 0) (oi := _) (v := ?_) rfl (by kernel_rfl) (by kernel_rfl) (by kernel_rfl) (fun _ _ _ h => h) (Or.inl ⟨by rfl, ?_⟩) (by assumption) ?_
      rotate_left
      · intro w hSw; obtain ⟨s0, s1⟩ := hSw; go_simp; (try with_reducible rfl)
      try change wpAnyH _ _ _ _ _ _ _ (Act.put _ (some 36) _) _
      try simp only [act_all]
      refine wpAnyH_take (i := 1) (oi := _) (v := ?_) rfl (by kernel_rfl) (by kernel_rfl) (by kernel_rfl) (fun _ _ _ h => h) (Or.inl ⟨by rfl, ?_⟩) (by assumption) ?_
      rotate_left
      · intro w hSw; obtain ⟨s0, s1⟩ := hSw; go_simp; (try with_reducible rfl)
      try change wpAnyH _ _ _ _ _ _ _ (Act.put _ (some 37) _) _
      try simp only [act_all]
      refine wpAnyH_take (i := 2) (oi := _) (v := ?_) rfl (by kernel_rfl) (by kernel_rfl) (by kernel_rfl) (fun _ _ _ h => h) (Or.inl ⟨by rfl, ?_⟩) (by assumption) ?_
      rotate_left
      · intro w hSw; obtain ⟨s0, s1⟩ := hSw; go_simp; (try with_reducible rfl)
      try change wpAnyH _ _ _ _ _ _ _ (Act.put _ (some 38) _) _
      try simp only [act_all]
      refine wpAnyH_take (i := 3) (oi := _) (v := ?_) rfl (by kernel_rfl) (by kernel_rfl) (by kernel_rfl) (fun _ _ _ h => h) (Or.inl ⟨by rfl, ?_⟩) (by assumption) ?_
      rotate_left
      · intro w hSw; obtain ⟨s0, s1⟩ := hSw; go_simp; (try with_reducible rfl)
      try change wpAnyH _ _ _ _ _ _ _ (Act.put _ (some 39) _) _
      try simp only [act_all]
      refine wpAnyH_take (i := 4) (oi := _) (v := _) rfl (by kernel_rfl) (by kernel_rfl) (by kernel_rfl) (fun _ _ _ h => h) (yieldsIf_load_mid (by rfl) 68 _ rfl b8 0 rfl ([.int .i64 W, .int .i64 H, .int .i64 M, .int .i64 B, .slice ao nb cb, .map (some m)]) _ (fun w' hh => range_row hh.1 0 [.int .i64 W, .int .i64 H, .int .i64 M, .int .i64 B, .slice ao nb cb, .map (some m)] (fun j hj => by simp only [Nat.zero_add, List.getElem?_toArray])) Try.underlying68 rfl (by kernel_rfl)) (by assumption) ?_
      try change wpAnyH _ _ _ _ _ _ _ (Act.put _ (some 40) _) _
      try simp only [act_all]
      refine wpAnyH_take (i := 5) (oi := _) (v := ?_) rfl (by kernel_rfl) (by kernel_rfl) (by kernel_rfl) (fun _ _ _ h => h) (Or.inl ⟨by rfl, ?_⟩) (by assumption) ?_
      rotate_left
      · intro w hSw; obtain ⟨s0, s1⟩ := hSw; go_simp; (try with_reducible rfl)
      try change wpAnyH _ _ _ _ _ _ _ (Act.put _ (some 41) _) _
      try simp only [act_all]
      refine wpAnyH_take (i := 6) (oi := _) (v := ?_) rfl (by kernel_rfl) (by kernel_rfl) (by kernel_rfl) (fun _ _ _ h => h) (Or.inl ⟨by rfl, ?_⟩) (by assumption) ?_
      rotate_left
      · intro w hSw; obtain ⟨s0, s1⟩ := hSw; go_simp; (try with_reducible rfl)
      try change wpAnyH _ _ _ _ _ _ _ (Act.put _ (some 42) _) _
      try simp only [act_all]
      refine wpAnyH_ready (rs := [7]) (by kernel_rfl) (by simp) ?_
      refine AllReadyH.cons (o := _) rfl (fun K hK => ?_) AllReadyH.nil
      go_simp
      refine (bend_any W H M B pv wy nb cb m ao _).mono ?_
      rw [HN.out.2.2.2]
      rintro e_ t1 ⟨rfl, hb⟩
      have HQ1 : Below w4.heap.size w4 t1 := HQ0.trans (hb.mono HQ0.size)
      clear hb hHeld
      refine hK.out _ _ (G0.out _ HQ1) (fun hHeld => ?_)
      clear hK K
      try simp only [act_all]
      refine wpAnyH_take (i := 8) (oi := _) (v := ?_) rfl (by kernel_rfl) (by kernel_rfl) (by kernel_rfl) (fun _ _ _ h => h) (Or.inl ⟨by rfl, ?_⟩) (by assumption) ?_
      rotate_left
      · intro w hSw; obtain ⟨s0, s1⟩ := hSw; go_simp; (try with_reducible rfl)
      try change wpAnyH _ _ _ _ _ _ _ (Act.put _ (some 44) _) _
      try simp only [act_all]
      refine wpAnyH_take (i := 9) (oi := _) (v := ?_) rfl (by kernel_rfl) (by kernel_rfl) (by kernel_rfl) (fun _ _ _ h => h) (Or.inl ⟨by rfl, ?_⟩) (by assumption) ?_
      rotate_left
      · intro w hSw; obtain ⟨s0, s1⟩ := hSw; go_simp; (try with_reducible rfl)
      try change wpAnyH _ _ _ _ _ _ _ (Act.put _ (some 45) _) _
      try simp only [act_all]
      refine wpAnyH_take (i := 10) (oi := _) (v := ?_) rfl (by kernel_rfl) (by kernel_rfl) (by kernel_rfl) (fun _ _ _ h => h) (Or.inl ⟨by rfl, ?_⟩) (by assumption) ?_
      rotate_left
      · intro w hSw; obtain ⟨s0, s1⟩ := hSw; go_simp; (try with_reducible rfl)
      try change wpAnyH _ _ _ _ _ _ _ (Act.put _ (some 6) _) _
      try simp only [act_all]
      refine wpAnyH_done (by kernel_rfl) ?_ _
      clear hHeld
      have HI5 := Lib.hid (HI4.out.keep HQ1)
      have KB5 : Hid (t1.heap[b8]? = some (.cells #[.int .i64 W, .int .i64 H, .int .i64 M, .int .i64 B, .slice ao nb cb, .map (some m)] 68 (0, 0))) := Lib.hid (G0.out _ HQ1).1
      have HB5 : Hid (Below w.heap.size w t1) := Lib.hid (HB4.out.trans (HQ1.mono HB4.out.size))
      have hz5 : b8 < t1.heap.size := by have := HQ1.size; omega
      clear HQ0 HQ1 G0 HI4 KB4 HB4
      go_wp2_with fail
      go_roundg (l - (k + 1))
      case measure => have := HGG.out; omega
      case rel => exact ⟨k + 1, by go_num, by go_num, by rw [HBE.out], by rw [HN.out.2.2.1], by rw [HN.out.1], by omega, Lib.hid (Nat.le_refl _), HI5, KB5, HB5, hz5⟩
    | false =>
      have HBE : Hid (beN X Y (k + 1) = be) := Lib.hid (by rw [HN.out.2.1]; rw [if_neg (of_decide_eq_false HIB.out)]; omega)
      go_upto_region 11 with fail
      refine wp_region_held_drew (S := fun w' => w'.heap[b8]? = some (.cells #[.int .i64 W, .int .i64 H, .int .i64 M, .int .i64 B, .slice ao nb cb, .map (some m)] 68 (0, 0)) ∧ w'.cell? ⟨b8, 2, none⟩ = some (.int .i64 M)) (by kernel_rfl) (G0.out _ HQ0) (fun hHeld => ?_)
      refine wpAnyH_take (i := 0) (oi := _) (v := ?_) rfl (by kernel_rfl) (by kernel_rfl) (by kernel_rfl) (fun _ _ _ h => h) (Or.inl ⟨by rfl, ?_⟩) (by assumption) ?_
      rotate_left
      · intro w hSw; obtain ⟨s0, s1⟩ := hSw; go_simp; (try with_reducible rfl)
      try change wpAnyH _ _ _ _ _ _ _ (Act.put _ (some 36) _) _
      try simp only [act_all]
      refine wpAnyH_take (i := 1) (oi := _) (v := ?_) rfl (by kernel_rfl) (by kernel_rfl) (by kernel_rfl) (fun _ _ _ h => h) (Or.inl ⟨by rfl, ?_⟩) (by assumption) ?_
      rotate_left
      · intro w hSw; obtain ⟨s0, s1⟩ := hSw; go_simp; (try with_reducible rfl)
      try change wpAnyH _ _ _ _ _ _ _ (Act.put _ (some 37) _) _
      try simp only [act_all]
      refine wpAnyH_take (i := 2) (oi := _) (v := ?_) rfl (by kernel_rfl) (by kernel_rfl) (by kernel_rfl) (fun _ _ _ h => h) (Or.inl ⟨by rfl, ?_⟩) (by assumption) ?_
      rotate_left
      · intro w hSw; obtain ⟨s0, s1⟩ := hSw; go_simp; (try with_reducible rfl)
      try change wpAnyH _ _ _ _ _ _ _ (Act.put _ (some 38) _) _
      try simp only [act_all]
      refine wpAnyH_take (i := 3) (oi := _) (v := ?_) rfl (by kernel_rfl) (by kernel_rfl) (by kernel_rfl) (fun _ _ _ h => h) (Or.inl ⟨by rfl, ?_⟩) (by assumption) ?_
      rotate_left
      · intro w hSw; obtain ⟨s0, s1⟩ := hSw; go_simp; (try with_reducible rfl)
      try change wpAnyH _ _ _ _ _ _ _ (Act.put _ (some 39) _) _
      try simp only [act_all]
      refine wpAnyH_take (i := 4) (oi := _) (v := _) rfl (by kernel_rfl) (by kernel_rfl) (by kernel_rfl) (fun _ _ _ h => h) (yieldsIf_load_mid (by rfl) 68 _ rfl b8 0 rfl ([.int .i64 W, .int .i64 H, .int .i64 M, .int .i64 B, .slice ao nb cb, .map (some m)]) _ (fun w' hh => range_row hh.1 0 [.int .i64 W, .int .i64 H, .int .i64 M, .int .i64 B, .slice ao nb cb, .map (some m)] (fun j hj => by simp only [Nat.zero_add, List.getElem?_toArray])) Try.underlying68 rfl (by kernel_rfl)) (by assumption) ?_
      try change wpAnyH _ _ _ _ _ _ _ (Act.put _ (some 40) _) _
      try simp only [act_all]
      refine wpAnyH_take (i := 5) (oi := _) (v := ?_) rfl (by kernel_rfl) (by kernel_rfl) (by kernel_rfl) (fun _ _ _ h => h) (Or.inl ⟨by rfl, ?_⟩) (by assumption) ?_
      rotate_left
      · intro w hSw; obtain ⟨s0, s1⟩ := hSw; go_simp; (try with_reducible rfl)
      try change wpAnyH _ _ _ _ _ _ _ (Act.put _ (some 41) _) _
      try simp only [act_all]
      refine wpAnyH_take (i := 6) (oi := _) (v := ?_) rfl (by kernel_rfl) (by kernel_rfl) (by kernel_rfl) (fun _ _ _ h => h) (Or.inl ⟨by rfl, ?_⟩) (by assumption) ?_
      rotate_left
      · intro w hSw; obtain ⟨s0, s1⟩ := hSw; go_simp; (try with_reducible rfl)
      try change wpAnyH _ _ _ _ _ _ _ (Act.put _ (some 42) _) _
      try simp only [act_all]
      refine wpAnyH_ready (rs := [7]) (by kernel_rfl) (by simp) ?_
      refine AllReadyH.cons (o := _) rfl (fun K hK => ?_) AllReadyH.nil
      go_simp
      refine (bend_any W H M B pv wy nb cb m ao _).mono ?_
      rw [HN.out.2.2.2]
      rintro e_ t1 ⟨rfl, hb⟩
      have HQ1 : Below w4.heap.size w4 t1 := HQ0.trans (hb.mono HQ0.size)
      clear hb hHeld
      refine hK.out _ _ (G0.out _ HQ1) (fun hHeld => ?_)
      clear hK K
      try simp only [act_all]
      refine wpAnyH_take (i := 8) (oi := _) (v := ?_) rfl (by kernel_rfl) (by kernel_rfl) (by kernel_rfl) (fun _ _ _ h => h) (Or.inl ⟨by rfl, ?_⟩) (by assumption) ?_
      rotate_left
      · intro w hSw; obtain ⟨s0, s1⟩ := hSw; go_simp; (try with_reducible rfl)
      try change wpAnyH _ _ _ _ _ _ _ (Act.put _ (some 44) _) _
      try simp only [act_all]
      refine wpAnyH_take (i := 9) (oi := _) (v := ?_) rfl (by kernel_rfl) (by kernel_rfl) (by kernel_rfl) (fun _ _ _ h => h) (Or.inl ⟨by rfl, ?_⟩) (by assumption) ?_
      rotate_left
      · intro w hSw; obtain ⟨s0, s1⟩ := hSw; go_simp; (try with_reducible rfl)
      try change wpAnyH _ _ _ _ _ _ _ (Act.put _ (some 45) _) _
      try simp only [act_all]
      refine wpAnyH_take (i := 10) (oi := _) (v := ?_) rfl (by kernel_rfl) (by kernel_rfl) (by kernel_rfl) (fun _ _ _ h => h) (Or.inl ⟨by rfl, ?_⟩) (by assumption) ?_
      rotate_left
      · intro w hSw; obtain ⟨s0, s1⟩ := hSw; go_simp; (try with_reducible rfl)
      try change wpAnyH _ _ _ _ _ _ _ (Act.put _ (some 6) _) _
      try simp only [act_all]
      refine wpAnyH_done (by kernel_rfl) ?_ _
      clear hHeld
      have HI5 := Lib.hid (HI4.out.keep HQ1)
      have KB5 : Hid (t1.heap[b8]? = some (.cells #[.int .i64 W, .int .i64 H, .int .i64 M, .int .i64 B, .slice ao nb cb, .map (some m)] 68 (0, 0))) := Lib.hid (G0.out _ HQ1).1
      have HB5 : Hid (Below w.heap.size w t1) := Lib.hid (HB4.out.trans (HQ1.mono HB4.out.size))
      have hz5 : b8 < t1.heap.size := by have := HQ1.size; omega
      clear HQ0 HQ1 G0 HI4 KB4 HB4
      go_wp2_with fail
      go_roundg (l - (k + 1))
      case measure => have := HGG.out; omega
      case rel => exact ⟨k + 1, by go_num, by go_num, by rw [HBE.out], by rw [HN.out.2.2.1], by rw [HN.out.1], by omega, Lib.hid (Nat.le_refl _), HI5, KB5, HB5, hz5⟩
end Go.Proofs.Ytkkcnhhfdicppaa
