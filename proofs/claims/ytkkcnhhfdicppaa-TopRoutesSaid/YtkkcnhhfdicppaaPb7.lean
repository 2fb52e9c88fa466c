import Derived.Test.YtkkcnhhfdicppaaPw7
import Derived.Deep.AppendLies
namespace Go.Proofs.Ytkkcnhhfdicppaa
open Go.RowKit Lay
set_option maxRecDepth 100000 in
set_option maxHeartbeats 4000000 in
theorem setOf_any (n cp : Nat) (ao : Option Addr) (X Y : Nat → Int) (w : World) (hn : n ≤ 1000000) (hc : XYs w ao n X Y) (hr : R2 X Y n) :
    Calls Try.prog 57 #[.slice ao n cp] w fun e w' => ∃ m, e = .returned (.map (some m)) ∧ w.heap.size ≤ m ∧ CMap w' m n (disN X Y n) (blkN X Y n) ∧ Below w.heap.size w w' := by
  have HC := Lib.hid hc
  have HRR := Lib.hid hr
  have hmm := @run_makeMap Try.prog
  clear hc hr
  go_enter Try.func57, Try.ntmps57
  go_wp2_with fail
  obtain ⟨m, hm⟩ : ∃ m, m = w.heap.size := ⟨_, rfl⟩
  have HM1 : Hid (CMap (w.alloc (.map #[] 0)) m 0 (disN X Y 0) (blkN X Y 0)) := Lib.hid (by rw [hm]; exact CMap.made w)
  have HB1 : Hid (Below w.heap.size w (w.alloc (.map #[] 0))) := Lib.hid (by go_grown)
  have HMM : Hid (w.heap.size ≤ m) := Lib.hid (by omega)
  rw [← hm]
  clear hmm
  generalize (w.alloc (.map #[] 0)) = wz at *
  clear hm
  go_loopw [9] (fun iv wr => ∃ k : Nat, iv = .int .i64 k ∧ k ≤ n ∧ Hid (CMap wr m k (disN X Y k) (blkN X Y k)) ∧ Hid (Below w.heap.size w wr)) (fun iv _ => n - (intOf iv).toNat)
  case atStart => exact ⟨0, rfl, Nat.zero_le _, HM1, HB1⟩
  case round =>
    obtain ⟨k, rfl, hk, HM, HB⟩ := hrel
    have hml := HM.out.lt
    have hmm := HMM.out
    clear HM1 HB1
    by_cases hlt : k < n
    · obtain ⟨b, o, rfl, hcell⟩ := (HC.out.keep HB.out) (by omega)
      obtain ⟨c0, c1⟩ := hcell k hlt
      obtain ⟨hon1, hon2⟩ := HRR.out k hlt
      have lb : b < wr.heap.size := World.block_lt_of_cell? wr _ c0
      obtain ⟨x, hx⟩ : ∃ x, X k = x := ⟨_, rfl⟩
      obtain ⟨y, hy⟩ : ∃ y, Y k = y := ⟨_, rfl⟩
      rw [hx] at c0
      rw [hy] at c1
      rw [hx] at hon1
      rw [hy] at hon2
      have HX := Lib.hid (And.intro hx hy)
      have HMa : CMap (wr.alloc (.cells #[.int .i64 x, .int .i64 y] 26)) m k (disN X Y k) (blkN X Y k) := HM.out.keep (Below.heap_alloc _ _ _ hml)
      obtain ⟨w2, hrun, hB2, hg2⟩ := HMa.put (by unfold maxLen; omega) (wf7 (x := x) hon1.1 hon1.2) (wf7 (x := y) hon2.1 hon2.2)
      have HM2 : Hid (CMap w2 m (k + 1) (disN X Y (k + 1)) (blkN X Y (k + 1))) := Lib.hid (by simp only [blkN, disN]; rw [HX.out.1, HX.out.2]; exact hB2)
      have HB2 : Hid (Below w.heap.size w w2) := Lib.hid ((HB.out.alloc (by omega) _).grown hg2 (by simp; omega) (by intro j e; cases e; omega))
      clear hcell hx hy HMa hB2 hg2 HM HB hon1 hon2 hmm
      go_wp2_with fail
      go_roundw
      case rel => exact ⟨k + 1, by go_num, by omega, HM2, HB2⟩
      case measure => simp [intOf]; omega
    · obtain rfl : n = k := by omega
      go_wp2_with fail
      refine bodyPost_ret (v := .map (some m)) (by simp [results, Try.results57, go_sem]) rfl ⟨m, rfl, HMM.out, HM.out, HB.out⟩
set_option maxRecDepth 100000 in
set_option maxHeartbeats 8000000 in
theorem isPath_any (n cp : Nat) (ao : Option Addr) (X Y : Nat → Int) (w : World) (hn : n ≤ 1000000) (hc : XYs w ao n X Y) (hr : R2 X Y n) :
    Calls Try.prog 90 #[.slice ao n cp] w fun e w' => e = .returned (.bool (paB X Y n)) ∧ Below w.heap.size w w' := by
  have HC := Lib.hid hc
  have HRR := Lib.hid hr
  clear hc hr
  by_cases h1 : 1 ≤ n ∧ n ≤ 1000
  case neg =>
    have HR : Hid (paB X Y n = false) := Lib.hid (by unfold paB; rw [decide_eq_false h1]; rfl)
    go_enter Try.func90, Try.ntmps90
    go_wp2_with fail
    refine (fits_any n cp ao _ (by omega)).mono ?_
    rw [decide_eq_false h1]
    rintro e w1 ⟨rfl, rfl⟩
    go_wp2_with fail
    refine bodyPost_ret (v := .bool false) (by simp [results, Try.results90, go_sem]) rfl ⟨by rw [HR.out], by go_grown⟩
  have HP0 : Hid (paB X Y n = (!repN X Y n && stB X Y (n - 1))) := Lib.hid (by unfold paB; rw [decide_eq_true h1]; rfl)
  go_enter Try.func90, Try.ntmps90
  go_wp2_with fail
  refine (fits_any n cp ao _ (by omega)).mono ?_
  rw [decide_eq_true h1]
  rintro e w1 ⟨rfl, rfl⟩
  go_wp2_with fail
  refine (setOf_any n cp ao X Y _ (by omega) HC.out HRR.out).mono ?_
  rintro e w2 ⟨m, rfl, hm, hM, hb⟩
  have hlen := fun ty => hM.len ty
  have hd := disN_eq (X := X) (Y := Y) n
  have hdl := disN_le (X := X) (Y := Y) n
  have HB2 : Hid (Below w1.heap.size w1 w2) := Lib.hid hb
  clear hb hM hm
  obtain ⟨s, hs⟩ : ∃ z, disN X Y n = z := ⟨_, rfl⟩
  rw [hs] at hd hdl
  simp only [hs] at hlen
  clear hs
  by_cases hsn : s = n
  case neg =>
    have HR : Hid (paB X Y n = false) := Lib.hid (by
      rw [HP0.out]
      cases hrr : repN X Y n with
      | true => rfl
      | false => exact absurd (hd.2 hrr) hsn)
    have hlt : s < n := by omega
    clear hd
    go_wp2_with fail
    refine bodyPost_ret (v := .bool false) (by simp [results, Try.results90, go_sem]) rfl ⟨by rw [HR.out], HB2.out⟩
  have HP1 : Hid (paB X Y n = stB X Y (n - 1)) := Lib.hid (by rw [HP0.out, hd.1 hsn]; rfl)
  subst hsn
  clear hd hdl HP0
  obtain ⟨n, hn2⟩ : ∃ k, s = k + 1 := ⟨s - 1, by omega⟩
  subst hn2
  have HP2 : Hid (paB X Y (n + 1) = stB X Y n) := HP1
  clear HP1
  have hcn : ((n + 1 : Nat) : Int) - 1 = n := by omega
  go_wp2_with fail
  go_loopw [18] (fun iv wr => ∃ k : Nat, iv = .int .i64 k ∧ k ≤ n ∧ Hid (stB X Y k = true) ∧ Hid (Below w1.heap.size w1 wr)) (fun iv _ => n - (intOf iv).toNat)
  case atStart => exact ⟨0, rfl, Nat.zero_le _, Lib.hid rfl, HB2⟩
  case round =>
    obtain ⟨k, rfl, hk, HS, HB⟩ := hrel
    clear HB2
    by_cases hlt : k < n
    · obtain ⟨b, o, rfl, hcell⟩ := (HC.out.keep HB.out) (by omega)
      have hc0 := hcell k (by omega)
      have hc1 := hcell (k + 1) (by omega)
      have hx0 := HRR.out k (by omega)
      have hx1 := HRR.out (k + 1) (by omega)
      have hwy : wyN X Y k = wyS (X k) (Y k) (X (k + 1)) (Y (k + 1)) := rfl
      obtain ⟨x, hx⟩ : ∃ z, X k = z := ⟨_, rfl⟩
      obtain ⟨y, hy⟩ : ∃ z, Y k = z := ⟨_, rfl⟩
      obtain ⟨p, hp⟩ : ∃ z, X (k + 1) = z := ⟨_, rfl⟩
      obtain ⟨q, hq⟩ : ∃ z, Y (k + 1) = z := ⟨_, rfl⟩
      rw [hx, hy] at hc0 hx0
      rw [hp, hq] at hc1 hx1
      rw [hx, hy, hp, hq] at hwy
      have HW := Lib.hid hwy
      have HXX := Lib.hid (And.intro hx0 hx1)
      have G0 : Hid (∀ w' : World, Below wr.heap.size wr w' → XyAt w' b (o + k * 2) x y ∧ XyAt w' b (o + (k + 1) * 2) p q) := Lib.hid (fun w' hb => ⟨hc0.keep hb, hc1.keep hb⟩)
      have HQ0 : Below wr.heap.size wr wr.drew := (Below.refl _ _).drew
      have hlt1 : (k : Int) + 1 < (n : Int) + 1 := by omega
      have hlt2 : (k : Int) < (n : Int) + 1 := by omega
      have hlt0 : (0 : Int) ≤ (k : Int) + 1 := by omega
      have hwr : IntKind.i64.wrap ((k : Int) + 1) = (k : Int) + 1 := by rw [IntKind.wrap_i64]; omega
      clear hcell hc0 hc1 hx0 hx1 hwy hx hy hp hq
      obtain ⟨d, hd⟩ : ∃ z, wyS x y p q = z := ⟨_, rfl⟩
      rw [hd] at HW
      have HD := Lib.hid hd
      clear hd
      by_cases hdn : d = -1
      case pos =>
        have HR : Hid (paB X Y (n + 1) = false) := Lib.hid (by rw [HP2.out]; exact stB_stop (by rw [HW.out]; exact hdn) n hlt)
        have hdb : (d == -1) = true := by rw [hdn]; rfl
        go_upto_region 6 with fail
        refine wp_region_held_drew (S := fun w' => XyAt w' b (o + k * 2) x y ∧ XyAt w' b (o + (k + 1) * 2) p q) (by kernel_rfl) (G0.out _ HQ0) (fun hHeld => ?_)
        refine wpAnyH_take (i := 0) (oi := _) (v := ?_) rfl (by kernel_rfl) (by kernel_rfl) (by kernel_rfl) (fun _ _ _ h => h) (Or.inl ⟨by rfl, ?_⟩) (by assumption) ?_
        rotate_left
        · intro w hSw; obtain ⟨s0, s1⟩ := hSw; go_simp; (try with_reducible rfl)
        try change wpAnyH _ _ _ _ _ _ _ (Act.put _ (some 21) _) _
        try simp only [act_all]
        refine wpAnyH_take (i := 1) (oi := _) (v := ?_) rfl (by kernel_rfl) (by kernel_rfl) (by kernel_rfl) (fun _ _ _ h => h) (Or.inl ⟨by rfl, ?_⟩) (by assumption) ?_
        rotate_left
        · intro w hSw; obtain ⟨s0, s1⟩ := hSw; go_simp; (try with_reducible rfl)
        try change wpAnyH _ _ _ _ _ _ _ (Act.put _ (some 22) _) _
        try simp only [act_all]
        refine wpAnyH_take (i := 2) (oi := _) (v := ?_) rfl (by kernel_rfl) (by kernel_rfl) (by kernel_rfl) (fun _ _ _ h => h) (Or.inl ⟨by rfl, ?_⟩) (by assumption) ?_
        rotate_left
        · intro w hSw; obtain ⟨s0, s1⟩ := hSw; go_simp; (try with_reducible rfl)
        try change wpAnyH _ _ _ _ _ _ _ (Act.put _ (some 23) _) _
        try simp only [act_all]
        refine wpAnyH_take (i := 3) (oi := _) (v := _) rfl (by kernel_rfl) (by kernel_rfl) (by kernel_rfl) (fun _ _ _ h => h) (yieldsIf_load_mid (by rfl) 26 _ rfl b _ rfl ([.int .i64 x, .int .i64 y]) _ (fun w' hh => by simpa using range_xy hh.1) Try.underlying26 rfl (by kernel_rfl)) (by assumption) ?_
        try change wpAnyH _ _ _ _ _ _ _ (Act.put _ (some 24) _) _
        try simp only [act_all]
        refine wpAnyH_take (i := 4) (oi := _) (v := ?_) rfl (by kernel_rfl) (by kernel_rfl) (by kernel_rfl) (fun _ _ _ h => h) (Or.inl ⟨by rfl, ?_⟩) (by assumption) ?_
        rotate_left
        · intro w hSw; obtain ⟨s0, s1⟩ := hSw; go_simp; (try with_reducible rfl)
        try change wpAnyH _ _ _ _ _ _ _ (Act.put _ (some 25) _) _
        try simp only [act_all]
        refine wpAnyH_take (i := 5) (oi := _) (v := ?_) rfl (by kernel_rfl) (by kernel_rfl) (by kernel_rfl) (fun _ _ _ h => h) (Or.inl ⟨by rfl, ?_⟩) (by assumption) ?_
        rotate_left
        · intro w hSw; obtain ⟨s0, s1⟩ := hSw; go_simp; (try with_reducible rfl)
        try change wpAnyH _ _ _ _ _ _ _ (Act.put _ (some 26) _) _
        try simp only [act_all]
        refine wpAnyH_take (i := 6) (oi := _) (v := ?_) rfl (by kernel_rfl) (by kernel_rfl) (by kernel_rfl) (fun _ _ _ h => h) (Or.inl ⟨by rfl, ?_⟩) (by assumption) ?_
        rotate_left
        · intro w hSw; obtain ⟨s0, s1⟩ := hSw; go_simp; (try with_reducible rfl)
        try change wpAnyH _ _ _ _ _ _ _ (Act.put _ (some 27) _) _
        try simp only [act_all]
        refine wpAnyH_take (i := 7) (oi := _) (v := ?_) rfl (by kernel_rfl) (by kernel_rfl) (by kernel_rfl) (fun _ _ _ h => h) (Or.inl ⟨by rfl, ?_⟩) (by assumption) ?_
        rotate_left
        · intro w hSw; obtain ⟨s0, s1⟩ := hSw; go_simp; (try with_reducible rfl)
        try change wpAnyH _ _ _ _ _ _ _ (Act.put _ (some 28) _) _
        try simp only [act_all]
        refine wpAnyH_take (i := 8) (oi := _) (v := _) rfl (by kernel_rfl) (by kernel_rfl) (by kernel_rfl) (fun _ _ _ h => h) (yieldsIf_load_mid (by rfl) 26 _ rfl b _ rfl ([.int .i64 p, .int .i64 q]) _ (fun w' hh => by simpa using range_xy hh.2) Try.underlying26 rfl (by kernel_rfl)) (by assumption) ?_
        try change wpAnyH _ _ _ _ _ _ _ (Act.put _ (some 29) _) _
        try simp only [act_all]
        refine wpAnyH_ready (rs := [9]) (by kernel_rfl) (by simp) ?_
        refine AllReadyH.cons (o := _) rfl (fun K hK => ?_) AllReadyH.nil
        go_simp
        refine (wayTo_any x y p q _ HXX.out.1.1 HXX.out.1.2 HXX.out.2.1 HXX.out.2.2).mono ?_
        rw [HD.out]
        rintro e_ t1 ⟨rfl, hb⟩
        have HQ1 : Below wr.heap.size wr t1 := HQ0.trans (hb.mono HQ0.size)
        clear hb hHeld
        refine hK.out _ _ (G0.out _ HQ1) (fun hHeld => ?_)
        clear hK K
        try simp only [act_all]
        refine wpAnyH_take (i := 10) (oi := _) (v := ?_) rfl (by kernel_rfl) (by kernel_rfl) (by kernel_rfl) (fun _ _ _ h => h) (Or.inl ⟨by rfl, ?_⟩) (by assumption) ?_
        rotate_left
        · intro w hSw; obtain ⟨s0, s1⟩ := hSw; go_simp; (try with_reducible rfl)
        try change wpAnyH _ _ _ _ _ _ _ (Act.put _ (some 31) _) _
        try simp only [act_all]
        refine wpAnyH_done (by kernel_rfl) ?_ _
        clear hHeld
        have HBN : Hid (Below w1.heap.size w1 t1) := Lib.hid (HB.out.trans (HQ1.mono HB.out.size))
        clear HQ0 HQ1 HB G0
        go_wp2_with fail
        refine bodyPost_ret (v := .bool false) (by simp [results, Try.results90, go_sem]) rfl ⟨by rw [HR.out], HBN.out⟩
      have HS' : Hid (stB X Y (k + 1) = true) := Lib.hid (by simp only [stB]; rw [HS.out, HW.out, decide_eq_true hdn]; rfl)
      have hdb : (d == -1) = false := beq_eq_false_iff_ne.2 hdn
      go_upto_region 6 with fail
      refine wp_region_held_drew (S := fun w' => XyAt w' b (o + k * 2) x y ∧ XyAt w' b (o + (k + 1) * 2) p q) (by kernel_rfl) (G0.out _ HQ0) (fun hHeld => ?_)
      refine wpAnyH_take (i := 0) (oi := _) (v := ?_) rfl (by kernel_rfl) (by kernel_rfl) (by kernel_rfl) (fun _ _ _ h => h) (Or.inl ⟨by rfl, ?_⟩) (by assumption) ?_
      rotate_left
      · intro w hSw; obtain ⟨s0, s1⟩ := hSw; go_simp; (try with_reducible rfl)
      try change wpAnyH _ _ _ _ _ _ _ (Act.put _ (some 21) _) _
      try simp only [act_all]
      refine wpAnyH_take (i := 1) (oi := _) (v := ?_) rfl (by kernel_rfl) (by kernel_rfl) (by kernel_rfl) (fun _ _ _ h => h) (Or.inl ⟨by rfl, ?_⟩) (by assumption) ?_
      rotate_left
      · intro w hSw; obtain ⟨s0, s1⟩ := hSw; go_simp; (try with_reducible rfl)
      try change wpAnyH _ _ _ _ _ _ _ (Act.put _ (some 22) _) _
      try simp only [act_all]
      refine wpAnyH_take (i := 2) (oi := _) (v := ?_) rfl (by kernel_rfl) (by kernel_rfl) (by kernel_rfl) (fun _ _ _ h => h) (Or.inl ⟨by rfl, ?_⟩) (by assumption) ?_
      rotate_left
      · intro w hSw; obtain ⟨s0, s1⟩ := hSw; go_simp; (try with_reducible rfl)
      try change wpAnyH _ _ _ _ _ _ _ (Act.put _ (some 23) _) _
      try simp only [act_all]
      refine wpAnyH_take (i := 3) (oi := _) (v := _) rfl (by kernel_rfl) (by kernel_rfl) (by kernel_rfl) (fun _ _ _ h => h) (yieldsIf_load_mid (by rfl) 26 _ rfl b _ rfl ([.int .i64 x, .int .i64 y]) _ (fun w' hh => by simpa using range_xy hh.1) Try.underlying26 rfl (by kernel_rfl)) (by assumption) ?_
      try change wpAnyH _ _ _ _ _ _ _ (Act.put _ (some 24) _) _
      try simp only [act_all]
      refine wpAnyH_take (i := 4) (oi := _) (v := ?_) rfl (by kernel_rfl) (by kernel_rfl) (by kernel_rfl) (fun _ _ _ h => h) (Or.inl ⟨by rfl, ?_⟩) (by assumption) ?_
      rotate_left
      · intro w hSw; obtain ⟨s0, s1⟩ := hSw; go_simp; (try with_reducible rfl)
      try change wpAnyH _ _ _ _ _ _ _ (Act.put _ (some 25) _) _
      try simp only [act_all]
      refine wpAnyH_take (i := 5) (oi := _) (v := ?_) rfl (by kernel_rfl) (by kernel_rfl) (by kernel_rfl) (fun _ _ _ h => h) (Or.inl ⟨by rfl, ?_⟩) (by assumption) ?_
      rotate_left
      · intro w hSw; obtain ⟨s0, s1⟩ := hSw; go_simp; (try with_reducible rfl)
      try change wpAnyH _ _ _ _ _ _ _ (Act.put _ (some 26) _) _
      try simp only [act_all]
      refine wpAnyH_take (i := 6) (oi := _) (v := ?_) rfl (by kernel_rfl) (by kernel_rfl) (by kernel_rfl) (fun _ _ _ h => h) (Or.inl ⟨by rfl, ?_⟩) (by assumption) ?_
      rotate_left
      · intro w hSw; obtain ⟨s0, s1⟩ := hSw; go_simp; (try with_reducible rfl)
      try change wpAnyH _ _ _ _ _ _ _ (Act.put _ (some 27) _) _
      try simp only [act_all]
      refine wpAnyH_take (i := 7) (oi := _) (v := ?_) rfl (by kernel_rfl) (by kernel_rfl) (by kernel_rfl) (fun _ _ _ h => h) (Or.inl ⟨by rfl, ?_⟩) (by assumption) ?_
      rotate_left
      · intro w hSw; obtain ⟨s0, s1⟩ := hSw; go_simp; (try with_reducible rfl)
      try change wpAnyH _ _ _ _ _ _ _ (Act.put _ (some 28) _) _
      try simp only [act_all]
      refine wpAnyH_take (i := 8) (oi := _) (v := _) rfl (by kernel_rfl) (by kernel_rfl) (by kernel_rfl) (fun _ _ _ h => h) (yieldsIf_load_mid (by rfl) 26 _ rfl b _ rfl ([.int .i64 p, .int .i64 q]) _ (fun w' hh => by simpa using range_xy hh.2) Try.underlying26 rfl (by kernel_rfl)) (by assumption) ?_
      try change wpAnyH _ _ _ _ _ _ _ (Act.put _ (some 29) _) _
      try simp only [act_all]
      refine wpAnyH_ready (rs := [9]) (by kernel_rfl) (by simp) ?_
      refine AllReadyH.cons (o := _) rfl (fun K hK => ?_) AllReadyH.nil
      go_simp
      refine (wayTo_any x y p q _ HXX.out.1.1 HXX.out.1.2 HXX.out.2.1 HXX.out.2.2).mono ?_
      rw [HD.out]
      rintro e_ t1 ⟨rfl, hb⟩
      have HQ1 : Below wr.heap.size wr t1 := HQ0.trans (hb.mono HQ0.size)
      clear hb hHeld
      refine hK.out _ _ (G0.out _ HQ1) (fun hHeld => ?_)
      clear hK K
      try simp only [act_all]
      refine wpAnyH_take (i := 10) (oi := _) (v := ?_) rfl (by kernel_rfl) (by kernel_rfl) (by kernel_rfl) (fun _ _ _ h => h) (Or.inl ⟨by rfl, ?_⟩) (by assumption) ?_
      rotate_left
      · intro w hSw; obtain ⟨s0, s1⟩ := hSw; go_simp; (try with_reducible rfl)
      try change wpAnyH _ _ _ _ _ _ _ (Act.put _ (some 31) _) _
      try simp only [act_all]
      refine wpAnyH_done (by kernel_rfl) ?_ _
      clear hHeld
      have HBN : Hid (Below w1.heap.size w1 t1) := Lib.hid (HB.out.trans (HQ1.mono HB.out.size))
      clear HQ0 HQ1 HB G0
      go_wp2_with fail
      go_roundw
      case rel => exact ⟨k + 1, by go_num, by omega, HS', HBN⟩
      case measure => simp [intOf]; omega
    · obtain rfl : n = k := by omega
      have HR : Hid (paB X Y (n + 1) = true) := Lib.hid (by rw [HP2.out, HS.out])
      go_wp2_with fail
      refine bodyPost_ret (v := .bool true) (by simp [results, Try.results90, go_sem]) rfl ⟨by rw [HR.out], HB.out⟩
set_option maxRecDepth 100000 in
set_option maxHeartbeats 8000000 in
theorem waysOf_any (n cp : Nat) (ao : Option Addr) (X Y : Nat → Int) (w : World) (hn : n + 1 ≤ 10000) (hc : XYs w ao (n + 1) X Y) (hr : R2 X Y (n + 1)) :
    Calls Try.prog 53 #[.slice ao (n + 1) cp] w fun e w' => ∃ v, e = .returned v ∧ w'.ownsRow w.heap.size 3 1 v n (intC (wyN X Y) n) ∧ Below w.heap.size w w' := by
  obtain ⟨i0, hi, hz0, hz1', hz2'⟩ := info_parts int_info
  have HI := Lib.hid (And.intro hi (And.intro hz0 (And.intro hz1' hz2')))
  clear hi hz0 hz1' hz2'
  have HC := Lib.hid hc
  have HRR := Lib.hid hr
  clear hc hr
  have hcn : ((n + 1 : Nat) : Int) - 1 = n := by omega
  go_enter Try.func53, Try.ntmps53
  go_wp2_with fail
  go_loopg [3, 8] n (fun gg v3 v8 wr => ∃ k : Nat, v8 = .int .i64 k ∧ k ≤ n ∧ Hid (n - k ≤ gg) ∧ Hid (wr.ownsRow w.heap.size 3 1 v3 k (intC (wyN X Y) k)) ∧ Hid (Below w.heap.size w wr))
  case atStart => exact ⟨0, rfl, by omega, Lib.hid (by omega), Lib.hid (World.ownsRow_nil _ _ _ _), Lib.hid (Below.refl _ _)⟩
  case round =>
    obtain ⟨k, rfl, hk, HG, HO, HB⟩ := hrel
    by_cases hlt : k < n
    case neg =>
      obtain rfl : k = n := by omega
      go_wp2_with fail
      refine bodyPost_ret (v := u3) (by simp [results, Try.results53, go_sem, *]) rfl ⟨u3, rfl, HO.out, HB.out⟩
    have HGG : Hid (n - k ≤ gk) := Lib.hid HG.out
    obtain ⟨b, o, rfl, hcell⟩ := HC.out (by omega)
    have hc0 := hcell k (by omega)
    have hc1 := hcell (k + 1) (by omega)
    have hx0 := HRR.out k (by omega)
    have hx1 := HRR.out (k + 1) (by omega)
    have hwy : wyN X Y k = wyS (X k) (Y k) (X (k + 1)) (Y (k + 1)) := rfl
    obtain ⟨x, hx⟩ : ∃ z, X k = z := ⟨_, rfl⟩
    obtain ⟨y, hy⟩ : ∃ z, Y k = z := ⟨_, rfl⟩
    obtain ⟨p, hp⟩ : ∃ z, X (k + 1) = z := ⟨_, rfl⟩
    obtain ⟨q, hq⟩ : ∃ z, Y (k + 1) = z := ⟨_, rfl⟩
    rw [hx, hy] at hc0 hx0
    rw [hp, hq] at hc1 hx1
    rw [hx, hy, hp, hq] at hwy
    have HW := Lib.hid hwy
    have HXX := Lib.hid (And.intro hx0 hx1)
    have G0 : Hid (∀ w' : World, Below w.heap.size w w' → XyAt w' b (o + k * 2) x y ∧ XyAt w' b (o + (k + 1) * 2) p q) := Lib.hid (fun w' hb => ⟨hc0.keep hb, hc1.keep hb⟩)
    have HQ0 : Below wr.heap.size wr wr.drew := (Below.refl _ _).drew
    have D0 : Below w.heap.size w wr.drew := HB.out.drew
    have hlt1 : (k : Int) + 1 < (n : Int) + 1 := by omega
    have hlt2 : (k : Int) < (n : Int) + 1 := by omega
    have hlt0 : (0 : Int) ≤ (k : Int) + 1 := by omega
    have hwr : IntKind.i64.wrap ((k : Int) + 1) = (k : Int) + 1 := by rw [IntKind.wrap_i64]; omega
    have hzr : w.heap.size ≤ wr.heap.size := HB.out.size
    clear hcell hc0 hc1 hx0 hx1 hwy hx hy hp hq HG
    obtain ⟨d, hd⟩ : ∃ z, wyS x y p q = z := ⟨_, rfl⟩
    rw [hd] at HW
    have HD := Lib.hid hd
    clear hd
    go_upto_region 5 with fail
    refine wp_region_held_drew (S := fun w' => XyAt w' b (o + k * 2) x y ∧ XyAt w' b (o + (k + 1) * 2) p q) (by kernel_rfl) (G0.out _ D0) (fun hHeld => ?_)
    refine wpAnyH_take (i := 0) (oi := _) (v := ?_) rfl (by kernel_rfl) (by kernel_rfl) (by kernel_rfl) (fun _ _ _ h => h) (Or.inl ⟨by rfl, ?_⟩) (by assumption) ?_
    rotate_left
    · intro w hSw; obtain ⟨s0, s1⟩ := hSw; go_simp; (try with_reducible rfl)
    try change wpAnyH _ _ _ _ _ _ _ (Act.put _ (some 11) _) _
    try simp only [act_all]
    refine wpAnyH_take (i := 1) (oi := _) (v := ?_) rfl (by kernel_rfl) (by kernel_rfl) (by kernel_rfl) (fun _ _ _ h => h) (Or.inl ⟨by rfl, ?_⟩) (by assumption) ?_
    rotate_left
    · intro w hSw; obtain ⟨s0, s1⟩ := hSw; go_simp; (try with_reducible rfl)
    try change wpAnyH _ _ _ _ _ _ _ (Act.put _ (some 12) _) _
    try simp only [act_all]
    refine wpAnyH_take (i := 2) (oi := _) (v := ?_) rfl (by kernel_rfl) (by kernel_rfl) (by kernel_rfl) (fun _ _ _ h => h) (Or.inl ⟨by rfl, ?_⟩) (by assumption) ?_
    rotate_left
    · intro w hSw; obtain ⟨s0, s1⟩ := hSw; go_simp; (try with_reducible rfl)
    try change wpAnyH _ _ _ _ _ _ _ (Act.put _ (some 13) _) _
    try simp only [act_all]
    refine wpAnyH_take (i := 3) (oi := _) (v := ?_) rfl (by kernel_rfl) (by kernel_rfl) (by kernel_rfl) (fun _ _ _ h => h) (Or.inl ⟨by rfl, ?_⟩) (by assumption) ?_
    rotate_left
    · intro w hSw; obtain ⟨s0, s1⟩ := hSw; go_simp; (try with_reducible rfl)
    try change wpAnyH _ _ _ _ _ _ _ (Act.put _ (some 14) _) _
    try simp only [act_all]
    refine wpAnyH_take (i := 4) (oi := _) (v := _) rfl (by kernel_rfl) (by kernel_rfl) (by kernel_rfl) (fun _ _ _ h => h) (yieldsIf_load_mid (by rfl) 26 _ rfl b _ rfl ([.int .i64 x, .int .i64 y]) _ (fun w' hh => by simpa using range_xy hh.1) Try.underlying26 rfl (by kernel_rfl)) (by assumption) ?_
    try change wpAnyH _ _ _ _ _ _ _ (Act.put _ (some 15) _) _
    try simp only [act_all]
    refine wpAnyH_take (i := 5) (oi := _) (v := ?_) rfl (by kernel_rfl) (by kernel_rfl) (by kernel_rfl) (fun _ _ _ h => h) (Or.inl ⟨by rfl, ?_⟩) (by assumption) ?_
    rotate_left
    · intro w hSw; obtain ⟨s0, s1⟩ := hSw; go_simp; (try with_reducible rfl)
    try change wpAnyH _ _ _ _ _ _ _ (Act.put _ (some 16) _) _
    try simp only [act_all]
    refine wpAnyH_take (i := 6) (oi := _) (v := ?_) rfl (by kernel_rfl) (by kernel_rfl) (by kernel_rfl) (fun _ _ _ h => h) (Or.inl ⟨by rfl, ?_⟩) (by assumption) ?_
    rotate_left
    · intro w hSw; obtain ⟨s0, s1⟩ := hSw; go_simp; (try with_reducible rfl)
    try change wpAnyH _ _ _ _ _ _ _ (Act.put _ (some 17) _) _
    try simp only [act_all]
    refine wpAnyH_take (i := 7) (oi := _) (v := ?_) rfl (by kernel_rfl) (by kernel_rfl) (by kernel_rfl) (fun _ _ _ h => h) (Or.inl ⟨by rfl, ?_⟩) (by assumption) ?_
    rotate_left
    · intro w hSw; obtain ⟨s0, s1⟩ := hSw; go_simp; (try with_reducible rfl)
    try change wpAnyH _ _ _ _ _ _ _ (Act.put _ (some 18) _) _
    try simp only [act_all]
    refine wpAnyH_take (i := 8) (oi := _) (v := ?_) rfl (by kernel_rfl) (by kernel_rfl) (by kernel_rfl) (fun _ _ _ h => h) (Or.inl ⟨by rfl, ?_⟩) (by assumption) ?_
    rotate_left
    · intro w hSw; obtain ⟨s0, s1⟩ := hSw; go_simp; (try with_reducible rfl)
    try change wpAnyH _ _ _ _ _ _ _ (Act.put _ (some 19) _) _
    try simp only [act_all]
    refine wpAnyH_take (i := 9) (oi := _) (v := _) rfl (by kernel_rfl) (by kernel_rfl) (by kernel_rfl) (fun _ _ _ h => h) (yieldsIf_load_mid (by rfl) 26 _ rfl b _ rfl ([.int .i64 p, .int .i64 q]) _ (fun w' hh => by simpa using range_xy hh.2) Try.underlying26 rfl (by kernel_rfl)) (by assumption) ?_
    try change wpAnyH _ _ _ _ _ _ _ (Act.put _ (some 20) _) _
    try simp only [act_all]
    refine wpAnyH_ready (rs := [10]) (by kernel_rfl) (by simp) ?_
    refine AllReadyH.cons (o := _) rfl (fun K hK => ?_) AllReadyH.nil
    go_simp
    refine (wayTo_any x y p q _ HXX.out.1.1 HXX.out.1.2 HXX.out.2.1 HXX.out.2.2).mono ?_
    rw [HD.out]
    rintro e_ t1 ⟨rfl, hb⟩
    have HO1 := own_below' HO.out (HQ0.trans (hb.mono HQ0.size))
    have D1 : Below w.heap.size w t1 := D0.trans (hb.mono D0.size)
    clear hb hHeld
    refine hK.out _ _ (G0.out _ D1) (fun hHeld => ?_)
    clear hK K
    try simp only [act_all]
    refine wpAnyH_ready (rs := [11]) (by kernel_rfl) (by simp) ?_
    refine AllReadyH.cons (o := _) rfl (fun K hK => ?_) AllReadyH.nil
    go_simp
    have D2 : Below w.heap.size w (t1.alloc (.cells #[.int .i64 d] 3)) := D1.alloc D1.size _
    have HO2 : (t1.alloc (.cells #[.int .i64 d] 3)).ownsRow w.heap.size 3 1 u3 k (intC (wyN X Y) k) := HO1.alloc _
    clear hHeld
    refine hK.out _ _ (G0.out _ D2) (fun hHeld => ?_)
    clear hK K
    try simp only [act_all]
    refine wpAnyH_ready (rs := [12]) (by kernel_rfl) (by simp) ?_
    refine AllReadyH.cons (o := _) rfl (fun K hK => ?_) AllReadyH.nil
    have hNB : (t1.alloc (.cells #[.int .i64 d] 3)).heap[t1.heap.size]? = some (.cells #[.int .i64 d] 3 (0, 0)) := heap_alloc_new t1 _
    refine step_append_lies _ (by rfl) _ _ 34 (by rfl) w.heap.size 3 i0 _ 1 8 Try.underlying34 HI.out.1 HI.out.2.1 HI.out.2.2.1 HI.out.2.2.2 (by rfl) (by decide) u3 k (intC (wyN X Y) k) (by rfl) HO2 ⟨t1.heap.size, 0, none⟩ 1 1 [.int .i64 d] (by rfl) rfl (fun j u hu => World.news_of_block (cs := #[.int .i64 d]) hNB j u hu) (by intro u hu; simp only [List.mem_cons, List.not_mem_nil, or_false] at hu; subst hu; rfl) (by omega) (by unfold maxLen; omega) (by omega) D2.size _ rfl ?_
    intro g cm w9 hown9 hgrow9 hor9 hlg9
    have HLT := HO2.lt
    have D3 : Below w.heap.size w w9 := D2.grown hgrow9 D2.size (fun q hq => (HLT _ hq).1)
    have HO3 : Hid (w9.ownsRow w.heap.size 3 1 (.slice (some ⟨g, 0, none⟩) (k + 1) cm) (k + 1) (intC (wyN X Y) (k + 1))) := Lib.hid (by rw [intC_next, HW.out]; exact hown9)
    clear hgrow9 hor9 hown9 HLT hHeld HO1 HO2 hNB
    refine hK.out _ _ (G0.out _ D3) (fun hHeld => ?_)
    clear hK K
    try simp only [act_all]
    refine wpAnyH_take (i := 13) (oi := _) (v := ?_) rfl (by kernel_rfl) (by kernel_rfl) (by kernel_rfl) (fun _ _ _ h => h) (Or.inl ⟨by rfl, ?_⟩) (by assumption) ?_
    rotate_left
    · intro w hSw; obtain ⟨s0, s1⟩ := hSw; go_simp; (try with_reducible rfl)
    try change wpAnyH _ _ _ _ _ _ _ (Act.put _ (some 3) _) _
    try simp only [act_all]
    refine wpAnyH_done (by kernel_rfl) ?_ _
    clear hHeld
    have HB9 := Lib.hid D3
    clear D0 D1 D2 D3 HQ0 HO HB G0
    go_wp2_with fail
    go_roundg (n - (k + 1))
    case measure => have := HGG.out; omega
    case rel => exact ⟨k + 1, by go_num, by omega, Lib.hid (Nat.le_refl _), HO3, HB9⟩
end Go.Proofs.Ytkkcnhhfdicppaa
