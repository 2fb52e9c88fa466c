import Derived.Test.YtfilofnkiocbeaaVb8
namespace Go.Proofs.Ytfilofnkiocbeaa
open Go.RowKit Ben
set_option maxRecDepth 100000 in
set_option maxHeartbeats 8000000 in
theorem hal_1' (cap m dap base a : Nat) (ao bo : Option Addr) (p q : Nat → Nat) (f : Nat → Int) (w : World) (hm : m ≤ 80) (hb : base + 8 ≤ m) (P : Pm 8 p q) (ha : a < 16) (hc : Ints w ao 8 (fun j => ((p j : Nat) : Int))) (hd : Ints w bo m f) :
    Calls Try.prog 74 #[.slice ao 8 cap, .slice bo m dap, .int .i64 (base : Int), .int .i64 (a : Int)] w fun e w' => HalQ w w' e 4 base a p q f := by
  have HP := Lib.hid P
  have HA := Lib.hid (And.intro ha (And.intro hm hb))
  have HC := Lib.hid hc
  have HD := Lib.hid hd
  have a0 : (0 : Int) ≤ (a : Int) := by omega
  have hmk : ∀ w : World, (Instr.makeSlice 28 (.int .i64 4) (.int .i64 4)).run Try.prog w = .ok (.slice (some ⟨w.heap.size, 0, none⟩) 4 4) (w.alloc (.cells (madeCells #[.int .i64 0] 4) 3)) :=
    fun w => run_make_row' 28 3 (.int .i64 0) 8 Try.underlying28 infoInt rfl .i64 .i64 4 (by decide) (by decide) w
  have hmkN : ∀ w : World, (Instr.makeSlice 28 (.int .i64 8) (.int .i64 8)).run Try.prog w = .ok (.slice (some ⟨w.heap.size, 0, none⟩) 8 8) (w.alloc (.cells (madeCells #[.int .i64 0] 8) 3)) :=
    fun w => run_make_row' 28 3 (.int .i64 0) 8 Try.underlying28 infoInt rfl .i64 .i64 8 (by decide) (by decide) w
  clear hm hb P ha hc hd
  go_enter Try.func74, Try.ntmps74
  go_wp2_with fail
  go_loopw [12] (fun iv wr => ∃ (z : Int) (j : Nat), iv = .int .i64 z ∧ z = j ∧ j ≤ 4 ∧ Hid (∀ i, i < j → myB (f (base + i)) (bt a i) = true) ∧ Hid (Below w.heap.size w wr)) (fun iv _ => 4 - (intOf iv).toNat)
  case atStart => exact ⟨0, 0, rfl, rfl, Nat.zero_le _, Lib.hid (fun i hi => by omega), Lib.hid (Below.refl _ _)⟩
  case round =>
    obtain ⟨z, j, rfl, hz, hj, HK, HB⟩ := hrel
    by_cases hlt : j < 4
    · have hlt' : z < 4 := by omega
      have hbm := HA.out
      obtain ⟨b', o', rfl, hcell⟩ := (HD.out.keep HB.out) (by omega)
      have c0 := hcell (base + j) (by omega)
      obtain ⟨x, hx⟩ : ∃ x, f (base + j) = x := ⟨_, rfl⟩
      obtain ⟨u, hu⟩ : ∃ u, bt a j = u := ⟨_, rfl⟩
      have hab := and_bit8 (a := a) (j := j) (by omega) (by omega)
      rw [hx] at c0
      rw [hu] at hab
      have hm64 : min j 64 = j := by omega
      have wbj : wrap64 ((base : Int) + (j : Int)) = (base : Int) + (j : Int) := by simp only [wrap64]; omega
      have tbj : ((base : Int) + (j : Int)).toNat = base + j := by omega
      have lbj : (base : Int) + (j : Int) < (m : Int) := by omega
      have gbj : (0 : Int) ≤ (base : Int) + (j : Int) := by omega
      have j0 : (0 : Int) ≤ (j : Int) := by omega
      have jt : (j : Int).toNat = j := by omega
      have HJ := Lib.hid (And.intro hz (And.intro hj hlt))
      have HX := Lib.hid (And.intro hx hu)
      subst hz
      clear hj hlt hbm hcell hx hu
      cases hmy : mayB x u
      · have HNO : Hid ((vaF 4 q a && maS 4 q (fun i => f (base + i)) (sdF (bt a))) = false) := Lib.hid (hal_no HJ.out.2.2 (by show myB (f (base + j)) (bt a j) = false; rw [HX.out.1, HX.out.2]; exact hmy))
        go_upto_region 5 with fail
        go_quiet ((go_at_call 61; exact Calls.quiet_of_same (may_same _ _ _)))
        go_wp2_with fail
        refine bodyPost_ret (v := .tuple #[.slice none 0 0, .slice none 0 0, .bool false]) (by simp [results, Try.results74, go_sem, *]) rfl (halQ_no (by first | exact drewN_below HB.out | go_grown) HNO.out)
      · have HK2 : Hid (∀ i, i < j + 1 → myB (f (base + i)) (bt a i) = true) := Lib.hid (fun i hi => by
          by_cases e : i = j
          · subst e; rw [HX.out.1, HX.out.2]; exact hmy
          · exact HK.out i (by omega))
        go_upto_region 5 with fail
        go_quiet ((go_at_call 61; exact Calls.quiet_of_same (may_same _ _ _)))
        go_wp2_with fail
        go_roundw
        case rel => exact ⟨(j : Int) + 1, j + 1, by first | rfl | (rw [show wrap64 ((j : Int) + 1) = (j : Int) + 1 by have := HJ.out; simp only [wrap64]; omega]), by omega, by have := HJ.out; omega, HK2, Lib.hid (drewN_below HB.out)⟩
        case measure => have h9 := HJ.out; first | (simp [intOf]; done) | (simp [intOf]; omega)
    · obtain rfl : j = 4 := by omega
      have hzn : ¬ z < 4 := by omega
      clear hz hj hlt
      obtain ⟨wp, hw⟩ : ∃ z, z = wr := ⟨wr, rfl⟩
      subst hw
      have hsz := HB.out.size
      go_upto_region 7 with fail
      refine wp_region_held_drew (S := fun _ => True) (by kernel_rfl) trivial (fun hHeld => ?_)
      refine wpAnyH_take (i := 0) (oi := _) (v := ?_) rfl (by kernel_rfl) (by kernel_rfl) (by kernel_rfl) (fun _ _ _ h => h) (Or.inl ⟨by rfl, ?_⟩) (by assumption) ?_
      rotate_left
      · intro w hSw; go_simp; (try with_reducible rfl)
      try change wpAnyH _ _ _ _ _ _ _ (Act.put _ (some 40) _) _
      try simp only [act_all8, show IntKind.i64.wrap 4 = 4 from by decide]
      refine wpAnyH_take (i := 1) (oi := _) (v := ?_) rfl (by kernel_rfl) (by kernel_rfl) (by kernel_rfl) (fun _ _ _ h => h) (Or.inl ⟨by rfl, ?_⟩) (by assumption) ?_
      rotate_left
      · intro w hSw; go_simp; (try with_reducible rfl)
      try change wpAnyH _ _ _ _ _ _ _ (Act.put _ (some 41) _) _
      try simp only [act_all8, show IntKind.i64.wrap 4 = 4 from by decide]
      refine wpAnyH_take (i := 3) (oi := _) (v := ?_) rfl (by kernel_rfl) (by kernel_rfl) (by kernel_rfl) (fun _ _ _ h => h) (Or.inl ⟨by rfl, ?_⟩) (by assumption) ?_
      rotate_left
      · intro w hSw; go_simp; (try with_reducible rfl)
      try change wpAnyH _ _ _ _ _ _ _ (Act.put _ (some 43) _) _
      try simp only [act_all8, show IntKind.i64.wrap 4 = 4 from by decide]
      refine wpAnyH_take (i := 4) (oi := _) (v := ?_) rfl (by kernel_rfl) (by kernel_rfl) (by kernel_rfl) (fun _ _ _ h => h) (Or.inl ⟨by rfl, ?_⟩) (by assumption) ?_
      rotate_left
      · intro w hSw; go_simp; (try with_reducible rfl)
      try change wpAnyH _ _ _ _ _ _ _ (Act.put _ (some 44) _) _
      try simp only [act_all8, show IntKind.i64.wrap 4 = 4 from by decide]
      refine wpAnyH_ready (rs := [2, 5]) (by kernel_rfl) (by simp) ?_
      refine AllReadyH.cons (o := _) rfl (fun K hK => ?_) ?_
      · go_simp
        refine hK.out _ _ trivial (fun hHeld => ?_)
        clear hK K
        try simp only [act_all8, show IntKind.i64.wrap 4 = 4 from by decide]
        refine wpAnyH_take (i := 6) (oi := _) (v := ?_) rfl (by kernel_rfl) (by kernel_rfl) (by kernel_rfl) (fun _ _ _ h => h) (Or.inl ⟨by rfl, ?_⟩) (by assumption) ?_
        rotate_left
        · intro w hSw; go_simp; (try with_reducible rfl)
        try change wpAnyH _ _ _ _ _ _ _ (Act.put _ (some 13) _) _
        try simp only [act_all8, show IntKind.i64.wrap 4 = 4 from by decide]
        refine wpAnyH_ready (rs := [5]) (by kernel_rfl) (by simp) ?_
        refine AllReadyH.cons (o := _) rfl (fun K hK => ?_) AllReadyH.nil
        go_simp
        refine hK.out _ _ trivial (fun hHeld => ?_)
        clear hK K
        try simp only [act_all8, show IntKind.i64.wrap 4 = 4 from by decide]
        refine wpAnyH_take (i := 7) (oi := _) (v := ?_) rfl (by kernel_rfl) (by kernel_rfl) (by kernel_rfl) (fun _ _ _ h => h) (Or.inl ⟨by rfl, ?_⟩) (by assumption) ?_
        rotate_left
        · intro w hSw; go_simp; (try with_reducible rfl)
        try change wpAnyH _ _ _ _ _ _ _ (Act.put _ (some 14) _) _
        try simp only [act_all8, show IntKind.i64.wrap 4 = 4 from by decide]
        refine wpAnyH_done (by kernel_rfl) ?_ _
        clear hHeld
        have hbl := HB.out
        go_wp2_with fail
        have K0 : Hid (Intw ((((wp.alloc (Obj.cells (madeCells #[.int .i64 0] 4) 3)).alloc (Obj.cells (madeCells #[.int .i64 0] 4) 3)).alloc (Obj.cells (madeCells #[.int .i64 0] 8) 3)).drew) wp.heap.size 4 (fun _ => 0)) := Lib.hid ((new_row wp 4).keep (by go_grown))
        have K1 : Hid (Intw ((((wp.alloc (Obj.cells (madeCells #[.int .i64 0] 4) 3)).alloc (Obj.cells (madeCells #[.int .i64 0] 4) 3)).alloc (Obj.cells (madeCells #[.int .i64 0] 8) 3)).drew) (wp.heap.size + 1) 4 (fun _ => 0)) := Lib.hid (by
          have h := (new_row (wp.alloc (Obj.cells (madeCells #[.int .i64 0] 4) 3)) 4).keep (w1 := (((wp.alloc (Obj.cells (madeCells #[.int .i64 0] 4) 3)).alloc (Obj.cells (madeCells #[.int .i64 0] 4) 3)).alloc (Obj.cells (madeCells #[.int .i64 0] 8) 3)).drew) (by go_grown)
          have e : (wp.alloc (Obj.cells (madeCells #[.int .i64 0] 4) 3)).heap.size = wp.heap.size + 1 := by simp
          rwa [e] at h)
        have K2 : Hid (Intw ((((wp.alloc (Obj.cells (madeCells #[.int .i64 0] 4) 3)).alloc (Obj.cells (madeCells #[.int .i64 0] 4) 3)).alloc (Obj.cells (madeCells #[.int .i64 0] 8) 3)).drew) (wp.heap.size + 1 + 1) 8 (fun _ => 0)) := Lib.hid (by
          have h := (new_row ((wp.alloc (Obj.cells (madeCells #[.int .i64 0] 4) 3)).alloc (Obj.cells (madeCells #[.int .i64 0] 4) 3)) 8).keep (w1 := (((wp.alloc (Obj.cells (madeCells #[.int .i64 0] 4) 3)).alloc (Obj.cells (madeCells #[.int .i64 0] 4) 3)).alloc (Obj.cells (madeCells #[.int .i64 0] 8) 3)).drew) (by go_grown)
          have e : ((wp.alloc (Obj.cells (madeCells #[.int .i64 0] 4) 3)).alloc (Obj.cells (madeCells #[.int .i64 0] 4) 3)).heap.size = wp.heap.size + 1 + 1 := by simp
          rwa [e] at h)
        have HB3 : Hid (Below w.heap.size w ((((wp.alloc (Obj.cells (madeCells #[.int .i64 0] 4) 3)).alloc (Obj.cells (madeCells #[.int .i64 0] 4) 3)).alloc (Obj.cells (madeCells #[.int .i64 0] 8) 3)).drew)) := Lib.hid (by go_grown)
        have hs3 : wp.heap.size + 1 + 1 < ((((wp.alloc (Obj.cells (madeCells #[.int .i64 0] 4) 3)).alloc (Obj.cells (madeCells #[.int .i64 0] 4) 3)).alloc (Obj.cells (madeCells #[.int .i64 0] 8) 3)).drew).heap.size := by first | (simp; done) | (simp; omega)
        generalize (((wp.alloc (Obj.cells (madeCells #[.int .i64 0] 4) 3)).alloc (Obj.cells (madeCells #[.int .i64 0] 4) 3)).alloc (Obj.cells (madeCells #[.int .i64 0] 8) 3)).drew = W3 at *
        have hne0 : ¬ wp.heap.size = wp.heap.size + 1 := by omega
        have d1 : ¬ wp.heap.size = (wp.heap.size + 1 + 1) := by omega
        have d2 : ¬ (wp.heap.size + 1) = (wp.heap.size + 1 + 1) := by omega
        have d3 : ¬ (wp.heap.size + 1 + 1) = wp.heap.size := by omega
        have d4 : ¬ (wp.heap.size + 1 + 1) = (wp.heap.size + 1) := by omega
        have d5 : ¬ wp.heap.size = (wp.heap.size + 1) := by omega
        have d6 : ¬ (wp.heap.size + 1) = wp.heap.size := by omega
        go_loopw [16] (fun iv wr => ∃ (z : Int) (k : Nat), iv = .int .i64 z ∧ z = k ∧ k ≤ 8 ∧ Hid (Intw wr (wp.heap.size + 1 + 1) 8 (frS q (sdF (bt a)) k)) ∧ Hid (Intw wr wp.heap.size 4 (uS p (sdF (bt a)) k)) ∧ Hid (Intw wr (wp.heap.size + 1) 4 (lS p (sdF (bt a)) k)) ∧ Hid (Below w.heap.size w wr) ∧ wp.heap.size + 1 + 1 < wr.heap.size) (fun iv _ => 8 - (intOf iv).toNat)
        case atStart => exact ⟨0, 0, rfl, rfl, Nat.zero_le _, Lib.hid (K2.out.congr fun i _ => (if_neg (by omega)).symm), Lib.hid (K0.out.congr fun i _ => (if_neg (by omega)).symm), Lib.hid (K1.out.congr fun i _ => (if_neg (by omega)).symm), HB3, hs3⟩
        case round =>
          obtain ⟨z, k, rfl, hz, hk, HF, HU, HV, HBr, hsr⟩ := hrel
          clear K0 K1 K2 HB3 hs3 hbl
          have hbl := HBr.out
          by_cases hlt : k < 8
          · have hlt' : z < 8 := by omega
            have hPk := HP.out.lp k hlt
            have hPq := HP.out
            obtain ⟨b, o, rfl, hcell⟩ := (HC.out.keep HBr.out) (by omega)
            have c0 := hcell k hlt
            have lb : b < w.heap.size := by
              obtain ⟨b', o', e', hc'⟩ := HC.out (by omega)
              have h1 : b' < w.heap.size := World.block_lt_of_cell? _ _ (hc' 0 (by omega))
              have e2 : b = b' := congrArg Addr.block (Option.some.inj e')
              omega
            obtain ⟨y, hy⟩ : ∃ y, p k = y := ⟨_, rfl⟩
            simp only [hy] at c0
            rw [hy] at hPk
            obtain ⟨h, hh⟩ : ∃ h, k / 2 = h := ⟨_, rfl⟩
            obtain ⟨yh, hyh⟩ : ∃ x, y / 2 = x := ⟨_, rfl⟩
            obtain ⟨m0, m1⟩ := HF.out y hPk
            obtain ⟨n0, n1⟩ := HU.out h (by omega)
            obtain ⟨r0, r1⟩ := HV.out h (by omega)
            obtain ⟨u, hu⟩ : ∃ u, bt a h = u := ⟨_, rfl⟩
            have hab := and_bit8 (a := a) (j := h) (by have := HA.out; omega) (by omega)
            rw [hu] at hab
            have q2 : (k : Int).tdiv 2 = (h : Int) := by rw [Int.tdiv_eq_ediv_of_nonneg (by omega)]; omega
            have y2 : (y : Int).tdiv 2 = (yh : Int) := by rw [Int.tdiv_eq_ediv_of_nonneg (by omega)]; omega
            have hh8 : h ≤ 64 := by omega
            have hm64 : min h 64 = h := Nat.min_eq_left hh8
            have k0 : (0 : Int) ≤ (k : Int) := by omega
            have kN : (k : Int) < 8 := by omega
            have kt : (k : Int).toNat = k := by omega
            have y0 : (0 : Int) ≤ (y : Int) := by omega
            have yN : (y : Int) < 8 := by omega
            have yt : (y : Int).toNat = y := by omega
            have h0 : (0 : Int) ≤ (h : Int) := by omega
            have hH : (h : Int) < 4 := by omega
            have ht : (h : Int).toNat = h := by omega
            have hhn : h < 4 := by omega
            have g0 : ¬ b = wp.heap.size := by have := HB.out.size; omega
            have g1 : ¬ b = wp.heap.size + 1 := by have := HB.out.size; omega
            have g2 : ¬ b = wp.heap.size + 1 + 1 := by have := HB.out.size; omega
            have g3 : ¬ wp.heap.size = b := by omega
            have g4 : ¬ wp.heap.size + 1 = b := by omega
            have g5 : ¬ wp.heap.size + 1 + 1 = b := by omega
            have hszp := HB.out.size
            clear q2 y2
            have yd : (y : Int) / 2 = (yh : Int) := by omega
            have wq : ∀ t : Int, t = (h : Int) → wrap64 t = t := by rintro t rfl; simp only [wrap64]; omega
            have wy : ∀ t : Int, t = (yh : Int) → wrap64 t = t := by rintro t rfl; simp only [wrap64]; omega
            have HJ := Lib.hid (And.intro hz (And.intro hk hlt))
            have HYY := Lib.hid (And.intro hy (And.intro hh (And.intro hyh hPk)))
            have hsg : sdF (bt a) k = (u ^^ decide (k % 2 = 1)) := by rw [sd_at, hh, hu]
            subst hz
            clear hcell hk hlt hu hPq hy
            by_cases hp : k % 2 = 1
            · have m2 : (k : Int).tmod 2 = 1 := by clear wq wy; rw [Int.tmod_eq_emod_of_nonneg (by omega)]; omega
              rw [decide_eq_true hp] at hsg
              cases u
              · have HSG : Hid (sdF (bt a) k = true) := Lib.hid (by rw [hsg]; rfl)
                clear hsg hp
                have HF2 : Hid (Intw ((wr.setCell ⟨(wp.heap.size + 1 + 1), y, none⟩ (.int .i64 1)).setCell ⟨(wp.heap.size + 1), h, none⟩ (.int .i64 (yh : Int))) (wp.heap.size + 1 + 1) 8 (frS q (sdF (bt a)) (k + 1))) := Lib.hid (((HF.out.store HYY.out.2.2.2 1).other (by assumption)).congr fun i hi => by have hn := frS_next HP.out (σ := (sdF (bt a))) HJ.out.2.2 hi; rw [HYY.out.1, HSG.out] at hn; exact hn)
                have HU2 : Hid (Intw ((wr.setCell ⟨(wp.heap.size + 1 + 1), y, none⟩ (.int .i64 1)).setCell ⟨(wp.heap.size + 1), h, none⟩ (.int .i64 (yh : Int))) wp.heap.size 4 (uS p (sdF (bt a)) (k + 1))) := Lib.hid (((HU.out.other (by assumption)).other (by assumption)).congr fun i hi => uS_lo (p := p) HSG.out i)
                have HV2 : Hid (Intw ((wr.setCell ⟨(wp.heap.size + 1 + 1), y, none⟩ (.int .i64 1)).setCell ⟨(wp.heap.size + 1), h, none⟩ (.int .i64 (yh : Int))) (wp.heap.size + 1) 4 (lS p (sdF (bt a)) (k + 1))) := Lib.hid (((HV.out.other (by assumption)).store hhn (yh : Int)).congr fun i hi => by have hn := lS_lo (p := p) HSG.out i; rw [HYY.out.1, HYY.out.2.1, HYY.out.2.2.1] at hn; exact hn)
                have HB2 : Hid (Below w.heap.size w ((wr.setCell ⟨(wp.heap.size + 1 + 1), y, none⟩ (.int .i64 1)).setCell ⟨(wp.heap.size + 1), h, none⟩ (.int .i64 (yh : Int)))) := Lib.hid (by go_grown)
                have hs2 : wp.heap.size + 1 + 1 < ((wr.setCell ⟨(wp.heap.size + 1 + 1), y, none⟩ (.int .i64 1)).setCell ⟨(wp.heap.size + 1), h, none⟩ (.int .i64 (yh : Int))).heap.size := by first | exact hsr | (simp; exact hsr)
                clear HF HU HV HBr hszp hhn hh8 hPk lb
                go_wp2_with fail
                go_roundw
                case rel => exact ⟨(k : Int) + 1, k + 1, by first | rfl | (rw [show wrap64 ((k : Int) + 1) = (k : Int) + 1 by clear wq wy; have := HJ.out; simp only [wrap64]; omega]), by clear wq wy; omega, by clear wq wy; have := HJ.out; omega, HF2, HU2, HV2, HB2, hs2⟩
                case measure => clear wq wy; have h9 := HJ.out; first | (simp [intOf]; done) | (simp [intOf]; omega)
              · have HSG : Hid (sdF (bt a) k = false) := Lib.hid (by rw [hsg]; rfl)
                clear hsg hp
                have HF2 : Hid (Intw ((wr.setCell ⟨(wp.heap.size + 1 + 1), y, none⟩ (.int .i64 0)).setCell ⟨wp.heap.size, h, none⟩ (.int .i64 (yh : Int))) (wp.heap.size + 1 + 1) 8 (frS q (sdF (bt a)) (k + 1))) := Lib.hid (((HF.out.store HYY.out.2.2.2 0).other (by assumption)).congr fun i hi => by have hn := frS_next HP.out (σ := (sdF (bt a))) HJ.out.2.2 hi; rw [HYY.out.1, HSG.out] at hn; exact hn)
                have HU2 : Hid (Intw ((wr.setCell ⟨(wp.heap.size + 1 + 1), y, none⟩ (.int .i64 0)).setCell ⟨wp.heap.size, h, none⟩ (.int .i64 (yh : Int))) wp.heap.size 4 (uS p (sdF (bt a)) (k + 1))) := Lib.hid (((HU.out.other (by assumption)).store hhn (yh : Int)).congr fun i hi => by have hn := uS_up (p := p) HSG.out i; rw [HYY.out.1, HYY.out.2.1, HYY.out.2.2.1] at hn; exact hn)
                have HV2 : Hid (Intw ((wr.setCell ⟨(wp.heap.size + 1 + 1), y, none⟩ (.int .i64 0)).setCell ⟨wp.heap.size, h, none⟩ (.int .i64 (yh : Int))) (wp.heap.size + 1) 4 (lS p (sdF (bt a)) (k + 1))) := Lib.hid (((HV.out.other (by assumption)).other (by assumption)).congr fun i hi => lS_up (p := p) HSG.out i)
                have HB2 : Hid (Below w.heap.size w ((wr.setCell ⟨(wp.heap.size + 1 + 1), y, none⟩ (.int .i64 0)).setCell ⟨wp.heap.size, h, none⟩ (.int .i64 (yh : Int)))) := Lib.hid (by go_grown)
                have hs2 : wp.heap.size + 1 + 1 < ((wr.setCell ⟨(wp.heap.size + 1 + 1), y, none⟩ (.int .i64 0)).setCell ⟨wp.heap.size, h, none⟩ (.int .i64 (yh : Int))).heap.size := by first | exact hsr | (simp; exact hsr)
                clear HF HU HV HBr hszp hhn hh8 hPk lb
                go_wp2_with fail
                go_roundw
                case rel => exact ⟨(k : Int) + 1, k + 1, by first | rfl | (rw [show wrap64 ((k : Int) + 1) = (k : Int) + 1 by clear wq wy; have := HJ.out; simp only [wrap64]; omega]), by clear wq wy; omega, by clear wq wy; have := HJ.out; omega, HF2, HU2, HV2, HB2, hs2⟩
                case measure => clear wq wy; have h9 := HJ.out; first | (simp [intOf]; done) | (simp [intOf]; omega)
            · have m2 : (k : Int).tmod 2 = 0 := by clear wq wy; rw [Int.tmod_eq_emod_of_nonneg (by omega)]; omega
              rw [decide_eq_false hp] at hsg
              cases u
              · have HSG : Hid (sdF (bt a) k = false) := Lib.hid (by rw [hsg]; rfl)
                clear hsg hp
                have HF2 : Hid (Intw ((wr.setCell ⟨(wp.heap.size + 1 + 1), y, none⟩ (.int .i64 0)).setCell ⟨wp.heap.size, h, none⟩ (.int .i64 (yh : Int))) (wp.heap.size + 1 + 1) 8 (frS q (sdF (bt a)) (k + 1))) := Lib.hid (((HF.out.store HYY.out.2.2.2 0).other (by assumption)).congr fun i hi => by have hn := frS_next HP.out (σ := (sdF (bt a))) HJ.out.2.2 hi; rw [HYY.out.1, HSG.out] at hn; exact hn)
                have HU2 : Hid (Intw ((wr.setCell ⟨(wp.heap.size + 1 + 1), y, none⟩ (.int .i64 0)).setCell ⟨wp.heap.size, h, none⟩ (.int .i64 (yh : Int))) wp.heap.size 4 (uS p (sdF (bt a)) (k + 1))) := Lib.hid (((HU.out.other (by assumption)).store hhn (yh : Int)).congr fun i hi => by have hn := uS_up (p := p) HSG.out i; rw [HYY.out.1, HYY.out.2.1, HYY.out.2.2.1] at hn; exact hn)
                have HV2 : Hid (Intw ((wr.setCell ⟨(wp.heap.size + 1 + 1), y, none⟩ (.int .i64 0)).setCell ⟨wp.heap.size, h, none⟩ (.int .i64 (yh : Int))) (wp.heap.size + 1) 4 (lS p (sdF (bt a)) (k + 1))) := Lib.hid (((HV.out.other (by assumption)).other (by assumption)).congr fun i hi => lS_up (p := p) HSG.out i)
                have HB2 : Hid (Below w.heap.size w ((wr.setCell ⟨(wp.heap.size + 1 + 1), y, none⟩ (.int .i64 0)).setCell ⟨wp.heap.size, h, none⟩ (.int .i64 (yh : Int)))) := Lib.hid (by go_grown)
                have hs2 : wp.heap.size + 1 + 1 < ((wr.setCell ⟨(wp.heap.size + 1 + 1), y, none⟩ (.int .i64 0)).setCell ⟨wp.heap.size, h, none⟩ (.int .i64 (yh : Int))).heap.size := by first | exact hsr | (simp; exact hsr)
                clear HF HU HV HBr hszp hhn hh8 hPk lb
                go_wp2_with fail
                go_roundw
                case rel => exact ⟨(k : Int) + 1, k + 1, by first | rfl | (rw [show wrap64 ((k : Int) + 1) = (k : Int) + 1 by clear wq wy; have := HJ.out; simp only [wrap64]; omega]), by clear wq wy; omega, by clear wq wy; have := HJ.out; omega, HF2, HU2, HV2, HB2, hs2⟩
                case measure => clear wq wy; have h9 := HJ.out; first | (simp [intOf]; done) | (simp [intOf]; omega)
              · have HSG : Hid (sdF (bt a) k = true) := Lib.hid (by rw [hsg]; rfl)
                clear hsg hp
                have HF2 : Hid (Intw ((wr.setCell ⟨(wp.heap.size + 1 + 1), y, none⟩ (.int .i64 1)).setCell ⟨(wp.heap.size + 1), h, none⟩ (.int .i64 (yh : Int))) (wp.heap.size + 1 + 1) 8 (frS q (sdF (bt a)) (k + 1))) := Lib.hid (((HF.out.store HYY.out.2.2.2 1).other (by assumption)).congr fun i hi => by have hn := frS_next HP.out (σ := (sdF (bt a))) HJ.out.2.2 hi; rw [HYY.out.1, HSG.out] at hn; exact hn)
                have HU2 : Hid (Intw ((wr.setCell ⟨(wp.heap.size + 1 + 1), y, none⟩ (.int .i64 1)).setCell ⟨(wp.heap.size + 1), h, none⟩ (.int .i64 (yh : Int))) wp.heap.size 4 (uS p (sdF (bt a)) (k + 1))) := Lib.hid (((HU.out.other (by assumption)).other (by assumption)).congr fun i hi => uS_lo (p := p) HSG.out i)
                have HV2 : Hid (Intw ((wr.setCell ⟨(wp.heap.size + 1 + 1), y, none⟩ (.int .i64 1)).setCell ⟨(wp.heap.size + 1), h, none⟩ (.int .i64 (yh : Int))) (wp.heap.size + 1) 4 (lS p (sdF (bt a)) (k + 1))) := Lib.hid (((HV.out.other (by assumption)).store hhn (yh : Int)).congr fun i hi => by have hn := lS_lo (p := p) HSG.out i; rw [HYY.out.1, HYY.out.2.1, HYY.out.2.2.1] at hn; exact hn)
                have HB2 : Hid (Below w.heap.size w ((wr.setCell ⟨(wp.heap.size + 1 + 1), y, none⟩ (.int .i64 1)).setCell ⟨(wp.heap.size + 1), h, none⟩ (.int .i64 (yh : Int)))) := Lib.hid (by go_grown)
                have hs2 : wp.heap.size + 1 + 1 < ((wr.setCell ⟨(wp.heap.size + 1 + 1), y, none⟩ (.int .i64 1)).setCell ⟨(wp.heap.size + 1), h, none⟩ (.int .i64 (yh : Int))).heap.size := by first | exact hsr | (simp; exact hsr)
                clear HF HU HV HBr hszp hhn hh8 hPk lb
                go_wp2_with fail
                go_roundw
                case rel => exact ⟨(k : Int) + 1, k + 1, by first | rfl | (rw [show wrap64 ((k : Int) + 1) = (k : Int) + 1 by clear wq wy; have := HJ.out; simp only [wrap64]; omega]), by clear wq wy; omega, by clear wq wy; have := HJ.out; omega, HF2, HU2, HV2, HB2, hs2⟩
                case measure => clear wq wy; have h9 := HJ.out; first | (simp [intOf]; done) | (simp [intOf]; omega)
          · obtain rfl : k = 8 := by omega
            have hzn : ¬ z < 8 := by omega
            clear hz hk hlt
            have LF : Hid (Intw wr (wp.heap.size + 1 + 1) 8 (fun y => b2 ((sdF (bt a)) (q y)))) := Lib.hid (HF.out.congr fun i hi => frS_all HP.out hi)
            have LU : Hid (Intw wr wp.heap.size 4 (fun i => ((upS p (sdF (bt a)) i : Nat) : Int))) := Lib.hid (HU.out.congr fun i hi => uS_all (H := 4) hi)
            have LV : Hid (Intw wr (wp.heap.size + 1) 4 (fun i => ((loS p (sdF (bt a)) i : Nat) : Int))) := Lib.hid (HV.out.congr fun i hi => lS_all (H := 4) hi)
            clear HF HU HV
            go_wp2_with fail
            go_loopw [18] (fun iv wr => ∃ (z : Int) (j : Nat), iv = .int .i64 z ∧ z = j ∧ j ≤ 4 ∧ Hid (∀ i, i < j → ¬ (sdF (bt a)) (q (2 * i)) = (sdF (bt a)) (q (2 * i + 1)) ∧ myB (f (base + (4 + i))) ((sdF (bt a)) (q (2 * i))) = true) ∧ Hid (Intw wr (wp.heap.size + 1 + 1) 8 (fun y => b2 ((sdF (bt a)) (q y)))) ∧ Hid (Intw wr wp.heap.size 4 (fun i => ((upS p (sdF (bt a)) i : Nat) : Int))) ∧ Hid (Intw wr (wp.heap.size + 1) 4 (fun i => ((loS p (sdF (bt a)) i : Nat) : Int))) ∧ Hid (Below w.heap.size w wr)) (fun iv _ => 4 - (intOf iv).toNat)
            case atStart => exact ⟨0, 0, rfl, rfl, Nat.zero_le _, Lib.hid (fun i hi => by omega), LF, LU, LV, HBr⟩
            case round =>
              obtain ⟨z, j, rfl, hz, hj, HKC, HF3, HU3, HV3, HB4⟩ := hrel
              clear LF LU LV HBr hbl hsr
              have hbl := HB4.out
              by_cases hlt : j < 4
              · have hlt' : z < 4 := by omega
                have hbm := HA.out
                obtain ⟨f0, _⟩ := HF3.out (2 * j) (by omega)
                obtain ⟨f1, _⟩ := HF3.out (2 * j + 1) (by omega)
                obtain ⟨b', o', rfl, hcell⟩ := (HD.out.keep HB4.out) (by omega)
                have c0 := hcell (base + 4 + j) (by omega)
                obtain ⟨x, hx⟩ : ∃ x, f (base + 4 + j) = x := ⟨_, rfl⟩
                obtain ⟨t, ht⟩ : ∃ t, (sdF (bt a)) (q (2 * j)) = t := ⟨_, rfl⟩
                obtain ⟨u, hu⟩ : ∃ u, (sdF (bt a)) (q (2 * j + 1)) = u := ⟨_, rfl⟩
                simp only [ht] at f0
                simp only [hu] at f1
                rw [hx] at c0
                have e1 : (2 * (j : Int)).toNat = 2 * j := by omega
                have e2 : (2 * (j : Int) + 1).toNat = 2 * j + 1 := by omega
                have e3 : ((base : Int) + 4 + (j : Int)).toNat = base + 4 + j := by omega
                have i1 : (0 : Int) ≤ 2 * (j : Int) := by omega
                have i2 : 2 * (j : Int) < 8 := by omega
                have i3 : (0 : Int) ≤ 2 * (j : Int) + 1 := by omega
                have i4 : 2 * (j : Int) + 1 < 8 := by omega
                have i5 : (0 : Int) ≤ (base : Int) + 4 + (j : Int) := by omega
                have i6 : (base : Int) + 4 + (j : Int) < (m : Int) := by omega
                have w1 : ∀ v : Int, v = 2 * (j : Int) → wrap64 v = v := by rintro v rfl; simp only [wrap64]; omega
                have w2 : ∀ v : Int, v = 2 * (j : Int) + 1 → wrap64 v = v := by rintro v rfl; simp only [wrap64]; omega
                have w3 : ∀ v : Int, v = (base : Int) + 4 → wrap64 v = v := by rintro v rfl; simp only [wrap64]; omega
                have w4 : ∀ v : Int, v = (base : Int) + 4 + (j : Int) → wrap64 v = v := by rintro v rfl; simp only [wrap64]; omega
                have HJ := Lib.hid (And.intro hz (And.intro hj hlt))
                have HX := Lib.hid (And.intro hx (And.intro ht hu))
                subst hz
                clear hj hlt hbm hcell hx ht hu
                cases t <;> cases u
                · have HNO : Hid ((vaF 4 q a && maS 4 q (fun i => f (base + i)) (sdF (bt a))) = false) := Lib.hid (hal_no2 HJ.out.2.2 (by rw [HX.out.2.1, HX.out.2.2]))
                  rw [show b2 false = 0 from rfl] at f0
                  rw [show b2 false = 0 from rfl] at f1
                  go_upto_region 22 with fail
                  go_quiet ((go_at_call 61; exact Calls.quiet_of_same (may_same _ _ _)))
                  go_wp2_with fail
                  refine bodyPost_ret (v := .tuple #[.slice none 0 0, .slice none 0 0, .bool false]) (by simp [results, Try.results74, go_sem, *]) rfl (halQ_no (by first | exact drewN_below HB4.out | go_grown) HNO.out)
                · rw [show b2 false = 0 from rfl] at f0
                  rw [show b2 true = 1 from rfl] at f1
                  cases hmy : mayB x false
                  · have HNO : Hid ((vaF 4 q a && maS 4 q (fun i => f (base + i)) (sdF (bt a))) = false) := Lib.hid (hal_no3 HJ.out.2.2 (by show myB (f (base + (4 + j))) (sdF (bt a) (q (2 * j))) = false; rw [HX.out.2.1, ← Nat.add_assoc, HX.out.1]; exact hmy))
                    go_upto_region 22 with fail
                    go_quiet ((go_at_call 61; exact Calls.quiet_of_same (may_same _ _ _)))
                    go_wp2_with fail
                    refine bodyPost_ret (v := .tuple #[.slice none 0 0, .slice none 0 0, .bool false]) (by simp [results, Try.results74, go_sem, *]) rfl (halQ_no (by first | exact drewN_below HB4.out | go_grown) HNO.out)
                  · have HKC2 : Hid (∀ i, i < j + 1 → ¬ (sdF (bt a)) (q (2 * i)) = (sdF (bt a)) (q (2 * i + 1)) ∧ myB (f (base + (4 + i))) ((sdF (bt a)) (q (2 * i))) = true) := Lib.hid (fun i hi => by
                      by_cases e : i = j
                      · subst e; rw [HX.out.2.1, HX.out.2.2, ← Nat.add_assoc, HX.out.1]; exact ⟨by simp, hmy⟩
                      · exact HKC.out i (by omega))
                    go_upto_region 22 with fail
                    go_quiet ((go_at_call 61; exact Calls.quiet_of_same (may_same _ _ _)))
                    go_wp2_with fail
                    go_roundw
                    case rel => exact ⟨(j : Int) + 1, j + 1, by first | rfl | (rw [show wrap64 ((j : Int) + 1) = (j : Int) + 1 by have := HJ.out; simp only [wrap64]; omega]), by omega, by have := HJ.out; omega, HKC2, Lib.hid (HF3.out.keep (drewN_below (Below.refl _ _))), Lib.hid (HU3.out.keep (drewN_below (Below.refl _ _))), Lib.hid (HV3.out.keep (drewN_below (Below.refl _ _))), Lib.hid (drewN_below HB4.out)⟩
                    case measure => have h9 := HJ.out; first | (simp [intOf]; done) | (simp [intOf]; omega)
                · rw [show b2 true = 1 from rfl] at f0
                  rw [show b2 false = 0 from rfl] at f1
                  cases hmy : mayB x true
                  · have HNO : Hid ((vaF 4 q a && maS 4 q (fun i => f (base + i)) (sdF (bt a))) = false) := Lib.hid (hal_no3 HJ.out.2.2 (by show myB (f (base + (4 + j))) (sdF (bt a) (q (2 * j))) = false; rw [HX.out.2.1, ← Nat.add_assoc, HX.out.1]; exact hmy))
                    go_upto_region 22 with fail
                    go_quiet ((go_at_call 61; exact Calls.quiet_of_same (may_same _ _ _)))
                    go_wp2_with fail
                    refine bodyPost_ret (v := .tuple #[.slice none 0 0, .slice none 0 0, .bool false]) (by simp [results, Try.results74, go_sem, *]) rfl (halQ_no (by first | exact drewN_below HB4.out | go_grown) HNO.out)
                  · have HKC2 : Hid (∀ i, i < j + 1 → ¬ (sdF (bt a)) (q (2 * i)) = (sdF (bt a)) (q (2 * i + 1)) ∧ myB (f (base + (4 + i))) ((sdF (bt a)) (q (2 * i))) = true) := Lib.hid (fun i hi => by
                      by_cases e : i = j
                      · subst e; rw [HX.out.2.1, HX.out.2.2, ← Nat.add_assoc, HX.out.1]; exact ⟨by simp, hmy⟩
                      · exact HKC.out i (by omega))
                    go_upto_region 22 with fail
                    go_quiet ((go_at_call 61; exact Calls.quiet_of_same (may_same _ _ _)))
                    go_wp2_with fail
                    go_roundw
                    case rel => exact ⟨(j : Int) + 1, j + 1, by first | rfl | (rw [show wrap64 ((j : Int) + 1) = (j : Int) + 1 by have := HJ.out; simp only [wrap64]; omega]), by omega, by have := HJ.out; omega, HKC2, Lib.hid (HF3.out.keep (drewN_below (Below.refl _ _))), Lib.hid (HU3.out.keep (drewN_below (Below.refl _ _))), Lib.hid (HV3.out.keep (drewN_below (Below.refl _ _))), Lib.hid (drewN_below HB4.out)⟩
                    case measure => have h9 := HJ.out; first | (simp [intOf]; done) | (simp [intOf]; omega)
                · have HNO : Hid ((vaF 4 q a && maS 4 q (fun i => f (base + i)) (sdF (bt a))) = false) := Lib.hid (hal_no2 HJ.out.2.2 (by rw [HX.out.2.1, HX.out.2.2]))
                  rw [show b2 true = 1 from rfl] at f0
                  rw [show b2 true = 1 from rfl] at f1
                  go_upto_region 22 with fail
                  go_quiet ((go_at_call 61; exact Calls.quiet_of_same (may_same _ _ _)))
                  go_wp2_with fail
                  refine bodyPost_ret (v := .tuple #[.slice none 0 0, .slice none 0 0, .bool false]) (by simp [results, Try.results74, go_sem, *]) rfl (halQ_no (by first | exact drewN_below HB4.out | go_grown) HNO.out)
              · obtain rfl : j = 4 := by omega
                have hzn : ¬ z < 4 := by omega
                clear hz hj hlt
                have HT : Hid (true = (vaF 4 q a && maS 4 q (fun i => f (base + i)) (sdF (bt a)))) := Lib.hid (hal_iff.2 ⟨HK.out, HKC.out⟩).symm
                go_wp2_with fail
                refine bodyPost_ret (v := .tuple #[.slice (some ⟨wp.heap.size, 0, none⟩) 4 4, .slice (some ⟨(wp.heap.size + 1), 0, none⟩) 4 4, .bool true]) (by simp [results, Try.results74, go_sem, *]) rfl ⟨_, _, true, rfl, by first | exact HB4.out | go_grown, HT.out, fun _ => ⟨_, _, _, _, rfl, rfl, HU3.out.ints, HV3.out.ints⟩⟩
      refine AllReadyH.cons (o := _) rfl (fun K hK => ?_) AllReadyH.nil
      go_simp
      refine hK.out _ _ trivial (fun hHeld => ?_)
      clear hK K
      try simp only [act_all8, show IntKind.i64.wrap 4 = 4 from by decide]
      refine wpAnyH_ready (rs := [2]) (by kernel_rfl) (by simp) ?_
      refine AllReadyH.cons (o := _) rfl (fun K hK => ?_) AllReadyH.nil
      go_simp
      refine hK.out _ _ trivial (fun hHeld => ?_)
      clear hK K
      try simp only [act_all8, show IntKind.i64.wrap 4 = 4 from by decide]
      refine wpAnyH_take (i := 6) (oi := _) (v := ?_) rfl (by kernel_rfl) (by kernel_rfl) (by kernel_rfl) (fun _ _ _ h => h) (Or.inl ⟨by rfl, ?_⟩) (by assumption) ?_
      rotate_left
      · intro w hSw; go_simp; (try with_reducible rfl)
      try change wpAnyH _ _ _ _ _ _ _ (Act.put _ (some 13) _) _
      try simp only [act_all8, show IntKind.i64.wrap 4 = 4 from by decide]
      refine wpAnyH_take (i := 7) (oi := _) (v := ?_) rfl (by kernel_rfl) (by kernel_rfl) (by kernel_rfl) (fun _ _ _ h => h) (Or.inl ⟨by rfl, ?_⟩) (by assumption) ?_
      rotate_left
      · intro w hSw; go_simp; (try with_reducible rfl)
      try change wpAnyH _ _ _ _ _ _ _ (Act.put _ (some 14) _) _
      try simp only [act_all8, show IntKind.i64.wrap 4 = 4 from by decide]
      refine wpAnyH_done (by kernel_rfl) ?_ _
      clear hHeld
      have hbl := HB.out
      go_wp2_with fail
      have K0 : Hid (Intw ((((wp.alloc (Obj.cells (madeCells #[.int .i64 0] 4) 3)).alloc (Obj.cells (madeCells #[.int .i64 0] 4) 3)).alloc (Obj.cells (madeCells #[.int .i64 0] 8) 3)).drew) wp.heap.size 4 (fun _ => 0)) := Lib.hid ((new_row wp 4).keep (by go_grown))
      have K1 : Hid (Intw ((((wp.alloc (Obj.cells (madeCells #[.int .i64 0] 4) 3)).alloc (Obj.cells (madeCells #[.int .i64 0] 4) 3)).alloc (Obj.cells (madeCells #[.int .i64 0] 8) 3)).drew) (wp.heap.size + 1) 4 (fun _ => 0)) := Lib.hid (by
        have h := (new_row (wp.alloc (Obj.cells (madeCells #[.int .i64 0] 4) 3)) 4).keep (w1 := (((wp.alloc (Obj.cells (madeCells #[.int .i64 0] 4) 3)).alloc (Obj.cells (madeCells #[.int .i64 0] 4) 3)).alloc (Obj.cells (madeCells #[.int .i64 0] 8) 3)).drew) (by go_grown)
        have e : (wp.alloc (Obj.cells (madeCells #[.int .i64 0] 4) 3)).heap.size = wp.heap.size + 1 := by simp
        rwa [e] at h)
      have K2 : Hid (Intw ((((wp.alloc (Obj.cells (madeCells #[.int .i64 0] 4) 3)).alloc (Obj.cells (madeCells #[.int .i64 0] 4) 3)).alloc (Obj.cells (madeCells #[.int .i64 0] 8) 3)).drew) (wp.heap.size + 1 + 1) 8 (fun _ => 0)) := Lib.hid (by
        have h := (new_row ((wp.alloc (Obj.cells (madeCells #[.int .i64 0] 4) 3)).alloc (Obj.cells (madeCells #[.int .i64 0] 4) 3)) 8).keep (w1 := (((wp.alloc (Obj.cells (madeCells #[.int .i64 0] 4) 3)).alloc (Obj.cells (madeCells #[.int .i64 0] 4) 3)).alloc (Obj.cells (madeCells #[.int .i64 0] 8) 3)).drew) (by go_grown)
        have e : ((wp.alloc (Obj.cells (madeCells #[.int .i64 0] 4) 3)).alloc (Obj.cells (madeCells #[.int .i64 0] 4) 3)).heap.size = wp.heap.size + 1 + 1 := by simp
        rwa [e] at h)
      have HB3 : Hid (Below w.heap.size w ((((wp.alloc (Obj.cells (madeCells #[.int .i64 0] 4) 3)).alloc (Obj.cells (madeCells #[.int .i64 0] 4) 3)).alloc (Obj.cells (madeCells #[.int .i64 0] 8) 3)).drew)) := Lib.hid (by go_grown)
      have hs3 : wp.heap.size + 1 + 1 < ((((wp.alloc (Obj.cells (madeCells #[.int .i64 0] 4) 3)).alloc (Obj.cells (madeCells #[.int .i64 0] 4) 3)).alloc (Obj.cells (madeCells #[.int .i64 0] 8) 3)).drew).heap.size := by first | (simp; done) | (simp; omega)
      generalize (((wp.alloc (Obj.cells (madeCells #[.int .i64 0] 4) 3)).alloc (Obj.cells (madeCells #[.int .i64 0] 4) 3)).alloc (Obj.cells (madeCells #[.int .i64 0] 8) 3)).drew = W3 at *
      have hne0 : ¬ wp.heap.size = wp.heap.size + 1 := by omega
      have d1 : ¬ (wp.heap.size + 1) = (wp.heap.size + 1 + 1) := by omega
      have d2 : ¬ wp.heap.size = (wp.heap.size + 1 + 1) := by omega
      have d3 : ¬ (wp.heap.size + 1 + 1) = (wp.heap.size + 1) := by omega
      have d4 : ¬ (wp.heap.size + 1 + 1) = wp.heap.size := by omega
      have d5 : ¬ (wp.heap.size + 1) = wp.heap.size := by omega
      have d6 : ¬ wp.heap.size = (wp.heap.size + 1) := by omega
      go_loopw [16] (fun iv wr => ∃ (z : Int) (k : Nat), iv = .int .i64 z ∧ z = k ∧ k ≤ 8 ∧ Hid (Intw wr (wp.heap.size + 1 + 1) 8 (frS q (sdF (bt a)) k)) ∧ Hid (Intw wr (wp.heap.size + 1) 4 (uS p (sdF (bt a)) k)) ∧ Hid (Intw wr wp.heap.size 4 (lS p (sdF (bt a)) k)) ∧ Hid (Below w.heap.size w wr) ∧ wp.heap.size + 1 + 1 < wr.heap.size) (fun iv _ => 8 - (intOf iv).toNat)
      case atStart => exact ⟨0, 0, rfl, rfl, Nat.zero_le _, Lib.hid (K2.out.congr fun i _ => (if_neg (by omega)).symm), Lib.hid (K1.out.congr fun i _ => (if_neg (by omega)).symm), Lib.hid (K0.out.congr fun i _ => (if_neg (by omega)).symm), HB3, hs3⟩
      case round =>
        obtain ⟨z, k, rfl, hz, hk, HF, HU, HV, HBr, hsr⟩ := hrel
        clear K0 K1 K2 HB3 hs3 hbl
        have hbl := HBr.out
        by_cases hlt : k < 8
        · have hlt' : z < 8 := by omega
          have hPk := HP.out.lp k hlt
          have hPq := HP.out
          obtain ⟨b, o, rfl, hcell⟩ := (HC.out.keep HBr.out) (by omega)
          have c0 := hcell k hlt
          have lb : b < w.heap.size := by
            obtain ⟨b', o', e', hc'⟩ := HC.out (by omega)
            have h1 : b' < w.heap.size := World.block_lt_of_cell? _ _ (hc' 0 (by omega))
            have e2 : b = b' := congrArg Addr.block (Option.some.inj e')
            omega
          obtain ⟨y, hy⟩ : ∃ y, p k = y := ⟨_, rfl⟩
          simp only [hy] at c0
          rw [hy] at hPk
          obtain ⟨h, hh⟩ : ∃ h, k / 2 = h := ⟨_, rfl⟩
          obtain ⟨yh, hyh⟩ : ∃ x, y / 2 = x := ⟨_, rfl⟩
          obtain ⟨m0, m1⟩ := HF.out y hPk
          obtain ⟨n0, n1⟩ := HU.out h (by omega)
          obtain ⟨r0, r1⟩ := HV.out h (by omega)
          obtain ⟨u, hu⟩ : ∃ u, bt a h = u := ⟨_, rfl⟩
          have hab := and_bit8 (a := a) (j := h) (by have := HA.out; omega) (by omega)
          rw [hu] at hab
          have q2 : (k : Int).tdiv 2 = (h : Int) := by rw [Int.tdiv_eq_ediv_of_nonneg (by omega)]; omega
          have y2 : (y : Int).tdiv 2 = (yh : Int) := by rw [Int.tdiv_eq_ediv_of_nonneg (by omega)]; omega
          have hh8 : h ≤ 64 := by omega
          have hm64 : min h 64 = h := Nat.min_eq_left hh8
          have k0 : (0 : Int) ≤ (k : Int) := by omega
          have kN : (k : Int) < 8 := by omega
          have kt : (k : Int).toNat = k := by omega
          have y0 : (0 : Int) ≤ (y : Int) := by omega
          have yN : (y : Int) < 8 := by omega
          have yt : (y : Int).toNat = y := by omega
          have h0 : (0 : Int) ≤ (h : Int) := by omega
          have hH : (h : Int) < 4 := by omega
          have ht : (h : Int).toNat = h := by omega
          have hhn : h < 4 := by omega
          have g0 : ¬ b = wp.heap.size := by have := HB.out.size; omega
          have g1 : ¬ b = wp.heap.size + 1 := by have := HB.out.size; omega
          have g2 : ¬ b = wp.heap.size + 1 + 1 := by have := HB.out.size; omega
          have g3 : ¬ wp.heap.size = b := by omega
          have g4 : ¬ wp.heap.size + 1 = b := by omega
          have g5 : ¬ wp.heap.size + 1 + 1 = b := by omega
          have hszp := HB.out.size
          clear q2 y2
          have yd : (y : Int) / 2 = (yh : Int) := by omega
          have wq : ∀ t : Int, t = (h : Int) → wrap64 t = t := by rintro t rfl; simp only [wrap64]; omega
          have wy : ∀ t : Int, t = (yh : Int) → wrap64 t = t := by rintro t rfl; simp only [wrap64]; omega
          have HJ := Lib.hid (And.intro hz (And.intro hk hlt))
          have HYY := Lib.hid (And.intro hy (And.intro hh (And.intro hyh hPk)))
          have hsg : sdF (bt a) k = (u ^^ decide (k % 2 = 1)) := by rw [sd_at, hh, hu]
          subst hz
          clear hcell hk hlt hu hPq hy
          by_cases hp : k % 2 = 1
          · have m2 : (k : Int).tmod 2 = 1 := by clear wq wy; rw [Int.tmod_eq_emod_of_nonneg (by omega)]; omega
            rw [decide_eq_true hp] at hsg
            cases u
            · have HSG : Hid (sdF (bt a) k = true) := Lib.hid (by rw [hsg]; rfl)
              clear hsg hp
              have HF2 : Hid (Intw ((wr.setCell ⟨(wp.heap.size + 1 + 1), y, none⟩ (.int .i64 1)).setCell ⟨wp.heap.size, h, none⟩ (.int .i64 (yh : Int))) (wp.heap.size + 1 + 1) 8 (frS q (sdF (bt a)) (k + 1))) := Lib.hid (((HF.out.store HYY.out.2.2.2 1).other (by assumption)).congr fun i hi => by have hn := frS_next HP.out (σ := (sdF (bt a))) HJ.out.2.2 hi; rw [HYY.out.1, HSG.out] at hn; exact hn)
              have HU2 : Hid (Intw ((wr.setCell ⟨(wp.heap.size + 1 + 1), y, none⟩ (.int .i64 1)).setCell ⟨wp.heap.size, h, none⟩ (.int .i64 (yh : Int))) (wp.heap.size + 1) 4 (uS p (sdF (bt a)) (k + 1))) := Lib.hid (((HU.out.other (by assumption)).other (by assumption)).congr fun i hi => uS_lo (p := p) HSG.out i)
              have HV2 : Hid (Intw ((wr.setCell ⟨(wp.heap.size + 1 + 1), y, none⟩ (.int .i64 1)).setCell ⟨wp.heap.size, h, none⟩ (.int .i64 (yh : Int))) wp.heap.size 4 (lS p (sdF (bt a)) (k + 1))) := Lib.hid (((HV.out.other (by assumption)).store hhn (yh : Int)).congr fun i hi => by have hn := lS_lo (p := p) HSG.out i; rw [HYY.out.1, HYY.out.2.1, HYY.out.2.2.1] at hn; exact hn)
              have HB2 : Hid (Below w.heap.size w ((wr.setCell ⟨(wp.heap.size + 1 + 1), y, none⟩ (.int .i64 1)).setCell ⟨wp.heap.size, h, none⟩ (.int .i64 (yh : Int)))) := Lib.hid (by go_grown)
              have hs2 : wp.heap.size + 1 + 1 < ((wr.setCell ⟨(wp.heap.size + 1 + 1), y, none⟩ (.int .i64 1)).setCell ⟨wp.heap.size, h, none⟩ (.int .i64 (yh : Int))).heap.size := by first | exact hsr | (simp; exact hsr)
              clear HF HU HV HBr hszp hhn hh8 hPk lb
              go_wp2_with fail
              go_roundw
              case rel => exact ⟨(k : Int) + 1, k + 1, by first | rfl | (rw [show wrap64 ((k : Int) + 1) = (k : Int) + 1 by clear wq wy; have := HJ.out; simp only [wrap64]; omega]), by clear wq wy; omega, by clear wq wy; have := HJ.out; omega, HF2, HU2, HV2, HB2, hs2⟩
              case measure => clear wq wy; have h9 := HJ.out; first | (simp [intOf]; done) | (simp [intOf]; omega)
            · have HSG : Hid (sdF (bt a) k = false) := Lib.hid (by rw [hsg]; rfl)
              clear hsg hp
              have HF2 : Hid (Intw ((wr.setCell ⟨(wp.heap.size + 1 + 1), y, none⟩ (.int .i64 0)).setCell ⟨(wp.heap.size + 1), h, none⟩ (.int .i64 (yh : Int))) (wp.heap.size + 1 + 1) 8 (frS q (sdF (bt a)) (k + 1))) := Lib.hid (((HF.out.store HYY.out.2.2.2 0).other (by assumption)).congr fun i hi => by have hn := frS_next HP.out (σ := (sdF (bt a))) HJ.out.2.2 hi; rw [HYY.out.1, HSG.out] at hn; exact hn)
              have HU2 : Hid (Intw ((wr.setCell ⟨(wp.heap.size + 1 + 1), y, none⟩ (.int .i64 0)).setCell ⟨(wp.heap.size + 1), h, none⟩ (.int .i64 (yh : Int))) (wp.heap.size + 1) 4 (uS p (sdF (bt a)) (k + 1))) := Lib.hid (((HU.out.other (by assumption)).store hhn (yh : Int)).congr fun i hi => by have hn := uS_up (p := p) HSG.out i; rw [HYY.out.1, HYY.out.2.1, HYY.out.2.2.1] at hn; exact hn)
              have HV2 : Hid (Intw ((wr.setCell ⟨(wp.heap.size + 1 + 1), y, none⟩ (.int .i64 0)).setCell ⟨(wp.heap.size + 1), h, none⟩ (.int .i64 (yh : Int))) wp.heap.size 4 (lS p (sdF (bt a)) (k + 1))) := Lib.hid (((HV.out.other (by assumption)).other (by assumption)).congr fun i hi => lS_up (p := p) HSG.out i)
              have HB2 : Hid (Below w.heap.size w ((wr.setCell ⟨(wp.heap.size + 1 + 1), y, none⟩ (.int .i64 0)).setCell ⟨(wp.heap.size + 1), h, none⟩ (.int .i64 (yh : Int)))) := Lib.hid (by go_grown)
              have hs2 : wp.heap.size + 1 + 1 < ((wr.setCell ⟨(wp.heap.size + 1 + 1), y, none⟩ (.int .i64 0)).setCell ⟨(wp.heap.size + 1), h, none⟩ (.int .i64 (yh : Int))).heap.size := by first | exact hsr | (simp; exact hsr)
              clear HF HU HV HBr hszp hhn hh8 hPk lb
              go_wp2_with fail
              go_roundw
              case rel => exact ⟨(k : Int) + 1, k + 1, by first | rfl | (rw [show wrap64 ((k : Int) + 1) = (k : Int) + 1 by clear wq wy; have := HJ.out; simp only [wrap64]; omega]), by clear wq wy; omega, by clear wq wy; have := HJ.out; omega, HF2, HU2, HV2, HB2, hs2⟩
              case measure => clear wq wy; have h9 := HJ.out; first | (simp [intOf]; done) | (simp [intOf]; omega)
          · have m2 : (k : Int).tmod 2 = 0 := by clear wq wy; rw [Int.tmod_eq_emod_of_nonneg (by omega)]; omega
            rw [decide_eq_false hp] at hsg
            cases u
            · have HSG : Hid (sdF (bt a) k = false) := Lib.hid (by rw [hsg]; rfl)
              clear hsg hp
              have HF2 : Hid (Intw ((wr.setCell ⟨(wp.heap.size + 1 + 1), y, none⟩ (.int .i64 0)).setCell ⟨(wp.heap.size + 1), h, none⟩ (.int .i64 (yh : Int))) (wp.heap.size + 1 + 1) 8 (frS q (sdF (bt a)) (k + 1))) := Lib.hid (((HF.out.store HYY.out.2.2.2 0).other (by assumption)).congr fun i hi => by have hn := frS_next HP.out (σ := (sdF (bt a))) HJ.out.2.2 hi; rw [HYY.out.1, HSG.out] at hn; exact hn)
              have HU2 : Hid (Intw ((wr.setCell ⟨(wp.heap.size + 1 + 1), y, none⟩ (.int .i64 0)).setCell ⟨(wp.heap.size + 1), h, none⟩ (.int .i64 (yh : Int))) (wp.heap.size + 1) 4 (uS p (sdF (bt a)) (k + 1))) := Lib.hid (((HU.out.other (by assumption)).store hhn (yh : Int)).congr fun i hi => by have hn := uS_up (p := p) HSG.out i; rw [HYY.out.1, HYY.out.2.1, HYY.out.2.2.1] at hn; exact hn)
              have HV2 : Hid (Intw ((wr.setCell ⟨(wp.heap.size + 1 + 1), y, none⟩ (.int .i64 0)).setCell ⟨(wp.heap.size + 1), h, none⟩ (.int .i64 (yh : Int))) wp.heap.size 4 (lS p (sdF (bt a)) (k + 1))) := Lib.hid (((HV.out.other (by assumption)).other (by assumption)).congr fun i hi => lS_up (p := p) HSG.out i)
              have HB2 : Hid (Below w.heap.size w ((wr.setCell ⟨(wp.heap.size + 1 + 1), y, none⟩ (.int .i64 0)).setCell ⟨(wp.heap.size + 1), h, none⟩ (.int .i64 (yh : Int)))) := Lib.hid (by go_grown)
              have hs2 : wp.heap.size + 1 + 1 < ((wr.setCell ⟨(wp.heap.size + 1 + 1), y, none⟩ (.int .i64 0)).setCell ⟨(wp.heap.size + 1), h, none⟩ (.int .i64 (yh : Int))).heap.size := by first | exact hsr | (simp; exact hsr)
              clear HF HU HV HBr hszp hhn hh8 hPk lb
              go_wp2_with fail
              go_roundw
              case rel => exact ⟨(k : Int) + 1, k + 1, by first | rfl | (rw [show wrap64 ((k : Int) + 1) = (k : Int) + 1 by clear wq wy; have := HJ.out; simp only [wrap64]; omega]), by clear wq wy; omega, by clear wq wy; have := HJ.out; omega, HF2, HU2, HV2, HB2, hs2⟩
              case measure => clear wq wy; have h9 := HJ.out; first | (simp [intOf]; done) | (simp [intOf]; omega)
            · have HSG : Hid (sdF (bt a) k = true) := Lib.hid (by rw [hsg]; rfl)
              clear hsg hp
              have HF2 : Hid (Intw ((wr.setCell ⟨(wp.heap.size + 1 + 1), y, none⟩ (.int .i64 1)).setCell ⟨wp.heap.size, h, none⟩ (.int .i64 (yh : Int))) (wp.heap.size + 1 + 1) 8 (frS q (sdF (bt a)) (k + 1))) := Lib.hid (((HF.out.store HYY.out.2.2.2 1).other (by assumption)).congr fun i hi => by have hn := frS_next HP.out (σ := (sdF (bt a))) HJ.out.2.2 hi; rw [HYY.out.1, HSG.out] at hn; exact hn)
              have HU2 : Hid (Intw ((wr.setCell ⟨(wp.heap.size + 1 + 1), y, none⟩ (.int .i64 1)).setCell ⟨wp.heap.size, h, none⟩ (.int .i64 (yh : Int))) (wp.heap.size + 1) 4 (uS p (sdF (bt a)) (k + 1))) := Lib.hid (((HU.out.other (by assumption)).other (by assumption)).congr fun i hi => uS_lo (p := p) HSG.out i)
              have HV2 : Hid (Intw ((wr.setCell ⟨(wp.heap.size + 1 + 1), y, none⟩ (.int .i64 1)).setCell ⟨wp.heap.size, h, none⟩ (.int .i64 (yh : Int))) wp.heap.size 4 (lS p (sdF (bt a)) (k + 1))) := Lib.hid (((HV.out.other (by assumption)).store hhn (yh : Int)).congr fun i hi => by have hn := lS_lo (p := p) HSG.out i; rw [HYY.out.1, HYY.out.2.1, HYY.out.2.2.1] at hn; exact hn)
              have HB2 : Hid (Below w.heap.size w ((wr.setCell ⟨(wp.heap.size + 1 + 1), y, none⟩ (.int .i64 1)).setCell ⟨wp.heap.size, h, none⟩ (.int .i64 (yh : Int)))) := Lib.hid (by go_grown)
              have hs2 : wp.heap.size + 1 + 1 < ((wr.setCell ⟨(wp.heap.size + 1 + 1), y, none⟩ (.int .i64 1)).setCell ⟨wp.heap.size, h, none⟩ (.int .i64 (yh : Int))).heap.size := by first | exact hsr | (simp; exact hsr)
              clear HF HU HV HBr hszp hhn hh8 hPk lb
              go_wp2_with fail
              go_roundw
              case rel => exact ⟨(k : Int) + 1, k + 1, by first | rfl | (rw [show wrap64 ((k : Int) + 1) = (k : Int) + 1 by clear wq wy; have := HJ.out; simp only [wrap64]; omega]), by clear wq wy; omega, by clear wq wy; have := HJ.out; omega, HF2, HU2, HV2, HB2, hs2⟩
              case measure => clear wq wy; have h9 := HJ.out; first | (simp [intOf]; done) | (simp [intOf]; omega)
        · obtain rfl : k = 8 := by omega
          have hzn : ¬ z < 8 := by omega
          clear hz hk hlt
          have LF : Hid (Intw wr (wp.heap.size + 1 + 1) 8 (fun y => b2 ((sdF (bt a)) (q y)))) := Lib.hid (HF.out.congr fun i hi => frS_all HP.out hi)
          have LU : Hid (Intw wr (wp.heap.size + 1) 4 (fun i => ((upS p (sdF (bt a)) i : Nat) : Int))) := Lib.hid (HU.out.congr fun i hi => uS_all (H := 4) hi)
          have LV : Hid (Intw wr wp.heap.size 4 (fun i => ((loS p (sdF (bt a)) i : Nat) : Int))) := Lib.hid (HV.out.congr fun i hi => lS_all (H := 4) hi)
          clear HF HU HV
          go_wp2_with fail
          go_loopw [18] (fun iv wr => ∃ (z : Int) (j : Nat), iv = .int .i64 z ∧ z = j ∧ j ≤ 4 ∧ Hid (∀ i, i < j → ¬ (sdF (bt a)) (q (2 * i)) = (sdF (bt a)) (q (2 * i + 1)) ∧ myB (f (base + (4 + i))) ((sdF (bt a)) (q (2 * i))) = true) ∧ Hid (Intw wr (wp.heap.size + 1 + 1) 8 (fun y => b2 ((sdF (bt a)) (q y)))) ∧ Hid (Intw wr (wp.heap.size + 1) 4 (fun i => ((upS p (sdF (bt a)) i : Nat) : Int))) ∧ Hid (Intw wr wp.heap.size 4 (fun i => ((loS p (sdF (bt a)) i : Nat) : Int))) ∧ Hid (Below w.heap.size w wr)) (fun iv _ => 4 - (intOf iv).toNat)
          case atStart => exact ⟨0, 0, rfl, rfl, Nat.zero_le _, Lib.hid (fun i hi => by omega), LF, LU, LV, HBr⟩
          case round =>
            obtain ⟨z, j, rfl, hz, hj, HKC, HF3, HU3, HV3, HB4⟩ := hrel
            clear LF LU LV HBr hbl hsr
            have hbl := HB4.out
            by_cases hlt : j < 4
            · have hlt' : z < 4 := by omega
              have hbm := HA.out
              obtain ⟨f0, _⟩ := HF3.out (2 * j) (by omega)
              obtain ⟨f1, _⟩ := HF3.out (2 * j + 1) (by omega)
              obtain ⟨b', o', rfl, hcell⟩ := (HD.out.keep HB4.out) (by omega)
              have c0 := hcell (base + 4 + j) (by omega)
              obtain ⟨x, hx⟩ : ∃ x, f (base + 4 + j) = x := ⟨_, rfl⟩
              obtain ⟨t, ht⟩ : ∃ t, (sdF (bt a)) (q (2 * j)) = t := ⟨_, rfl⟩
              obtain ⟨u, hu⟩ : ∃ u, (sdF (bt a)) (q (2 * j + 1)) = u := ⟨_, rfl⟩
              simp only [ht] at f0
              simp only [hu] at f1
              rw [hx] at c0
              have e1 : (2 * (j : Int)).toNat = 2 * j := by omega
              have e2 : (2 * (j : Int) + 1).toNat = 2 * j + 1 := by omega
              have e3 : ((base : Int) + 4 + (j : Int)).toNat = base + 4 + j := by omega
              have i1 : (0 : Int) ≤ 2 * (j : Int) := by omega
              have i2 : 2 * (j : Int) < 8 := by omega
              have i3 : (0 : Int) ≤ 2 * (j : Int) + 1 := by omega
              have i4 : 2 * (j : Int) + 1 < 8 := by omega
              have i5 : (0 : Int) ≤ (base : Int) + 4 + (j : Int) := by omega
              have i6 : (base : Int) + 4 + (j : Int) < (m : Int) := by omega
              have w1 : ∀ v : Int, v = 2 * (j : Int) → wrap64 v = v := by rintro v rfl; simp only [wrap64]; omega
              have w2 : ∀ v : Int, v = 2 * (j : Int) + 1 → wrap64 v = v := by rintro v rfl; simp only [wrap64]; omega
              have w3 : ∀ v : Int, v = (base : Int) + 4 → wrap64 v = v := by rintro v rfl; simp only [wrap64]; omega
              have w4 : ∀ v : Int, v = (base : Int) + 4 + (j : Int) → wrap64 v = v := by rintro v rfl; simp only [wrap64]; omega
              have HJ := Lib.hid (And.intro hz (And.intro hj hlt))
              have HX := Lib.hid (And.intro hx (And.intro ht hu))
              subst hz
              clear hj hlt hbm hcell hx ht hu
              cases t <;> cases u
              · have HNO : Hid ((vaF 4 q a && maS 4 q (fun i => f (base + i)) (sdF (bt a))) = false) := Lib.hid (hal_no2 HJ.out.2.2 (by rw [HX.out.2.1, HX.out.2.2]))
                rw [show b2 false = 0 from rfl] at f0
                rw [show b2 false = 0 from rfl] at f1
                go_upto_region 22 with fail
                go_quiet ((go_at_call 61; exact Calls.quiet_of_same (may_same _ _ _)))
                go_wp2_with fail
                refine bodyPost_ret (v := .tuple #[.slice none 0 0, .slice none 0 0, .bool false]) (by simp [results, Try.results74, go_sem, *]) rfl (halQ_no (by first | exact drewN_below HB4.out | go_grown) HNO.out)
              · rw [show b2 false = 0 from rfl] at f0
                rw [show b2 true = 1 from rfl] at f1
                cases hmy : mayB x false
                · have HNO : Hid ((vaF 4 q a && maS 4 q (fun i => f (base + i)) (sdF (bt a))) = false) := Lib.hid (hal_no3 HJ.out.2.2 (by show myB (f (base + (4 + j))) (sdF (bt a) (q (2 * j))) = false; rw [HX.out.2.1, ← Nat.add_assoc, HX.out.1]; exact hmy))
                  go_upto_region 22 with fail
                  go_quiet ((go_at_call 61; exact Calls.quiet_of_same (may_same _ _ _)))
                  go_wp2_with fail
                  refine bodyPost_ret (v := .tuple #[.slice none 0 0, .slice none 0 0, .bool false]) (by simp [results, Try.results74, go_sem, *]) rfl (halQ_no (by first | exact drewN_below HB4.out | go_grown) HNO.out)
                · have HKC2 : Hid (∀ i, i < j + 1 → ¬ (sdF (bt a)) (q (2 * i)) = (sdF (bt a)) (q (2 * i + 1)) ∧ myB (f (base + (4 + i))) ((sdF (bt a)) (q (2 * i))) = true) := Lib.hid (fun i hi => by
                    by_cases e : i = j
                    · subst e; rw [HX.out.2.1, HX.out.2.2, ← Nat.add_assoc, HX.out.1]; exact ⟨by simp, hmy⟩
                    · exact HKC.out i (by omega))
                  go_upto_region 22 with fail
                  go_quiet ((go_at_call 61; exact Calls.quiet_of_same (may_same _ _ _)))
                  go_wp2_with fail
                  go_roundw
                  case rel => exact ⟨(j : Int) + 1, j + 1, by first | rfl | (rw [show wrap64 ((j : Int) + 1) = (j : Int) + 1 by have := HJ.out; simp only [wrap64]; omega]), by omega, by have := HJ.out; omega, HKC2, Lib.hid (HF3.out.keep (drewN_below (Below.refl _ _))), Lib.hid (HU3.out.keep (drewN_below (Below.refl _ _))), Lib.hid (HV3.out.keep (drewN_below (Below.refl _ _))), Lib.hid (drewN_below HB4.out)⟩
                  case measure => have h9 := HJ.out; first | (simp [intOf]; done) | (simp [intOf]; omega)
              · rw [show b2 true = 1 from rfl] at f0
                rw [show b2 false = 0 from rfl] at f1
                cases hmy : mayB x true
                · have HNO : Hid ((vaF 4 q a && maS 4 q (fun i => f (base + i)) (sdF (bt a))) = false) := Lib.hid (hal_no3 HJ.out.2.2 (by show myB (f (base + (4 + j))) (sdF (bt a) (q (2 * j))) = false; rw [HX.out.2.1, ← Nat.add_assoc, HX.out.1]; exact hmy))
                  go_upto_region 22 with fail
                  go_quiet ((go_at_call 61; exact Calls.quiet_of_same (may_same _ _ _)))
                  go_wp2_with fail
                  refine bodyPost_ret (v := .tuple #[.slice none 0 0, .slice none 0 0, .bool false]) (by simp [results, Try.results74, go_sem, *]) rfl (halQ_no (by first | exact drewN_below HB4.out | go_grown) HNO.out)
                · have HKC2 : Hid (∀ i, i < j + 1 → ¬ (sdF (bt a)) (q (2 * i)) = (sdF (bt a)) (q (2 * i + 1)) ∧ myB (f (base + (4 + i))) ((sdF (bt a)) (q (2 * i))) = true) := Lib.hid (fun i hi => by
                    by_cases e : i = j
                    · subst e; rw [HX.out.2.1, HX.out.2.2, ← Nat.add_assoc, HX.out.1]; exact ⟨by simp, hmy⟩
                    · exact HKC.out i (by omega))
                  go_upto_region 22 with fail
                  go_quiet ((go_at_call 61; exact Calls.quiet_of_same (may_same _ _ _)))
                  go_wp2_with fail
                  go_roundw
                  case rel => exact ⟨(j : Int) + 1, j + 1, by first | rfl | (rw [show wrap64 ((j : Int) + 1) = (j : Int) + 1 by have := HJ.out; simp only [wrap64]; omega]), by omega, by have := HJ.out; omega, HKC2, Lib.hid (HF3.out.keep (drewN_below (Below.refl _ _))), Lib.hid (HU3.out.keep (drewN_below (Below.refl _ _))), Lib.hid (HV3.out.keep (drewN_below (Below.refl _ _))), Lib.hid (drewN_below HB4.out)⟩
                  case measure => have h9 := HJ.out; first | (simp [intOf]; done) | (simp [intOf]; omega)
              · have HNO : Hid ((vaF 4 q a && maS 4 q (fun i => f (base + i)) (sdF (bt a))) = false) := Lib.hid (hal_no2 HJ.out.2.2 (by rw [HX.out.2.1, HX.out.2.2]))
                rw [show b2 true = 1 from rfl] at f0
                rw [show b2 true = 1 from rfl] at f1
                go_upto_region 22 with fail
                go_quiet ((go_at_call 61; exact Calls.quiet_of_same (may_same _ _ _)))
                go_wp2_with fail
                refine bodyPost_ret (v := .tuple #[.slice none 0 0, .slice none 0 0, .bool false]) (by simp [results, Try.results74, go_sem, *]) rfl (halQ_no (by first | exact drewN_below HB4.out | go_grown) HNO.out)
            · obtain rfl : j = 4 := by omega
              have hzn : ¬ z < 4 := by omega
              clear hz hj hlt
              have HT : Hid (true = (vaF 4 q a && maS 4 q (fun i => f (base + i)) (sdF (bt a)))) := Lib.hid (hal_iff.2 ⟨HK.out, HKC.out⟩).symm
              go_wp2_with fail
              refine bodyPost_ret (v := .tuple #[.slice (some ⟨(wp.heap.size + 1), 0, none⟩) 4 4, .slice (some ⟨wp.heap.size, 0, none⟩) 4 4, .bool true]) (by simp [results, Try.results74, go_sem, *]) rfl ⟨_, _, true, rfl, by first | exact HB4.out | go_grown, HT.out, fun _ => ⟨_, _, _, _, rfl, rfl, HU3.out.ints, HV3.out.ints⟩⟩
end Go.Proofs.Ytfilofnkiocbeaa
