import Derived.Test.YtkkcnhhfdicppaaDt7
import Derived.Test.YtkkcnhhfdicppaaPi7
namespace Go.Proofs.Ytkkcnhhfdicppaa
open Go.RowKit Lay
set_option maxRecDepth 100000 in
set_option maxHeartbeats 32000000 in
theorem longer_many (W H M B mo : Int) (nb cb n cp : Nat) (ao ap : Option Addr) (w : World) (h : 300 < n) (hn : n ≤ 9223372036854775807) :
    Calls Try.prog 5 #[.agg #[.int .i64 W, .int .i64 H, .int .i64 M, .int .i64 B, .slice ao nb cb], .slice ap n cp, .int .i64 mo] w fun e w' => e = .returned (.bool true) ∧ Below w.heap.size w w' := by
  have h3 : (300 : Int) < n := by omega
  go_enter Try.func5, Try.ntmps5
  go_wp2_with fail
  refine (lawake_any _).mono ?_
  rintro e w1 ⟨rfl, hb⟩
  have HB : Hid (Below w.heap.size w w1) := Lib.hid (Below.trans (by go_grown) (hb.mono (by simp)))
  clear hb
  go_wp2_with fail
  refine bodyPost_ret (v := .bool true) (by simp [results, Try.results5, go_sem]) rfl ⟨rfl, HB.out⟩
set_option maxRecDepth 100000 in
set_option maxHeartbeats 32000000 in
theorem longer_err (W H M B mo : Int) (nb cb n cp : Nat) (ao ap : Option Addr) (XB YB X Y : Nat → Int) (w : World) (h : n ≤ 300) (E : Int) (hE : rdE (vaG W H M B nb XB YB) 1 (chE W H (blkN XB YB nb) X Y n) = E) (hne : E ≠ 0)
    (hn : nb ≤ 9223372036854775807) (hc : XYs w ao nb XB YB) (hp : XYs w ap n X Y) (hr : R2 X Y n) :
    Calls Try.prog 5 #[.agg #[.int .i64 W, .int .i64 H, .int .i64 M, .int .i64 B, .slice ao nb cb], .slice ap n cp, .int .i64 mo] w fun e w' => e = .returned (.bool true) ∧ Below w.heap.size w w' := by
  have HC := Lib.hid hc
  have HP := Lib.hid hp
  have HR := Lib.hid hr
  have HE := Lib.hid hE
  clear hc hp hr hE
  have h3 : ¬ (300 : Int) < n := by omega
  have heb : (E != 0) = true := bne_iff_ne.2 hne
  go_enter Try.func5, Try.ntmps5
  go_wp2_with fail
  refine (pCost_no W H M B nb cb ao XB YB n cp ap X Y _ E HE.out hne hn (HC.out.keep (by go_grown)) (by omega) (HP.out.keep (by go_grown)) HR.out).mono ?_
  rintro e w1 ⟨rfl, hb⟩
  have HB : Hid (Below w.heap.size w w1) := Lib.hid (Below.trans (by go_grown) (hb.mono (by simp)))
  clear hb
  go_wp2_with fail
  refine (lawake_any _).mono ?_
  rintro e w2 ⟨rfl, hb⟩
  have HB2 : Hid (Below w.heap.size w w2) := Lib.hid (HB.out.trans (hb.mono HB.out.size))
  clear hb HB
  go_wp2_with fail
  refine bodyPost_ret (v := .bool true) (by simp [results, Try.results5, go_sem]) rfl ⟨rfl, HB2.out⟩
set_option maxRecDepth 100000 in
set_option maxHeartbeats 64000000 in
theorem longer_ok (W H M B mo : Int) (nb cb l cp : Nat) (ao ap : Option Addr) (XB YB X Y : Nat → Int) (w : World) (h : l + 1 ≤ 300) (hv : vaG W H M B nb XB YB = true) (hE : chE W H (blkN XB YB nb) X Y (l + 1) = 0)
    (hn : nb ≤ 9223372036854775807) (hc : XYs w ao nb XB YB) (hp : XYs w ap (l + 1) X Y) (hr : R2 X Y (l + 1)) (hmr : -9223372036854775808 ≤ mo ∧ mo ≤ 9223372036854775807) :
    Calls Try.prog 5 #[.agg #[.int .i64 W, .int .i64 H, .int .i64 M, .int .i64 B, .slice ao nb cb], .slice ap (l + 1) cp, .int .i64 mo] w fun e w' => e = .returned (.bool true) ∧ Below w.heap.size w w' := by
  have HC := Lib.hid hc
  have HP := Lib.hid hp
  have HR := Lib.hid hr
  have HE := Lib.hid hE
  have HV := Lib.hid hv
  have HMR := Lib.hid hmr
  obtain ⟨hnum, _⟩ := vaG_num hv
  have hch := chE_ok.1 hE
  obtain ⟨_, _, hpa3⟩ := paB_iff.1 hch.1
  have hodd := path_odd (X := X) (Y := Y) (n := l) (fun k hk => hpa3 k (by omega))
  have hon0 := (opB_iff.1 (opA_iff.1 hch.2 0 (by omega))).1
  have hon1 := (opB_iff.1 (opA_iff.1 hch.2 l (by omega))).1
  clear hc hp hr hE hv hmr hch hpa3
  have h3 : ¬ (300 : Int) < ((l + 1 : Nat) : Int) := by omega
  have hcn : ((l + 1 : Nat) : Int) - 1 = l := by omega
  go_enter Try.func5, Try.ntmps5
  go_wp2_with fail
  refine (pCost_ok W H M B nb cb ao XB YB (l + 1) cp ap X Y _ HV.out HE.out hn (HC.out.keep (by go_grown)) (by omega) (HP.out.keep (by go_grown)) HR.out).mono ?_
  rw [show l + 1 - 1 = l by omega]
  rintro e wo ⟨rfl, hb⟩
  have HBo : Hid (Below w.heap.size w wo) := Lib.hid (Below.trans (by go_grown) (hb.mono (by simp)))
  have KGo : Hid (G5 wo w.heap.size W H M B ao nb cb) := Lib.hid ((hb.block _ (by simp)).trans (heap_alloc_new w _))
  have hzo : w.heap.size < wo.heap.size := by have := hb.size; simp at this; omega
  clear hb
  obtain ⟨x0, hx0⟩ : ∃ z, X 0 = z := ⟨_, rfl⟩
  obtain ⟨y0, hy0⟩ : ∃ z, Y 0 = z := ⟨_, rfl⟩
  obtain ⟨x1, hx1⟩ : ∃ z, X l = z := ⟨_, rfl⟩
  obtain ⟨y1, hy1⟩ : ∃ z, Y l = z := ⟨_, rfl⟩
  rw [hx0, hy0] at hon0 hodd
  rw [hx1, hy1] at hon1 hodd
  have HXY := Lib.hid (And.intro hx0 (And.intro hy0 (And.intro hx1 hy1)))
  obtain ⟨b, o, rfl, hcell⟩ := (HP.out.keep HBo.out) (by omega)
  have hc0 := hcell 0 (by omega)
  have hc1 := hcell l (by omega)
  rw [hx0, hy0, Nat.zero_mul, Nat.add_zero] at hc0
  rw [hx1, hy1] at hc1
  have G0 : Hid (∀ w' : World, Below wo.heap.size wo w' → XyAt w' b o x0 y0 ∧ XyAt w' b (o + l * 2) x1 y1) := Lib.hid (fun w' hb => ⟨hc0.keep hb, hc1.keep hb⟩)
  have hlt1 : (l : Int) < (l : Int) + 1 := by omega
  have hwl : IntKind.i64.wrap (l : Int) = l := by rw [IntKind.wrap_i64]; omega
  have hlt2 : (0 : Int) < (l : Int) + 1 := by omega
  have hlt0 : (0 : Int) ≤ (l : Int) := by omega
  have hn0 : ¬ ((l : Int) + 1 = 0) := by omega
  have hodd' : ((l : Int) + x0 + y0 + x1 + y1).tmod 2 = 0 := by rw [Int.tmod_eq_emod_of_nonneg (by omega)]; exact hodd
  have s1 : IntKind.i64.wrap ((l : Int) + x0) = (l : Int) + x0 := by rw [IntKind.wrap_i64]; omega
  have s2 : IntKind.i64.wrap ((l : Int) + x0 + y0) = (l : Int) + x0 + y0 := by rw [IntKind.wrap_i64]; omega
  have s3 : IntKind.i64.wrap ((l : Int) + x0 + y0 + x1) = (l : Int) + x0 + y0 + x1 := by rw [IntKind.wrap_i64]; omega
  have s4 : IntKind.i64.wrap ((l : Int) + x0 + y0 + x1 + y1) = (l : Int) + x0 + y0 + x1 + y1 := by rw [IntKind.wrap_i64]; omega
  clear hcell hc0 hc1 hx0 hy0 hx1 hy1 hodd
  go_upto_region 8 with fail
  go_cut [11, 12] (fun v11 v12 wx => ∃ b11 b12, v11 = .pointer (some ⟨b11, 0, none⟩) ∧ v12 = .pointer (some ⟨b12, 0, none⟩) ∧ wx.heap[b11]? = some (.cells #[.int .i64 x0, .int .i64 y0] 26 (0, 0)) ∧ wx.heap[b12]? = some (.cells #[.int .i64 x1, .int .i64 y1] 26 (0, 0)) ∧ Below wo.heap.size wo wx)
  case first =>
    have DI : Below wo.heap.size wo wo := Below.refl _ _
    have D0 : Below wo.heap.size wo wo.drew := DI.drew
    clear s1 s2 s3 s4 hodd' HXY HC HP HR HE HV HMR hon0 hon1 hnum
    refine wp_region_held_drew (S := fun w' => XyAt w' b o x0 y0 ∧ XyAt w' b (o + l * 2) x1 y1) (by kernel_rfl) (G0.out _ D0) (fun hHeld => ?_)
    refine wpAnyH_take (i := 0) (oi := _) (v := ?_) rfl (by kernel_rfl) (by kernel_rfl) (by kernel_rfl) (fun _ _ _ h => h) (Or.inl ⟨by rfl, ?_⟩) (by assumption) ?_
    rotate_left
    · intro w hSw; obtain ⟨s0, s1⟩ := hSw; go_simp; (try with_reducible rfl)
    try change wpAnyH _ _ _ _ _ _ _ (Act.put _ (some 37) _) _
    try simp only [act_all]
    refine wpAnyH_take (i := 1) (oi := _) (v := ?_) rfl (by kernel_rfl) (by kernel_rfl) (by kernel_rfl) (fun _ _ _ h => h) (Or.inl ⟨by rfl, ?_⟩) (by assumption) ?_
    rotate_left
    · intro w hSw; obtain ⟨s0, s1⟩ := hSw; go_simp; (try with_reducible rfl)
    try change wpAnyH _ _ _ _ _ _ _ (Act.put _ (some 38) _) _
    try simp only [act_all]
    refine wpAnyH_take (i := 2) (oi := _) (v := _) rfl (by kernel_rfl) (by kernel_rfl) (by kernel_rfl) (fun _ _ _ h => h) (yieldsIf_load_mid (by rfl) 26 _ rfl b _ rfl ([.int .i64 x0, .int .i64 y0]) _ (fun w' hh => by simpa using range_xy hh.1) Try.underlying26 rfl (by kernel_rfl)) (by assumption) ?_
    try change wpAnyH _ _ _ _ _ _ _ (Act.put _ (some 39) _) _
    try simp only [act_all]
    refine wpAnyH_take (i := 3) (oi := _) (v := ?_) rfl (by kernel_rfl) (by kernel_rfl) (by kernel_rfl) (fun _ _ _ h => h) (Or.inl ⟨by rfl, ?_⟩) (by assumption) ?_
    rotate_left
    · intro w hSw; obtain ⟨s0, s1⟩ := hSw; go_simp; (try with_reducible rfl)
    try change wpAnyH _ _ _ _ _ _ _ (Act.put _ (some 40) _) _
    try simp only [act_all]
    refine wpAnyH_take (i := 4) (oi := _) (v := ?_) rfl (by kernel_rfl) (by kernel_rfl) (by kernel_rfl) (fun _ _ _ h => h) (Or.inl ⟨by rfl, ?_⟩) (by assumption) ?_
    rotate_left
    · intro w hSw; obtain ⟨s0, s1⟩ := hSw; go_simp; (try with_reducible rfl)
    try change wpAnyH _ _ _ _ _ _ _ (Act.put _ (some 41) _) _
    try simp only [act_all]
    refine wpAnyH_take (i := 5) (oi := _) (v := ?_) rfl (by kernel_rfl) (by kernel_rfl) (by kernel_rfl) (fun _ _ _ h => h) (Or.inl ⟨by rfl, ?_⟩) (by assumption) ?_
    rotate_left
    · intro w hSw; obtain ⟨s0, s1⟩ := hSw; go_simp; (try with_reducible rfl)
    try change wpAnyH _ _ _ _ _ _ _ (Act.put _ (some 42) _) _
    try simp only [act_all]
    refine wpAnyH_take (i := 6) (oi := _) (v := ?_) rfl (by kernel_rfl) (by kernel_rfl) (by kernel_rfl) (fun _ _ _ h => h) (Or.inl ⟨by rfl, ?_⟩) (by assumption) ?_
    rotate_left
    · intro w hSw; obtain ⟨s0, s1⟩ := hSw; go_simp; (try with_reducible rfl)
    try change wpAnyH _ _ _ _ _ _ _ (Act.put _ (some 43) _) _
    try simp only [act_all]
    refine wpAnyH_take (i := 7) (oi := _) (v := ?_) rfl (by kernel_rfl) (by kernel_rfl) (by kernel_rfl) (fun _ _ _ h => h) (Or.inl ⟨by rfl, ?_⟩) (by assumption) ?_
    rotate_left
    · intro w hSw; obtain ⟨s0, s1⟩ := hSw; go_simp; (try with_reducible rfl)
    try change wpAnyH _ _ _ _ _ _ _ (Act.put _ (some 44) _) _
    try simp only [act_all]
    refine wpAnyH_take (i := 8) (oi := _) (v := _) rfl (by kernel_rfl) (by kernel_rfl) (by kernel_rfl) (fun _ _ _ h => h) (yieldsIf_load_mid (by rfl) 26 _ rfl b _ rfl ([.int .i64 x1, .int .i64 y1]) _ (fun w' hh => by simpa using range_xy hh.2) Try.underlying26 rfl (by kernel_rfl)) (by assumption) ?_
    try change wpAnyH _ _ _ _ _ _ _ (Act.put _ (some 45) _) _
    try simp only [act_all]
    refine wpAnyH_ready (rs := [9, 10]) (by kernel_rfl) (by simp) ?_
    refine AllReadyH.cons (o := _) rfl (fun K hK => ?_) ?_
    ·
      go_simp
      have D1 : Below wo.heap.size wo (wo.alloc (Obj.cells #[.int .i64 0, .int .i64 0] 26)) := (DI.alloc (by simp) _)
      have E1 : Below wo.heap.size wo (wo.alloc (Obj.cells #[.int .i64 0, .int .i64 0] 26)).drew := D1.drew
      try clear hHeld
      refine hK.out _ _ (G0.out _ E1) (fun hHeld => ?_)
      clear hK K
      try simp only [act_all]
      refine wpAnyH_ready (rs := [10]) (by kernel_rfl) (by simp) ?_
      refine AllReadyH.cons (o := _) rfl (fun K hK => ?_) AllReadyH.nil
      go_simp
      have D2 : Below wo.heap.size wo ((wo.alloc (Obj.cells #[.int .i64 0, .int .i64 0] 26)).alloc (Obj.cells #[.int .i64 0, .int .i64 0] 26)) := ((DI.alloc (by simp) _).alloc (by simp) _)
      have E2 : Below wo.heap.size wo ((wo.alloc (Obj.cells #[.int .i64 0, .int .i64 0] 26)).alloc (Obj.cells #[.int .i64 0, .int .i64 0] 26)).drew := D2.drew
      try clear hHeld
      refine hK.out _ _ (G0.out _ E2) (fun hHeld => ?_)
      clear hK K
      try simp only [act_all]
      refine wpAnyH_ready (rs := [11]) (by kernel_rfl) (by simp) ?_
      refine AllReadyH.cons (o := _) rfl (fun K hK => ?_) AllReadyH.nil
      go_simp
      have D3 : Below wo.heap.size wo ((wo.alloc (Obj.cells #[.int .i64 x0, .int .i64 y0] 26)).alloc (Obj.cells #[.int .i64 0, .int .i64 0] 26)) := ((DI.alloc (by simp) _).alloc (by simp) _)
      have E3 : Below wo.heap.size wo ((wo.alloc (Obj.cells #[.int .i64 x0, .int .i64 y0] 26)).alloc (Obj.cells #[.int .i64 0, .int .i64 0] 26)).drew := D3.drew
      try clear hHeld
      refine hK.out _ _ (G0.out _ E3) (fun hHeld => ?_)
      clear hK K
      try simp only [act_all]
      refine wpAnyH_ready (rs := [12]) (by kernel_rfl) (by simp) ?_
      refine AllReadyH.cons (o := _) rfl (fun K hK => ?_) AllReadyH.nil
      go_simp
      have D4 : Below wo.heap.size wo ((wo.alloc (Obj.cells #[.int .i64 x0, .int .i64 y0] 26)).alloc (Obj.cells #[.int .i64 x1, .int .i64 y1] 26)) := ((DI.alloc (by simp) _).alloc (by simp) _)
      have E4 : Below wo.heap.size wo ((wo.alloc (Obj.cells #[.int .i64 x0, .int .i64 y0] 26)).alloc (Obj.cells #[.int .i64 x1, .int .i64 y1] 26)).drew := D4.drew
      try clear hHeld
      refine hK.out _ _ (G0.out _ E4) (fun hHeld => ?_)
      clear hK K
      try simp only [act_all]
      refine wpAnyH_done (by kernel_rfl) ?_ _
      clear hHeld
      have k1 : ((wo.alloc (Obj.cells #[.int .i64 x0, .int .i64 y0] 26)).alloc (Obj.cells #[.int .i64 x1, .int .i64 y1] 26)).heap[wo.heap.size + 1]? = some (.cells #[.int .i64 x1, .int .i64 y1] 26 (0, 0)) := by have h := heap_alloc_new (wo.alloc (Obj.cells #[.int .i64 x0, .int .i64 y0] 26)) (.cells #[.int .i64 x1, .int .i64 y1] 26); rwa [World.size_alloc] at h
      have k0 : ((wo.alloc (Obj.cells #[.int .i64 x0, .int .i64 y0] 26)).alloc (Obj.cells #[.int .i64 x1, .int .i64 y1] 26)).heap[wo.heap.size]? = some (.cells #[.int .i64 x0, .int .i64 y0] 26 (0, 0)) := (Below.heap_alloc _ _ _ (by simp)).trans (heap_alloc_new wo _)
      go_wp2_with fail
      go_meet
      exact ⟨_, _, rfl, rfl, k0, k1, D4.drew⟩
    refine AllReadyH.cons (o := _) rfl (fun K hK => ?_) AllReadyH.nil
    go_simp
    have D5 : Below wo.heap.size wo (wo.alloc (Obj.cells #[.int .i64 0, .int .i64 0] 26)) := (DI.alloc (by simp) _)
    have E5 : Below wo.heap.size wo (wo.alloc (Obj.cells #[.int .i64 0, .int .i64 0] 26)).drew := D5.drew
    try clear hHeld
    refine hK.out _ _ (G0.out _ E5) (fun hHeld => ?_)
    clear hK K
    try simp only [act_all]
    refine wpAnyH_ready (rs := [9]) (by kernel_rfl) (by simp) ?_
    refine AllReadyH.cons (o := _) rfl (fun K hK => ?_) AllReadyH.nil
    go_simp
    have D6 : Below wo.heap.size wo ((wo.alloc (Obj.cells #[.int .i64 0, .int .i64 0] 26)).alloc (Obj.cells #[.int .i64 0, .int .i64 0] 26)) := ((DI.alloc (by simp) _).alloc (by simp) _)
    have E6 : Below wo.heap.size wo ((wo.alloc (Obj.cells #[.int .i64 0, .int .i64 0] 26)).alloc (Obj.cells #[.int .i64 0, .int .i64 0] 26)).drew := D6.drew
    try clear hHeld
    refine hK.out _ _ (G0.out _ E6) (fun hHeld => ?_)
    clear hK K
    try simp only [act_all]
    refine wpAnyH_ready (rs := [11]) (by kernel_rfl) (by simp) ?_
    refine AllReadyH.cons (o := _) rfl (fun K hK => ?_) AllReadyH.nil
    go_simp
    have D7 : Below wo.heap.size wo ((wo.alloc (Obj.cells #[.int .i64 0, .int .i64 0] 26)).alloc (Obj.cells #[.int .i64 x0, .int .i64 y0] 26)) := ((DI.alloc (by simp) _).alloc (by simp) _)
    have E7 : Below wo.heap.size wo ((wo.alloc (Obj.cells #[.int .i64 0, .int .i64 0] 26)).alloc (Obj.cells #[.int .i64 x0, .int .i64 y0] 26)).drew := D7.drew
    try clear hHeld
    refine hK.out _ _ (G0.out _ E7) (fun hHeld => ?_)
    clear hK K
    try simp only [act_all]
    refine wpAnyH_ready (rs := [12]) (by kernel_rfl) (by simp) ?_
    refine AllReadyH.cons (o := _) rfl (fun K hK => ?_) AllReadyH.nil
    go_simp
    have D8 : Below wo.heap.size wo ((wo.alloc (Obj.cells #[.int .i64 x1, .int .i64 y1] 26)).alloc (Obj.cells #[.int .i64 x0, .int .i64 y0] 26)) := ((DI.alloc (by simp) _).alloc (by simp) _)
    have E8 : Below wo.heap.size wo ((wo.alloc (Obj.cells #[.int .i64 x1, .int .i64 y1] 26)).alloc (Obj.cells #[.int .i64 x0, .int .i64 y0] 26)).drew := D8.drew
    try clear hHeld
    refine hK.out _ _ (G0.out _ E8) (fun hHeld => ?_)
    clear hK K
    try simp only [act_all]
    refine wpAnyH_done (by kernel_rfl) ?_ _
    clear hHeld
    have k1 : ((wo.alloc (Obj.cells #[.int .i64 x1, .int .i64 y1] 26)).alloc (Obj.cells #[.int .i64 x0, .int .i64 y0] 26)).heap[wo.heap.size + 1]? = some (.cells #[.int .i64 x0, .int .i64 y0] 26 (0, 0)) := by have h := heap_alloc_new (wo.alloc (Obj.cells #[.int .i64 x1, .int .i64 y1] 26)) (.cells #[.int .i64 x0, .int .i64 y0] 26); rwa [World.size_alloc] at h
    have k0 : ((wo.alloc (Obj.cells #[.int .i64 x1, .int .i64 y1] 26)).alloc (Obj.cells #[.int .i64 x0, .int .i64 y0] 26)).heap[wo.heap.size]? = some (.cells #[.int .i64 x1, .int .i64 y1] 26 (0, 0)) := (Below.heap_alloc _ _ _ (by simp)).trans (heap_alloc_new wo _)
    go_wp2_with fail
    go_meet
    exact ⟨_, _, rfl, rfl, k1, k0, D8.drew⟩
  case rest =>
    obtain ⟨b11, b12, rfl, rfl, hk1, hk2, hbx⟩ := hcut
    obtain ⟨C, hC⟩ : ∃ z, z = wc := ⟨wc, rfl⟩
    subst hC
    have K11 := Lib.hid hk1
    have K12 := Lib.hid hk2
    have HBC : Hid (Below w.heap.size w C) := Lib.hid (HBo.out.trans (hbx.mono HBo.out.size))
    have KGC : Hid (G5 C w.heap.size W H M B ao nb cb) := Lib.hid ((hbx.block _ hzo).trans KGo.out)
    have hzC : w.heap.size < C.heap.size := by have := hbx.size; omega
    have h11 : b11 < C.heap.size := (Array.getElem?_eq_some_iff.1 hk1).1
    have h12 : b12 < C.heap.size := (Array.getElem?_eq_some_iff.1 hk2).1
    clear hbx hk1 hk2 HBo KGo hzo G0
    obtain ⟨p0, p1⟩ : C.cell? ⟨b11, 0, none⟩ = some (.int .i64 x0) ∧ C.cell? ⟨b11, 1, none⟩ = some (.int .i64 y0) := ⟨cell_of_blk K11.out rfl, cell_of_blk K11.out rfl⟩
    obtain ⟨q0, q1⟩ : C.cell? ⟨b12, 0, none⟩ = some (.int .i64 x1) ∧ C.cell? ⟨b12, 1, none⟩ = some (.int .i64 y1) := ⟨cell_of_blk K12.out rfl, cell_of_blk K12.out rfl⟩
    obtain ⟨g0, g1, g2, g3, g4⟩ := G5.c KGC.out
    by_cases hbad : mo < 0 ∨ 200 < mo ∨ mo % 2 ≠ 0
    · go_wp2_with fail
      refine (pDetour_bad W H M B nb cb ao XB YB (l + 1) cp _ X Y mo _ HV.out HE.out hbad HMR.out hn (HC.out.keep HBC.out) (by omega) (HP.out.keep HBC.out) HR.out).mono ?_
      rintro e w5 ⟨rfl, hb⟩
      have HB5 : Hid (Below w.heap.size w w5) := Lib.hid (HBC.out.trans (hb.mono HBC.out.size))
      clear hb g0 g1 g2 g3 g4 p0 p1 q0 q1
      go_wp2_with fail
      refine (lawake_any _).mono ?_
      rintro e w6 ⟨rfl, hb⟩
      have HB6 : Hid (Below w.heap.size w w6) := Lib.hid (HB5.out.trans (hb.mono HB5.out.size))
      clear hb HB5
      go_wp2_with fail
      refine bodyPost_ret (v := .bool true) (by simp [results, Try.results5, go_sem]) rfl ⟨rfl, HB6.out⟩
    obtain ⟨t, ht⟩ : ∃ t : Nat, mo = ((2 * t : Nat) : Int) := ⟨(mo / 2).toNat, by omega⟩
    have ht9 : t ≤ 100 := by omega
    have hmo9 : 0 ≤ mo ∧ mo ≤ 200 := by omega
    have HT := Lib.hid ht
    clear ht hbad
    go_wp2_with fail
    refine (pDetour_ok W H M B nb cb ao XB YB (l + 1) cp _ X Y mo _ HV.out HE.out t HT.out ht9 h hn (HC.out.keep HBC.out) (by omega) (HP.out.keep HBC.out) HR.out).mono ?_
    rintro e w5 ⟨hb, hcase⟩
    have HB5 : Hid (Below w.heap.size w w5) := Lib.hid (HBC.out.trans (hb.mono HBC.out.size))
    have K115 : Hid (w5.heap[b11]? = some (.cells #[.int .i64 x0, .int .i64 y0] 26 (0, 0))) := Lib.hid ((hb.block _ h11).trans K11.out)
    have K125 : Hid (w5.heap[b12]? = some (.cells #[.int .i64 x1, .int .i64 y1] 26 (0, 0))) := Lib.hid ((hb.block _ h12).trans K12.out)
    have KG5 : Hid (G5 w5 w.heap.size W H M B ao nb cb) := Lib.hid ((hb.block _ hzC).trans KGC.out)
    have hz5 : w.heap.size < w5.heap.size ∧ b11 < w5.heap.size ∧ b12 < w5.heap.size := by have := hb.size; omega
    clear hb g0 g1 g2 g3 g4 p0 p1 q0 q1 HBC K11 K12 KGC hzC h11 h12
    rcases hcase with rfl | ⟨al, cl, X', Y', rfl, hx, hlg⟩
    · go_wp2_with fail
      refine (lawake_any _).mono ?_
      rintro e w6 ⟨rfl, hb⟩
      have HB6 : Hid (Below w.heap.size w w6) := Lib.hid (HB5.out.trans (hb.mono HB5.out.size))
      clear hb HB5
      go_wp2_with fail
      refine bodyPost_ret (v := .bool true) (by simp [results, Try.results5, go_sem]) rfl ⟨rfl, HB6.out⟩
    obtain ⟨l2, hl2⟩ : ∃ k, l + 1 + 2 * t = k + 1 := ⟨l + 2 * t, by omega⟩
    rw [hl2] at hx hlg ⊢
    have hl29 : l2 + 1 ≤ 500 := by omega
    have hlen : (l : Int) + 1 + mo = (l2 : Int) + 1 := by have := HT.out; omega
    have hx9 := hx
    obtain ⟨b2, o2, rfl, hcell⟩ := hx (by omega)
    have hc0 := hcell 0 (by omega)
    have hc1 := hcell l2 (by omega)
    rw [hlg.x0, hlg.y0, HXY.out.1, HXY.out.2.1, Nat.zero_mul, Nat.add_zero] at hc0
    have e1 := hlg.x1
    have e2 := hlg.y1
    rw [show l2 + 1 - 1 = l2 by omega, show l + 1 - 1 = l by omega] at e1 e2
    rw [e1, e2, HXY.out.2.2.1, HXY.out.2.2.2] at hc1
    have HR2 : Hid (R2 X' Y' (l2 + 1)) := Lib.hid (fun k hk => by
      have := (opB_iff.1 (opA_iff.1 hlg.pth.2.2 k hk)).1
      omega)
    have HCK : Hid (rdE (vaG W H M B nb XB YB) 1 (chE W H (blkN XB YB nb) X' Y' (l2 + 1)) = 0) := Lib.hid (by
      rw [HV.out, chE_ok.2 ⟨paB_iff.2 ⟨⟨by omega, by omega⟩, hlg.pth.1, hlg.pth.2.1⟩, hlg.pth.2.2⟩]
      rfl)
    have HX9 := Lib.hid hx9
    clear hx hx9 hcell e1 e2 hlg
    have he0 : ∀ w, (binOp .eql 26 (.agg #[.int .i64 x0, .int .i64 y0]) (.agg #[.int .i64 x0, .int .i64 y0])).run Try.prog w = .ok (.bool true) w := fun w => by
      have h := eqXY x0 y0 x0 y0 w
      rw [show (x0 == x0 && y0 == y0) = true by simp] at h
      exact h
    have he1 : ∀ w, (binOp .eql 26 (.agg #[.int .i64 x1, .int .i64 y1]) (.agg #[.int .i64 x1, .int .i64 y1])).run Try.prog w = .ok (.bool true) w := fun w => by
      have h := eqXY x1 y1 x1 y1 w
      rw [show (x1 == x1 && y1 == y1) = true by simp] at h
      exact h
    have hwm : IntKind.i64.wrap ((l : Int) + 1 + mo) = (l2 : Int) + 1 := by rw [IntKind.wrap_i64]; omega
    have hwm2 : IntKind.i64.wrap ((l2 : Int) + 1) = (l2 : Int) + 1 := by rw [IntKind.wrap_i64]; omega
    have hlt1 : (l2 : Int) < (l2 : Int) + 1 := by omega
    have hwl2 : IntKind.i64.wrap (l2 : Int) = l2 := by rw [IntKind.wrap_i64]; omega
    have hlt2 : (0 : Int) < (l2 : Int) + 1 := by omega
    have hlt0 : (0 : Int) ≤ (l2 : Int) := by omega
    have hcn2 : ((l2 + 1 : Nat) : Int) - 1 = l2 := by omega
    go_upto_region 14 with fail
    have G0 : Hid (∀ w' : World, Below w5.heap.size w5 w' → XyAt w' b2 o2 x0 y0 ∧ XyAt w' b2 (o2 + l2 * 2) x1 y1 ∧ w'.heap[b11]? = some (.cells #[.int .i64 x0, .int .i64 y0] 26 (0, 0)) ∧ w'.heap[b12]? = some (.cells #[.int .i64 x1, .int .i64 y1] 26 (0, 0)) ∧ w'.heap[w.heap.size]? = some (.cells #[.int .i64 W, .int .i64 H, .int .i64 M, .int .i64 B, .slice ao nb cb] 24 (0, 0))) := Lib.hid (fun w' hb => ⟨hc0.keep hb, hc1.keep hb, (hb.block _ hz5.2.1).trans K115.out, (hb.block _ hz5.2.2).trans K125.out, (hb.block _ hz5.1).trans KG5.out⟩)
    have D0 : Below w5.heap.size w5 w5.drew := (Below.refl _ _).drew
    clear hc0 hc1
    refine wp_region_held_drew (S := fun w' => XyAt w' b2 o2 x0 y0 ∧ XyAt w' b2 (o2 + l2 * 2) x1 y1 ∧ w'.heap[b11]? = some (.cells #[.int .i64 x0, .int .i64 y0] 26 (0, 0)) ∧ w'.heap[b12]? = some (.cells #[.int .i64 x1, .int .i64 y1] 26 (0, 0)) ∧ w'.heap[w.heap.size]? = some (.cells #[.int .i64 W, .int .i64 H, .int .i64 M, .int .i64 B, .slice ao nb cb] 24 (0, 0))) (by kernel_rfl) (G0.out _ D0) (fun hHeld => ?_)
    refine wpAnyH_take (i := 0) (oi := _) (v := ?_) rfl (by kernel_rfl) (by kernel_rfl) (by kernel_rfl) (fun _ _ _ h => h) (Or.inl ⟨by rfl, ?_⟩) (by assumption) ?_
    rotate_left
    · intro w hSw; obtain ⟨s0, s1, s2, s3, s4⟩ := hSw; go_simp; (try with_reducible rfl)
    try change wpAnyH _ _ _ _ _ _ _ (Act.put _ (some 76) _) _
    try simp only [act_all]
    refine wpAnyH_take (i := 1) (oi := _) (v := ?_) rfl (by kernel_rfl) (by kernel_rfl) (by kernel_rfl) (fun _ _ _ h => h) (Or.inl ⟨by rfl, ?_⟩) (by assumption) ?_
    rotate_left
    · intro w hSw; obtain ⟨s0, s1, s2, s3, s4⟩ := hSw; go_simp; (try with_reducible rfl)
    try change wpAnyH _ _ _ _ _ _ _ (Act.put _ (some 77) _) _
    try simp only [act_all]
    refine wpAnyH_take (i := 2) (oi := _) (v := ?_) rfl (by kernel_rfl) (by kernel_rfl) (by kernel_rfl) (fun _ _ _ h => h) (Or.inl ⟨by rfl, ?_⟩) (by assumption) ?_
    rotate_left
    · intro w hSw; obtain ⟨s0, s1, s2, s3, s4⟩ := hSw; go_simp; (try with_reducible rfl)
    try change wpAnyH _ _ _ _ _ _ _ (Act.put _ (some 78) _) _
    try simp only [act_all]
    refine wpAnyH_take (i := 3) (oi := _) (v := ?_) rfl (by kernel_rfl) (by kernel_rfl) (by kernel_rfl) (fun _ _ _ h => h) (Or.inl ⟨by rfl, ?_⟩) (by assumption) ?_
    rotate_left
    · intro w hSw; obtain ⟨s0, s1, s2, s3, s4⟩ := hSw; go_simp; (try with_reducible rfl)
    try change wpAnyH _ _ _ _ _ _ _ (Act.put _ (some 79) _) _
    try simp only [act_all]
    refine wpAnyH_take (i := 4) (oi := _) (v := ?_) rfl (by kernel_rfl) (by kernel_rfl) (by kernel_rfl) (fun _ _ _ h => h) (Or.inl ⟨by rfl, ?_⟩) (by assumption) ?_
    rotate_left
    · intro w hSw; obtain ⟨s0, s1, s2, s3, s4⟩ := hSw; go_simp; (try with_reducible rfl)
    try change wpAnyH _ _ _ _ _ _ _ (Act.put _ (some 80) _) _
    try simp only [act_all]
    refine wpAnyH_take (i := 5) (oi := _) (v := ?_) rfl (by kernel_rfl) (by kernel_rfl) (by kernel_rfl) (fun _ _ _ h => h) (Or.inl ⟨by rfl, ?_⟩) (by assumption) ?_
    rotate_left
    · intro w hSw; obtain ⟨s0, s1, s2, s3, s4⟩ := hSw; go_simp; (try with_reducible rfl)
    try change wpAnyH _ _ _ _ _ _ _ (Act.put _ (some 81) _) _
    try simp only [act_all]
    refine wpAnyH_take (i := 6) (oi := _) (v := ?_) rfl (by kernel_rfl) (by kernel_rfl) (by kernel_rfl) (fun _ _ _ h => h) (Or.inl ⟨by rfl, ?_⟩) (by assumption) ?_
    rotate_left
    · intro w hSw; obtain ⟨s0, s1, s2, s3, s4⟩ := hSw; go_simp; (try with_reducible rfl)
    try change wpAnyH _ _ _ _ _ _ _ (Act.put _ (some 82) _) _
    try simp only [act_all]
    refine wpAnyH_take (i := 7) (oi := _) (v := ?_) rfl (by kernel_rfl) (by kernel_rfl) (by kernel_rfl) (fun _ _ _ h => h) (Or.inl ⟨by rfl, ?_⟩) (by assumption) ?_
    rotate_left
    · intro w hSw; obtain ⟨s0, s1, s2, s3, s4⟩ := hSw; go_simp; (try with_reducible rfl)
    try change wpAnyH _ _ _ _ _ _ _ (Act.put _ (some 83) _) _
    try simp only [act_all]
    refine wpAnyH_take (i := 8) (oi := _) (v := ?_) rfl (by kernel_rfl) (by kernel_rfl) (by kernel_rfl) (fun _ _ _ h => h) (Or.inl ⟨by rfl, ?_⟩) (by assumption) ?_
    rotate_left
    · intro w hSw; obtain ⟨s0, s1, s2, s3, s4⟩ := hSw; go_simp; (try with_reducible rfl)
    try change wpAnyH _ _ _ _ _ _ _ (Act.put _ (some 84) _) _
    try simp only [act_all]
    refine wpAnyH_take (i := 9) (oi := _) (v := ?_) rfl (by kernel_rfl) (by kernel_rfl) (by kernel_rfl) (fun _ _ _ h => h) (Or.inl ⟨by rfl, ?_⟩) (by assumption) ?_
    rotate_left
    · intro w hSw; obtain ⟨s0, s1, s2, s3, s4⟩ := hSw; go_simp; (try with_reducible rfl)
    try change wpAnyH _ _ _ _ _ _ _ (Act.put _ (some 85) _) _
    try simp only [act_all]
    refine wpAnyH_take (i := 10) (oi := _) (v := _) rfl (by kernel_rfl) (by kernel_rfl) (by kernel_rfl) (fun _ _ _ h => h) (yieldsIf_load_mid (by rfl) 26 _ rfl b2 _ rfl ([.int .i64 x0, .int .i64 y0]) _ (fun w' hh => by simpa using range_xy hh.1) Try.underlying26 rfl (by kernel_rfl)) (by assumption) ?_
    try change wpAnyH _ _ _ _ _ _ _ (Act.put _ (some 86) _) _
    try simp only [act_all]
    refine wpAnyH_take (i := 11) (oi := _) (v := _) rfl (by kernel_rfl) (by kernel_rfl) (by kernel_rfl) (fun _ _ _ h => h) (yieldsIf_load_mid (by rfl) 26 _ rfl b11 0 rfl ([.int .i64 x0, .int .i64 y0]) _ (fun w' hh => range_row hh.2.2.1 0 [.int .i64 x0, .int .i64 y0] (fun j hj => by simp only [Nat.zero_add, List.getElem?_toArray])) Try.underlying26 rfl (by kernel_rfl)) (by assumption) ?_
    try change wpAnyH _ _ _ _ _ _ _ (Act.put _ (some 87) _) _
    try simp only [act_all]
    refine wpAnyH_take (i := 12) (oi := _) (v := ?_) rfl (by kernel_rfl) (by kernel_rfl) (by kernel_rfl) (fun _ _ _ h => h) (Or.inl ⟨by rfl, ?_⟩) (by assumption) ?_
    rotate_left
    · intro w hSw; obtain ⟨s0, s1, s2, s3, s4⟩ := hSw; go_simp; (try with_reducible rfl)
    try change wpAnyH _ _ _ _ _ _ _ (Act.put _ (some 88) _) _
    try simp only [act_all]
    refine wpAnyH_take (i := 13) (oi := _) (v := ?_) rfl (by kernel_rfl) (by kernel_rfl) (by kernel_rfl) (fun _ _ _ h => h) (Or.inl ⟨by rfl, ?_⟩) (by assumption) ?_
    rotate_left
    · intro w hSw; obtain ⟨s0, s1, s2, s3, s4⟩ := hSw; go_simp; (try with_reducible rfl)
    try change wpAnyH _ _ _ _ _ _ _ (Act.put _ (some 89) _) _
    try simp only [act_all]
    refine wpAnyH_take (i := 14) (oi := _) (v := ?_) rfl (by kernel_rfl) (by kernel_rfl) (by kernel_rfl) (fun _ _ _ h => h) (Or.inl ⟨by rfl, ?_⟩) (by assumption) ?_
    rotate_left
    · intro w hSw; obtain ⟨s0, s1, s2, s3, s4⟩ := hSw; go_simp; (try with_reducible rfl)
    try change wpAnyH _ _ _ _ _ _ _ (Act.put _ (some 90) _) _
    try simp only [act_all]
    refine wpAnyH_take (i := 15) (oi := _) (v := ?_) rfl (by kernel_rfl) (by kernel_rfl) (by kernel_rfl) (fun _ _ _ h => h) (Or.inl ⟨by rfl, ?_⟩) (by assumption) ?_
    rotate_left
    · intro w hSw; obtain ⟨s0, s1, s2, s3, s4⟩ := hSw; go_simp; (try with_reducible rfl)
    try change wpAnyH _ _ _ _ _ _ _ (Act.put _ (some 91) _) _
    try simp only [act_all]
    refine wpAnyH_take (i := 16) (oi := _) (v := ?_) rfl (by kernel_rfl) (by kernel_rfl) (by kernel_rfl) (fun _ _ _ h => h) (Or.inl ⟨by rfl, ?_⟩) (by assumption) ?_
    rotate_left
    · intro w hSw; obtain ⟨s0, s1, s2, s3, s4⟩ := hSw; go_simp; (try with_reducible rfl)
    try change wpAnyH _ _ _ _ _ _ _ (Act.put _ (some 92) _) _
    try simp only [act_all]
    refine wpAnyH_take (i := 17) (oi := _) (v := ?_) rfl (by kernel_rfl) (by kernel_rfl) (by kernel_rfl) (fun _ _ _ h => h) (Or.inl ⟨by rfl, ?_⟩) (by assumption) ?_
    rotate_left
    · intro w hSw; obtain ⟨s0, s1, s2, s3, s4⟩ := hSw; go_simp; (try with_reducible rfl)
    try change wpAnyH _ _ _ _ _ _ _ (Act.put _ (some 93) _) _
    try simp only [act_all]
    refine wpAnyH_take (i := 18) (oi := _) (v := ?_) rfl (by kernel_rfl) (by kernel_rfl) (by kernel_rfl) (fun _ _ _ h => h) (Or.inl ⟨by rfl, ?_⟩) (by assumption) ?_
    rotate_left
    · intro w hSw; obtain ⟨s0, s1, s2, s3, s4⟩ := hSw; go_simp; (try with_reducible rfl)
    try change wpAnyH _ _ _ _ _ _ _ (Act.put _ (some 94) _) _
    try simp only [act_all]
    refine wpAnyH_take (i := 19) (oi := _) (v := ?_) rfl (by kernel_rfl) (by kernel_rfl) (by kernel_rfl) (fun _ _ _ h => h) (Or.inl ⟨by rfl, ?_⟩) (by assumption) ?_
    rotate_left
    · intro w hSw; obtain ⟨s0, s1, s2, s3, s4⟩ := hSw; go_simp; (try with_reducible rfl)
    try change wpAnyH _ _ _ _ _ _ _ (Act.put _ (some 95) _) _
    try simp only [act_all]
    refine wpAnyH_take (i := 20) (oi := _) (v := _) rfl (by kernel_rfl) (by kernel_rfl) (by kernel_rfl) (fun _ _ _ h => h) (yieldsIf_load_mid (by rfl) 26 _ rfl b2 _ rfl ([.int .i64 x1, .int .i64 y1]) _ (fun w' hh => by simpa using range_xy hh.2.1) Try.underlying26 rfl (by kernel_rfl)) (by assumption) ?_
    try change wpAnyH _ _ _ _ _ _ _ (Act.put _ (some 96) _) _
    try simp only [act_all]
    refine wpAnyH_take (i := 21) (oi := _) (v := _) rfl (by kernel_rfl) (by kernel_rfl) (by kernel_rfl) (fun _ _ _ h => h) (yieldsIf_load_mid (by rfl) 26 _ rfl b12 0 rfl ([.int .i64 x1, .int .i64 y1]) _ (fun w' hh => range_row hh.2.2.2.1 0 [.int .i64 x1, .int .i64 y1] (fun j hj => by simp only [Nat.zero_add, List.getElem?_toArray])) Try.underlying26 rfl (by kernel_rfl)) (by assumption) ?_
    try change wpAnyH _ _ _ _ _ _ _ (Act.put _ (some 97) _) _
    try simp only [act_all]
    refine wpAnyH_take (i := 22) (oi := _) (v := ?_) rfl (by kernel_rfl) (by kernel_rfl) (by kernel_rfl) (fun _ _ _ h => h) (Or.inl ⟨by rfl, ?_⟩) (by assumption) ?_
    rotate_left
    · intro w hSw; obtain ⟨s0, s1, s2, s3, s4⟩ := hSw; go_simp; (try with_reducible rfl)
    try change wpAnyH _ _ _ _ _ _ _ (Act.put _ (some 98) _) _
    try simp only [act_all]
    refine wpAnyH_take (i := 23) (oi := _) (v := ?_) rfl (by kernel_rfl) (by kernel_rfl) (by kernel_rfl) (fun _ _ _ h => h) (Or.inl ⟨by rfl, ?_⟩) (by assumption) ?_
    rotate_left
    · intro w hSw; obtain ⟨s0, s1, s2, s3, s4⟩ := hSw; go_simp; (try with_reducible rfl)
    try change wpAnyH _ _ _ _ _ _ _ (Act.put _ (some 99) _) _
    try simp only [act_all]
    refine wpAnyH_take (i := 24) (oi := _) (v := ?_) rfl (by kernel_rfl) (by kernel_rfl) (by kernel_rfl) (fun _ _ _ h => h) (Or.inl ⟨by rfl, ?_⟩) (by assumption) ?_
    rotate_left
    · intro w hSw; obtain ⟨s0, s1, s2, s3, s4⟩ := hSw; go_simp; (try with_reducible rfl)
    try change wpAnyH _ _ _ _ _ _ _ (Act.put _ (some 100) _) _
    try simp only [act_all]
    refine wpAnyH_take (i := 25) (oi := _) (v := _) rfl (by kernel_rfl) (by kernel_rfl) (by kernel_rfl) (fun _ _ _ h => h) (yieldsIf_load_mid (by rfl) 24 _ rfl w.heap.size 0 rfl ([.int .i64 W, .int .i64 H, .int .i64 M, .int .i64 B, .slice ao nb cb]) _ (fun w' hh => range_row hh.2.2.2.2 0 [.int .i64 W, .int .i64 H, .int .i64 M, .int .i64 B, .slice ao nb cb] (fun j hj => by simp only [Nat.zero_add, List.getElem?_toArray])) Try.underlying24 rfl (by kernel_rfl)) (by assumption) ?_
    try change wpAnyH _ _ _ _ _ _ _ (Act.put _ (some 101) _) _
    try simp only [act_all]
    refine wpAnyH_take (i := 26) (oi := _) (v := ?_) rfl (by kernel_rfl) (by kernel_rfl) (by kernel_rfl) (fun _ _ _ h => h) (Or.inl ⟨by rfl, ?_⟩) (by assumption) ?_
    rotate_left
    · intro w hSw; obtain ⟨s0, s1, s2, s3, s4⟩ := hSw; go_simp; (try with_reducible rfl)
    try change wpAnyH _ _ _ _ _ _ _ (Act.put _ (some 102) _) _
    try simp only [act_all]
    refine wpAnyH_ready (rs := [27]) (by kernel_rfl) (by simp) ?_
    refine AllReadyH.cons (o := _) rfl (fun K hK => ?_) AllReadyH.nil
    go_simp
    refine (pCheck_any W H M B nb cb ao XB YB (l2 + 1) cl _ X' Y' _ hn (HC.out.keep (HB5.out.trans (D0.mono HB5.out.size))) (by omega) (HX9.out.keep D0) HR2.out).mono ?_
    rw [HCK.out]
    rintro e_ t9 ⟨rfl, hb⟩
    have D9 : Below w5.heap.size w5 t9 := D0.trans (hb.mono D0.size)
    clear hb hHeld
    refine hK.out _ _ (G0.out _ D9) (fun hHeld => ?_)
    clear hK K
    try simp only [act_all]
    refine wpAnyH_take (i := 28) (oi := _) (v := ?_) rfl (by kernel_rfl) (by kernel_rfl) (by kernel_rfl) (fun _ _ _ h => h) (Or.inl ⟨by rfl, ?_⟩) (by assumption) ?_
    rotate_left
    · intro w hSw; obtain ⟨s0, s1, s2, s3, s4⟩ := hSw; go_simp; (try with_reducible rfl)
    try change wpAnyH _ _ _ _ _ _ _ (Act.put _ (some 104) _) _
    try simp only [act_all]
    refine wpAnyH_take (i := 29) (oi := _) (v := ?_) rfl (by kernel_rfl) (by kernel_rfl) (by kernel_rfl) (fun _ _ _ h => h) (Or.inl ⟨by rfl, ?_⟩) (by assumption) ?_
    rotate_left
    · intro w hSw; obtain ⟨s0, s1, s2, s3, s4⟩ := hSw; go_simp; (try with_reducible rfl)
    try change wpAnyH _ _ _ _ _ _ _ (Act.put _ (some 105) _) _
    try simp only [act_all]
    refine wpAnyH_take (i := 30) (oi := _) (v := ?_) rfl (by kernel_rfl) (by kernel_rfl) (by kernel_rfl) (fun _ _ _ h => h) (Or.inl ⟨by rfl, ?_⟩) (by assumption) ?_
    rotate_left
    · intro w hSw; obtain ⟨s0, s1, s2, s3, s4⟩ := hSw; go_simp; (try with_reducible rfl)
    try change wpAnyH _ _ _ _ _ _ _ (Act.put _ (some 106) _) _
    try simp only [act_all]
    refine wpAnyH_ready (rs := [31]) (by kernel_rfl) (by simp) ?_
    refine AllReadyH.cons (o := _) rfl (fun K hK => ?_) AllReadyH.nil
    go_simp
    refine (lawake_any _).mono ?_
    rintro e_ t10 ⟨rfl, hb⟩
    have D10 : Below w5.heap.size w5 t10 := D9.trans (hb.mono D9.size)
    clear hb hHeld
    refine hK.out _ _ (G0.out _ D10) (fun hHeld => ?_)
    clear hK K
    try simp only [act_all]
    refine wpAnyH_take (i := 32) (oi := _) (v := ?_) rfl (by kernel_rfl) (by kernel_rfl) (by kernel_rfl) (fun _ _ _ h => h) (Or.inl ⟨by rfl, ?_⟩) (by assumption) ?_
    rotate_left
    · intro w hSw; obtain ⟨s0, s1, s2, s3, s4⟩ := hSw; go_simp; (try with_reducible rfl)
    try change wpAnyH _ _ _ _ _ _ _ (Act.put _ (some 108) _) _
    try simp only [act_all]
    refine wpAnyH_take (i := 33) (oi := _) (v := ?_) rfl (by kernel_rfl) (by kernel_rfl) (by kernel_rfl) (fun _ _ _ h => h) (Or.inl ⟨by rfl, ?_⟩) (by assumption) ?_
    rotate_left
    · intro w hSw; obtain ⟨s0, s1, s2, s3, s4⟩ := hSw; go_simp; (try with_reducible rfl)
    try change wpAnyH _ _ _ _ _ _ _ (Act.put _ (some 6) _) _
    try simp only [act_all]
    refine wpAnyH_done (by kernel_rfl) ?_ _
    clear hHeld
    have HZ : Hid (Below w.heap.size w _) := Lib.hid (HB5.out.trans (D10.mono HB5.out.size))
    clear G0 D0 HB5
    go_wp2_with fail
    refine bodyPost_ret (v := .bool true) (by simp [results, Try.results5, go_sem]) rfl ⟨rfl, HZ.out⟩
theorem LayoutLonger_any (W H M B mo : Int) (nb cb n cp : Nat) (ao ap : Option Addr) (XB YB X Y : Nat → Int) (w : World) (hn : nb ≤ 9223372036854775807) (hc : XYs w ao nb XB YB) (hnp : n ≤ 9223372036854775807) (hp : XYs w ap n X Y) (hr : R2 X Y n) (hmr : -9223372036854775808 ≤ mo ∧ mo ≤ 9223372036854775807) :
    Calls Try.prog 5 #[.agg #[.int .i64 W, .int .i64 H, .int .i64 M, .int .i64 B, .slice ao nb cb], .slice ap n cp, .int .i64 mo] w fun e w' => e = .returned (.bool true) ∧ Below w.heap.size w w' := by
  by_cases h3 : 300 < n
  · exact longer_many W H M B mo nb cb n cp ao ap w h3 hnp
  by_cases hv : vaG W H M B nb XB YB = true
  case neg =>
    refine longer_err W H M B mo nb cb n cp ao ap XB YB X Y w (by omega) 70 ?_ (by decide) hn hc hp hr
    unfold rdE; rw [if_neg hv]
  by_cases he : chE W H (blkN XB YB nb) X Y n = 0
  case neg =>
    refine longer_err W H M B mo nb cb n cp ao ap XB YB X Y w (by omega) _ ?_ he hn hc hp hr
    unfold rdE; rw [if_pos hv, if_pos (by omega)]
  obtain ⟨⟨h1, _⟩, _⟩ := paB_iff.1 (chE_ok.1 he).1
  obtain ⟨l, rfl⟩ : ∃ l, n = l + 1 := ⟨n - 1, by omega⟩
  exact longer_ok W H M B mo nb cb l cp ao ap XB YB X Y w (by omega) hv he hn hc hp hr hmr
end Go.Proofs.Ytkkcnhhfdicppaa
