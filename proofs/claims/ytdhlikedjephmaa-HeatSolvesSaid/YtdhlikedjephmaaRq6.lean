import Derived.Test.YtdhlikedjephmaaFp6
namespace Go.Proofs.Ytdhlikedjephmaa
open Go.RowKit Heat
theorem hPhases_any (N cap : Nat) (ao : Option Addr) (A : Nat → Option Addr) (l c : Nat → Nat) (F : Nat → Nat → Int) (m dap : Nat) (bo : Option Addr) (B : Nat → Int) (k fap : Nat) (co : Option Addr) (C : Nat → Int) (w : World) (hN : N ≤ 9223372036854775807) (hR : Rowsw w ao N A l c F) (hm : m ≤ 9223372036854775807) (hI : Ints w bo m B) (hk : k ≤ 9223372036854775807) (hJ : Ints w co k C) :
    Calls Try.prog 33 #[.agg #[.slice ao N cap], .slice bo m dap, .slice co k fap] w fun e w' => LsR w' e N l F m B k C (phL N F B C) ∧ Below w.heap.size w w' := by
  cases hok : okG N l F with
  | false => exact hPhases_no N cap ao A l c F m dap bo B k fap co C w hN hR hok
  | true => exact hPhases_ok N cap ao A l c F m dap bo B k fap co C w hN hR hok hm hI hk hJ
theorem hOff_any (N cap : Nat) (ao : Option Addr) (A : Nat → Option Addr) (l c : Nat → Nat) (F : Nat → Nat → Int) (m dap : Nat) (bo : Option Addr) (B : Nat → Int) (k fap : Nat) (co : Option Addr) (C : Nat → Int) (w : World) (hN : N ≤ 9223372036854775807) (hR : Rowsw w ao N A l c F) (hm : m ≤ 9223372036854775807) (hI : Ints w bo m B) (hk : k ≤ 9223372036854775807) (hJ : Ints w co k C) :
    Calls Try.prog 35 #[.agg #[.slice ao N cap], .slice bo m dap, .slice co k fap] w fun e w' => LsR w' e N l F m B k C (ofL N F B C) ∧ Below w.heap.size w w' := by
  cases hok : okG N l F with
  | false => exact hOff_no N cap ao A l c F m dap bo B k fap co C w hN hR hok
  | true => exact hOff_ok N cap ao A l c F m dap bo B k fap co C w hN hR hok hm hI hk hJ
set_option maxRecDepth 100000 in
set_option maxHeartbeats 8000000 in
theorem rHeated_any (N cap : Nat) (ao : Option Addr) (A : Nat → Option Addr) (l c : Nat → Nat) (F : Nat → Nat → Int) (i : Nat) (fap : Nat) (co : Option Addr) (C : Nat → Int) (w : World) (hR : Rowsw w ao N A l c F) (hok : okG N l F = true) (hi : i < N) (hJ : Ints w co N C) (hC : ∀ j, j < N → 0 ≤ C j ∧ C j ≤ 1000) :
    Calls Try.prog 65 #[.agg #[.slice ao N cap], .int .i64 i, .slice co N fap] w fun e w' => e = .returned (.int .i64 (heT F C i N)) ∧ Below w.heap.size w w' := by
  have HRA := Lib.hid (hR.at hok i hi)
  have HJ := Lib.hid hJ
  have HC := Lib.hid hC
  have hN5 := (okG_iff.1 hok).1.2
  have hF := ((okG_iff.1 hok).2 i hi).2
  have HF := Lib.hid hF
  have i00 : (0 : Int) ≤ (i : Int) := by omega
  clear hR hok hJ hC hF
  have hbx : (w.alloc (Obj.cells #[.slice ao N cap] 40)).cell? ⟨w.heap.size, 0, none⟩ = some (.slice ao N cap) := by go_cell
  have hb0 : Below w.heap.size w (w.alloc (Obj.cells #[.slice ao N cap] 40)) := by go_grown
  have hsz : w.heap.size < (w.alloc (Obj.cells #[.slice ao N cap] 40)).heap.size := by simp
  go_enter Try.func65, Try.ntmps65
  go_upto_region 1 with fail
  generalize (w.alloc (Obj.cells #[.slice ao N cap] 40)) = W at *
  have HB0 := Lib.hid hb0
  clear hb0
  go_wp2_with fail
  go_loopw [7, 8] (fun sv jv wr => ∃ (s y : Int) (j : Nat), sv = .int .i64 s ∧ jv = .int .i64 y ∧ y = j ∧ j ≤ N ∧ Hid (s = heT F C i j) ∧ Hid (Below w.heap.size w wr) ∧ wr.cell? ⟨w.heap.size, 0, none⟩ = some (.slice ao N cap) ∧ w.heap.size < wr.heap.size) (fun _ jv _ => N - (intOf jv).toNat)
  case atStart => exact ⟨0, 0, 0, rfl, rfl, by omega, by omega, Lib.hid rfl, HB0, hbx, hsz⟩
  case round =>
    obtain ⟨s, y, j, rfl, rfl, hy, hj, HS, HB, hbxr, hsw⟩ := hrel
    by_cases hjt : j < N
    · have hjt' : y < (N : Int) := by omega
      subst hy
      have j00 : (0 : Int) ≤ (j : Int) := by omega
      obtain ⟨b, o, b1, o1, hao, hbl, hrow, hb1l, hcl⟩ := HRA.out
      have g0 := (HB.out.cell (p := ⟨b, o + i, none⟩) hbl).trans hrow
      have g1 := (HB.out.cell (p := ⟨b1, o1 + j, none⟩) hb1l).trans (hcl j hjt)
      obtain ⟨b2, o2, rfl, hcell⟩ := (HJ.out.keep HB.out) (by omega)
      have g2 := hcell j hjt
      have hb1 := mul_bd (HF.out j hjt) (HC.out j hjt) (by omega)
      have hb2 := he_bd (F := F) (p := C) (i := i) (n := j) (fun q hq => HF.out q (by omega)) (fun q hq => HC.out q (by omega))
      rw [← HS.out] at hb2
      have HS2 : Hid (s + F i j * C j = heT F C i (j + 1)) := Lib.hid (by rw [HS.out]; rfl)
      obtain ⟨v, hv⟩ : ∃ v, F i j = v := ⟨_, rfl⟩
      obtain ⟨q, hq⟩ : ∃ q, C j = q := ⟨_, rfl⟩
      obtain ⟨vq, hvq⟩ : ∃ vq, v * q = vq := ⟨_, rfl⟩
      rw [hv] at g1 hb1 HS2
      rw [hq] at g2 hb1 HS2
      rw [hvq] at hb1 HS2
      have HW : Hid (wrap64 (s + wrap64 (v * q)) = s + vq) := Lib.hid (by rw [hvq]; rw [show wrap64 vq = vq from by simp only [wrap64]; omega]; simp only [wrap64]; omega)
      have wy : wrap64 ((j : Int) + 1) = (j : Int) + 1 := by simp only [wrap64]; omega
      have HBd : Hid (Below w.heap.size w wr.drew) := Lib.hid HB.out.drew
      have hbxd : wr.drew.cell? ⟨w.heap.size, 0, none⟩ = some (.slice ao N cap) := hbxr
      have hsd : w.heap.size < wr.drew.heap.size := hsw
      clear hcl hrow hcell hb1 hb2 hv hq hvq HS HB
      subst hao
      go_upto_region 5 with fail
      go_region
      simp only [HW.out]
      clear g0 g1 g2 hbxr hsw HW
      generalize wr.drew = w7 at *
      go_wp2_with fail
      go_roundw
      case rel => exact ⟨s + vq, (j : Int) + 1, j + 1, rfl, by first | rfl | rw [wy], by omega, by omega, HS2, HBd, hbxd, hsd⟩
      case measure => first | (simp [intOf]; done) | (simp [intOf]; omega)
    · obtain rfl : j = N := by omega
      subst hy
      have hbl := HB.out
      go_wp2_with fail
      refine bodyPost_ret (v := .int .i64 s) (by simp [results, Try.results65, go_sem]) rfl ⟨by rw [HS.out], hbl⟩
set_option maxRecDepth 100000 in
set_option maxHeartbeats 8000000 in
theorem rPhases_any (N cap : Nat) (ao : Option Addr) (A : Nat → Option Addr) (l c : Nat → Nat) (F : Nat → Nat → Int) (m dap : Nat) (bo : Option Addr) (B : Nat → Int) (k fap : Nat) (co : Option Addr) (C : Nat → Int) (w : World) (hN : N ≤ 9223372036854775807) (hR : Rowsw w ao N A l c F) (hm : m ≤ 9223372036854775807) (hI : Ints w bo m B) (hk : k ≤ 9223372036854775807) (hJ : Ints w co k C) :
    Calls Try.prog 34 #[.agg #[.slice ao N cap], .slice bo m dap, .slice co k fap] w fun e w' => LsR w' e N l F m B k C (phL N F B C) ∧ Below w.heap.size w w' := by
  have HG := Lib.hid hR
  have HI := Lib.hid hI
  have HJ := Lib.hid hJ
  clear hR hI hJ
  obtain ⟨bk, hbk⟩ : ∃ bk, okG N l F = bk := ⟨_, rfl⟩
  have HOK := Lib.hid hbk
  clear hbk
  have hbx : (w.alloc (Obj.cells #[.slice ao N cap] 40)).cell? ⟨w.heap.size, 0, none⟩ = some (.slice ao N cap) := by go_cell
  have hb0 : Below w.heap.size w (w.alloc (Obj.cells #[.slice ao N cap] 40)) := by go_grown
  have hsz : w.heap.size < (w.alloc (Obj.cells #[.slice ao N cap] 40)).heap.size := by simp
  go_enter Try.func34, Try.ntmps34
  go_upto_region 1 with fail
  generalize (w.alloc (Obj.cells #[.slice ao N cap] 40)) = W at *
  have HB0 := Lib.hid hb0
  clear hb0
  go_wp2_with fail
  refine (rhValid_any N cap ao A l c F _ hN (HG.out.keep (HB0.out.mono (Nat.le_refl _)))).mono ?_
  rw [HOK.out]
  rintro e w1 ⟨rfl, hb⟩
  have HB1 := Lib.hid (HB0.out.trans (hb.mono HB0.out.size))
  have hbx1 := (hb.cell (p := ⟨w.heap.size, 0, none⟩) hsz).trans hbx
  have hs1 : w.heap.size < w1.heap.size := by have := hb.size; omega
  clear hb HB0 hbx hsz
  have hbl := HB1.out
  obtain ⟨bb, hbb⟩ : ∃ bb, inB m B N (-1000000) 1000000 = bb := ⟨_, rfl⟩
  have HBB := Lib.hid hbb
  obtain ⟨bc, hbc⟩ : ∃ bc, inB k C N 0 1000 = bc := ⟨_, rfl⟩
  have HBC := Lib.hid hbc
  clear hbb hbc
  cases bk with
  | false =>
    have HE : Hid (lsE N l F m B k C = 60) := Lib.hid (ls_no HOK.out)
    go_wp2_with fail
    refine bodyPost_ret (v := .tuple #[.slice none 0 0, .int .i64 60]) (by simp [results, Try.results34, go_sem, *]) rfl ⟨lsR_no HE.out (by decide), hbl⟩
  | true =>
  have hN5 := (okG_iff.1 HOK.out).1.2
  have hN1 := (okG_iff.1 HOK.out).1.1
  have HF : Hid (∀ i, i < N → ∀ j, j < N → -200 ≤ F i j ∧ F i j ≤ 200) := Lib.hid (fun i hi => ((okG_iff.1 HOK.out).2 i hi).2)
  obtain ⟨i0, hi, hz0, hz1, hz2⟩ := info_parts infoInt
  have HINF := Lib.hid (And.intro hi (And.intro hz0 (And.intro hz1 hz2)))
  clear hi hz0 hz1 hz2 hbl
  go_wp2_with fail
  refine (rIsPhases_any m dap bo B N _ hm (HI.out.keep HB1.out)).mono ?_
  rw [HBB.out]
  rintro e w2 ⟨rfl, hb⟩
  have HB2 := Lib.hid (HB1.out.trans (hb.mono HB1.out.size))
  have hbx2 := (hb.cell (p := ⟨w.heap.size, 0, none⟩) hs1).trans hbx1
  have hs2 : w.heap.size < w2.heap.size := by have := hb.size; omega
  clear hb HB1 hbx1 hs1
  cases bb with
  | false =>
    have HE : Hid (lsE N l F m B k C = 2) := Lib.hid (ls_arg HOK.out (by rw [HBB.out]; rfl))
    have hbl := HB2.out
    go_wp2_with fail
    refine bodyPost_ret (v := .tuple #[.slice none 0 0, .int .i64 2]) (by simp [results, Try.results34, go_sem, *]) rfl ⟨lsR_no HE.out (by decide), hbl⟩
  | true =>
  go_wp2_with fail
  refine (rIsPowers_any k fap co C N _ hk (HJ.out.keep HB2.out)).mono ?_
  rw [HBC.out]
  rintro e w3 ⟨rfl, hb⟩
  have HB3 := Lib.hid (HB2.out.trans (hb.mono HB2.out.size))
  have hbx3 := (hb.cell (p := ⟨w.heap.size, 0, none⟩) hs2).trans hbx2
  have hs3 : w.heap.size < w3.heap.size := by have := hb.size; omega
  clear hb HB2 hbx2 hs2
  cases bc with
  | false =>
    have HE : Hid (lsE N l F m B k C = 2) := Lib.hid (ls_arg HOK.out (by rw [HBB.out, HBC.out]; rfl))
    have hbl := HB3.out
    go_wp2_with fail
    refine bodyPost_ret (v := .tuple #[.slice none 0 0, .int .i64 2]) (by simp [results, Try.results34, go_sem, *]) rfl ⟨lsR_no HE.out (by decide), hbl⟩
  | true =>
  have HE : Hid (lsE N l F m B k C = 0) := Lib.hid (ls_ok HOK.out (by rw [HBB.out, HBC.out]; rfl))
  have HBI : Hid (∀ j, j < N → -1000000 ≤ B j ∧ B j ≤ 1000000) := Lib.hid (fun j hj => (inB_iff.1 HBB.out).2 j (by have := (inB_iff.1 HBB.out).1; omega))
  have HCI : Hid (∀ j, j < N → 0 ≤ C j ∧ C j ≤ 1000) := Lib.hid (fun j hj => (inB_iff.1 HBC.out).2 j (by have := (inB_iff.1 HBC.out).1; omega))
  have hmN : N = m := by have := (inB_iff.1 HBB.out).1; omega
  have hkN : N = k := by have := (inB_iff.1 HBC.out).1; omega
  subst hmN
  subst hkN
  clear hm hk
  go_wp2_with fail
  go_loopw [9, 10] (fun ov iv wr => ∃ (V : Value) (z : Int) (i : Nat), V = ov ∧ iv = .int .i64 z ∧ z = i ∧ i ≤ N ∧ Hid (wr.ownsRow (w.heap.size + 1) 3 1 V i (cellsI (phL N F B C) i)) ∧ Hid (Below w.heap.size w wr) ∧ wr.cell? ⟨w.heap.size, 0, none⟩ = some (.slice ao N cap) ∧ w.heap.size < wr.heap.size) (fun _ iv _ => N - (intOf iv).toNat)
  case atStart => exact ⟨_, 0, 0, rfl, rfl, by omega, by omega, Lib.hid (World.ownsRow_nil _ _ _ _), HB3, hbx3, hs3⟩
  case round =>
    obtain ⟨V, z, i, rfl, rfl, hz, hi, HO, HB, hbxr, hsw⟩ := hrel
    by_cases hlt : i < N
    · have hlt' : z < (N : Int) := by omega
      subst hz
      have i00 : (0 : Int) ≤ (i : Int) := by omega
      have wz : wrap64 ((i : Int) + 1) = (i : Int) + 1 := by simp only [wrap64]; omega
      clear HB3 hbx3 hs3
      obtain ⟨b, o, rfl, hcell⟩ := HI.out (by omega)
      have hbw : b < w.heap.size := World.block_lt_of_cell? _ _ (hcell i hlt)
      have g0 := (HB.out.cell (p := ⟨b, o + i, none⟩) hbw).trans (hcell i hlt)
      have hbz := World.block_lt_of_cell? _ _ g0
      have hb1 := HBI.out i hlt
      have hb2 := he_bd (F := F) (i := i) (HF.out i hlt) HCI.out
      obtain ⟨x, hx⟩ : ∃ x, B i = x := ⟨_, rfl⟩
      obtain ⟨t, ht⟩ : ∃ t, heT F C i N = t := ⟨_, rfl⟩
      have HtT := Lib.hid ht
      have HtX := Lib.hid hx
      rw [hx] at g0 hb1
      rw [ht] at hb2
      have HK : Hid (∀ w', Below wr.heap.size wr w' → w'.cell? ⟨b, o + i, none⟩ = some (.int .i64 x) ∧ w'.cell? ⟨w.heap.size, 0, none⟩ = some (.slice ao N cap)) := Lib.hid (fun w' hb => ⟨(hb.cell (p := ⟨b, o + i, none⟩) hbz).trans g0, (hb.cell (p := ⟨w.heap.size, 0, none⟩) hsw).trans hbxr⟩)
      have v1 : IntKind.i64.wrap (x + t) = x + t := by clear wz; go_arith
      obtain ⟨r, hr⟩ : ∃ r, (x + t).tmod 1000000 = r := ⟨_, rfl⟩
      have HV : Hid ((IntKind.i64.wrap (x + t)).tmod 1000000 = r) := Lib.hid (by rw [v1, hr])
      have hr1 : (x + t) % 1000000 = if r < 0 then r + 1000000 else r := by
        have h1 : r = (x + t) - 1000000 * (x + t).tdiv 1000000 := by have := Int.mul_tdiv_add_tmod (x + t) 1000000; rw [← hr]; omega
        have h2 : -1000000 < r := by have := Int.lt_tmod_of_pos (x + t) (show (0 : Int) < 1000000 by decide); omega
        have h3 : r < 1000000 := by have := Int.tmod_lt_of_pos (x + t) (show (0 : Int) < 1000000 by decide); omega
        split <;> omega
      have hrb : -1000000 ≤ r ∧ r ≤ 1000000 := by have h2 := Int.lt_tmod_of_pos (x + t) (show (0 : Int) < 1000000 by decide); have h3 := Int.tmod_lt_of_pos (x + t) (show (0 : Int) < 1000000 by decide); omega
      have HR1 : Hid (phL N F B C i = if r < 0 then r + 1000000 else r) := Lib.hid (by unfold phL; rw [hx, ht, hr1])
      clear hcell g0 hx ht hb1 hb2 v1 hr hr1 hbz
      go_upto_region 10 with fail
      refine wp_region_held_drew (S := fun w' => w'.cell? ⟨b, o + i, none⟩ = some (.int .i64 x) ∧ w'.cell? ⟨w.heap.size, 0, none⟩ = some (.slice ao N cap)) (by kernel_rfl) (HK.out _ ((Below.refl _ _).drew)) (fun hHeld => ?_)
      refine wpAnyH_take (i := 0) (oi := _) (v := ?_) rfl (by kernel_rfl) (by kernel_rfl) (by kernel_rfl) (fun _ _ _ h => h) (Or.inl ⟨by rfl, ?_⟩) (by assumption) ?_
      rotate_left
      · intro w hSw; obtain ⟨_, _⟩ := hSw; go_simp; (try with_reducible rfl)
      try change wpAnyH _ _ _ _ _ _ _ (Act.put _ (some 33) _) _
      try simp only [act_all]
      refine wpAnyH_take (i := 1) (oi := _) (v := ?_) rfl (by kernel_rfl) (by kernel_rfl) (by kernel_rfl) (fun _ _ _ h => h) (Or.inl ⟨by rfl, ?_⟩) (by assumption) ?_
      rotate_left
      · intro w hSw; obtain ⟨_, _⟩ := hSw; go_simp; (try with_reducible rfl)
      try change wpAnyH _ _ _ _ _ _ _ (Act.put _ (some 34) _) _
      try simp only [act_all]
      refine wpAnyH_take (i := 2) (oi := _) (v := ?_) rfl (by kernel_rfl) (by kernel_rfl) (by kernel_rfl) (fun _ _ _ h => h) (Or.inl ⟨by rfl, ?_⟩) (by assumption) ?_
      rotate_left
      · intro w hSw; obtain ⟨_, _⟩ := hSw; go_simp; (try with_reducible rfl)
      try change wpAnyH _ _ _ _ _ _ _ (Act.put _ (some 35) _) _
      try simp only [act_all]
      refine wpAnyH_take (i := 3) (oi := _) (v := ?_) rfl (by kernel_rfl) (by kernel_rfl) (by kernel_rfl) (fun _ _ _ h => h) (Or.inl ⟨by rfl, ?_⟩) (by assumption) ?_
      rotate_left
      · intro w hSw; obtain ⟨_, _⟩ := hSw; go_simp; (try with_reducible rfl)
      try change wpAnyH _ _ _ _ _ _ _ (Act.put _ (some 36) _) _
      try simp only [act_all]
      refine wpAnyH_take (i := 4) (oi := _) (v := ?_) rfl (by kernel_rfl) (by kernel_rfl) (by kernel_rfl) (fun _ _ _ h => h) (Or.inl ⟨by rfl, ?_⟩) (by assumption) ?_
      rotate_left
      · intro w hSw; obtain ⟨_, _⟩ := hSw; go_simp; (try with_reducible rfl)
      try change wpAnyH _ _ _ _ _ _ _ (Act.put _ (some 37) _) _
      try simp only [act_all]
      refine wpAnyH_take (i := 5) (oi := _) (v := ?_) rfl (by kernel_rfl) (by kernel_rfl) (by kernel_rfl) (fun _ _ _ h => h) (Or.inl ⟨by rfl, ?_⟩) (by assumption) ?_
      rotate_left
      · intro w hSw; obtain ⟨_, _⟩ := hSw; go_simp; (try with_reducible rfl)
      try change wpAnyH _ _ _ _ _ _ _ (Act.put _ (some 38) _) _
      try simp only [act_all]
      refine wpAnyH_take (i := 6) (oi := _) (v := ?_) rfl (by kernel_rfl) (by kernel_rfl) (by kernel_rfl) (fun _ _ _ h => h) (Or.inl ⟨by rfl, ?_⟩) (by assumption) ?_
      rotate_left
      · intro w hSw; obtain ⟨_, _⟩ := hSw; go_simp; (try with_reducible rfl)
      try change wpAnyH _ _ _ _ _ _ _ (Act.put _ (some 39) _) _
      try simp only [act_all]
      refine wpAnyH_ready (rs := [7]) (by kernel_rfl) (by simp) ?_
      refine AllReadyH.cons (o := _) rfl (fun K hK => ?_) AllReadyH.nil
      go_simp
      refine (rHeated_any N cap ao A l c F i fap co C _ (HG.out.keep (HB.out.drew.mono (Nat.le_refl _))) HOK.out hlt (HJ.out.keep (HB.out.drew.mono (Nat.le_refl _))) HCI.out).mono ?_
      rw [HtT.out]
      rintro e v1 ⟨rfl, hb⟩
      have D1 : Below wr.heap.size wr v1 := (Below.refl _ _).drew.trans hb
      clear hb
      refine hK.out _ _ (HK.out _ D1) (fun hHeld => ?_)
      clear hK K
      try simp only [act_all]
      refine wpAnyH_take (i := 8) (oi := _) (v := ?_) rfl (by kernel_rfl) (by kernel_rfl) (by kernel_rfl) (fun _ _ _ h => h) (Or.inl ⟨by rfl, ?_⟩) (by assumption) ?_
      rotate_left
      · intro w hSw; obtain ⟨_, _⟩ := hSw; go_simp; (try with_reducible rfl)
      try change wpAnyH _ _ _ _ _ _ _ (Act.put _ (some 41) _) _
      try simp only [act_all]
      refine wpAnyH_take (i := 9) (oi := _) (v := ?_) rfl (by kernel_rfl) (by kernel_rfl) (by kernel_rfl) (fun _ _ _ h => h) (Or.inl ⟨by rfl, ?_⟩) (by assumption) ?_
      rotate_left
      · intro w hSw; obtain ⟨_, _⟩ := hSw; go_simp; (try with_reducible rfl)
      try change wpAnyH _ _ _ _ _ _ _ (Act.put _ (some 42) _) _
      try simp only [act_all]
      refine wpAnyH_take (i := 10) (oi := _) (v := ?_) rfl (by kernel_rfl) (by kernel_rfl) (by kernel_rfl) (fun _ _ _ h => h) (Or.inl ⟨by rfl, ?_⟩) (by assumption) ?_
      rotate_left
      · intro w hSw; obtain ⟨_, _⟩ := hSw; go_simp; (try with_reducible rfl)
      try change wpAnyH _ _ _ _ _ _ _ (Act.put _ (some 11) _) _
      try simp only [act_all]
      refine wpAnyH_done (by kernel_rfl) ?_ _
      have HOV := Lib.hid (own_below' HO.out D1)
      have HBV := Lib.hid (HB.out.trans (D1.mono HB.out.size))
      have hbxv := (HK.out _ D1).2
      have hsv : w.heap.size < v1.heap.size := by have := D1.size; omega
      clear hHeld HK HO HB hbxr hsw D1
      go_upto_region 11 with fail
      simp only [HV.out]
      clear HV
      by_cases hneg : r < 0
      · have HQ : Hid (phL N F B C i = r + 1000000) := Lib.hid (by rw [HR1.out, if_pos hneg])
        have wq : wrap64 (r + 1000000) = r + 1000000 := by clear wz; simp only [wrap64]; omega
        clear HR1
        go_wp2_with (at_builtin; refine wpList_append_own _ rfl (.tmp 47) (.tmp 49) 24 rfl (w.heap.size + 1) 3 i0 _ 1 8 Try.underlying24 HINF.out.1 HINF.out.2.1 HINF.out.2.2.1 HINF.out.2.2.2 rfl (by decide) _ i (cellsI (phL N F B C) i) rfl (HOV.out.alloc _) ⟨v1.heap.size, 0, none⟩ 1 1 [.int .i64 (r + 1000000)] rfl rfl ?ca1 ?ca2 ?ca3 ?ca4 ?ca5 ?_)
        try (case ca1 => exact fun j u hu => World.news_of_block (cs := #[.int .i64 (r + 1000000)]) (heap_new v1 _) j u hu)
        case ca2 => first | (intro u hu; simp only [List.mem_cons, List.not_mem_nil, or_false] at hu; subst hu; rfl) | rfl
        case ca3 => unfold maxLen; omega
        case ca4 => omega
        case ca5 => first | omega | (simp; done) | (simp; omega)
        intro v' w5 hown' hgrow _
        have hltk := HOV.out.lt
        have hbl := HBV.out
        have hsz := hbl.size
        have HO5 : Hid (w5.ownsRow (w.heap.size + 1) 3 1 v' (i + 1) (cellsI (phL N F B C) (i + 1))) := Lib.hid (by rw [cellsI_succ, HQ.out]; exact hown')
        have HB5 : Hid (Below w.heap.size w w5) := Lib.hid (Below.grown (hbl.alloc hsz _) hgrow (by first | omega | (simp; omega)) (fun q hq => Nat.le_of_succ_le (hltk q hq).1))
        have hbx5 : w5.cell? ⟨w.heap.size, 0, none⟩ = some (.slice ao N cap) := farc hgrow (show (v1.alloc (Obj.cells #[.int .i64 (r + 1000000)] 3)).cell? ⟨w.heap.size, 0, none⟩ = _ by go_cell) (fun e => Nat.not_succ_le_self _ (hltk _ e.symm).1)
        have hs5 : w.heap.size < w5.heap.size := World.block_lt_of_cell? _ _ hbx5
        clear hown' hgrow hltk HOV HBV hbxv hsv hbl
        go_wp2_with fail
        go_roundw
        case rel => exact ⟨v', (i : Int) + 1, i + 1, rfl, by first | rfl | rw [wz], by omega, by omega, HO5, HB5, hbx5, hs5⟩
        case measure => first | (simp [intOf]; done) | (simp [intOf]; omega)
      · have HQ : Hid (phL N F B C i = r) := Lib.hid (by rw [HR1.out, if_neg hneg])
        clear HR1
        go_wp2_with (at_builtin; refine wpList_append_own _ rfl (.tmp 47) (.tmp 49) 24 rfl (w.heap.size + 1) 3 i0 _ 1 8 Try.underlying24 HINF.out.1 HINF.out.2.1 HINF.out.2.2.1 HINF.out.2.2.2 rfl (by decide) _ i (cellsI (phL N F B C) i) rfl (HOV.out.alloc _) ⟨v1.heap.size, 0, none⟩ 1 1 [.int .i64 r] rfl rfl ?cb1 ?cb2 ?cb3 ?cb4 ?cb5 ?_)
        try (case cb1 => exact fun j u hu => World.news_of_block (cs := #[.int .i64 r]) (heap_new v1 _) j u hu)
        case cb2 => first | (intro u hu; simp only [List.mem_cons, List.not_mem_nil, or_false] at hu; subst hu; rfl) | rfl
        case cb3 => unfold maxLen; omega
        case cb4 => omega
        case cb5 => first | omega | (simp; done) | (simp; omega)
        intro v' w5 hown' hgrow _
        have hltk := HOV.out.lt
        have hbl := HBV.out
        have hsz := hbl.size
        have HO5 : Hid (w5.ownsRow (w.heap.size + 1) 3 1 v' (i + 1) (cellsI (phL N F B C) (i + 1))) := Lib.hid (by rw [cellsI_succ, HQ.out]; exact hown')
        have HB5 : Hid (Below w.heap.size w w5) := Lib.hid (Below.grown (hbl.alloc hsz _) hgrow (by first | omega | (simp; omega)) (fun q hq => Nat.le_of_succ_le (hltk q hq).1))
        have hbx5 : w5.cell? ⟨w.heap.size, 0, none⟩ = some (.slice ao N cap) := farc hgrow (show (v1.alloc (Obj.cells #[.int .i64 r] 3)).cell? ⟨w.heap.size, 0, none⟩ = _ by go_cell) (fun e => Nat.not_succ_le_self _ (hltk _ e.symm).1)
        have hs5 : w.heap.size < w5.heap.size := World.block_lt_of_cell? _ _ hbx5
        clear hown' hgrow hltk HOV HBV hbxv hsv hbl
        go_wp2_with fail
        go_roundw
        case rel => exact ⟨v', (i : Int) + 1, i + 1, rfl, by first | rfl | rw [wz], by omega, by omega, HO5, HB5, hbx5, hs5⟩
        case measure => first | (simp [intOf]; done) | (simp [intOf]; omega)
    · obtain rfl : i = N := by omega
      subst hz
      obtain ⟨g', cap', rfl, hgB, hgs, _, _⟩ := own_fm HO.out hN1
      have HW : Hid (Intw wr g' i (phL i F B C)) := Lib.hid (Intw.of_own HO.out fun q hq => cellsI_get _ hq)
      have hbl := HB.out
      clear HO HB HB3 hbx3 hs3
      go_wp2_with fail
      refine bodyPost_ret (v := .tuple #[.slice (some ⟨g', 0, none⟩) i cap', .int .i64 0]) (by simp [results, Try.results34, go_sem]) rfl ⟨lsR_ok HE.out HW.out, hbl⟩
set_option maxRecDepth 100000 in
set_option maxHeartbeats 8000000 in
theorem rOff_any (N cap : Nat) (ao : Option Addr) (A : Nat → Option Addr) (l c : Nat → Nat) (F : Nat → Nat → Int) (m dap : Nat) (bo : Option Addr) (B : Nat → Int) (k fap : Nat) (co : Option Addr) (C : Nat → Int) (w : World) (hN : N ≤ 9223372036854775807) (hR : Rowsw w ao N A l c F) (hm : m ≤ 9223372036854775807) (hI : Ints w bo m B) (hk : k ≤ 9223372036854775807) (hJ : Ints w co k C) :
    Calls Try.prog 36 #[.agg #[.slice ao N cap], .slice bo m dap, .slice co k fap] w fun e w' => LsR w' e N l F m B k C (ofL N F B C) ∧ Below w.heap.size w w' := by
  have HG := Lib.hid hR
  have HI := Lib.hid hI
  have HJ := Lib.hid hJ
  clear hR hI hJ
  obtain ⟨bk, hbk⟩ : ∃ bk, okG N l F = bk := ⟨_, rfl⟩
  have HOK := Lib.hid hbk
  clear hbk
  have hbx : (w.alloc (Obj.cells #[.slice ao N cap] 40)).cell? ⟨w.heap.size, 0, none⟩ = some (.slice ao N cap) := by go_cell
  have hb0 : Below w.heap.size w (w.alloc (Obj.cells #[.slice ao N cap] 40)) := by go_grown
  have hsz : w.heap.size < (w.alloc (Obj.cells #[.slice ao N cap] 40)).heap.size := by simp
  go_enter Try.func36, Try.ntmps36
  go_upto_region 1 with fail
  generalize (w.alloc (Obj.cells #[.slice ao N cap] 40)) = W at *
  have HB0 := Lib.hid hb0
  clear hb0
  go_wp2_with fail
  refine (rhValid_any N cap ao A l c F _ hN (HG.out.keep (HB0.out.mono (Nat.le_refl _)))).mono ?_
  rw [HOK.out]
  rintro e w1 ⟨rfl, hb⟩
  have HB1 := Lib.hid (HB0.out.trans (hb.mono HB0.out.size))
  have hbx1 := (hb.cell (p := ⟨w.heap.size, 0, none⟩) hsz).trans hbx
  have hs1 : w.heap.size < w1.heap.size := by have := hb.size; omega
  clear hb HB0 hbx hsz
  have hbl := HB1.out
  obtain ⟨bb, hbb⟩ : ∃ bb, inB m B N (-1000000) 1000000 = bb := ⟨_, rfl⟩
  have HBB := Lib.hid hbb
  obtain ⟨bc, hbc⟩ : ∃ bc, inB k C N 0 1000 = bc := ⟨_, rfl⟩
  have HBC := Lib.hid hbc
  clear hbb hbc
  cases bk with
  | false =>
    have HE : Hid (lsE N l F m B k C = 60) := Lib.hid (ls_no HOK.out)
    go_wp2_with fail
    refine bodyPost_ret (v := .tuple #[.slice none 0 0, .int .i64 60]) (by simp [results, Try.results36, go_sem, *]) rfl ⟨lsR_no HE.out (by decide), hbl⟩
  | true =>
  have hN5 := (okG_iff.1 HOK.out).1.2
  have hN1 := (okG_iff.1 HOK.out).1.1
  have HF : Hid (∀ i, i < N → ∀ j, j < N → -200 ≤ F i j ∧ F i j ≤ 200) := Lib.hid (fun i hi => ((okG_iff.1 HOK.out).2 i hi).2)
  obtain ⟨i0, hi, hz0, hz1, hz2⟩ := info_parts infoInt
  have HINF := Lib.hid (And.intro hi (And.intro hz0 (And.intro hz1 hz2)))
  clear hi hz0 hz1 hz2 hbl
  go_wp2_with fail
  refine (rIsPhases_any m dap bo B N _ hm (HI.out.keep HB1.out)).mono ?_
  rw [HBB.out]
  rintro e w2 ⟨rfl, hb⟩
  have HB2 := Lib.hid (HB1.out.trans (hb.mono HB1.out.size))
  have hbx2 := (hb.cell (p := ⟨w.heap.size, 0, none⟩) hs1).trans hbx1
  have hs2 : w.heap.size < w2.heap.size := by have := hb.size; omega
  clear hb HB1 hbx1 hs1
  cases bb with
  | false =>
    have HE : Hid (lsE N l F m B k C = 2) := Lib.hid (ls_arg HOK.out (by rw [HBB.out]; rfl))
    have hbl := HB2.out
    go_wp2_with fail
    refine bodyPost_ret (v := .tuple #[.slice none 0 0, .int .i64 2]) (by simp [results, Try.results36, go_sem, *]) rfl ⟨lsR_no HE.out (by decide), hbl⟩
  | true =>
  go_wp2_with fail
  refine (rIsPowers_any k fap co C N _ hk (HJ.out.keep HB2.out)).mono ?_
  rw [HBC.out]
  rintro e w3 ⟨rfl, hb⟩
  have HB3 := Lib.hid (HB2.out.trans (hb.mono HB2.out.size))
  have hbx3 := (hb.cell (p := ⟨w.heap.size, 0, none⟩) hs2).trans hbx2
  have hs3 : w.heap.size < w3.heap.size := by have := hb.size; omega
  clear hb HB2 hbx2 hs2
  cases bc with
  | false =>
    have HE : Hid (lsE N l F m B k C = 2) := Lib.hid (ls_arg HOK.out (by rw [HBB.out, HBC.out]; rfl))
    have hbl := HB3.out
    go_wp2_with fail
    refine bodyPost_ret (v := .tuple #[.slice none 0 0, .int .i64 2]) (by simp [results, Try.results36, go_sem, *]) rfl ⟨lsR_no HE.out (by decide), hbl⟩
  | true =>
  have HE : Hid (lsE N l F m B k C = 0) := Lib.hid (ls_ok HOK.out (by rw [HBB.out, HBC.out]; rfl))
  have HBI : Hid (∀ j, j < N → -1000000 ≤ B j ∧ B j ≤ 1000000) := Lib.hid (fun j hj => (inB_iff.1 HBB.out).2 j (by have := (inB_iff.1 HBB.out).1; omega))
  have HCI : Hid (∀ j, j < N → 0 ≤ C j ∧ C j ≤ 1000) := Lib.hid (fun j hj => (inB_iff.1 HBC.out).2 j (by have := (inB_iff.1 HBC.out).1; omega))
  have hmN : N = m := by have := (inB_iff.1 HBB.out).1; omega
  have hkN : N = k := by have := (inB_iff.1 HBC.out).1; omega
  subst hmN
  subst hkN
  clear hm hk
  go_wp2_with fail
  go_loopw [9, 10] (fun ov iv wr => ∃ (V : Value) (z : Int) (i : Nat), V = ov ∧ iv = .int .i64 z ∧ z = i ∧ i ≤ N ∧ Hid (wr.ownsRow (w.heap.size + 1) 3 1 V i (cellsI (ofL N F B C) i)) ∧ Hid (Below w.heap.size w wr) ∧ wr.cell? ⟨w.heap.size, 0, none⟩ = some (.slice ao N cap) ∧ w.heap.size < wr.heap.size) (fun _ iv _ => N - (intOf iv).toNat)
  case atStart => exact ⟨_, 0, 0, rfl, rfl, by omega, by omega, Lib.hid (World.ownsRow_nil _ _ _ _), HB3, hbx3, hs3⟩
  case round =>
    obtain ⟨V, z, i, rfl, rfl, hz, hi, HO, HB, hbxr, hsw⟩ := hrel
    by_cases hlt : i < N
    · have hlt' : z < (N : Int) := by omega
      subst hz
      have i00 : (0 : Int) ≤ (i : Int) := by omega
      have wz : wrap64 ((i : Int) + 1) = (i : Int) + 1 := by simp only [wrap64]; omega
      clear HB3 hbx3 hs3
      obtain ⟨b, o, rfl, hcell⟩ := HI.out (by omega)
      have hbw : b < w.heap.size := World.block_lt_of_cell? _ _ (hcell i hlt)
      have g0 := (HB.out.cell (p := ⟨b, o + i, none⟩) hbw).trans (hcell i hlt)
      have hbz := World.block_lt_of_cell? _ _ g0
      have hb1 := HBI.out i hlt
      have hb2 := he_bd (F := F) (i := i) (HF.out i hlt) HCI.out
      obtain ⟨x, hx⟩ : ∃ x, B i = x := ⟨_, rfl⟩
      obtain ⟨t, ht⟩ : ∃ t, heT F C i N = t := ⟨_, rfl⟩
      have HtT := Lib.hid ht
      have HtX := Lib.hid hx
      rw [hx] at g0 hb1
      rw [ht] at hb2
      have HK : Hid (∀ w', Below wr.heap.size wr w' → w'.cell? ⟨b, o + i, none⟩ = some (.int .i64 x) ∧ w'.cell? ⟨w.heap.size, 0, none⟩ = some (.slice ao N cap)) := Lib.hid (fun w' hb => ⟨(hb.cell (p := ⟨b, o + i, none⟩) hbz).trans g0, (hb.cell (p := ⟨w.heap.size, 0, none⟩) hsw).trans hbxr⟩)
      have v1 : IntKind.i64.wrap (t - x) = t - x := by clear wz; go_arith
      have HV := Lib.hid v1
      have HQ : Hid (ofL N F B C i = t - x) := Lib.hid (by unfold ofL; rw [hx, ht])
      clear hcell g0 hx ht hb1 hb2 hbz v1
      go_upto_region 10 with fail
      refine wp_region_held_drew (S := fun w' => w'.cell? ⟨b, o + i, none⟩ = some (.int .i64 x) ∧ w'.cell? ⟨w.heap.size, 0, none⟩ = some (.slice ao N cap)) (by kernel_rfl) (HK.out _ ((Below.refl _ _).drew)) (fun hHeld => ?_)
      refine wpAnyH_take (i := 0) (oi := _) (v := ?_) rfl (by kernel_rfl) (by kernel_rfl) (by kernel_rfl) (fun _ _ _ h => h) (Or.inl ⟨by rfl, ?_⟩) (by assumption) ?_
      rotate_left
      · intro w hSw; obtain ⟨_, _⟩ := hSw; go_simp; (try with_reducible rfl)
      try change wpAnyH _ _ _ _ _ _ _ (Act.put _ (some 32) _) _
      try simp only [act_all]
      refine wpAnyH_take (i := 1) (oi := _) (v := ?_) rfl (by kernel_rfl) (by kernel_rfl) (by kernel_rfl) (fun _ _ _ h => h) (Or.inl ⟨by rfl, ?_⟩) (by assumption) ?_
      rotate_left
      · intro w hSw; obtain ⟨_, _⟩ := hSw; go_simp; (try with_reducible rfl)
      try change wpAnyH _ _ _ _ _ _ _ (Act.put _ (some 33) _) _
      try simp only [act_all]
      refine wpAnyH_take (i := 2) (oi := _) (v := ?_) rfl (by kernel_rfl) (by kernel_rfl) (by kernel_rfl) (fun _ _ _ h => h) (Or.inl ⟨by rfl, ?_⟩) (by assumption) ?_
      rotate_left
      · intro w hSw; obtain ⟨_, _⟩ := hSw; go_simp; (try with_reducible rfl)
      try change wpAnyH _ _ _ _ _ _ _ (Act.put _ (some 34) _) _
      try simp only [act_all]
      refine wpAnyH_take (i := 3) (oi := _) (v := ?_) rfl (by kernel_rfl) (by kernel_rfl) (by kernel_rfl) (fun _ _ _ h => h) (Or.inl ⟨by rfl, ?_⟩) (by assumption) ?_
      rotate_left
      · intro w hSw; obtain ⟨_, _⟩ := hSw; go_simp; (try with_reducible rfl)
      try change wpAnyH _ _ _ _ _ _ _ (Act.put _ (some 35) _) _
      try simp only [act_all]
      refine wpAnyH_take (i := 5) (oi := _) (v := ?_) rfl (by kernel_rfl) (by kernel_rfl) (by kernel_rfl) (fun _ _ _ h => h) (Or.inl ⟨by rfl, ?_⟩) (by assumption) ?_
      rotate_left
      · intro w hSw; obtain ⟨_, _⟩ := hSw; go_simp; (try with_reducible rfl)
      try change wpAnyH _ _ _ _ _ _ _ (Act.put _ (some 37) _) _
      try simp only [act_all]
      refine wpAnyH_take (i := 6) (oi := _) (v := ?_) rfl (by kernel_rfl) (by kernel_rfl) (by kernel_rfl) (fun _ _ _ h => h) (Or.inl ⟨by rfl, ?_⟩) (by assumption) ?_
      rotate_left
      · intro w hSw; obtain ⟨_, _⟩ := hSw; go_simp; (try with_reducible rfl)
      try change wpAnyH _ _ _ _ _ _ _ (Act.put _ (some 38) _) _
      try simp only [act_all]
      refine wpAnyH_take (i := 7) (oi := _) (v := ?_) rfl (by kernel_rfl) (by kernel_rfl) (by kernel_rfl) (fun _ _ _ h => h) (Or.inl ⟨by rfl, ?_⟩) (by assumption) ?_
      rotate_left
      · intro w hSw; obtain ⟨_, _⟩ := hSw; go_simp; (try with_reducible rfl)
      try change wpAnyH _ _ _ _ _ _ _ (Act.put _ (some 39) _) _
      try simp only [act_all]
      refine wpAnyH_take (i := 8) (oi := _) (v := ?_) rfl (by kernel_rfl) (by kernel_rfl) (by kernel_rfl) (fun _ _ _ h => h) (Or.inl ⟨by rfl, ?_⟩) (by assumption) ?_
      rotate_left
      · intro w hSw; obtain ⟨_, _⟩ := hSw; go_simp; (try with_reducible rfl)
      try change wpAnyH _ _ _ _ _ _ _ (Act.put _ (some 40) _) _
      try simp only [act_all]
      refine wpAnyH_ready (rs := [4]) (by kernel_rfl) (by simp) ?_
      refine AllReadyH.cons (o := _) rfl (fun K hK => ?_) AllReadyH.nil
      go_simp
      refine (rHeated_any N cap ao A l c F i fap co C _ (HG.out.keep (HB.out.drew.mono (Nat.le_refl _))) HOK.out hlt (HJ.out.keep (HB.out.drew.mono (Nat.le_refl _))) HCI.out).mono ?_
      rw [HtT.out]
      rintro e v1 ⟨rfl, hb⟩
      have D1 : Below wr.heap.size wr v1 := (Below.refl _ _).drew.trans hb
      clear hb
      refine hK.out _ _ (HK.out _ D1) (fun hHeld => ?_)
      clear hK K
      try simp only [act_all]
      refine wpAnyH_take (i := 9) (oi := _) (v := ?_) rfl (by kernel_rfl) (by kernel_rfl) (by kernel_rfl) (fun _ _ _ h => h) (Or.inl ⟨by rfl, ?_⟩) (by assumption) ?_
      rotate_left
      · intro w hSw; obtain ⟨_, _⟩ := hSw; go_simp; (try with_reducible rfl)
      try change wpAnyH _ _ _ _ _ _ _ (Act.put _ (some 41) _) _
      try simp only [act_all]
      refine wpAnyH_ready (rs := [10]) (by kernel_rfl) (by simp) ?_
      refine AllReadyH.cons (o := _) rfl (fun K hK => ?_) AllReadyH.nil
      try simp only [HV.out]
      go_simp
      have D2 : Below wr.heap.size wr (v1.alloc (Obj.cells #[.int .i64 (t - x)] 3)) := bal D1 _
      refine hK.out _ _ (HK.out _ D2) (fun hHeld => ?_)
      clear hK K
      try simp only [act_all]
      refine wpAnyH_ready (rs := [11]) (by kernel_rfl) (by simp) ?_
      refine AllReadyH.cons (o := _) rfl (fun K hK => ?_) AllReadyH.nil
      refine step_append_lies _ (by rfl) _ _ 24 (by rfl) (w.heap.size + 1) 3 i0 _ 1 8 Try.underlying24 HINF.out.1 HINF.out.2.1 HINF.out.2.2.1 HINF.out.2.2.2 (by rfl) (by decide) V i (cellsI (ofL N F B C) i) (by rfl) ((own_below' HO.out D1).alloc _) ⟨v1.heap.size, 0, none⟩ 1 1 [.int .i64 (t - x)] (by rfl) (by rfl) (fun j u hu => World.news_of_block (cs := #[.int .i64 (t - x)]) (heap_new v1 _) j u hu) (by intro u hu; simp only [List.mem_cons, List.not_mem_nil, or_false] at hu; subst hu; rfl) (by omega) (by unfold maxLen; omega) (by omega) (by have := HB.out.size; have := D1.size; simp; omega) _ rfl ?_
      intro g' cap' w5 hown' hgrow _ hlg
      have hltk := HO.out.lt
      have HO5 : Hid (w5.ownsRow (w.heap.size + 1) 3 1 (.slice (some ⟨g', 0, none⟩) (i + 1) cap') (i + 1) (cellsI (ofL N F B C) (i + 1))) := Lib.hid (by rw [cellsI_succ, HQ.out]; exact hown')
      have hbv := HB.out.trans (D1.mono HB.out.size)
      have HB5 : Hid (Below w.heap.size w w5) := Lib.hid (Below.grown (hbv.alloc hbv.size _) hgrow (by have := hbv.size; simp; omega) (fun q hq => Nat.le_of_succ_le (hltk q hq).1))
      have hc5 := HK.out _ D2
      have hbx5 : w5.cell? ⟨w.heap.size, 0, none⟩ = some (.slice ao N cap) := farc hgrow hc5.2 (fun e => Nat.not_succ_le_self _ (hltk _ e.symm).1)
      have hs5 : w.heap.size < w5.heap.size := World.block_lt_of_cell? _ _ hbx5
      have hb5 : w5.cell? ⟨b, o + i, none⟩ = some (.int .i64 x) := farc hgrow hc5.1 (fun e => absurd (hltk _ e.symm).1 (by simp only; omega))
      refine hK.out _ _ ⟨hb5, hbx5⟩ (fun hHeld => ?_)
      clear hK K
      try simp only [act_all]
      refine wpAnyH_take (i := 12) (oi := _) (v := ?_) rfl (by kernel_rfl) (by kernel_rfl) (by kernel_rfl) (fun _ _ _ h => h) (Or.inl ⟨by rfl, ?_⟩) (by assumption) ?_
      rotate_left
      · intro w hSw; obtain ⟨_, _⟩ := hSw; go_simp; (try with_reducible rfl)
      try change wpAnyH _ _ _ _ _ _ _ (Act.put _ (some 9) _) _
      try simp only [act_all]
      refine wpAnyH_done (by kernel_rfl) ?_ _
      clear hHeld HK HO HB hbxr hsw D1 D2 hown' hgrow hltk hbv hc5 hb5 HV HQ
      go_wp2_with fail
      go_roundw
      case rel => exact ⟨_, (i : Int) + 1, i + 1, rfl, by first | rfl | rw [wz], by omega, by omega, HO5, HB5, hbx5, hs5⟩
      case measure => first | (simp [intOf]; done) | (simp [intOf]; omega)
    · obtain rfl : i = N := by omega
      subst hz
      obtain ⟨g', cap', rfl, hgB, hgs, _, _⟩ := own_fm HO.out hN1
      have HW : Hid (Intw wr g' i (ofL i F B C)) := Lib.hid (Intw.of_own HO.out fun q hq => cellsI_get _ hq)
      have hbl := HB.out
      clear HO HB HB3 hbx3 hs3
      go_wp2_with fail
      refine bodyPost_ret (v := .tuple #[.slice (some ⟨g', 0, none⟩) i cap', .int .i64 0]) (by simp [results, Try.results36, go_sem]) rfl ⟨lsR_ok HE.out HW.out, hbl⟩
end Go.Proofs.Ytdhlikedjephmaa
