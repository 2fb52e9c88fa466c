import Derived.Test.YtdhlikedjephmaaRi6
import Derived.Test.YtdhlikedjephmaaHw
namespace Go.Proofs.Ytdhlikedjephmaa
open Go.RowKit Heat
theorem hDet_any (N cap : Nat) (ao : Option Addr) (A : Nat → Option Addr) (l c : Nat → Nat) (F : Nat → Nat → Int) (w : World) (hN : N ≤ 9223372036854775807) (hR : Rowsw w ao N A l c F) :
    Calls Try.prog 37 #[.agg #[.slice ao N cap]] w fun e w' => e = .returned (.tuple #[.int .i64 (dtV N l F), .int .i64 (dtE N l F)]) ∧ Below w.heap.size w w' := by
  cases hok : okG N l F with
  | false =>
    have e1 : dtV N l F = 0 := by unfold dtV; rw [hok]; rfl
    have e2 : dtE N l F = 60 := by unfold dtE; rw [hok]; rfl
    rw [e1, e2]
    exact hDet_no N cap ao A l c F w hN hR hok
  | true =>
    have hN5 := (okG_iff.1 hok).1.2
    have e1 : dtV N l F = detN N (gnL N N F) := by unfold dtV; rw [hok, if_pos rfl]; exact detM_N hN5
    have e2 : dtE N l F = 0 := by unfold dtE; rw [hok]; rfl
    rw [e1, e2]
    exact hDet_ok N cap ao A l c F w hN hR hok
theorem hInverse_any (N cap : Nat) (ao : Option Addr) (A : Nat → Option Addr) (l c : Nat → Nat) (F : Nat → Nat → Int) (w : World) (hN : N ≤ 9223372036854775807) (hR : Rowsw w ao N A l c F) :
    Calls Try.prog 41 #[.agg #[.slice ao N cap]] w fun e w' => InR w' e N l F ∧ Below w.heap.size w w' := by
  cases hok : okG N l F with
  | false => exact hInverse_no N cap ao A l c F w hN hR hok
  | true => exact hInverse_ok N cap ao A l c F w hN hR hok
theorem Ratm.keep {w w1 : World} {ao : Option Addr} {n : Nat} {P Q : Nat → Nat → Int} (h : Ratm w ao n P Q) (hb : Below w.heap.size w w1) : Ratm w1 ao n P Q := by
  intro hn
  obtain ⟨b, o, e, hc⟩ := h hn
  refine ⟨b, o, e, fun i hi => ?_⟩
  obtain ⟨so, cap, h1, h2⟩ := hc i hi
  exact ⟨so, cap, (hb.cell (p := ⟨b, o + i, none⟩) (World.block_lt_of_cell? w _ h1)).trans h1, h2.keep hb⟩
set_option maxRecDepth 100000 in
set_option maxHeartbeats 16000000 in
theorem HeatSolves_any (N cap : Nat) (ao : Option Addr) (A : Nat → Option Addr) (l c : Nat → Nat) (F : Nat → Nat → Int) (m dap : Nat) (bo : Option Addr) (C : Nat → Int) (w : World) (hN : N ≤ 9223372036854775807) (hR : Rowsw w ao N A l c F) (hm : m ≤ 9223372036854775807) (hI : Ints w bo m C) :
    Calls Try.prog 9 #[.agg #[.slice ao N cap], .slice bo m dap] w fun e w' => e = .returned (.bool true) ∧ Below w.heap.size w w' := by
  have c0 : (w.alloc (Obj.cells #[.slice ao N cap] 40)).cell? ⟨w.heap.size, 0, none⟩ = some (.slice ao N cap) := by go_cell
  have hb0 : Below w.heap.size w (w.alloc (Obj.cells #[.slice ao N cap] 40)) := by go_grown
  have hsz : w.heap.size < (w.alloc (Obj.cells #[.slice ao N cap] 40)).heap.size := by simp
  have HR := Lib.hid (hR.keep hb0)
  have HI := Lib.hid (hI.keep hb0)
  clear hR hI
  go_enter Try.func9, Try.ntmps9
  go_upto_region 1 with fail
  generalize (w.alloc (Obj.cells #[.slice ao N cap] 40)) = W at *
  have HB0 := Lib.hid hb0
  have HK : Hid (∀ w', Below W.heap.size W w' → w'.cell? ⟨w.heap.size, 0, none⟩ = some (.slice ao N cap)) := Lib.hid (fun w' hb => (hb.cell (p := ⟨w.heap.size, 0, none⟩) hsz).trans c0)
  clear hb0
  go_wp2_with fail
  refine (wide_any N cap ao A l c F _ hN HR.out).mono ?_
  obtain ⟨t, ht⟩ : ∃ t, wideG N l = t := ⟨_, rfl⟩
  rw [ht]
  clear ht
  rintro e w1 ⟨rfl, hb⟩
  have HB1 := Lib.hid hb
  clear hb c0
  cases t with
  | true =>
    have hbl := HB0.out.trans (HB1.out.mono HB0.out.size)
    go_wp2_with fail
    refine (sane_any _).mono ?_
    rintro e wz ⟨rfl, hb⟩
    have DZ := hbl.trans (hb.mono hbl.size)
    clear hb hbl
    go_wp2_with fail
    go_returns
    exact ⟨rfl, DZ⟩
  | false =>
  by_cases h20 : 20 < (m : Int)
  · have hbl := HB0.out.trans (HB1.out.mono HB0.out.size)
    go_wp2_with fail
    refine (sane_any _).mono ?_
    rintro e wz ⟨rfl, hb⟩
    have DZ := hbl.trans (hb.mono hbl.size)
    clear hb hbl
    go_wp2_with fail
    go_returns
    exact ⟨rfl, DZ⟩
  obtain ⟨x, hx⟩ : ∃ x, dtV N l F = x := ⟨_, rfl⟩
  obtain ⟨y, hy⟩ : ∃ y, dtE N l F = y := ⟨_, rfl⟩
  obtain ⟨z, hz⟩ : ∃ z, soE N l F m C = z := ⟨_, rfl⟩
  obtain ⟨u, hu⟩ : ∃ u, inE N l F = u := ⟨_, rfl⟩
  have HV := Lib.hid (And.intro hx (And.intro hy (And.intro hz hu)))
  obtain ⟨p, hp⟩ : ∃ p, (if z = 0 then N else 0) = p := ⟨_, rfl⟩
  obtain ⟨q, hq⟩ : ∃ q, (if u = 0 then N else 0) = q := ⟨_, rfl⟩
  have hpN : p ≤ N := by rw [← hp]; split <;> omega
  have hqN : q ≤ N := by rw [← hq]; split <;> omega
  have HPQ := Lib.hid (And.intro hp hq)
  have xx : (x != x) = false := by simp
  have yy : (y != y) = false := by simp
  have zz : (z != z) = false := by simp
  have uu : (u != u) = false := by simp
  have qq : ((q : Int) != (q : Int)) = false := by simp
  have cl1 := HK.out _ HB1.out
  clear hx hy hz hu hp hq
  go_wp2_with fail
  refine (hDet_any N cap ao A l c F _ hN (HR.out.keep HB1.out)).mono ?_
  rw [HV.out.1, HV.out.2.1]
  rintro e w2 ⟨rfl, hb⟩
  have HB2 := Lib.hid (HB1.out.trans (hb.mono HB1.out.size))
  clear hb HB1 cl1
  have cl2 := HK.out _ HB2.out
  go_wp2_with fail
  refine (rDet_any N cap ao A l c F _ hN (HR.out.keep HB2.out)).mono ?_
  rw [HV.out.1, HV.out.2.1]
  rintro e w3 ⟨rfl, hb⟩
  have HB3 := Lib.hid (HB2.out.trans (hb.mono HB2.out.size))
  clear hb HB2 cl2
  have cl3 := HK.out _ HB3.out
  go_wp2_with fail
  refine (hSolve_any N cap ao A l c F m dap bo C _ hN (HR.out.keep HB3.out) hm (HI.out.keep HB3.out)).mono ?_
  unfold SoR
  rw [HV.out.2.2.1, HPQ.out.1]
  rintro e w4 ⟨⟨a4, d4, rfl, h4⟩, hb⟩
  have HS4 := Lib.hid h4
  have HB4 := Lib.hid (HB3.out.trans (hb.mono HB3.out.size))
  clear hb HB3 cl3 h4
  have cl4 := HK.out _ HB4.out
  go_wp2_with fail
  refine (rSolve_any N cap ao A l c F m dap bo C _ hN (HR.out.keep HB4.out) hm (HI.out.keep HB4.out)).mono ?_
  unfold SoR
  rw [HV.out.2.2.1, HPQ.out.1]
  rintro e w5 ⟨⟨a5, d5, rfl, h5⟩, hb⟩
  have HS5 := Lib.hid h5
  have HS45 := Lib.hid (HS4.out.keep hb)
  have HB5 := Lib.hid (HB4.out.trans (hb.mono HB4.out.size))
  clear hb HB4 cl4 h5 HS4
  have cl5 := HK.out _ HB5.out
  go_wp2_with fail
  refine (hInverse_any N cap ao A l c F _ hN (HR.out.keep HB5.out)).mono ?_
  unfold InR
  rw [HV.out.2.2.2, HPQ.out.2]
  rintro e w6 ⟨⟨a6, d6, rfl, h6⟩, hb⟩
  have HM6 := Lib.hid h6
  have HS46 := Lib.hid (HS45.out.keep hb)
  have HS56 := Lib.hid (HS5.out.keep hb)
  have HB6 := Lib.hid (HB5.out.trans (hb.mono HB5.out.size))
  clear hb HB5 cl5 h6 HS45 HS5
  have cl6 := HK.out _ HB6.out
  go_wp2_with fail
  refine (rInverse_any N cap ao A l c F _ hN (HR.out.keep HB6.out)).mono ?_
  unfold InR
  rw [HV.out.2.2.2, HPQ.out.2]
  rintro e w7 ⟨⟨a7, d7, rfl, h7⟩, hb⟩
  have HM7 := Lib.hid h7
  have HM67 := Lib.hid (HM6.out.keep hb)
  have HS47 := Lib.hid (HS46.out.keep hb)
  have HS57 := Lib.hid (HS56.out.keep hb)
  have HB7 := Lib.hid (HB6.out.trans (hb.mono HB6.out.size))
  clear hb HB6 cl6 h7 HS46 HS56 HM6
  go_wp2_with fail
  refine (sameRatios_yes p d4 d5 a4 a5 (soP N F C) (soQ N F C) _ (by omega) HS47.out HS57.out).mono ?_
  rintro e w8 ⟨rfl, hb⟩
  have HM8 := Lib.hid (HM7.out.keep hb)
  have HM68 := Lib.hid (HM67.out.keep hb)
  have HB8 := Lib.hid (HB7.out.trans (hb.mono HB7.out.size))
  clear hb HB7 HS47 HS57 HM7 HM67
  go_wp2_with fail
  go_loopw [17] (fun iv wr => ∃ (y : Int) (r : Nat), iv = .int .i64 y ∧ y = r ∧ r ≤ q ∧ Hid (Below w8.heap.size w8 wr)) (fun iv _ => q - (intOf iv).toNat)
  case atStart => exact ⟨0, 0, rfl, rfl, by omega, Lib.hid (Below.refl _ _)⟩
  case round =>
    obtain ⟨y', r, rfl, hy, hr, HB⟩ := hrel
    by_cases hlt : r < q
    · have hlt' : y' < (q : Int) := by omega
      subst hy
      have hq5 : q = N := by have h := HPQ.out.2; split at h <;> omega
      have r00 : (0 : Int) ≤ (r : Int) := by omega
      obtain ⟨b1, o1, rfl, hc1⟩ := (HM68.out.keep HB.out) (by omega)
      obtain ⟨b2, o2, rfl, hc2⟩ := (HM8.out.keep HB.out) (by omega)
      obtain ⟨s1, k1, e1, t1⟩ := hc1 r hlt
      obtain ⟨s2, k2, e2, t2⟩ := hc2 r hlt
      have HT1 := Lib.hid t1
      have HT2 := Lib.hid t2
      have hr63 : (r : Int) ≤ 9223372036854775806 := by omega
      have HS0 : Hid (wr.drew.cell? ⟨b1, o1 + r, none⟩ = some (.slice s1 q k1) ∧ wr.drew.cell? ⟨b2, o2 + r, none⟩ = some (.slice s2 q k2)) := Lib.hid ⟨e1, e2⟩
      clear hc1 hc2 t1 t2 e1 e2 hq5
      go_upto_region 14 with fail
      refine wp_region_held_drew (S := fun w' => w'.cell? ⟨b1, o1 + r, none⟩ = some (.slice s1 q k1) ∧ w'.cell? ⟨b2, o2 + r, none⟩ = some (.slice s2 q k2)) (by kernel_rfl) HS0.out (fun hHeld => ?_)
      refine wpAnyH_take (i := 0) (oi := _) (v := ?_) rfl (by kernel_rfl) (by kernel_rfl) (by kernel_rfl) (fun _ _ _ h => h) (Or.inl ⟨by rfl, ?_⟩) (by assumption) ?_
      rotate_left
      · intro w hSw; obtain ⟨_, _⟩ := hSw; go_simp; (try with_reducible rfl)
      try change wpAnyH _ _ _ _ _ _ _ (Act.put _ (some 95) _) _
      try simp only [act_all]
      refine wpAnyH_take (i := 1) (oi := _) (v := ?_) rfl (by kernel_rfl) (by kernel_rfl) (by kernel_rfl) (fun _ _ _ h => h) (Or.inl ⟨by rfl, ?_⟩) (by assumption) ?_
      rotate_left
      · intro w hSw; obtain ⟨_, _⟩ := hSw; go_simp; (try with_reducible rfl)
      try change wpAnyH _ _ _ _ _ _ _ (Act.put _ (some 96) _) _
      try simp only [act_all]
      refine wpAnyH_take (i := 2) (oi := _) (v := ?_) rfl (by kernel_rfl) (by kernel_rfl) (by kernel_rfl) (fun _ _ _ h => h) (Or.inl ⟨by rfl, ?_⟩) (by assumption) ?_
      rotate_left
      · intro w hSw; obtain ⟨_, _⟩ := hSw; go_simp; (try with_reducible rfl)
      try change wpAnyH _ _ _ _ _ _ _ (Act.put _ (some 97) _) _
      try simp only [act_all]
      refine wpAnyH_take (i := 3) (oi := _) (v := ?_) rfl (by kernel_rfl) (by kernel_rfl) (by kernel_rfl) (fun _ _ _ h => h) (Or.inl ⟨by rfl, ?_⟩) (by assumption) ?_
      rotate_left
      · intro w hSw; obtain ⟨_, _⟩ := hSw; go_simp; (try with_reducible rfl)
      try change wpAnyH _ _ _ _ _ _ _ (Act.put _ (some 98) _) _
      try simp only [act_all]
      refine wpAnyH_take (i := 4) (oi := _) (v := ?_) rfl (by kernel_rfl) (by kernel_rfl) (by kernel_rfl) (fun _ _ _ h => h) (Or.inl ⟨by rfl, ?_⟩) (by assumption) ?_
      rotate_left
      · intro w hSw; obtain ⟨_, _⟩ := hSw; go_simp; (try with_reducible rfl)
      try change wpAnyH _ _ _ _ _ _ _ (Act.put _ (some 99) _) _
      try simp only [act_all]
      refine wpAnyH_take (i := 5) (oi := _) (v := ?_) rfl (by kernel_rfl) (by kernel_rfl) (by kernel_rfl) (fun _ _ _ h => h) (Or.inl ⟨by rfl, ?_⟩) (by assumption) ?_
      rotate_left
      · intro w hSw; obtain ⟨_, _⟩ := hSw; go_simp; (try with_reducible rfl)
      try change wpAnyH _ _ _ _ _ _ _ (Act.put _ (some 100) _) _
      try simp only [act_all]
      refine wpAnyH_take (i := 6) (oi := _) (v := ?_) rfl (by kernel_rfl) (by kernel_rfl) (by kernel_rfl) (fun _ _ _ h => h) (Or.inl ⟨by rfl, ?_⟩) (by assumption) ?_
      rotate_left
      · intro w hSw; obtain ⟨_, _⟩ := hSw; go_simp; (try with_reducible rfl)
      try change wpAnyH _ _ _ _ _ _ _ (Act.put _ (some 101) _) _
      try simp only [act_all]
      refine wpAnyH_take (i := 7) (oi := _) (v := ?_) rfl (by kernel_rfl) (by kernel_rfl) (by kernel_rfl) (fun _ _ _ h => h) (Or.inl ⟨by rfl, ?_⟩) (by assumption) ?_
      rotate_left
      · intro w hSw; obtain ⟨_, _⟩ := hSw; go_simp; (try with_reducible rfl)
      try change wpAnyH _ _ _ _ _ _ _ (Act.put _ (some 102) _) _
      try simp only [act_all]
      refine wpAnyH_ready (rs := [8]) (by kernel_rfl) (by simp) ?_
      refine AllReadyH.cons (o := _) rfl (fun K hK => ?_) AllReadyH.nil
      go_simp
      refine (sameRatios_yes q k1 k2 s1 s2 _ _ _ (by omega) (HT1.out.keep (Below.refl _ _).drew) (HT2.out.keep (Below.refl _ _).drew)).mono ?_
      rintro e w9 ⟨rfl, hb⟩
      have HB9 : Hid (Below w8.heap.size w8 w9) := Lib.hid (HB.out.trans ((((Below.refl wr.heap.size wr).drew).trans hb).mono HB.out.size))
      refine hK.out _ _ ⟨(hb.cell (p := ⟨b1, o1 + r, none⟩) (World.block_lt_of_cell? _ _ HS0.out.1)).trans HS0.out.1, (hb.cell (p := ⟨b2, o2 + r, none⟩) (World.block_lt_of_cell? _ _ HS0.out.2)).trans HS0.out.2⟩ (fun hHeld => ?_)
      clear hK K
      try simp only [act_all]
      clear hb
      refine wpAnyH_take (i := 9) (oi := _) (v := ?_) rfl (by kernel_rfl) (by kernel_rfl) (by kernel_rfl) (fun _ _ _ h => h) (Or.inl ⟨by rfl, ?_⟩) (by assumption) ?_
      rotate_left
      · intro w hSw; obtain ⟨_, _⟩ := hSw; go_simp; (try with_reducible rfl)
      try change wpAnyH _ _ _ _ _ _ _ (Act.put _ (some 104) _) _
      try simp only [act_all]
      refine wpAnyH_done (by kernel_rfl) ?_ _
      clear hHeld HS0 HT1 HT2 HB
      go_wp2_with fail
      go_roundw
      case rel => exact ⟨(r : Int) + 1, r + 1, by first | rfl | (rw [show wrap64 ((r : Int) + 1) = (r : Int) + 1 by simp only [wrap64]; omega]), by omega, by omega, HB9⟩
      case measure => first | (simp [intOf]; done) | (simp [intOf]; omega)
    · have hyn : ¬ y' < (q : Int) := by omega
      obtain rfl : r = q := by omega
      subst hy
      have hbl := HB0.out.trans ((HB8.out.trans (HB.out.mono HB8.out.size)).mono HB0.out.size)
      clear HB HB8 HM8 HM68
      go_wp2_with fail
      refine (sane_any _).mono ?_
      rintro e wz ⟨rfl, hb⟩
      have DZ := hbl.trans (hb.mono hbl.size)
      clear hb hbl
      go_wp2_with fail
      go_returns
      exact ⟨rfl, DZ⟩
end Go.Proofs.Ytdhlikedjephmaa
