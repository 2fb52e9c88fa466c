import Derived.Test.YtfilofnkiocbeaaAz8
import Derived.Test.YtfilofnkiocbeaaQf8
namespace Go.Proofs.Ytfilofnkiocbeaa
open Go.RowKit Ben Prm
set_option maxRecDepth 100000 in
set_option maxHeartbeats 4000000 in
theorem BenesSets_any (n cap : Nat) (ao : Option Addr) (f : Nat → Int) (w : World) (hn : n ≤ 9223372036854775807) (hc : Ints w ao n f) :
    Calls Try.prog 6 #[.slice ao n cap] w fun e w' => e = .returned (.bool true) ∧ Below w.heap.size w w' := by
  have HC := Lib.hid hc
  clear hc
  by_cases h40 : 40 < (n : Int)
  · go_enter Try.func6, Try.ntmps6
    go_wp2_with fail
    refine (sane_any _).mono ?_
    rintro e w1 ⟨rfl, hb⟩
    go_wp2_with fail
    go_returns
    exact ⟨rfl, hb⟩
  have h40' : (n : Int) ≤ 40 := by omega
  cases h1 : isPm n f
  · have H1 := Lib.hid h1
    clear h1
    go_enter Try.func6, Try.ntmps6
    go_wp2_with fail
    refine (pSettings_no n cap ao f _ hn HC.out H1.out).mono ?_
    rintro e w1 ⟨rfl, hb⟩
    have HB := Lib.hid hb
    have HC1 := Lib.hid (HC.out.keep hb)
    clear hb
    go_wp2_with fail
    refine (rIsPerm_any n cap ao f _ hn HC1.out).mono ?_
    rw [H1.out]
    rintro e w2 ⟨rfl, hb⟩
    have HB2 := Lib.hid (HB.out.trans (hb.mono HB.out.size))
    clear hb
    go_wp2_with fail
    refine (sane_any _).mono ?_
    rintro e wz ⟨rfl, hb⟩
    have DZ := HB2.out.trans (hb.mono HB2.out.size)
    clear hb
    go_wp2_with fail
    go_returns
    exact ⟨rfl, DZ⟩
  have H1 := Lib.hid h1
  have hcb : cn (lv (n : Int)) ≤ 80 := by
    obtain ⟨k, hk, _, hlv, _⟩ := pm_of h1
    rw [hlv]
    have : k = 0 ∨ k = 1 ∨ k = 2 ∨ k = 3 := by omega
    rcases this with rfl | rfl | rfl | rfl <;> decide
  obtain ⟨c, hcn⟩ : ∃ c, cn (lv (n : Int)) = c := ⟨_, rfl⟩
  rw [hcn] at hcb
  have HCN := Lib.hid hcn
  have HN := Lib.hid (And.intro hn hcb)
  clear h1 hcb hcn hn
  go_enter Try.func6, Try.ntmps6
  go_wp2_with fail
  refine (pSettings_ok n cap ao f _ HN.out.1 HC.out H1.out).mono ?_
  rintro e w1 ⟨⟨b1, c1, s1, rfl, _, _, hBl, hout⟩, hb⟩
  rw [HCN.out] at hBl ⊢
  have HB := Lib.hid hb
  have HC1 := Lib.hid (HC.out.keep hb)
  have HBL := Lib.hid hBl
  have HSD := Lib.hid (sdV_yes (m := c) H1.out HCN.out.symm hout)
  clear hb hBl hout
  go_wp2_with fail
  refine (rIsPerm_any n cap ao f _ HN.out.1 HC1.out).mono ?_
  rw [H1.out]
  rintro e w2 ⟨rfl, hb⟩
  have HB2 := Lib.hid (HB.out.trans (hb.mono HB.out.size))
  have HC2 := Lib.hid (HC1.out.keep hb)
  have HBL2 := Lib.hid (HBL.out.keep hb)
  clear hb HC1 HBL HB
  go_wp2_with fail
  refine (rSends_any n cap c c1 ao (some ⟨b1, 0, none⟩) f s1 _ HN.out.1 HC2.out HN.out.2 HBL2.out.bools).mono ?_
  rw [HSD.out.1, HSD.out.2]
  rintro e w3 ⟨rfl, hb⟩
  have HB3 := Lib.hid (HB2.out.trans (hb.mono HB2.out.size))
  clear hb
  go_wp2_with fail
  refine (sane_any _).mono ?_
  rintro e wz ⟨rfl, hb⟩
  have DZ := HB3.out.trans (hb.mono HB3.out.size)
  clear hb
  go_wp2_with fail
  go_returns
  exact ⟨rfl, DZ⟩
theorem wyV_nat (n m : Nat) (f g : Nat → Int) : ∃ z : Nat, (wyV n m f g).1 = (z : Int) := by
  unfold wyV
  split
  · split
    · exact ⟨_, rfl⟩
    · exact ⟨0, rfl⟩
  · exact ⟨0, rfl⟩
theorem arE_wy {n m : Nat} {f g : Nat → Int} : ((wyV n m f g).2 ≠ 0 → arE n m f g = (wyV n m f g).2) ∧ ((wyV n m f g).2 = 0 → isPm n f = true ∧ m = cn (lv (n : Int)) ∧ arE n m f g = if 0 < (wyV n m f g).1 then 0 else 5) := by
  unfold arE
  cases h1 : isPm n f
  · rw [wyV_perm h1]
    exact ⟨fun _ => rfl, fun h => by cases h⟩
  · cases h2 : (stB g m && decide (m = cn (lv (n : Int))))
    · rw [wyV_no h1 h2]
      exact ⟨fun _ => rfl, fun h => by cases h⟩
    · rw [wyV_ok h1 h2]
      refine ⟨fun h => absurd rfl h, fun _ => ⟨rfl, ?_, ?_⟩⟩
      · rw [Bool.and_eq_true] at h2
        exact of_decide_eq_true h2.2
      · rw [if_pos rfl, if_pos rfl]
        by_cases h3 : 0 < wN (lv (n : Int)) (fun j => (f j).toNat) g
        · rw [if_pos h3, if_pos (by simpa using h3)]
        · rw [if_neg h3, if_neg (by simpa using h3)]
set_option maxRecDepth 100000 in
set_option maxHeartbeats 4000000 in
theorem BenesAround_any (n cap : Nat) (ao : Option Addr) (f : Nat → Int) (m dap : Nat) (bo : Option Addr) (g : Nat → Int) (w : World) (hn : n ≤ 9223372036854775807) (hm1 : m ≤ dap) (hm2 : dap ≤ 9223372036854775807) (hc : Ints w ao n f) (hd : Ints w bo m g) :
    Calls Try.prog 7 #[.slice ao n cap, .slice bo m dap] w fun e w' => e = .returned (.bool true) ∧ Below w.heap.size w w' := by
  have HC := Lib.hid hc
  have HD := Lib.hid hd
  clear hc hd
  by_cases h8 : 8 < (n : Int)
  · go_enter Try.func7, Try.ntmps7
    go_wp2_with fail
    refine (sane_any _).mono ?_
    rintro e w1 ⟨rfl, hb⟩
    go_wp2_with fail
    go_returns
    exact ⟨rfl, hb⟩
  have h8' : (n : Int) ≤ 8 := by omega
  by_cases h80 : 80 < (m : Int)
  · go_enter Try.func7, Try.ntmps7
    go_wp2_with fail
    refine (sane_any _).mono ?_
    rintro e w1 ⟨rfl, hb⟩
    go_wp2_with fail
    go_returns
    exact ⟨rfl, hb⟩
  have h80' : (m : Int) ≤ 80 := by omega
  obtain ⟨v, er, hve⟩ : ∃ v er, wyV n m f g = (v, er) := ⟨_, _, rfl⟩
  have hew := arE_wy (n := n) (m := m) (f := f) (g := g)
  rw [hve] at hew
  simp only at hew
  have HV := Lib.hid hve
  have HM := Lib.hid (And.intro hm1 (And.intro hm2 hn))
  obtain ⟨ar, har⟩ : ∃ ar, arE n m f g = ar := ⟨_, rfl⟩
  rw [har] at hew
  have HEW := Lib.hid hew
  have HAR := Lib.hid har
  clear hve hm1 hm2 hn hew har
  by_cases h0 : er = 0
  · subst h0
    obtain ⟨hpm, hmk, hare⟩ := HEW.out.2 rfl
    have HPM := Lib.hid hpm
    have HMK := Lib.hid hmk
    by_cases hv : 0 < v
    · rw [if_pos hv] at hare
      subst hare
      have hv0 : (v == 0) = false := beq_eq_false_iff_ne.2 (by omega)
      have hvv := Lib.hid hv
      clear hpm hmk hv HEW
      go_enter Try.func7, Try.ntmps7
      go_wp2_with fail
      refine (pAround_any n cap m dap ao bo f g _ HM.out.2.2 (by omega) HM.out.1 HM.out.2.1 HC.out HD.out).mono ?_
      rintro e w1 ⟨⟨a1, l1, c1, rfl, _, hyes⟩, hb⟩
      rw [HAR.out]
      obtain ⟨b3, s3, rfl, rfl, hq1, hq2, hBl, hout, hag⟩ := hyes HAR.out
      have HB := Lib.hid hb
      have HC1 := Lib.hid (HC.out.keep hb)
      have HD1 := Lib.hid (HD.out.keep hb)
      have HBL := Lib.hid hBl
      have HAG := Lib.hid hag
      have HSD := Lib.hid (sdV_yes (m := m) HPM.out HMK.out hout)
      clear hb hyes hq1 hq2 hBl hout hag
      go_wp2_with fail
      refine (rWays_any n cap m dap ao bo f g _ HM.out.2.2 (by omega) HC1.out HD1.out).mono ?_
      rw [HV.out]
      rintro e w2 ⟨rfl, hb⟩
      have HB2 := Lib.hid (HB.out.trans (hb.mono HB.out.size))
      have HC2 := Lib.hid (HC1.out.keep hb)
      have HD2 := Lib.hid (HD1.out.keep hb)
      have HBL2 := Lib.hid (HBL.out.keep hb)
      clear hb HC1 HD1 HBL HB
      go_wp2_with fail
      refine (rSends_any n cap m c1 ao (some ⟨b3, 0, none⟩) f s3 _ HM.out.2.2 HC2.out (by omega) HBL2.out.bools).mono ?_
      rw [HSD.out.1, HSD.out.2]
      rintro e w3 ⟨rfl, hb⟩
      have HB3 := Lib.hid (HB2.out.trans (hb.mono HB2.out.size))
      have HD3 := Lib.hid (HD2.out.keep hb)
      have HBL3 := Lib.hid (HBL2.out.keep hb)
      clear hb HC2 HD2 HBL2 HB2
      go_wp2_with fail
      refine (fits_any m c1 dap (some ⟨b3, 0, none⟩) bo s3 g _ (by omega) HBL3.out.bools HD3.out).mono ?_
      rw [HAG.out]
      rintro e w4 ⟨rfl, hb⟩
      have HB4 := Lib.hid (HB3.out.trans (hb.mono HB3.out.size))
      clear hb
      go_wp2_with fail
      refine (sane_any _).mono ?_
      rintro e wz ⟨rfl, hb⟩
      have DZ := HB4.out.trans (hb.mono HB4.out.size)
      clear hb
      go_wp2_with fail
      go_returns
      exact ⟨rfl, DZ⟩
    · rw [if_neg hv] at hare
      subst hare
      have hv0 : v = 0 := by
        have h1 := congrArg Prod.fst HV.out
        simp only at h1
        obtain ⟨z, hz⟩ := wyV_nat n m f g
        omega
      subst hv0
      clear hpm hmk hv HEW
      go_enter Try.func7, Try.ntmps7
      go_wp2_with fail
      refine (pAround_any n cap m dap ao bo f g _ HM.out.2.2 (by omega) HM.out.1 HM.out.2.1 HC.out HD.out).mono ?_
      rintro e w1 ⟨⟨a1, l1, c1, rfl, hno, _⟩, hb⟩
      rw [HAR.out]
      obtain rfl := hno (by rw [HAR.out]; decide)
      have HB := Lib.hid hb
      have HC1 := Lib.hid (HC.out.keep hb)
      have HD1 := Lib.hid (HD.out.keep hb)
      clear hb hno
      go_wp2_with fail
      refine (rWays_any n cap m dap ao bo f g _ HM.out.2.2 (by omega) HC1.out HD1.out).mono ?_
      rw [HV.out]
      rintro e w2 ⟨rfl, hb⟩
      have HB2 := Lib.hid (HB.out.trans (hb.mono HB.out.size))
      clear hb
      go_wp2_with fail
      refine (sane_any _).mono ?_
      rintro e wz ⟨rfl, hb⟩
      have DZ := HB2.out.trans (hb.mono HB2.out.size)
      clear hb
      go_wp2_with fail
      go_returns
      exact ⟨rfl, DZ⟩
  · obtain rfl := HEW.out.1 h0
    have e1 : (ar != 0) = true := bne_iff_ne.2 h0
    have e2 : (ar == 0) = false := beq_eq_false_iff_ne.2 h0
    have H0 := Lib.hid h0
    clear h0 HEW
    go_enter Try.func7, Try.ntmps7
    go_wp2_with fail
    refine (pAround_any n cap m dap ao bo f g _ HM.out.2.2 (by omega) HM.out.1 HM.out.2.1 HC.out HD.out).mono ?_
    rintro e w1 ⟨⟨a1, l1, c1, rfl, hno, _⟩, hb⟩
    rw [HAR.out]
    obtain rfl := hno (by rw [HAR.out]; exact H0.out)
    have HB := Lib.hid hb
    have HC1 := Lib.hid (HC.out.keep hb)
    have HD1 := Lib.hid (HD.out.keep hb)
    clear hb hno
    go_wp2_with fail
    refine (rWays_any n cap m dap ao bo f g _ HM.out.2.2 (by omega) HC1.out HD1.out).mono ?_
    rw [HV.out]
    rintro e w2 ⟨rfl, hb⟩
    have HB2 := Lib.hid (HB.out.trans (hb.mono HB.out.size))
    clear hb
    go_wp2_with fail
    refine (sane_any _).mono ?_
    rintro e wz ⟨rfl, hb⟩
    have DZ := HB2.out.trans (hb.mono HB2.out.size)
    clear hb
    go_wp2_with fail
    go_returns
    exact ⟨rfl, DZ⟩
end Go.Proofs.Ytfilofnkiocbeaa
