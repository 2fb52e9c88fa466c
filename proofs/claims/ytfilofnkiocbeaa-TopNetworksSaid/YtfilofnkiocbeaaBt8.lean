import Derived.Test.YtfilofnkiocbeaaBr8
namespace Go.Proofs.Ytfilofnkiocbeaa
open Go.RowKit Ben Prm
set_option maxRecDepth 100000 in
set_option maxHeartbeats 2000000 in
theorem equalI_any (n m cap dap : Nat) (ao bo : Option Addr) (f g : Nat → Int) (w : World) (hn : n ≤ 9223372036854775807) (hm : m ≤ 9223372036854775807) (hc : Ints w ao n f) (hd : Ints w bo m g) :
    Calls Try.prog 57 #[.slice ao n cap, .slice bo m dap] w fun e w' => e = .returned (.bool (sameB n m f g)) ∧ Below w.heap.size w w' := by
  have HC := Lib.hid hc
  have HD := Lib.hid hd
  clear hc hd
  by_cases hnm : n = m
  · subst hnm
    have HE : Hid (sameB n n f g = sameTo f g n) := Lib.hid (by unfold sameB; rw [decide_eq_true rfl]; rfl)
    go_enter Try.func57, Try.ntmps57
    go_wp2_with fail
    go_loopw [13] (fun i wr => ∃ k : Nat, i = .int .i64 k ∧ k ≤ n ∧ Hid (sameTo f g k = true) ∧ Below w.heap.size w wr) (fun i _ => n - (intOf i).toNat)
    case atStart => exact ⟨0, rfl, Nat.zero_le _, Lib.hid rfl, by go_grown⟩
    case round =>
      obtain ⟨k, rfl, hk, HK, hbel⟩ := hrel
      by_cases hlt : k < n
      · have hlt' : (k : Int) < (n : Int) := by omega
        obtain ⟨b, o, rfl, hcell⟩ := (Ints.keep HC.out hbel) (by omega)
        obtain ⟨b', o', rfl, hcell'⟩ := (Ints.keep HD.out hbel) (by omega)
        have c0 := hcell k hlt
        have d0 := hcell' k hlt
        obtain ⟨x, hx⟩ : ∃ x, f k = x := ⟨_, rfl⟩
        obtain ⟨y, hy⟩ : ∃ y, g k = y := ⟨_, rfl⟩
        rw [hx] at c0
        rw [hy] at d0
        have HX := Lib.hid hx
        have HY := Lib.hid hy
        clear hcell hcell' hx hy
        by_cases hxy : x = y
        · have HK2 : Hid (sameTo f g (k + 1) = true) := Lib.hid (by simp only [sameTo]; rw [HK.out, decide_eq_true (by rw [HX.out, HY.out, hxy])]; rfl)
          subst hxy
          go_wp2_with fail
          go_region
          all_goals
            go_wp2_with fail
            go_roundw
            case rel => exact ⟨k + 1, by go_num, by omega, HK2, by go_grown⟩
            case measure => simp [intOf]; omega
        · have HF : Hid (sameTo f g n = false) := Lib.hid (sameTo_stop (k := k) (by rw [HX.out, HY.out]; exact hxy) n hlt)
          have hq : (x != y) = true := bne_iff_ne.2 hxy
          have hq2 : (x == y) = false := beq_eq_false_iff_ne.2 hxy
          clear hxy
          go_wp2_with fail
          go_region
          all_goals
            go_wp2_with fail
            go_returns
            exact ⟨by rw [HE.out, HF.out] <;> rfl, by go_grown⟩
      · obtain rfl : k = n := by omega
        go_wp2_with fail
        go_returns
        exact ⟨by rw [HE.out, HK.out] <;> rfl, hbel⟩
  · have hq : ((n : Int) != (m : Int)) = true := bne_iff_ne.2 (by omega)
    have hq2 : ((n : Int) == (m : Int)) = false := beq_eq_false_iff_ne.2 (by omega)
    have HE : Hid (sameB n m f g = false) := Lib.hid (by unfold sameB; rw [decide_eq_false hnm]; rfl)
    clear hnm
    go_enter Try.func57, Try.ntmps57
    go_wp2_with fail
    go_returns
    exact ⟨by rw [HE.out] <;> rfl, by go_grown⟩
/-- The error of Sends, and its answer. -/
def sdE (n m : Nat) (f : Nat → Int) : Int := if isPm n f = true then ckE n m else 40
def sdV (n m : Nat) (f : Nat → Int) (s : Nat → Bool) : Bool := if sdE n m f = 0 then sameTo (ouF s (lv n)) f n else false
theorem isPm_isP {n : Nat} {f : Nat → Int} (h : isPm n f = true) : isP n = true := by unfold isPm at h; rw [Bool.and_eq_true] at h; exact h.1
set_option maxRecDepth 100000 in
set_option maxHeartbeats 8000000 in
theorem pSends_any (n cap m dap : Nat) (ao bo : Option Addr) (f : Nat → Int) (s : Nat → Bool) (w : World) (hn : n ≤ 9223372036854775807) (hc : Ints w ao n f) (hm : m ≤ 80) (hd : Bools w bo m s) :
    Calls Try.prog 27 #[.slice ao n cap, .slice bo m dap] w fun e w' => e = .returned (.tuple #[.bool (sdV n m f s), .int .i64 (sdE n m f)]) ∧ Below w.heap.size w w' := by
  have HC := Lib.hid hc
  have HD := Lib.hid hd
  clear hc hd
  cases h : isPm n f with
  | false =>
    have e1 : sdE n m f = 40 := by unfold sdE; rw [h]; rfl
    have e2 : sdV n m f s = false := by unfold sdV; rw [e1]; rfl
    rw [e1, e2]
    have HP := Lib.hid h
    clear e1 e2 h
    go_enter Try.func27, Try.ntmps27
    go_wp2_with fail
    refine (isPerm_any n cap ao f _ hn HC.out).mono ?_
    rw [HP.out]
    rintro e w1 ⟨rfl, hb⟩
    go_wp2_with fail
    go_ret2
    exact ⟨rfl, hb⟩
  | true =>
    have HP := Lib.hid h
    have hp := isPm_isP h
    by_cases he : ckE n m = 0
    · have e1 : sdE n m f = 0 := by unfold sdE; rw [if_pos h]; exact he
      have e2 : sdV n m f s = sameTo (ouF s (lv n)) f n := by unfold sdV; rw [if_pos e1]
      rw [e1, e2]
      obtain ⟨hn', hk, hmk⟩ := ckE_ok he
      have hnn : n = sz (lv n) := by omega
      have HE := Lib.hid he
      generalize lv (n : Int) = k at *
      subst hmk
      subst hnn
      have hs16 := sz_le hk
      have hsp := sz_pos k
      clear e1 e2 h hp he hn'
      go_enter Try.func27, Try.ntmps27
      go_wp2_with fail
      refine (isPerm_any _ cap ao f _ hn HC.out).mono ?_
      rw [HP.out]
      rintro e w1 ⟨rfl, hb⟩
      have HB1 := Lib.hid hb
      have HC1 := Lib.hid (HC.out.keep hb)
      have HD1 := Lib.hid (HD.out.keep hb)
      clear hb
      go_wp2_with fail
      refine (checkB_any _ bo _ dap _ (by omega)).mono ?_
      rw [HE.out]
      rintro e w' ⟨rfl, rfl⟩
      go_wp2_with fail
      refine (through_any k dap bo s _ hk HD1.out).mono ?_
      rintro e w2 ⟨⟨g, c', rfl, hW, _, _, _, _⟩, hb⟩
      have HW2 := Lib.hid hW
      have HC2 := Lib.hid (HC1.out.keep hb)
      have HB2 := Lib.hid (HB1.out.trans (hb.mono HB1.out.size))
      clear hb hW HB1 HC1 HD1
      have HSB : Hid (sameB (sz k) (sz k) (ouF s k) f = sameTo (ouF s k) f (sz k)) := Lib.hid (by unfold sameB; rw [decide_eq_true rfl]; rfl)
      go_wp2_with fail
      refine (equalI_any (sz k) (sz k) c' cap (some ⟨g, 0, none⟩) ao (ouF s k) f _ (by omega) (by omega) HW2.out.ints HC2.out).mono ?_
      rw [HSB.out]
      rintro e w3 ⟨rfl, hb⟩
      have hbl := HB2.out.trans (hb.mono HB2.out.size)
      clear hb HW2 HC2 HB2
      go_wp2_with fail
      go_ret2
      exact ⟨rfl, hbl⟩
    · have e1 : sdE n m f = ckE n m := by unfold sdE; rw [if_pos h]
      have e2 : sdV n m f s = false := by unfold sdV; rw [e1, if_neg he]
      have h1 : (ckE n m != 0) = true := bne_iff_ne.2 he
      rw [e1, e2]
      have HE := Lib.hid he
      clear e1 e2 h hp he
      go_enter Try.func27, Try.ntmps27
      go_wp2_with fail
      refine (isPerm_any n cap ao f _ hn HC.out).mono ?_
      rw [HP.out]
      rintro e w1 ⟨rfl, hb⟩
      have HB1 := Lib.hid hb
      have hbl := hb
      clear hb
      go_wp2_with fail
      refine (checkB_any _ bo m dap _ (by omega)).mono ?_
      rintro e w' ⟨rfl, rfl⟩
      go_wp2_with fail
      go_ret2
      exact ⟨rfl, hbl⟩
set_option maxRecDepth 100000 in
set_option maxHeartbeats 8000000 in
theorem rSends_any (n cap m dap : Nat) (ao bo : Option Addr) (f : Nat → Int) (s : Nat → Bool) (w : World) (hn : n ≤ 9223372036854775807) (hc : Ints w ao n f) (hm : m ≤ 80) (hd : Bools w bo m s) :
    Calls Try.prog 28 #[.slice ao n cap, .slice bo m dap] w fun e w' => e = .returned (.tuple #[.bool (sdV n m f s), .int .i64 (sdE n m f)]) ∧ Below w.heap.size w w' := by
  have HC := Lib.hid hc
  have HD := Lib.hid hd
  clear hc hd
  cases h : isPm n f with
  | false =>
    have e1 : sdE n m f = 40 := by unfold sdE; rw [h]; rfl
    have e2 : sdV n m f s = false := by unfold sdV; rw [e1]; rfl
    rw [e1, e2]
    have HP := Lib.hid h
    clear e1 e2 h
    go_enter Try.func28, Try.ntmps28
    go_wp2_with fail
    refine (rIsPerm_any n cap ao f _ hn HC.out).mono ?_
    rw [HP.out]
    rintro e w1 ⟨rfl, hb⟩
    go_wp2_with fail
    go_ret2
    exact ⟨rfl, hb⟩
  | true =>
    have HP := Lib.hid h
    have hp := isPm_isP h
    by_cases he : ckE n m = 0
    · have e1 : sdE n m f = 0 := by unfold sdE; rw [if_pos h]; exact he
      have e2 : sdV n m f s = sameTo (ouF s (lv n)) f n := by unfold sdV; rw [if_pos e1]
      rw [e1, e2]
      obtain ⟨hn', hk, hmk⟩ := ckE_ok he
      have hnn : n = sz (lv n) := by omega
      have HE := Lib.hid he
      generalize lv (n : Int) = k at *
      subst hmk
      subst hnn
      have hs16 := sz_le hk
      have hsp := sz_pos k
      clear e1 e2 h hp he hn'
      go_enter Try.func28, Try.ntmps28
      go_wp2_with fail
      refine (rIsPerm_any _ cap ao f _ hn HC.out).mono ?_
      rw [HP.out]
      rintro e w1 ⟨rfl, hb⟩
      have HB1 := Lib.hid hb
      have HC1 := Lib.hid (HC.out.keep hb)
      have HD1 := Lib.hid (HD.out.keep hb)
      clear hb
      go_wp2_with fail
      refine (rThrough_ok k dap bo s _ hk HD1.out).mono ?_
      rintro e w2 ⟨⟨g, c', rfl, hW, _, _⟩, hb⟩
      have HW2 := Lib.hid hW
      have HC2 := Lib.hid (HC1.out.keep hb)
      have HB2 := Lib.hid (HB1.out.trans (hb.mono HB1.out.size))
      clear hb hW HB1 HC1 HD1
      go_wp2_with fail
      go_loopw [8] (fun iv wr => ∃ (z : Int) (i : Nat), iv = .int .i64 z ∧ z = i ∧ i ≤ sz k ∧ Hid (sameTo (ouF s k) f i = true) ∧ Hid (Below w2.heap.size w2 wr)) (fun iv _ => sz k - (intOf iv).toNat)
      case atStart => exact ⟨0, 0, rfl, rfl, by omega, Lib.hid rfl, Lib.hid (Below.refl _ _)⟩
      case round =>
        obtain ⟨z, i, rfl, hz, hi, HK, HB⟩ := hrel
        have HBW := Lib.hid (HB2.out.trans (HB.out.mono HB2.out.size))
        by_cases hlt : i < sz k
        · have hlt' : z < ((sz k : Nat) : Int) := by omega
          subst hz
          have i00 : (0 : Int) ≤ (i : Int) := by omega
          have wz : wrap64 ((i : Int) + 1) = (i : Int) + 1 := by simp only [wrap64]; omega
          obtain ⟨b, o, rfl, hcell⟩ := (HC2.out.keep HB.out) (by omega)
          have c0 := ((HW2.out.keep HB.out) i hlt).1
          have d0 := hcell i hlt
          clear hcell
          obtain ⟨x, hx⟩ : ∃ x, ouF s k i = x := ⟨_, rfl⟩
          obtain ⟨y, hy⟩ : ∃ y, f i = y := ⟨_, rfl⟩
          rw [hx] at c0
          rw [hy] at d0
          have HX := Lib.hid hx
          have HY := Lib.hid hy
          clear hx hy
          by_cases hxy : x = y
          · have HK2 : Hid (sameTo (ouF s k) f (i + 1) = true) := Lib.hid (by simp only [sameTo]; rw [HK.out, decide_eq_true (by rw [HX.out, HY.out, hxy])]; rfl)
            subst hxy
            have hbr := HB.out
            clear HK HB
            go_wp2_with fail
            go_region
            all_goals
              go_wp2_with fail
              go_roundw
              case rel => exact ⟨(i : Int) + 1, i + 1, by first | rfl | rw [wz], by clear wz; omega, by clear wz; omega, HK2, Lib.hid (by go_grown)⟩
              case measure => clear wz; first | (simp [intOf]; done) | (simp [intOf]; omega)
          · have HF : Hid (sameTo (ouF s k) f (sz k) = false) := Lib.hid (sameTo_stop (k := i) (by rw [HX.out, HY.out]; exact hxy) _ hlt)
            have hq : (x != y) = true := bne_iff_ne.2 hxy
            have hq2 : (x == y) = false := beq_eq_false_iff_ne.2 hxy
            have hbr := HBW.out
            clear hxy HK HB HBW
            go_wp2_with fail
            go_region
            all_goals
              go_wp2_with fail
              go_ret2
              exact ⟨by rw [HF.out] <;> rfl, by go_grown⟩
        · have hzn : ¬ z < ((sz k : Nat) : Int) := by omega
          obtain rfl : i = sz k := by omega
          subst hz
          have hbr := HBW.out
          clear HB HBW
          go_wp2_with fail
          go_ret2
          exact ⟨by rw [HK.out] <;> rfl, hbr⟩
    · have e1 : sdE n m f = ckE n m := by unfold sdE; rw [if_pos h]
      have e2 : sdV n m f s = false := by unfold sdV; rw [e1, if_neg he]
      have h1 : (ckE n m != 0) = true := bne_iff_ne.2 he
      rw [e1, e2]
      have HE := Lib.hid he
      clear e1 e2 h hp he
      go_enter Try.func28, Try.ntmps28
      go_wp2_with fail
      refine (rIsPerm_any n cap ao f _ hn HC.out).mono ?_
      rw [HP.out]
      rintro e w1 ⟨rfl, hb⟩
      have HB1 := Lib.hid hb
      have hbl := hb
      clear hb
      go_wp2_with fail
      refine (rThrough_no _ m dap bo _ (by omega) HE.out).mono ?_
      rintro e w' ⟨rfl, rfl⟩
      go_wp2_with fail
      go_ret2
      exact ⟨rfl, hbl⟩
end Go.Proofs.Ytfilofnkiocbeaa
