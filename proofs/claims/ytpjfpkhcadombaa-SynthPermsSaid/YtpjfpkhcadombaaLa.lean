import Derived.Test.YtpjfpkhcadombaaCb
import Derived.Test.YtpjfpkhcadombaaSq
import Derived.Test.YtpjfpkhcadombaaSn
namespace Go.Proofs.Ytpjfpkhcadombaa
open Go.RowKit Prm

set_option maxRecDepth 100000 in
set_option maxHeartbeats 1000000 in
theorem inversions_any (n cap : Nat) (ao : Option Addr) (f : Nat → Int) (w : World) (hn : n ≤ 9223372036854775807) (hc : Ints w ao n f) :
    Calls Try.prog 7 #[.slice ao n cap] w fun e w' => e = .returned (.tuple #[.int .i64 (if permB n f = true then (inv n f : Int) else 0), .int .i64 (prmE n f)]) ∧ Below w.heap.size w w' := by
  cases hp : permB n f with
  | false =>
    have HE : prmE n f = 40 := by unfold prmE; rw [hp]; rfl
    rw [if_neg (by simp), HE]
    exact inversions_no n cap ao f w hn hc hp
  | true =>
    have HE : prmE n f = 0 := by unfold prmE; rw [hp]; rfl
    obtain ⟨h1, _, _⟩ := permB_yes hp
    obtain ⟨b, o, rfl, hcw⟩ := hc h1
    rw [if_pos rfl, HE]
    exact inversions_ok n cap b o f w hcw hp

set_option maxRecDepth 100000 in
set_option maxHeartbeats 4000000 in
theorem SynthPerms_any (n cap : Nat) (ao : Option Addr) (f : Nat → Int) (w : World) (hn : n ≤ 9223372036854775807) (hc : Ints w ao n f) :
    Calls Try.prog 3 #[.slice ao n cap] w fun e w' => e = .returned (.bool true) ∧ Below w.heap.size w w' := by
  have HC := Lib.hid hc
  clear hc
  by_cases h70 : 70 < n
  · have h70' : 70 < (n : Int) := by omega
    clear h70
    go_enter Try.func3, Try.ntmps3
    go_wp2_with fail
    refine (sane_any _).mono ?_
    rintro e w1 ⟨rfl, hb⟩
    go_wp2_with fail
    go_returns
    exact ⟨rfl, hb⟩
  have h70' : (n : Int) ≤ 70 := by omega
  have HN : Hid (n ≤ 70) := Lib.hid (by omega)
  clear h70
  obtain ⟨iv, hiv⟩ : ∃ iv : Int, (if permB n f = true then (inv n f : Int) else 0) = iv := ⟨_, rfl⟩
  obtain ⟨er, her⟩ : ∃ er, prmE n f = er := ⟨_, rfl⟩
  obtain ⟨vb, hvb⟩ : ∃ vb, permB n f = vb := ⟨_, rfl⟩
  obtain ⟨L, hL⟩ : ∃ L, lenE er n = L := ⟨_, rfl⟩
  obtain ⟨M, hM⟩ : ∃ M, lenE er (cyR n (sF f) n).length = M := ⟨_, rfl⟩
  have HIV := Lib.hid hiv
  have HER := Lib.hid her
  have HVB := Lib.hid hvb
  have HL := Lib.hid hL
  have HM := Lib.hid hM
  have HLn : Hid (L ≤ 9223372036854775807) := Lib.hid (by have := lenE_le er n; have := HN.out; omega)
  have HMn : Hid (M ≤ 9223372036854775807) := Lib.hid (by
    have h1 := lenE_le er (cyR n (sF f) n).length
    have h2 := cyR_len n (sF f) n
    have h3 := Nat.mul_le_mul HN.out HN.out
    omega)
  clear hiv her hvb hL hM
  go_enter Try.func3, Try.ntmps3
  go_wp2_with fail
  refine (inversions_any n cap ao f _ hn HC.out).mono ?_
  rw [HIV.out, HER.out]
  rintro e w1 ⟨rfl, hb⟩
  have D1 := Lib.hid hb
  clear hb
  go_wp2_with fail
  refine (rInversions_any n cap ao f _ hn (HC.out.keep D1.out)).mono ?_
  rw [HIV.out, HER.out]
  rintro e w2 ⟨rfl, hb⟩
  have D2 := Lib.hid (D1.out.trans (hb.mono D1.out.size))
  clear hb D1
  go_wp2_with fail
  refine (invert_any n cap ao f _ hn (HC.out.keep D2.out)).mono ?_
  rintro e w3 ⟨h1, hb⟩
  rw [HER.out] at h1
  obtain ⟨a1, c1, rfl, hi1⟩ := h1.form
  rw [HL.out] at hi1
  rw [HL.out]
  have HA := Lib.hid hi1
  have D3 := Lib.hid (D2.out.trans (hb.mono D2.out.size))
  clear hb hi1 h1 D2
  go_wp2_with fail
  refine (rInvert_any n cap ao f _ hn (HC.out.keep D3.out)).mono ?_
  rintro e w4 ⟨h1, hb⟩
  rw [HER.out] at h1
  obtain ⟨a2, c2, rfl, hi2⟩ := h1.form
  rw [HL.out] at hi2
  rw [HL.out]
  have HB := Lib.hid hi2
  have HA4 := Lib.hid (HA.out.keep hb)
  have D4 := Lib.hid (D3.out.trans (hb.mono D3.out.size))
  clear hb hi2 h1 HA D3
  go_wp2_with fail
  refine (cycles_any n cap ao f _ hn (HC.out.keep D4.out)).mono ?_
  rintro e w5 ⟨h1, hb⟩
  rw [HER.out] at h1
  obtain ⟨a3, c3, rfl, hi3⟩ := h1.form
  rw [HM.out] at hi3
  rw [HM.out]
  have HE := Lib.hid hi3
  have HA5 := Lib.hid (HA4.out.keep hb)
  have HB5 := Lib.hid (HB.out.keep hb)
  have D5 := Lib.hid (D4.out.trans (hb.mono D4.out.size))
  clear hb hi3 h1 HA4 HB D4
  go_wp2_with fail
  refine (rCycles_any n cap ao f _ hn (HC.out.keep D5.out)).mono ?_
  rintro e w6 ⟨h1, hb⟩
  rw [HER.out] at h1
  obtain ⟨a4, c4, rfl, hi4⟩ := h1.form
  rw [HM.out] at hi4
  rw [HM.out]
  have HF := Lib.hid hi4
  have HA6 := Lib.hid (HA5.out.keep hb)
  have HB6 := Lib.hid (HB5.out.keep hb)
  have HE6 := Lib.hid (HE.out.keep hb)
  have D6 := Lib.hid (D5.out.trans (hb.mono D5.out.size))
  clear hb hi4 h1 HA5 HB5 HE D5
  go_wp2_with fail
  refine (validPerm_any n cap ao f _ hn (HC.out.keep D6.out)).mono ?_
  rw [HVB.out]
  rintro e w7 ⟨rfl, hb⟩
  have HA7 := Lib.hid (HA6.out.keep hb)
  have HB7 := Lib.hid (HB6.out.keep hb)
  have HE7 := Lib.hid (HE6.out.keep hb)
  have HF7 := Lib.hid (HF.out.keep hb)
  have D7 := Lib.hid (D6.out.trans (hb.mono D6.out.size))
  clear hb HA6 HB6 HE6 HF D6
  go_wp2_with fail
  refine (rValidPerm_any n cap ao f _ hn (HC.out.keep D7.out)).mono ?_
  rw [HVB.out]
  rintro e w8 ⟨rfl, hb⟩
  have HA8 := Lib.hid (HA7.out.keep hb)
  have HB8 := Lib.hid (HB7.out.keep hb)
  have HE8 := Lib.hid (HE7.out.keep hb)
  have HF8 := Lib.hid (HF7.out.keep hb)
  have D8 := Lib.hid (D7.out.trans (hb.mono D7.out.size))
  clear hb HA7 HB7 HE7 HF7 D7
  go_wp2_with fail
  refine (same_any L L c1 c2 a1 a2 _ _ _ HLn.out HLn.out HA8.out HB8.out).mono ?_
  rw [sameB_yes fun _ _ => rfl]
  rintro e w9 ⟨rfl, hb⟩
  have HE9 := Lib.hid (HE8.out.keep hb)
  have HF9 := Lib.hid (HF8.out.keep hb)
  have D9 := Lib.hid (D8.out.trans (hb.mono D8.out.size))
  clear hb HA8 HB8 HE8 HF8 D8
  go_wp2_with fail
  refine (same_any M M c3 c4 a3 a4 _ _ _ HMn.out HMn.out HE9.out HF9.out).mono ?_
  rw [sameB_yes fun _ _ => rfl]
  rintro e w10 ⟨rfl, hb⟩
  have D10 := Lib.hid (D9.out.trans (hb.mono D9.out.size))
  clear hb HE9 HF9 D9
  go_wp2_with fail
  refine (sane_any _).mono ?_
  rintro e w11 ⟨rfl, hb⟩
  have D11 := D10.out.trans (hb.mono D10.out.size)
  clear hb
  go_wp2_with fail
  go_returns
  exact ⟨rfl, D11⟩
end Go.Proofs.Ytpjfpkhcadombaa
