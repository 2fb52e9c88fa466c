import Derived.Test.YtpjfpkhcadombaaPm
import Derived.Test.YtpjfpkhcadombaaSq
import Derived.Test.YtpjfpkhcadombaaSn
namespace Go.Proofs.Ytpjfpkhcadombaa
open Go.RowKit Prm

set_option maxRecDepth 100000 in
set_option maxHeartbeats 4000000 in
theorem SynthComposes_any (n m cap dap : Nat) (ao bo : Option Addr) (f g : Nat → Int) (w : World) (hn : n ≤ 9223372036854775807) (hm : m ≤ 9223372036854775807) (hc : Ints w ao n f) (hd : Ints w bo m g) :
    Calls Try.prog 4 #[.slice ao n cap, .slice bo m dap] w fun e w' => e = .returned (.bool true) ∧ Below w.heap.size w w' := by
  have HC := Lib.hid hc
  have HD := Lib.hid hd
  clear hc hd
  by_cases h70 : 70 < n
  · have h70' : 70 < (n : Int) := by omega
    clear h70
    go_enter Try.func4, Try.ntmps4
    go_wp2_with fail
    refine (sane_any _).mono ?_
    rintro e w1 ⟨rfl, hb⟩
    go_wp2_with fail
    go_returns
    exact ⟨rfl, hb⟩
  by_cases h71 : 70 < m
  · have h70' : (n : Int) ≤ 70 := by omega
    have h71' : 70 < (m : Int) := by omega
    clear h70 h71
    go_enter Try.func4, Try.ntmps4
    go_wp2_with fail
    refine (sane_any _).mono ?_
    rintro e w1 ⟨rfl, hb⟩
    go_wp2_with fail
    go_returns
    exact ⟨rfl, hb⟩
  have h70' : (n : Int) ≤ 70 := by omega
  have h71' : (m : Int) ≤ 70 := by omega
  have HN : Hid (n ≤ 70 ∧ m ≤ 70) := Lib.hid ⟨by omega, by omega⟩
  clear h70 h71
  go_enter Try.func4, Try.ntmps4
  go_wp2_with fail
  refine (compose_any n m cap dap ao bo f g _ hn hm HC.out HD.out).mono ?_
  rintro e w1 ⟨h1, hb⟩
  obtain ⟨er, her⟩ : ∃ er, cmpE n m f g = er := ⟨_, rfl⟩
  rw [her] at h1
  have HER := Lib.hid her
  obtain ⟨L, hL⟩ : ∃ L, lenE er n = L := ⟨_, rfl⟩
  have HL := Lib.hid hL
  have HLn : Hid (L ≤ 70) := Lib.hid (by have := lenE_le er n; have := HN.out.1; omega)
  obtain ⟨a1, c1, rfl, hi1⟩ := h1.form
  rw [hL] at hi1
  rw [hL]
  have HA := Lib.hid hi1
  have D1 := Lib.hid hb
  clear hb hi1 her hL h1
  go_wp2_with fail
  refine (rCompose_any n m cap dap ao bo f g _ hn hm (HC.out.keep D1.out) (HD.out.keep D1.out)).mono ?_
  rintro e w2 ⟨h1, hb⟩
  rw [HER.out] at h1
  obtain ⟨a2, c2, rfl, hi2⟩ := h1.form
  rw [HL.out] at hi2
  rw [HL.out]
  have HB := Lib.hid hi2
  have HA2 := Lib.hid (HA.out.keep hb)
  have D2 := Lib.hid (D1.out.trans (hb.mono D1.out.size))
  clear hb hi2 h1 HA D1
  go_wp2_with fail
  refine (same_any L L c1 c2 a1 a2 (cmpF f g) (cmpF f g) _ (by have := HLn.out; omega) (by have := HLn.out; omega) HA2.out HB.out).mono ?_
  rintro e w3 ⟨rfl, hb⟩
  rw [sameB_yes fun _ _ => rfl]
  have D3 := Lib.hid (D2.out.trans (hb.mono D2.out.size))
  clear hb HA2 HB D2
  go_wp2_with fail
  refine (invert_any n cap ao f _ hn (HC.out.keep D3.out)).mono ?_
  rintro e w4 ⟨h1, hb⟩
  have D4 := Lib.hid (D3.out.trans (hb.mono D3.out.size))
  clear hb D3
  rcases h1 with ⟨he, g1, c3, rfl, hw, hB, hlt⟩ | ⟨he, rfl⟩
  · have hp : permB n f = true := by
      unfold prmE at he
      by_cases hp : permB n f = true
      · exact hp
      · rw [if_neg hp] at he; omega
    have HP := Lib.hid hp
    have HW := Lib.hid hw
    have HQ := Lib.hid (invTo_perm hp)
    have HV := Lib.hid (invTo_inv hp)
    have HK : Hid (∀ k, k < n → cmpF (invTo f n) f k = k) := Lib.hid fun k hk => invTo_comp hp hk
    have HZ : Hid (cmpE n n (invTo f n) f = 0) := Lib.hid (cmpE_4 HQ.out hp)
    have h64 := (permB_yes hp).2.1
    have h01 := (permB_yes hp).1
    clear he hw hB hlt hp
    go_wp2_with fail
    refine (compose_any n n c3 cap (some ⟨g1, 0, none⟩) ao (invTo f n) f _ hn hn HW.out.ints (HC.out.keep D4.out)).mono ?_
    rintro e w5 ⟨h1, hb⟩
    rw [HZ.out] at h1
    rcases h1 with ⟨_, g2, c4, rfl, hw2, hB2, hlt2⟩ | ⟨he, _⟩
    case inr => exact absurd rfl he
    have HW2 := Lib.hid hw2
    have HW5 := Lib.hid (HW.out.keep hb)
    have D5 := Lib.hid (D4.out.trans (hb.mono D4.out.size))
    clear hb hw2 hB2 hlt2 D4 HW
    obtain ⟨b0, o0, rfl, hc5⟩ := (HC.out.keep D5.out) h01
    have HC5 := Lib.hid hc5
    clear hc5
    go_wp2_with fail
    refine (inversions_ok n cap b0 o0 f _ HC5.out HP.out).mono ?_
    rintro e w6 ⟨rfl, hb⟩
    have HW6 := Lib.hid (HW2.out.keep hb)
    have HI6 := Lib.hid (HW5.out.keep hb)
    have D6 := Lib.hid (D5.out.trans (hb.mono D5.out.size))
    clear hb HW2 HW5 D5 HC5
    obtain ⟨v, hv⟩ : ∃ v, inv n f = v := ⟨_, rfl⟩
    have HVV := Lib.hid hv
    rw [hv]
    clear hv
    go_wp2_with fail
    refine (inversions_ok n c3 g1 0 (invTo f n) _ (fun i hi => by rw [Nat.zero_add]; exact (HI6.out i hi).1) HQ.out).mono ?_
    rintro e w7 ⟨rfl, hb⟩
    rw [HV.out, HVV.out]
    have HW7 := Lib.hid (HW6.out.keep hb)
    have D7 := Lib.hid (D6.out.trans (hb.mono D6.out.size))
    clear hb HW6 HI6 D6
    go_wp2_with fail
    go_loopw [15] (fun i wr => ∃ k : Nat, i = .int .i64 k ∧ k ≤ n ∧ Hid (Intw wr g2 n (cmpF (invTo f n) f)) ∧ Below w.heap.size w wr) (fun i _ => n - (intOf i).toNat)
    case atStart => exact ⟨0, rfl, Nat.zero_le _, HW7, D7.out⟩
    case round =>
      obtain ⟨k, rfl, hk, HR, hbel⟩ := hrel
      by_cases hlt : k < n
      · have hlt' : (k : Int) < (n : Int) := by omega
        obtain ⟨d0, d1⟩ := HR.out k hlt
        rw [HK.out k hlt] at d0
        go_wp2_with fail
        go_roundw
        case rel => exact ⟨k + 1, by go_num, by omega, HR, hbel⟩
        case measure => simp [intOf]; omega
      · obtain rfl : k = n := by omega
        go_wp2_with fail
        refine (sane_any _).mono ?_
        rintro e w8 ⟨rfl, hb⟩
        have D8 := hbel.trans (hb.mono hbel.size)
        clear hb hbel
        go_wp2_with fail
        go_returns
        exact ⟨rfl, D8⟩
  · have hp : permB n f = false := by
      unfold prmE at he
      cases hp : permB n f with
      | false => rfl
      | true => rw [hp] at he; exact absurd rfl he
    have HP := Lib.hid hp
    have h40 : prmE n f = 40 := by unfold prmE; rw [hp]; rfl
    rw [h40]
    clear he hp h40
    go_wp2_with fail
    refine (rValidPerm_any n cap ao f _ hn (HC.out.keep D4.out)).mono ?_
    rintro e w5 ⟨rfl, hb⟩
    rw [HP.out]
    have D5 := Lib.hid (D4.out.trans (hb.mono D4.out.size))
    clear hb D4
    go_wp2_with fail
    refine (sane_any _).mono ?_
    rintro e w6 ⟨rfl, hb⟩
    have D6 := D5.out.trans (hb.mono D5.out.size)
    clear hb
    go_wp2_with fail
    go_returns
    exact ⟨rfl, D6⟩
end Go.Proofs.Ytpjfpkhcadombaa
