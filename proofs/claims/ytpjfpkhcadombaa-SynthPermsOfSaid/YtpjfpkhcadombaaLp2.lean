import Derived.Test.YtpjfpkhcadombaaPr2
import Derived.Test.YtpjfpkhcadombaaSq
import Derived.Test.YtpjfpkhcadombaaSn
namespace Go.Proofs.Ytpjfpkhcadombaa
open Go.RowKit Prm Amp
set_option maxRecDepth 100000 in
set_option maxHeartbeats 4000000 in
theorem SynthPermsOf_any (N : Int) (len cap : Nat) (ao : Option Addr) (f : Nat → It) (w : World) (hlen : len ≤ 9223372036854775807) (hc : Its w ao len f) :
    Calls Try.prog 5 #[.int .i64 N, .slice ao len cap] w fun e w' => e = .returned (.bool true) ∧ Below w.heap.size w w' := by
  have HC := Lib.hid hc
  clear hc
  by_cases h100 : 100 < len
  · have h100' : 100 < (len : Int) := by omega
    clear h100
    go_enter Try.func5, Try.ntmps5
    go_wp2_with fail
    refine (sane_any _).mono ?_
    rintro e w1 ⟨rfl, hb⟩
    go_wp2_with fail
    go_returns
    exact ⟨rfl, hb⟩
  have h100' : (len : Int) ≤ 100 := by omega
  clear h100
  obtain ⟨b, hb⟩ : ∃ b, (decide (askS N len f = 0) && crossTo f len) = b := ⟨_, rfl⟩
  obtain ⟨er, her⟩ : ∃ er, askS N len f = er := ⟨_, rfl⟩
  have HB := Lib.hid hb
  have HE := Lib.hid her
  obtain ⟨L, hL⟩ : ∃ L, permL b N.toNat = L := ⟨_, rfl⟩
  have HL := Lib.hid hL
  have HLn : Hid (L ≤ 6) := Lib.hid (by
    rw [← hL]
    cases b with
    | false => simp [permL]
    | true =>
      rw [Bool.and_eq_true, decide_eq_true_eq] at hb
      have := askS_ok hb.1
      simp only [permL, if_true]; omega)
  clear hb her hL
  go_enter Try.func5, Try.ntmps5
  go_wp2_with fail
  refine (permOf_any N len cap ao f _ hlen HC.out).mono ?_
  rw [HB.out, HE.out]
  rintro e w1 ⟨⟨a1, c1, rfl, hi1⟩, hb⟩
  rw [HL.out] at hi1
  rw [HL.out]
  have HA := Lib.hid hi1
  have D1 := Lib.hid hb
  clear hb hi1
  go_wp2_with fail
  refine (rPermOf_any N len cap ao f _ hlen (HC.out.keep D1.out)).mono ?_
  rw [HB.out, HE.out]
  rintro e w2 ⟨⟨a2, c2, rfl, hi2⟩, hb⟩
  rw [HL.out] at hi2
  rw [HL.out]
  have HA2 := Lib.hid (HA.out.keep hb)
  have HB2 := Lib.hid hi2
  have D2 := Lib.hid (D1.out.trans (hb.mono D1.out.size))
  clear hb hi2 HA D1
  go_wp2_with fail
  refine (same_any L L c1 c2 a1 a2 (trF f len) (trF f len) _ (by have := HLn.out; omega) (by have := HLn.out; omega) HA2.out HB2.out).mono ?_
  rw [sameB_yes fun _ _ => rfl]
  rintro e w3 ⟨rfl, hb⟩
  have HA3 := Lib.hid (HA2.out.keep hb)
  have D3 := Lib.hid (D2.out.trans (hb.mono D2.out.size))
  clear hb HA2 HB2 D2
  go_wp2_with fail
  refine (sane_any _).mono ?_
  rintro e w4 ⟨rfl, hb⟩
  have HA4 := Lib.hid (HA3.out.keep hb)
  have D4 := Lib.hid (D3.out.trans (hb.mono D3.out.size))
  clear hb HA3 D3
  cases b with
  | false =>
    go_wp2_with fail
    go_returns
    exact ⟨rfl, D4.out⟩
  | true =>
    have hbb := HB.out
    rw [Bool.and_eq_true, decide_eq_true_eq] at hbb
    obtain ⟨hN1, hN6, _, hfit⟩ := askS_ok hbb.1
    obtain ⟨n, rfl⟩ : ∃ n : Nat, N = n := ⟨N.toNat, by omega⟩
    rw [Int.toNat_natCast] at hfit
    obtain ⟨q1, q2, q3⟩ := ltF_inv' (n := n) (by omega) (by omega) hfit hbb.2
    obtain rfl : n = L := by rw [← HL.out]; rfl
    have HQ := Lib.hid q1
    obtain ⟨v, hv⟩ : ∃ v, inv n (trF f len) = v := ⟨_, rfl⟩
    rw [hv] at q2 q3
    have HV := Lib.hid hv
    have hv1 : (v : Int) ≤ (len : Int) := by omega
    have hv2 : ((len : Int) - (v : Int)) % 2 = 0 := by omega
    have HV2 := Lib.hid hv2
    obtain ⟨b0, o0, rfl, hc4⟩ := HA4.out (by omega)
    have HC4 := Lib.hid hc4
    have hq : (((len : Int) - (v : Int)) % 2 == 0) = true := by rw [hv2]; rfl
    clear hbb hfit q1 q2 q3 hv hc4 hv2
    go_wp2_with fail
    refine (inversions_ok n c1 b0 o0 (trF f len) _ HC4.out HQ.out).mono ?_
    rw [HV.out]
    rintro e w5 ⟨rfl, hb⟩
    have D5 := D4.out.trans (hb.mono D4.out.size)
    clear hb
    go_wp2_with fail
    go_returns
    exact ⟨rfl, D5⟩
end Go.Proofs.Ytpjfpkhcadombaa
