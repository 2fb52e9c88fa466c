import Derived.Test.YtpjfpkhcadombaaPo
namespace Go.Proofs.Ytpjfpkhcadombaa
open Go.RowKit Prm Amp
set_option maxRecDepth 100000 in
set_option maxHeartbeats 4000000 in
theorem permOf_any (N : Int) (len cap : Nat) (ao : Option Addr) (f : Nat → It) (w : World) (hlen : len ≤ 9223372036854775807) (hc : Its w ao len f) :
    Calls Try.prog 18 #[.int .i64 N, .slice ao len cap] w fun e w' => PermIs w' e N.toNat (trF f len) (decide (askS N len f = 0) && crossTo f len) (askS N len f) ∧ Below w.heap.size w w' := by
  have HC := Lib.hid hc
  clear hc
  by_cases ha : ¬ askS N len f = 0
  · obtain ⟨er, her⟩ : ∃ er, askS N len f = er := ⟨_, rfl⟩
    rw [her] at ha
    have HB : Hid ((decide (askS N len f = 0) && crossTo f len) = false) := Lib.hid (by rw [her, decide_eq_false ha]; rfl)
    have HER := Lib.hid her
    have hb0 : (er == 0) = false := beq_eq_false_iff_ne.2 ha
    have hb1 : (er != 0) = true := bne_iff_ne.2 ha
    rw [HB.out, HER.out]
    clear ha her
    go_enter Try.func18, Try.ntmps18
    go_wp2_with fail
    refine (checkItems_any N len cap ao f _ hlen HC.out).mono ?_
    rw [HER.out]
    rintro e w1 ⟨rfl, hb⟩
    have D1 := Lib.hid hb
    clear hb
    go_wp2_with fail
    go_returns
    exact ⟨⟨none, 0, rfl, fun h => absurd h (by simp [permL])⟩, D1.out⟩
  have ha0 : askS N len f = 0 := Decidable.not_not.1 ha
  have HER := Lib.hid ha0
  obtain ⟨hN1, hN6, hl5, hfit⟩ := askS_ok ha0
  obtain ⟨n, rfl⟩ : ∃ n : Nat, N = n := ⟨N.toNat, by omega⟩
  rw [Int.toNat_natCast] at hfit
  rw [Int.toNat_natCast]
  have HF := Lib.hid hfit
  have hl5' : (len : Int) ≤ 5000 := by omega
  have hn6 : n ≤ 6 := by omega
  have hn1 : 1 ≤ n := by omega
  obtain ⟨bb, hbb⟩ : ∃ bb, crossTo f len = bb := ⟨_, rfl⟩
  have HBB := Lib.hid hbb
  have HB : Hid ((decide (askS n len f = 0) && crossTo f len) = bb) := Lib.hid (by rw [ha0, decide_eq_true rfl, hbb]; rfl)
  rw [HB.out, HER.out]
  clear ha ha0 hfit hbb
  go_enter Try.func18, Try.ntmps18
  go_wp2_with fail
  refine (checkItems_any n len cap ao f _ hlen HC.out).mono ?_
  rw [HER.out]
  rintro e w1 ⟨rfl, hb⟩
  have D1 := Lib.hid hb
  clear hb
  go_wp2_with fail
  refine (sIdentity_any n _ hn6).mono ?_
  rintro e w2 ⟨⟨g, gcap, rfl, hiw, hgB, hgs, _, _⟩, hb⟩
  have HI := Lib.hid hiw
  have D2 := Lib.hid (D1.out.trans (hb.mono D1.out.size))
  have hgw : w.heap.size ≤ g := Nat.le_trans D1.out.size hgB
  clear hb hiw hgB
  go_wp2_with fail
  go_loopw [10, 21] (fun _ i wr => ∃ k : Nat, i = .int .i64 k ∧ k ≤ len ∧ Hid (crossTo f k = true) ∧ Hid (Intw wr g n (ltF f k)) ∧ Below w.heap.size w wr ∧ g < wr.heap.size) (fun _ i _ => len - (intOf i).toNat)
  case atStart => exact ⟨0, rfl, Nat.zero_le _, Lib.hid rfl, HI, D2.out, hgs⟩
  case round =>
    obtain ⟨k, rfl, hk, HK, HL, hbel, hsz⟩ := hrel
    clear HI hgs
    by_cases hlt : k < len
    · have hlt' : (k : Int) < (len : Int) := by omega
      obtain ⟨b, o, rfl, hcell⟩ := (Its.keep HC.out hbel) (by omega)
      obtain ⟨⟨kd, at', m, nm⟩, hx⟩ : ∃ x : It, f k = x := ⟨_, rfl⟩
      have hz := hcell k hlt
      have hfk := fitTo_at HF.out hlt
      rw [hx] at hz hfk
      have HFK := Lib.hid hfk
      have HX := Lib.hid hx
      obtain ⟨c0, c1, c2, c3, c4⟩ := hz
      simp only at c0 c1 c2 c3 c4
      have HNM := Lib.hid c4
      clear hcell hx c4 hfk
      by_cases h3 : kd = 3
      · subst h3
        obtain ⟨hat, hae⟩ := itF_cross HFK.out rfl
        obtain ⟨a, hA⟩ : ∃ a, itA ⟨3, at', m, nm⟩ = a := ⟨_, rfl⟩
        rw [hA] at hat hae
        have HAA := Lib.hid hA
        simp only at hat
        obtain rfl : at' = (a : Int) + 1 := hat
        have ha4 : (a : Int) ≤ 4 := by omega
        have han : (a : Int) + 1 < n := by omega
        have han' : (a : Int) < n := by omega
        have HK2 : Hid (crossTo f (k + 1) = true) := Lib.hid (by simp only [crossTo]; rw [HK.out, HX.out]; rfl)
        obtain ⟨x, hx⟩ : ∃ x, ltF f k a = x := ⟨_, rfl⟩
        obtain ⟨y, hy⟩ : ∃ y, ltF f k (a + 1) = y := ⟨_, rfl⟩
        obtain ⟨d0, e0⟩ := HL.out a (by omega)
        obtain ⟨d1, e1⟩ := HL.out (a + 1) (by omega)
        rw [hx] at d0
        rw [hy] at d1
        have HS : Hid (Intw ((wr.setCell ⟨g, a, none⟩ (.int .i64 y)).setCell ⟨g, a + 1, none⟩ (.int .i64 x)) g n (ltF f (k + 1))) := Lib.hid (by
          rw [ltF_succ, HX.out, HAA.out]; exact HL.out.swap (by omega) hx hy)
        clear hA hx hy hae
        go_wp2_with fail
        go_region
        all_goals
          go_wp2_with fail
          go_roundw
          case rel => exact ⟨k + 1, by go_num, by omega, HK2, Lib.hid (HS.out.keep (by go_grown)), by go_grown, by first | (simpa using hsz) | (simp; omega)⟩
          case measure => simp [intOf]; omega
      · have HE : Hid (bb = false) := Lib.hid (by rw [← HBB.out]; exact crossTo_stop (by rw [HX.out]; exact h3) len hlt)
        have hb0 : (kd == 3) = false := beq_eq_false_iff_ne.2 h3
        have hb1 : (kd != 3) = true := bne_iff_ne.2 h3
        clear h3
        go_wp2_with fail
        go_returns
        exact ⟨⟨none, 0, by rw [HE.out] <;> rfl, fun h => absurd h (by rw [HE.out]; simp [permL])⟩, by go_grown⟩
    · obtain rfl : k = len := by omega
      obtain rfl : bb = true := by rw [← HBB.out]; exact HK.out
      have HP := Lib.hid (ltF_perm hn1 hn6 HF.out HK.out k (Nat.le_refl _))
      go_wp2_with fail
      refine (inverse_any n gcap (some ⟨g, 0, none⟩) (ltF f k) _ HL.out.ints HP.out).mono ?_
      rintro e w4 ⟨⟨g4, c4, rfl, hw4, _, _, _, _⟩, hb⟩
      have HW4 := Lib.hid hw4
      have D4 := Lib.hid (hbel.trans (hb.mono hbel.size))
      clear hb hw4 hbel
      go_wp2_with fail
      go_returns
      exact ⟨⟨_, c4, rfl, (HW4.out.congr fun i hi => invTo_trF hn1 hn6 HF.out HK.out hi).ints⟩, D4.out⟩

set_option maxRecDepth 100000 in
set_option maxHeartbeats 1000000 in
theorem rItems_any (N : Int) (len cap : Nat) (ao : Option Addr) (f : Nat → It) (w : World) (hlen : len ≤ 9223372036854775807) (hc : Its w ao len f) :
    Calls Try.prog 26 #[.int .i64 N, .slice ao len cap] w fun e w' => e = .returned (.int .i64 (askS N len f)) ∧ Below w.heap.size w w' := by
  have HC := Lib.hid hc
  clear hc
  by_cases h1 : N < 1
  · have HE : Hid (askS N len f = 2) := Lib.hid (by unfold askS; rw [if_neg (by omega)])
    go_enter Try.func26, Try.ntmps26
    go_wp2_with fail
    go_returns
    exact ⟨by rw [HE.out] <;> rfl, by go_grown⟩
  by_cases h6 : 6 < N
  · have HE : Hid (askS N len f = 2) := Lib.hid (by unfold askS; rw [if_neg (by omega)])
    have h1' : 1 ≤ N := by omega
    go_enter Try.func26, Try.ntmps26
    go_wp2_with fail
    go_returns
    exact ⟨by rw [HE.out] <;> rfl, by go_grown⟩
  have h1' : 1 ≤ N := by omega
  have h6' : N ≤ 6 := by omega
  cases hv : flatB N len f with
  | true =>
    have HE : Hid (askS N len f = 0) := Lib.hid (by unfold flatB at hv; exact of_decide_eq_true hv)
    have HV := Lib.hid hv
    clear hv h1 h6
    go_enter Try.func26, Try.ntmps26
    go_wp2_with fail
    refine (rValidItems_any N len cap ao f _ hlen HC.out).mono ?_
    rw [HV.out]
    rintro e w1 ⟨rfl, hb⟩
    have D1 := Lib.hid hb
    clear hb
    go_wp2_with fail
    go_returns
    exact ⟨by rw [HE.out] <;> rfl, D1.out⟩
  | false =>
    have HE : Hid (askS N len f = 31) := Lib.hid (by
      have h0 : ¬ askS N len f = 0 := of_decide_eq_false hv
      unfold askS at h0 ⊢
      rw [if_pos ⟨h1', h6'⟩] at h0 ⊢
      by_cases h : len ≤ 5000 ∧ fitTo N.toNat f len = true
      · rw [if_pos h] at h0; exact absurd rfl h0
      · rw [if_neg h])
    have HV := Lib.hid hv
    clear hv h1 h6
    go_enter Try.func26, Try.ntmps26
    go_wp2_with fail
    refine (rValidItems_any N len cap ao f _ hlen HC.out).mono ?_
    rw [HV.out]
    rintro e w1 ⟨rfl, hb⟩
    have D1 := Lib.hid hb
    clear hb
    go_wp2_with fail
    go_returns
    exact ⟨by rw [HE.out] <;> rfl, D1.out⟩
end Go.Proofs.Ytpjfpkhcadombaa
