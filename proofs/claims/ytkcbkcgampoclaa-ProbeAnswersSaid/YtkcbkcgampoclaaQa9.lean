import Derived.Test.YtkcbkcgampoclaaMa9
namespace Go.Proofs.Ytkcbkcgampoclaa
open Go.RowKit Ben Prb
set_option maxRecDepth 100000 in
theorem pCheck_no (n : Int) (h : knB n = false) (v : Value) (w : World) :
    Calls Try.prog 33 #[.int .i64 n, v] w fun e w' => e = .returned (.int .i64 2) ∧ w = w' := by
  have H := Lib.hid h
  clear h
  go_enter Try.func33, Try.ntmps33
  go_wp2_with fail
  refine (pStates_no n H.out _).mono ?_
  rintro e w' ⟨rfl, rfl⟩
  go_wp2_with fail
  go_ret
  exact ⟨rfl, rfl⟩
set_option maxRecDepth 100000 in
set_option maxHeartbeats 4000000 in
theorem pAnswer_any (n st : Int) (m cap : Nat) (ao : Option Addr) (s : Nat → Bool) (p : Int) (w : World) (hm : m ≤ 9223372036854775807) (hc : Bools w ao m s) :
    Calls Try.prog 22 #[.int .i64 n, .int .i64 st, .slice ao m cap, .int .i64 p] w fun e w' => e = .returned (.tuple #[.int .i64 (anV n st m s p).1, .int .i64 (anV n st m s p).2]) ∧ Below w.heap.size w w' := by
  cases hk : knB n
  · have HE := Lib.hid (anV_no (m := m) (s := s) (p := p) (show (isB n st && fiB n m p) = false from by rw [isB_unk hk]; rfl))
    have HK := Lib.hid hk
    clear hk
    go_enter Try.func22, Try.ntmps22
    go_wp2_with fail
    refine (pCheck_no n HK.out _ _).mono ?_
    rintro e w' ⟨rfl, rfl⟩
    go_wp2_with fail
    go_ret2
    exact ⟨by rw [HE.out] <;> rfl, by go_grown⟩
  rcases kn_cases hk with rfl | rfl
  · clear hk
    cases h1 : isB 2 st
    · have HE := Lib.hid (anV_no (m := m) (s := s) (p := p) (show (isB 2 st && fiB 2 m p) = false from by rw [h1]; rfl))
      have H1 := Lib.hid (csE_no h1)
      clear h1
      go_enter Try.func22, Try.ntmps22
      go_wp2_with fail
      refine (pCheck_2 st _ _ _ (by go_cell)).mono ?_
      rw [H1.out]
      rintro e w' ⟨rfl, rfl⟩
      go_wp2_with fail
      go_ret2
      exact ⟨by rw [HE.out] <;> rfl, by go_grown⟩
    cases h2 : fiB 2 m p
    · have HE := Lib.hid (anV_no (m := m) (s := s) (p := p) (show (isB 2 st && fiB 2 m p) = false from by rw [h1, h2]; rfl))
      have H1 := Lib.hid (csE_ok h1)
      have H2 := Lib.hid h2
      clear h1 h2
      go_enter Try.func22, Try.ntmps22
      go_wp2_with fail
      refine (pCheck_2 st _ _ _ (by go_cell)).mono ?_
      rw [H1.out]
      rintro e w' ⟨rfl, rfl⟩
      go_wp2_with fail
      refine (pFits_2 m cap ao p hm _).mono ?_
      rw [H2.out]
      rintro e w' ⟨rfl, rfl⟩
      go_wp2_with fail
      go_ret2
      exact ⟨by rw [HE.out] <;> rfl, by go_grown⟩
    have HE := Lib.hid (anV_ok (m := m) (s := s) (p := p) h1 h2)
    have H1 := Lib.hid (csE_ok h1)
    have H2 := Lib.hid h2
    have hb := isB_get h1
    rw [show stV 2 = 2 from by decide] at hb
    have hf := fiB_get h2
    rw [show swV 2 = 1 from by decide] at hf
    obtain rfl : m = 1 := by omega
    obtain ⟨a, rfl⟩ := Int.eq_ofNat_of_zero_le hb.1
    obtain ⟨i, rfl⟩ := Int.eq_ofNat_of_zero_le hf.2.1
    have HC := Lib.hid hc
    have HF := Lib.hid (And.intro hb.2 hf.2.2)
    obtain ⟨N, hN⟩ : ∃ N, ofB s 1 = N := ⟨_, rfl⟩
    have hNl : N < 2 := by rw [← hN]; exact ofB_lt s 1
    have hal : a < 2 := by omega
    have hil : i < 2 := by omega
    have hxb := xor_bit (a := a) (b := N) (by omega) (by omega)
    have hXl : a ^^^ N < 2 := Nat.xor_lt_two_pow (n := 1) hal hNl
    have hXo : out (bt (a ^^^ N)) 0 0 i = out (tsB s a) 0 0 i := by rw [← hN]; exact out_xor (k := 0) hil
    obtain ⟨X, hX⟩ : ∃ X, a ^^^ N = X := ⟨_, rfl⟩
    rw [hX] at hxb hXl hXo
    have HE2 : Hid (anV 2 (a : Int) 1 s (i : Int) = (((out (bt X) 0 0 i : Nat) : Int), 0)) := Lib.hid (by rw [hXo]; exact HE.out)
    have HN := Lib.hid hN
    have HX := Lib.hid hXl
    have i0 : (0 : Int) ≤ (i : Int) := by omega
    have in' : (i : Int) < 2 := by omega
    have it : (i : Int).toNat = i := by omega
    have HIL := Lib.hid hil
    clear hb hf hc h1 h2 hm HE hN hNl hal hX hXl hXo hil
    go_enter Try.func22, Try.ntmps22
    go_wp2_with fail
    refine (pCheck_2 (a : Int) _ _ _ (by go_cell)).mono ?_
    rw [H1.out]
    rintro e w' ⟨rfl, rfl⟩
    go_wp2_with fail
    refine (pFits_2 1 cap ao (i : Int) (by decide) _).mono ?_
    rw [H2.out]
    rintro e w' ⟨rfl, rfl⟩
    go_wp2_with fail
    refine (number_any 1 cap ao s _ (by decide) (HC.out.keep (by go_grown))).mono ?_
    rw [HN.out]
    rintro e w' ⟨rfl, rfl⟩
    go_wp2_with fail
    refine (made_2 X _ HX.out).mono ?_
    rintro e w1 ⟨⟨g, cap', rfl, hW, hg1, hg2⟩, hb⟩
    have g0 := (hW i HIL.out).1
    have HB := Lib.hid (show Below w.heap.size w w1 from Below.trans (by go_grown) (hb.mono (by first | omega | (simp; done) | (simp; omega))))
    have hbl := HB.out
    clear hW hg1 hb
    go_wp2_with fail
    go_ret2
    exact ⟨by rw [HE2.out] <;> rfl, by go_grown⟩
  · clear hk
    cases h1 : isB 4 st
    · have HE := Lib.hid (anV_no (m := m) (s := s) (p := p) (show (isB 4 st && fiB 4 m p) = false from by rw [h1]; rfl))
      have H1 := Lib.hid (csE_no h1)
      clear h1
      go_enter Try.func22, Try.ntmps22
      go_wp2_with fail
      refine (pCheck_4 st _ _ _ (by go_cell)).mono ?_
      rw [H1.out]
      rintro e w' ⟨rfl, rfl⟩
      go_wp2_with fail
      go_ret2
      exact ⟨by rw [HE.out] <;> rfl, by go_grown⟩
    cases h2 : fiB 4 m p
    · have HE := Lib.hid (anV_no (m := m) (s := s) (p := p) (show (isB 4 st && fiB 4 m p) = false from by rw [h1, h2]; rfl))
      have H1 := Lib.hid (csE_ok h1)
      have H2 := Lib.hid h2
      clear h1 h2
      go_enter Try.func22, Try.ntmps22
      go_wp2_with fail
      refine (pCheck_4 st _ _ _ (by go_cell)).mono ?_
      rw [H1.out]
      rintro e w' ⟨rfl, rfl⟩
      go_wp2_with fail
      refine (pFits_4 m cap ao p hm _).mono ?_
      rw [H2.out]
      rintro e w' ⟨rfl, rfl⟩
      go_wp2_with fail
      go_ret2
      exact ⟨by rw [HE.out] <;> rfl, by go_grown⟩
    have HE := Lib.hid (anV_ok (m := m) (s := s) (p := p) h1 h2)
    have H1 := Lib.hid (csE_ok h1)
    have H2 := Lib.hid h2
    have hb := isB_get h1
    rw [show stV 4 = 64 from by decide] at hb
    have hf := fiB_get h2
    rw [show swV 4 = 6 from by decide] at hf
    obtain rfl : m = 6 := by omega
    obtain ⟨a, rfl⟩ := Int.eq_ofNat_of_zero_le hb.1
    obtain ⟨i, rfl⟩ := Int.eq_ofNat_of_zero_le hf.2.1
    have HC := Lib.hid hc
    have HF := Lib.hid (And.intro hb.2 hf.2.2)
    obtain ⟨N, hN⟩ : ∃ N, ofB s 6 = N := ⟨_, rfl⟩
    have hNl : N < 64 := by rw [← hN]; exact ofB_lt s 6
    have hal : a < 64 := by omega
    have hil : i < 4 := by omega
    have hxb := xor_bit (a := a) (b := N) (by omega) (by omega)
    have hXl : a ^^^ N < 64 := Nat.xor_lt_two_pow (n := 6) hal hNl
    have hXo : out (bt (a ^^^ N)) 1 0 i = out (tsB s a) 1 0 i := by rw [← hN]; exact out_xor (k := 1) hil
    obtain ⟨X, hX⟩ : ∃ X, a ^^^ N = X := ⟨_, rfl⟩
    rw [hX] at hxb hXl hXo
    have HE2 : Hid (anV 4 (a : Int) 6 s (i : Int) = (((out (bt X) 1 0 i : Nat) : Int), 0)) := Lib.hid (by rw [hXo]; exact HE.out)
    have HN := Lib.hid hN
    have HX := Lib.hid hXl
    have i0 : (0 : Int) ≤ (i : Int) := by omega
    have in' : (i : Int) < 4 := by omega
    have it : (i : Int).toNat = i := by omega
    have HIL := Lib.hid hil
    clear hb hf hc h1 h2 hm HE hN hNl hal hX hXl hXo hil
    go_enter Try.func22, Try.ntmps22
    go_wp2_with fail
    refine (pCheck_4 (a : Int) _ _ _ (by go_cell)).mono ?_
    rw [H1.out]
    rintro e w' ⟨rfl, rfl⟩
    go_wp2_with fail
    refine (pFits_4 6 cap ao (i : Int) (by decide) _).mono ?_
    rw [H2.out]
    rintro e w' ⟨rfl, rfl⟩
    go_wp2_with fail
    refine (number_any 6 cap ao s _ (by decide) (HC.out.keep (by go_grown))).mono ?_
    rw [HN.out]
    rintro e w' ⟨rfl, rfl⟩
    go_wp2_with fail
    refine (made_4 X _ HX.out).mono ?_
    rintro e w1 ⟨⟨g, cap', rfl, hW, hg1, hg2⟩, hb⟩
    have g0 := (hW i HIL.out).1
    have HB := Lib.hid (show Below w.heap.size w w1 from Below.trans (by go_grown) (hb.mono (by first | omega | (simp; done) | (simp; omega))))
    have hbl := HB.out
    clear hW hg1 hb
    go_wp2_with fail
    go_ret2
    exact ⟨by rw [HE2.out] <;> rfl, by go_grown⟩
end Go.Proofs.Ytkcbkcgampoclaa
