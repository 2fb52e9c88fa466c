import Derived.Test.YtkcbkcgampoclaaGa9
namespace Go.Proofs.Ytkcbkcgampoclaa
open Go.RowKit Ben Prb
set_option maxRecDepth 100000 in
set_option maxHeartbeats 8000000 in
theorem pAgrees_any (n st : Int) (m cap : Nat) (ao : Option Addr) (s : Nat → Bool) (p q : Int) (w : World) (hm : m ≤ 9223372036854775807) (hc : Bools w ao m s) :
    Calls Try.prog 24 #[.int .i64 n, .int .i64 st, .agg #[.slice ao m cap, .int .i64 p, .int .i64 q]] w fun e w' => e = .returned (.tuple #[.bool (agV n st m s p q).1, .int .i64 (agV n st m s p q).2]) ∧ Below w.heap.size w w' := by
  cases hk : knB n
  · have HE := Lib.hid (agV_arg (m := m) (s := s) (p := p) (q := q) (isB_unk (st := st) hk))
    have HK := Lib.hid hk
    clear hk
    go_enter Try.func24, Try.ntmps24
    go_wp2_with fail
    refine (pCheck_no n HK.out _ _).mono ?_
    rintro e w' ⟨rfl, rfl⟩
    go_wp2_with fail
    go_ret2
    exact ⟨by rw [HE.out] <;> rfl, by go_grown⟩
  rcases kn_cases hk with rfl | rfl
  · clear hk
    cases h1 : isB 2 st
    · have HE := Lib.hid (agV_arg (m := m) (s := s) (p := p) (q := q) h1)
      have H1 := Lib.hid h1
      clear h1
      go_enter Try.func24, Try.ntmps24
      go_wp2_with fail
      refine (pCheck_2 st _ _ _ (by go_cell)).mono ?_
      rw [csE_no H1.out]
      rintro e w' ⟨rfl, rfl⟩
      go_wp2_with fail
      go_ret2
      exact ⟨by rw [HE.out] <;> rfl, by go_grown⟩
    cases h2 : teB 2 m p q
    · have HE := Lib.hid (agV_no (s := s) h1 h2)
      have H1 := Lib.hid h1
      have H2 := Lib.hid h2
      clear h1 h2
      go_enter Try.func24, Try.ntmps24
      go_wp2_with fail
      refine (pCheck_2 st _ _ _ (by go_cell)).mono ?_
      rw [csE_ok H1.out]
      rintro e w' ⟨rfl, rfl⟩
      go_wp2_with fail
      refine (pAreTests_2 m cap ao p q _ _ _ hm (by refine ⟨?_, ?_, ?_⟩ <;> go_cell)).mono ?_
      rw [H2.out]
      rintro e w1 ⟨rfl, hb⟩
      have T1 := (show HT (_ : World) w.heap.size ao m cap p q from (by refine ⟨?_, ?_, ?_⟩ <;> first | go_cell | assumption)).keep hb
      have HB1 := Lib.hid (show Below w.heap.size w w1 from Below.trans (by go_grown) (hb.mono (by first | omega | (simp; done) | (simp; omega))))
      have hs1 : w.heap.size < w1.heap.size := by have h9 := hb.size; (try simp at h9); omega
      clear hb
      have hbl := HB1.out
      obtain ⟨t0, t1, t2⟩ := T1
      go_wp2_with fail
      go_ret2
      exact ⟨by rw [HE.out] <;> rfl, by go_grown⟩
    have H1 := Lib.hid h1
    have H2 := Lib.hid h2
    have h3 : fiB 2 m p = true ∧ poB 2 q = true := by
      unfold teB at h2
      rw [Bool.and_eq_true] at h2
      exact h2
    have HE := Lib.hid (agV_ok (s := s) h1 h3.1 h3.2)
    have h2 := h3.1
    have hb := isB_get h1
    rw [show stV 2 = 2 from by decide] at hb
    have hf := fiB_get h2
    rw [show swV 2 = 1 from by decide] at hf
    obtain rfl : m = 1 := by omega
    obtain ⟨a, rfl⟩ := Int.eq_ofNat_of_zero_le hb.1
    obtain ⟨i, rfl⟩ := Int.eq_ofNat_of_zero_le hf.2.1
    have hal : a < 2 := by omega
    have hil : i < 2 := by omega
    have HC := Lib.hid hc
    have HAL := Lib.hid (And.intro hal hil)
    obtain ⟨N, hN⟩ : ∃ N, ofB s 1 = N := ⟨_, rfl⟩
    have hNl : N < 2 := by rw [← hN]; exact ofB_lt s 1
    have hxb := xor_bit (a := a) (b := N) (by omega) (by omega)
    have hXl : a ^^^ N < 2 := Nat.xor_lt_two_pow (n := 1) hal hNl
    have hXo : out (bt (a ^^^ N)) 0 0 i = out (tsB s a) 0 0 i := by rw [← hN]; exact out_xor (k := 0) hil
    obtain ⟨X, hX⟩ : ∃ X, a ^^^ N = X := ⟨_, rfl⟩
    rw [hX] at hxb hXl hXo
    have HE2 : Hid (agV 2 (a : Int) 1 s (i : Int) q = (((out (bt X) 0 0 i : Nat) : Int) == q, 0)) := Lib.hid (by rw [hXo]; exact HE.out)
    have HN := Lib.hid hN
    have HX := Lib.hid hXl
    have i0 : (0 : Int) ≤ (i : Int) := by omega
    have in' : (i : Int) < 2 := by omega
    have it : (i : Int).toNat = i := by omega
    clear hN hNl hX hXl hXo
    clear hb hf hc h1 h2 h3 hm hal hil HE
    go_enter Try.func24, Try.ntmps24
    go_wp2_with fail
    refine (pCheck_2 (a : Int) _ _ _ (by go_cell)).mono ?_
    rw [csE_ok H1.out]
    rintro e w' ⟨rfl, rfl⟩
    go_wp2_with fail
    refine (pAreTests_2 1 cap ao (i : Int) q _ _ _ (by decide) (by refine ⟨?_, ?_, ?_⟩ <;> go_cell)).mono ?_
    rw [H2.out]
    rintro e w1 ⟨rfl, hb⟩
    have T1 := (show HT (_ : World) w.heap.size ao 1 cap (i : Int) q from (by refine ⟨?_, ?_, ?_⟩ <;> first | go_cell | assumption)).keep hb
    have HB1 := Lib.hid (show Below w.heap.size w w1 from Below.trans (by go_grown) (hb.mono (by first | omega | (simp; done) | (simp; omega))))
    have hs1 : w.heap.size < w1.heap.size := by have h9 := hb.size; (try simp at h9); omega
    clear hb
    have hbl := HB1.out
    obtain ⟨t0, t1, t2⟩ := T1
    have HK : Hid (∀ w', Below w1.heap.size w1 w' → (w'.cell? ⟨w.heap.size, 0, none⟩ = some (.slice ao 1 cap) ∧ w'.cell? ⟨w.heap.size, 1, none⟩ = some (.int .i64 (i : Int)) ∧ w'.cell? ⟨w.heap.size, 2, none⟩ = some (.int .i64 q))) := Lib.hid (fun w' hb => (show HT w1 w.heap.size ao 1 cap (i : Int) q from ⟨t0, t1, t2⟩).keep hb)
    clear t0 t1 t2
    go_upto_region 6 with fail
    refine wp_region_held_drew (S := fun w' => (w'.cell? ⟨w.heap.size, 0, none⟩ = some (.slice ao 1 cap) ∧ w'.cell? ⟨w.heap.size, 1, none⟩ = some (.int .i64 (i : Int)) ∧ w'.cell? ⟨w.heap.size, 2, none⟩ = some (.int .i64 q))) (by kernel_rfl) (HK.out _ ((Below.refl _ _).drew)) (fun hHeld => ?_)
    refine wpAnyH_take (i := 0) (oi := _) (v := ?_) rfl (by kernel_rfl) (by kernel_rfl) (by kernel_rfl) (fun _ _ _ h => h) (Or.inl ⟨by rfl, ?_⟩) (by assumption) ?_
    rotate_left
    · intro w hSw; obtain ⟨s0, s1, s2⟩ := hSw; go_simp; (try with_reducible rfl)
    try change wpAnyH _ _ _ _ _ _ _ (Act.put _ (some 21) _) _
    try simp only [act_all7]
    refine wpAnyH_take (i := 1) (oi := _) (v := ?_) rfl (by kernel_rfl) (by kernel_rfl) (by kernel_rfl) (fun _ _ _ h => h) (Or.inl ⟨by rfl, ?_⟩) (by assumption) ?_
    rotate_left
    · intro w hSw; obtain ⟨s0, s1, s2⟩ := hSw; go_simp; (try with_reducible rfl)
    try change wpAnyH _ _ _ _ _ _ _ (Act.put _ (some 22) _) _
    try simp only [act_all7]
    refine wpAnyH_take (i := 2) (oi := _) (v := ?_) rfl (by kernel_rfl) (by kernel_rfl) (by kernel_rfl) (fun _ _ _ h => h) (Or.inl ⟨by rfl, ?_⟩) (by assumption) ?_
    rotate_left
    · intro w hSw; obtain ⟨s0, s1, s2⟩ := hSw; go_simp; (try with_reducible rfl)
    try change wpAnyH _ _ _ _ _ _ _ (Act.put _ (some 23) _) _
    try simp only [act_all7]
    refine wpAnyH_take (i := 3) (oi := _) (v := ?_) rfl (by kernel_rfl) (by kernel_rfl) (by kernel_rfl) (fun _ _ _ h => h) (Or.inl ⟨by rfl, ?_⟩) (by assumption) ?_
    rotate_left
    · intro w hSw; obtain ⟨s0, s1, s2⟩ := hSw; go_simp; (try with_reducible rfl)
    try change wpAnyH _ _ _ _ _ _ _ (Act.put _ (some 24) _) _
    try simp only [act_all7]
    refine wpAnyH_take (i := 7) (oi := _) (v := ?_) rfl (by kernel_rfl) (by kernel_rfl) (by kernel_rfl) (fun _ _ _ h => h) (Or.inl ⟨by rfl, ?_⟩) (by assumption) ?_
    rotate_left
    · intro w hSw; obtain ⟨s0, s1, s2⟩ := hSw; go_simp; (try with_reducible rfl)
    try change wpAnyH _ _ _ _ _ _ _ (Act.put _ (some 28) _) _
    try simp only [act_all7]
    refine wpAnyH_take (i := 8) (oi := _) (v := ?_) rfl (by kernel_rfl) (by kernel_rfl) (by kernel_rfl) (fun _ _ _ h => h) (Or.inl ⟨by rfl, ?_⟩) (by assumption) ?_
    rotate_left
    · intro w hSw; obtain ⟨s0, s1, s2⟩ := hSw; go_simp; (try with_reducible rfl)
    try change wpAnyH _ _ _ _ _ _ _ (Act.put _ (some 29) _) _
    try simp only [act_all7]
    refine wpAnyH_take (i := 11) (oi := _) (v := ?_) rfl (by kernel_rfl) (by kernel_rfl) (by kernel_rfl) (fun _ _ _ h => h) (Or.inl ⟨by rfl, ?_⟩) (by assumption) ?_
    rotate_left
    · intro w hSw; obtain ⟨s0, s1, s2⟩ := hSw; go_simp; (try with_reducible rfl)
    try change wpAnyH _ _ _ _ _ _ _ (Act.put _ (some 32) _) _
    try simp only [act_all7]
    refine wpAnyH_take (i := 12) (oi := _) (v := ?_) rfl (by kernel_rfl) (by kernel_rfl) (by kernel_rfl) (fun _ _ _ h => h) (Or.inl ⟨by rfl, ?_⟩) (by assumption) ?_
    rotate_left
    · intro w hSw; obtain ⟨s0, s1, s2⟩ := hSw; go_simp; (try with_reducible rfl)
    try change wpAnyH _ _ _ _ _ _ _ (Act.put _ (some 33) _) _
    try simp only [act_all7]
    refine wpAnyH_ready (rs := [4]) (by kernel_rfl) (by simp) ?_
    refine AllReadyH.cons (o := _) rfl (fun K hK => ?_) AllReadyH.nil
    go_simp
    refine (number_any 1 cap ao s _ (by decide) (HC.out.keep (HB1.out.trans ((Below.refl _ _).drew.mono HB1.out.size)))).mono ?_
    rw [HN.out]
    rintro e w' ⟨rfl, rfl⟩
    refine hK.out _ _ (HK.out _ ((Below.refl _ _).drew)) (fun hHeld => ?_)
    clear hK K
    try simp only [act_all7]
    refine wpAnyH_take (i := 5) (oi := _) (v := ?_) rfl (by kernel_rfl) (by kernel_rfl) (by kernel_rfl) (fun _ _ _ h => h) (Or.inl ⟨by rfl, ?_⟩) (by assumption) ?_
    rotate_left
    · intro w hSw; obtain ⟨s0, s1, s2⟩ := hSw; go_simp; (try with_reducible rfl)
    try change wpAnyH _ _ _ _ _ _ _ (Act.put _ (some 26) _) _
    try simp only [act_all7]
    refine wpAnyH_ready (rs := [6]) (by kernel_rfl) (by simp) ?_
    refine AllReadyH.cons (o := _) rfl (fun K hK => ?_) AllReadyH.nil
    go_simp
    refine (made_2 X _ HX.out).mono ?_
    rintro e w3 ⟨⟨g, cap', rfl, hW, hg1, hg2⟩, hb⟩
    have g0 := (hW i HAL.out.2).1
    have D3 : Below w1.heap.size w1 w3 := (Below.refl _ _).drew.trans hb
    clear hb hW hg1
    refine hK.out _ _ (HK.out _ D3) (fun hHeld => ?_)
    clear hK K
    try simp only [act_all7]
    refine wpAnyH_take (i := 9) (oi := _) (v := ?_) rfl (by kernel_rfl) (by kernel_rfl) (by kernel_rfl) (fun _ _ _ h => h) (Or.inl ⟨by rfl, ?_⟩) (by assumption) ?_
    rotate_left
    · intro w hSw; obtain ⟨s0, s1, s2⟩ := hSw; go_simp; (try with_reducible rfl)
    try change wpAnyH _ _ _ _ _ _ _ (Act.put _ (some 30) _) _
    try simp only [act_all7]
    refine wpAnyH_ready (rs := [10]) (by kernel_rfl) (by simp) ?_
    refine AllReadyH.cons (o := _) rfl (fun K hK => ?_) AllReadyH.nil
    go_simp
    refine hK.out _ _ (HK.out _ D3) (fun hHeld => ?_)
    clear hK K
    try simp only [act_all7]
    refine wpAnyH_take (i := 13) (oi := _) (v := ?_) rfl (by kernel_rfl) (by kernel_rfl) (by kernel_rfl) (fun _ _ _ h => h) (Or.inl ⟨by rfl, ?_⟩) (by assumption) ?_
    rotate_left
    · intro w hSw; obtain ⟨s0, s1, s2⟩ := hSw; go_simp; (try with_reducible rfl)
    try change wpAnyH _ _ _ _ _ _ _ (Act.put _ (some 34) _) _
    try simp only [act_all7]
    refine wpAnyH_take (i := 14) (oi := _) (v := ?_) rfl (by kernel_rfl) (by kernel_rfl) (by kernel_rfl) (fun _ _ _ h => h) (Or.inl ⟨by rfl, ?_⟩) (by assumption) ?_
    rotate_left
    · intro w hSw; obtain ⟨s0, s1, s2⟩ := hSw; go_simp; (try with_reducible rfl)
    try change wpAnyH _ _ _ _ _ _ _ (Act.put _ (some 6) _) _
    try simp only [act_all7]
    refine wpAnyH_take (i := 15) (oi := _) (v := ?_) rfl (by kernel_rfl) (by kernel_rfl) (by kernel_rfl) (fun _ _ _ h => h) (Or.inl ⟨by rfl, ?_⟩) (by assumption) ?_
    rotate_left
    · intro w hSw; obtain ⟨s0, s1, s2⟩ := hSw; go_simp; (try with_reducible rfl)
    try change wpAnyH _ _ _ _ _ _ _ (Act.put _ (some 7) _) _
    try simp only [act_all7]
    refine wpAnyH_done (by kernel_rfl) ?_ _
    have hbl2 := HB1.out.trans (D3.mono HB1.out.size)
    clear HK hHeld D3 hbl
    go_wp2_with fail
    go_ret2
    exact ⟨by rw [HE2.out] <;> rfl, by go_grown⟩
  · clear hk
    cases h1 : isB 4 st
    · have HE := Lib.hid (agV_arg (m := m) (s := s) (p := p) (q := q) h1)
      have H1 := Lib.hid h1
      clear h1
      go_enter Try.func24, Try.ntmps24
      go_wp2_with fail
      refine (pCheck_4 st _ _ _ (by go_cell)).mono ?_
      rw [csE_no H1.out]
      rintro e w' ⟨rfl, rfl⟩
      go_wp2_with fail
      go_ret2
      exact ⟨by rw [HE.out] <;> rfl, by go_grown⟩
    cases h2 : teB 4 m p q
    · have HE := Lib.hid (agV_no (s := s) h1 h2)
      have H1 := Lib.hid h1
      have H2 := Lib.hid h2
      clear h1 h2
      go_enter Try.func24, Try.ntmps24
      go_wp2_with fail
      refine (pCheck_4 st _ _ _ (by go_cell)).mono ?_
      rw [csE_ok H1.out]
      rintro e w' ⟨rfl, rfl⟩
      go_wp2_with fail
      refine (pAreTests_4 m cap ao p q _ _ _ hm (by refine ⟨?_, ?_, ?_⟩ <;> go_cell)).mono ?_
      rw [H2.out]
      rintro e w1 ⟨rfl, hb⟩
      have T1 := (show HT (_ : World) w.heap.size ao m cap p q from (by refine ⟨?_, ?_, ?_⟩ <;> first | go_cell | assumption)).keep hb
      have HB1 := Lib.hid (show Below w.heap.size w w1 from Below.trans (by go_grown) (hb.mono (by first | omega | (simp; done) | (simp; omega))))
      have hs1 : w.heap.size < w1.heap.size := by have h9 := hb.size; (try simp at h9); omega
      clear hb
      have hbl := HB1.out
      obtain ⟨t0, t1, t2⟩ := T1
      go_wp2_with fail
      go_ret2
      exact ⟨by rw [HE.out] <;> rfl, by go_grown⟩
    have H1 := Lib.hid h1
    have H2 := Lib.hid h2
    have h3 : fiB 4 m p = true ∧ poB 4 q = true := by
      unfold teB at h2
      rw [Bool.and_eq_true] at h2
      exact h2
    have HE := Lib.hid (agV_ok (s := s) h1 h3.1 h3.2)
    have h2 := h3.1
    have hb := isB_get h1
    rw [show stV 4 = 64 from by decide] at hb
    have hf := fiB_get h2
    rw [show swV 4 = 6 from by decide] at hf
    obtain rfl : m = 6 := by omega
    obtain ⟨a, rfl⟩ := Int.eq_ofNat_of_zero_le hb.1
    obtain ⟨i, rfl⟩ := Int.eq_ofNat_of_zero_le hf.2.1
    have hal : a < 64 := by omega
    have hil : i < 4 := by omega
    have HC := Lib.hid hc
    have HAL := Lib.hid (And.intro hal hil)
    obtain ⟨N, hN⟩ : ∃ N, ofB s 6 = N := ⟨_, rfl⟩
    have hNl : N < 64 := by rw [← hN]; exact ofB_lt s 6
    have hxb := xor_bit (a := a) (b := N) (by omega) (by omega)
    have hXl : a ^^^ N < 64 := Nat.xor_lt_two_pow (n := 6) hal hNl
    have hXo : out (bt (a ^^^ N)) 1 0 i = out (tsB s a) 1 0 i := by rw [← hN]; exact out_xor (k := 1) hil
    obtain ⟨X, hX⟩ : ∃ X, a ^^^ N = X := ⟨_, rfl⟩
    rw [hX] at hxb hXl hXo
    have HE2 : Hid (agV 4 (a : Int) 6 s (i : Int) q = (((out (bt X) 1 0 i : Nat) : Int) == q, 0)) := Lib.hid (by rw [hXo]; exact HE.out)
    have HN := Lib.hid hN
    have HX := Lib.hid hXl
    have i0 : (0 : Int) ≤ (i : Int) := by omega
    have in' : (i : Int) < 4 := by omega
    have it : (i : Int).toNat = i := by omega
    clear hN hNl hX hXl hXo
    clear hb hf hc h1 h2 h3 hm hal hil HE
    go_enter Try.func24, Try.ntmps24
    go_wp2_with fail
    refine (pCheck_4 (a : Int) _ _ _ (by go_cell)).mono ?_
    rw [csE_ok H1.out]
    rintro e w' ⟨rfl, rfl⟩
    go_wp2_with fail
    refine (pAreTests_4 6 cap ao (i : Int) q _ _ _ (by decide) (by refine ⟨?_, ?_, ?_⟩ <;> go_cell)).mono ?_
    rw [H2.out]
    rintro e w1 ⟨rfl, hb⟩
    have T1 := (show HT (_ : World) w.heap.size ao 6 cap (i : Int) q from (by refine ⟨?_, ?_, ?_⟩ <;> first | go_cell | assumption)).keep hb
    have HB1 := Lib.hid (show Below w.heap.size w w1 from Below.trans (by go_grown) (hb.mono (by first | omega | (simp; done) | (simp; omega))))
    have hs1 : w.heap.size < w1.heap.size := by have h9 := hb.size; (try simp at h9); omega
    clear hb
    have hbl := HB1.out
    obtain ⟨t0, t1, t2⟩ := T1
    have HK : Hid (∀ w', Below w1.heap.size w1 w' → (w'.cell? ⟨w.heap.size, 0, none⟩ = some (.slice ao 6 cap) ∧ w'.cell? ⟨w.heap.size, 1, none⟩ = some (.int .i64 (i : Int)) ∧ w'.cell? ⟨w.heap.size, 2, none⟩ = some (.int .i64 q))) := Lib.hid (fun w' hb => (show HT w1 w.heap.size ao 6 cap (i : Int) q from ⟨t0, t1, t2⟩).keep hb)
    clear t0 t1 t2
    go_upto_region 6 with fail
    refine wp_region_held_drew (S := fun w' => (w'.cell? ⟨w.heap.size, 0, none⟩ = some (.slice ao 6 cap) ∧ w'.cell? ⟨w.heap.size, 1, none⟩ = some (.int .i64 (i : Int)) ∧ w'.cell? ⟨w.heap.size, 2, none⟩ = some (.int .i64 q))) (by kernel_rfl) (HK.out _ ((Below.refl _ _).drew)) (fun hHeld => ?_)
    refine wpAnyH_take (i := 0) (oi := _) (v := ?_) rfl (by kernel_rfl) (by kernel_rfl) (by kernel_rfl) (fun _ _ _ h => h) (Or.inl ⟨by rfl, ?_⟩) (by assumption) ?_
    rotate_left
    · intro w hSw; obtain ⟨s0, s1, s2⟩ := hSw; go_simp; (try with_reducible rfl)
    try change wpAnyH _ _ _ _ _ _ _ (Act.put _ (some 21) _) _
    try simp only [act_all7]
    refine wpAnyH_take (i := 1) (oi := _) (v := ?_) rfl (by kernel_rfl) (by kernel_rfl) (by kernel_rfl) (fun _ _ _ h => h) (Or.inl ⟨by rfl, ?_⟩) (by assumption) ?_
    rotate_left
    · intro w hSw; obtain ⟨s0, s1, s2⟩ := hSw; go_simp; (try with_reducible rfl)
    try change wpAnyH _ _ _ _ _ _ _ (Act.put _ (some 22) _) _
    try simp only [act_all7]
    refine wpAnyH_take (i := 2) (oi := _) (v := ?_) rfl (by kernel_rfl) (by kernel_rfl) (by kernel_rfl) (fun _ _ _ h => h) (Or.inl ⟨by rfl, ?_⟩) (by assumption) ?_
    rotate_left
    · intro w hSw; obtain ⟨s0, s1, s2⟩ := hSw; go_simp; (try with_reducible rfl)
    try change wpAnyH _ _ _ _ _ _ _ (Act.put _ (some 23) _) _
    try simp only [act_all7]
    refine wpAnyH_take (i := 3) (oi := _) (v := ?_) rfl (by kernel_rfl) (by kernel_rfl) (by kernel_rfl) (fun _ _ _ h => h) (Or.inl ⟨by rfl, ?_⟩) (by assumption) ?_
    rotate_left
    · intro w hSw; obtain ⟨s0, s1, s2⟩ := hSw; go_simp; (try with_reducible rfl)
    try change wpAnyH _ _ _ _ _ _ _ (Act.put _ (some 24) _) _
    try simp only [act_all7]
    refine wpAnyH_take (i := 7) (oi := _) (v := ?_) rfl (by kernel_rfl) (by kernel_rfl) (by kernel_rfl) (fun _ _ _ h => h) (Or.inl ⟨by rfl, ?_⟩) (by assumption) ?_
    rotate_left
    · intro w hSw; obtain ⟨s0, s1, s2⟩ := hSw; go_simp; (try with_reducible rfl)
    try change wpAnyH _ _ _ _ _ _ _ (Act.put _ (some 28) _) _
    try simp only [act_all7]
    refine wpAnyH_take (i := 8) (oi := _) (v := ?_) rfl (by kernel_rfl) (by kernel_rfl) (by kernel_rfl) (fun _ _ _ h => h) (Or.inl ⟨by rfl, ?_⟩) (by assumption) ?_
    rotate_left
    · intro w hSw; obtain ⟨s0, s1, s2⟩ := hSw; go_simp; (try with_reducible rfl)
    try change wpAnyH _ _ _ _ _ _ _ (Act.put _ (some 29) _) _
    try simp only [act_all7]
    refine wpAnyH_take (i := 11) (oi := _) (v := ?_) rfl (by kernel_rfl) (by kernel_rfl) (by kernel_rfl) (fun _ _ _ h => h) (Or.inl ⟨by rfl, ?_⟩) (by assumption) ?_
    rotate_left
    · intro w hSw; obtain ⟨s0, s1, s2⟩ := hSw; go_simp; (try with_reducible rfl)
    try change wpAnyH _ _ _ _ _ _ _ (Act.put _ (some 32) _) _
    try simp only [act_all7]
    refine wpAnyH_take (i := 12) (oi := _) (v := ?_) rfl (by kernel_rfl) (by kernel_rfl) (by kernel_rfl) (fun _ _ _ h => h) (Or.inl ⟨by rfl, ?_⟩) (by assumption) ?_
    rotate_left
    · intro w hSw; obtain ⟨s0, s1, s2⟩ := hSw; go_simp; (try with_reducible rfl)
    try change wpAnyH _ _ _ _ _ _ _ (Act.put _ (some 33) _) _
    try simp only [act_all7]
    refine wpAnyH_ready (rs := [4]) (by kernel_rfl) (by simp) ?_
    refine AllReadyH.cons (o := _) rfl (fun K hK => ?_) AllReadyH.nil
    go_simp
    refine (number_any 6 cap ao s _ (by decide) (HC.out.keep (HB1.out.trans ((Below.refl _ _).drew.mono HB1.out.size)))).mono ?_
    rw [HN.out]
    rintro e w' ⟨rfl, rfl⟩
    refine hK.out _ _ (HK.out _ ((Below.refl _ _).drew)) (fun hHeld => ?_)
    clear hK K
    try simp only [act_all7]
    refine wpAnyH_take (i := 5) (oi := _) (v := ?_) rfl (by kernel_rfl) (by kernel_rfl) (by kernel_rfl) (fun _ _ _ h => h) (Or.inl ⟨by rfl, ?_⟩) (by assumption) ?_
    rotate_left
    · intro w hSw; obtain ⟨s0, s1, s2⟩ := hSw; go_simp; (try with_reducible rfl)
    try change wpAnyH _ _ _ _ _ _ _ (Act.put _ (some 26) _) _
    try simp only [act_all7]
    refine wpAnyH_ready (rs := [6]) (by kernel_rfl) (by simp) ?_
    refine AllReadyH.cons (o := _) rfl (fun K hK => ?_) AllReadyH.nil
    go_simp
    refine (made_4 X _ HX.out).mono ?_
    rintro e w3 ⟨⟨g, cap', rfl, hW, hg1, hg2⟩, hb⟩
    have g0 := (hW i HAL.out.2).1
    have D3 : Below w1.heap.size w1 w3 := (Below.refl _ _).drew.trans hb
    clear hb hW hg1
    refine hK.out _ _ (HK.out _ D3) (fun hHeld => ?_)
    clear hK K
    try simp only [act_all7]
    refine wpAnyH_take (i := 9) (oi := _) (v := ?_) rfl (by kernel_rfl) (by kernel_rfl) (by kernel_rfl) (fun _ _ _ h => h) (Or.inl ⟨by rfl, ?_⟩) (by assumption) ?_
    rotate_left
    · intro w hSw; obtain ⟨s0, s1, s2⟩ := hSw; go_simp; (try with_reducible rfl)
    try change wpAnyH _ _ _ _ _ _ _ (Act.put _ (some 30) _) _
    try simp only [act_all7]
    refine wpAnyH_ready (rs := [10]) (by kernel_rfl) (by simp) ?_
    refine AllReadyH.cons (o := _) rfl (fun K hK => ?_) AllReadyH.nil
    go_simp
    refine hK.out _ _ (HK.out _ D3) (fun hHeld => ?_)
    clear hK K
    try simp only [act_all7]
    refine wpAnyH_take (i := 13) (oi := _) (v := ?_) rfl (by kernel_rfl) (by kernel_rfl) (by kernel_rfl) (fun _ _ _ h => h) (Or.inl ⟨by rfl, ?_⟩) (by assumption) ?_
    rotate_left
    · intro w hSw; obtain ⟨s0, s1, s2⟩ := hSw; go_simp; (try with_reducible rfl)
    try change wpAnyH _ _ _ _ _ _ _ (Act.put _ (some 34) _) _
    try simp only [act_all7]
    refine wpAnyH_take (i := 14) (oi := _) (v := ?_) rfl (by kernel_rfl) (by kernel_rfl) (by kernel_rfl) (fun _ _ _ h => h) (Or.inl ⟨by rfl, ?_⟩) (by assumption) ?_
    rotate_left
    · intro w hSw; obtain ⟨s0, s1, s2⟩ := hSw; go_simp; (try with_reducible rfl)
    try change wpAnyH _ _ _ _ _ _ _ (Act.put _ (some 6) _) _
    try simp only [act_all7]
    refine wpAnyH_take (i := 15) (oi := _) (v := ?_) rfl (by kernel_rfl) (by kernel_rfl) (by kernel_rfl) (fun _ _ _ h => h) (Or.inl ⟨by rfl, ?_⟩) (by assumption) ?_
    rotate_left
    · intro w hSw; obtain ⟨s0, s1, s2⟩ := hSw; go_simp; (try with_reducible rfl)
    try change wpAnyH _ _ _ _ _ _ _ (Act.put _ (some 7) _) _
    try simp only [act_all7]
    refine wpAnyH_done (by kernel_rfl) ?_ _
    have hbl2 := HB1.out.trans (D3.mono HB1.out.size)
    clear HK hHeld D3 hbl
    go_wp2_with fail
    go_ret2
    exact ⟨by rw [HE2.out] <;> rfl, by go_grown⟩
end Go.Proofs.Ytkcbkcgampoclaa
