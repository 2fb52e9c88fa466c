import Derived.Test.YtkcbkcgampoclaaRa9
namespace Prb
open Ben
def kOf (n : Int) : Nat := if n = 2 then 0 else 1
/-- Where light comes out, or the error. -/
def anV (n st : Int) (m : Nat) (s : Nat → Bool) (p : Int) : Int × Int :=
  if (isB n st && fiB n m p) = true then (((out (tsB s st.toNat) (kOf n) 0 p.toNat : Nat) : Int), 0) else (0, 2)
theorem anV_no {n st : Int} {m : Nat} {s : Nat → Bool} {p : Int} (h : (isB n st && fiB n m p) = false) : anV n st m s p = (0, 2) := by unfold anV; rw [h]; rfl
theorem anV_ok {n st : Int} {m : Nat} {s : Nat → Bool} {p : Int} (h : isB n st = true) (g : fiB n m p = true) : anV n st m s p = (((out (tsB s st.toNat) (kOf n) 0 p.toNat : Nat) : Int), 0) := by unfold anV; rw [h, g]; rfl
/-- Whether a state agrees with a test, or the error. -/
def agV (n st : Int) (m : Nat) (s : Nat → Bool) (p q : Int) : Bool × Int :=
  if isB n st = true then (if (fiB n m p && poB n q) = true then (((out (tsB s st.toNat) (kOf n) 0 p.toNat : Nat) : Int) == q, 0) else (false, 90)) else (false, 2)
theorem agV_arg {n st : Int} {m : Nat} {s : Nat → Bool} {p q : Int} (h : isB n st = false) : agV n st m s p q = (false, 2) := by unfold agV; rw [h]; rfl
theorem agV_no {n st : Int} {m : Nat} {s : Nat → Bool} {p q : Int} (h : isB n st = true) (g : (fiB n m p && poB n q) = false) : agV n st m s p q = (false, 90) := by unfold agV; rw [if_pos h, g]; rfl
theorem agV_ok {n st : Int} {m : Nat} {s : Nat → Bool} {p q : Int} (h : isB n st = true) (g : fiB n m p = true) (k : poB n q = true) : agV n st m s p q = (((out (tsB s st.toNat) (kOf n) 0 p.toNat : Nat) : Int) == q, 0) := by unfold agV; rw [if_pos h, g, k]; rfl
theorem isB_unk {n st : Int} (h : knB n = false) : isB n st = false := by
  have h1 : ¬ (n = 2 ∨ n = 4) := of_decide_eq_false h
  refine decide_eq_false fun g => ?_
  have : stV n = 0 := by unfold stV; rw [if_neg (by omega), if_neg (by omega)]
  omega
theorem kn_cases {n : Int} (h : knB n = true) : n = 2 ∨ n = 4 := of_decide_eq_true h
theorem isB_get {n st : Int} (h : isB n st = true) : 0 ≤ st ∧ st < stV n := of_decide_eq_true h
theorem fiB_get {n : Int} {m : Nat} {p : Int} (h : fiB n m p = true) : (m : Int) = swV n ∧ 0 ≤ p ∧ p < n := of_decide_eq_true h
theorem fl_two (b : Bool) {i : Nat} (h : i < 2) : fl b i < 2 := by
  unfold fl; cases b
  · simpa using h
  · simp; omega
end Prb
namespace Go.Proofs.Ytkcbkcgampoclaa
open Go.RowKit Ben Prb
theorem rThrough9_at (a m cap : Nat) (ao : Option Addr) (s : Nat → Bool) (j i : Nat) (jz iz : Int) (x : Nat) (w : World) (hjz : jz = j) (hiz : iz = i) (ha : a < 64) (hm : m ≤ 6) (hj : j < m) (hi : i < 2) (hc : Bools w ao m s) (hx : fl (tsB s a j) i = x) :
    Calls Try.prog 52 #[.int .i64 a, .slice ao m cap, .int .i64 jz, .int .i64 iz] w fun e w' => e = .returned (.int .i64 (x : Int)) ∧ Below w.heap.size w w' := by
  subst hjz; subst hiz; subst hx
  exact rThrough9_any a m cap ao s j i w ha hm hj hi hc
set_option maxRecDepth 100000 in
set_option maxHeartbeats 4000000 in
theorem rAns_2 (a cap : Nat) (ao : Option Addr) (s : Nat → Bool) (i : Nat) (w : World) (ha : a < 2) (hi : i < 2) (hc : Bools w ao 1 s) :
    Calls Try.prog 39 #[.int .i64 2, .int .i64 a, .slice ao 1 cap, .int .i64 i] w fun e w' => e = .returned (.int .i64 (out (tsB s a) 0 0 i : Nat)) ∧ Below w.heap.size w w' := by
  have HC := Lib.hid hc
  have HA := Lib.hid ha
  have HI := Lib.hid hi
  clear hc ha hi
  go_enter Try.func39, Try.ntmps39
  go_wp2_with fail
  refine (rThrough9_at a 1 cap ao s 0 i _ _ _ _ rfl rfl (by have := HA.out; omega) (by decide) (by decide) HI.out HC.out rfl).mono ?_
  rintro e w1 ⟨rfl, hb⟩
  go_wp2_with fail
  go_ret
  exact ⟨rfl, hb⟩
set_option maxRecDepth 100000 in
set_option maxHeartbeats 4000000 in
theorem rAns_4 (a cap : Nat) (ao : Option Addr) (s : Nat → Bool) (i : Nat) (w : World) (ha : a < 64) (hi : i < 4) (hc : Bools w ao 6 s) :
    Calls Try.prog 39 #[.int .i64 4, .int .i64 a, .slice ao 6 cap, .int .i64 i] w fun e w' => e = .returned (.int .i64 (out (tsB s a) 1 0 i : Nat)) ∧ Below w.heap.size w w' := by
  have HC := Lib.hid hc
  have HA := Lib.hid ha
  have h4 : i = 0 ∨ i = 1 ∨ i = 2 ∨ i = 3 := by omega
  clear hc ha hi
  rcases h4 with rfl | rfl | rfl | rfl
  · obtain ⟨x, hx⟩ : ∃ x, fl (tsB s a 0) 0 = x := ⟨_, rfl⟩
    have hx2 : x < 2 := by rw [← hx]; exact fl_two _ (by decide)
    obtain ⟨y, hy⟩ : ∃ y, fl (tsB s a (4 + x)) 0 = y := ⟨_, rfl⟩
    have hy2 : y < 2 := by rw [← hy]; exact fl_two _ (by decide)
    obtain ⟨z, hz⟩ : ∃ z, fl (tsB s a (2 + y)) x = z := ⟨_, rfl⟩
    have hz2 : z < 2 := by rw [← hz]; exact fl_two _ hx2
    have HE : Hid (out (tsB s a) 1 0 0 = 2 * y + z) := Lib.hid (by
      show 2 * fl (tsB s a (0 + 4 + fl (tsB s a (0 + 0)) 0 * 1)) 0 + fl (tsB s a (0 + 2 + fl (tsB s a (0 + 4 + fl (tsB s a (0 + 0)) 0 * 1)) 0)) (fl (tsB s a (0 + 0)) 0) = 2 * y + z
      simp only [Nat.zero_add, Nat.mul_one]
      rw [hx, hy, hz])
    have w1 : wrap64 (4 + (x : Int)) = 4 + (x : Int) := by simp only [wrap64]; omega
    have w2 : wrap64 (2 * (y : Int)) = 2 * (y : Int) := by simp only [wrap64]; omega
    have w3 : wrap64 (2 + (y : Int)) = 2 + (y : Int) := by simp only [wrap64]; omega
    have w4 : wrap64 (2 * (y : Int) + (z : Int)) = 2 * (y : Int) + (z : Int) := by simp only [wrap64]; omega
    have HX := Lib.hid (And.intro hx (And.intro hy hz))
    have HY := Lib.hid (And.intro hx2 (And.intro hy2 hz2))
    clear hx hy hz hx2 hy2 hz2
    go_enter Try.func39, Try.ntmps39
    go_wp2_with fail
    refine (rThrough9_at a 6 cap ao s 0 0 _ _ x _ rfl rfl HA.out (by decide) (by decide) (by decide) HC.out HX.out.1).mono ?_
    rintro e v1 ⟨rfl, hb1⟩
    have HC1 := Lib.hid (HC.out.keep hb1)
    have HB1 := Lib.hid hb1
    clear hb1
    go_wp2_with fail
    refine (rThrough9_at a 6 cap ao s (4 + x) 0 _ _ y _ (by simp) rfl HA.out (by decide) (by have := HY.out; omega) (by decide) HC1.out HX.out.2.1).mono ?_
    rintro e v2 ⟨rfl, hb2⟩
    have HB2 := Lib.hid (HB1.out.trans (hb2.mono HB1.out.size))
    have HC2 := Lib.hid (HC1.out.keep hb2)
    clear hb2
    go_wp2_with fail
    refine (rThrough9_at a 6 cap ao s (2 + y) x _ _ z _ (by simp) rfl HA.out (by decide) (by have := HY.out; omega) HY.out.1 HC2.out HX.out.2.2).mono ?_
    rintro e v3 ⟨rfl, hb3⟩
    have HB3 := Lib.hid (HB2.out.trans (hb3.mono HB2.out.size))
    clear hb3
    go_wp2_with fail
    go_ret
    exact ⟨by rw [HE.out] <;> first | rfl | simp [w4], HB3.out⟩
  · obtain ⟨x, hx⟩ : ∃ x, fl (tsB s a 0) 1 = x := ⟨_, rfl⟩
    have hx2 : x < 2 := by rw [← hx]; exact fl_two _ (by decide)
    obtain ⟨y, hy⟩ : ∃ y, fl (tsB s a (4 + x)) 0 = y := ⟨_, rfl⟩
    have hy2 : y < 2 := by rw [← hy]; exact fl_two _ (by decide)
    obtain ⟨z, hz⟩ : ∃ z, fl (tsB s a (2 + y)) x = z := ⟨_, rfl⟩
    have hz2 : z < 2 := by rw [← hz]; exact fl_two _ hx2
    have HE : Hid (out (tsB s a) 1 0 1 = 2 * y + z) := Lib.hid (by
      show 2 * fl (tsB s a (0 + 4 + fl (tsB s a (0 + 0)) 1 * 1)) 0 + fl (tsB s a (0 + 2 + fl (tsB s a (0 + 4 + fl (tsB s a (0 + 0)) 1 * 1)) 0)) (fl (tsB s a (0 + 0)) 1) = 2 * y + z
      simp only [Nat.zero_add, Nat.mul_one]
      rw [hx, hy, hz])
    have w1 : wrap64 (4 + (x : Int)) = 4 + (x : Int) := by simp only [wrap64]; omega
    have w2 : wrap64 (2 * (y : Int)) = 2 * (y : Int) := by simp only [wrap64]; omega
    have w3 : wrap64 (2 + (y : Int)) = 2 + (y : Int) := by simp only [wrap64]; omega
    have w4 : wrap64 (2 * (y : Int) + (z : Int)) = 2 * (y : Int) + (z : Int) := by simp only [wrap64]; omega
    have HX := Lib.hid (And.intro hx (And.intro hy hz))
    have HY := Lib.hid (And.intro hx2 (And.intro hy2 hz2))
    clear hx hy hz hx2 hy2 hz2
    go_enter Try.func39, Try.ntmps39
    go_wp2_with fail
    refine (rThrough9_at a 6 cap ao s 0 1 _ _ x _ rfl rfl HA.out (by decide) (by decide) (by decide) HC.out HX.out.1).mono ?_
    rintro e v1 ⟨rfl, hb1⟩
    have HC1 := Lib.hid (HC.out.keep hb1)
    have HB1 := Lib.hid hb1
    clear hb1
    go_wp2_with fail
    refine (rThrough9_at a 6 cap ao s (4 + x) 0 _ _ y _ (by simp) rfl HA.out (by decide) (by have := HY.out; omega) (by decide) HC1.out HX.out.2.1).mono ?_
    rintro e v2 ⟨rfl, hb2⟩
    have HB2 := Lib.hid (HB1.out.trans (hb2.mono HB1.out.size))
    have HC2 := Lib.hid (HC1.out.keep hb2)
    clear hb2
    go_wp2_with fail
    refine (rThrough9_at a 6 cap ao s (2 + y) x _ _ z _ (by simp) rfl HA.out (by decide) (by have := HY.out; omega) HY.out.1 HC2.out HX.out.2.2).mono ?_
    rintro e v3 ⟨rfl, hb3⟩
    have HB3 := Lib.hid (HB2.out.trans (hb3.mono HB2.out.size))
    clear hb3
    go_wp2_with fail
    go_ret
    exact ⟨by rw [HE.out] <;> first | rfl | simp [w4], HB3.out⟩
  · obtain ⟨x, hx⟩ : ∃ x, fl (tsB s a 1) 0 = x := ⟨_, rfl⟩
    have hx2 : x < 2 := by rw [← hx]; exact fl_two _ (by decide)
    obtain ⟨y, hy⟩ : ∃ y, fl (tsB s a (4 + x)) 1 = y := ⟨_, rfl⟩
    have hy2 : y < 2 := by rw [← hy]; exact fl_two _ (by decide)
    obtain ⟨z, hz⟩ : ∃ z, fl (tsB s a (2 + y)) x = z := ⟨_, rfl⟩
    have hz2 : z < 2 := by rw [← hz]; exact fl_two _ hx2
    have HE : Hid (out (tsB s a) 1 0 2 = 2 * y + z) := Lib.hid (by
      show 2 * fl (tsB s a (0 + 4 + fl (tsB s a (0 + 1)) 0 * 1)) 1 + fl (tsB s a (0 + 2 + fl (tsB s a (0 + 4 + fl (tsB s a (0 + 1)) 0 * 1)) 1)) (fl (tsB s a (0 + 1)) 0) = 2 * y + z
      simp only [Nat.zero_add, Nat.mul_one]
      rw [hx, hy, hz])
    have w1 : wrap64 (4 + (x : Int)) = 4 + (x : Int) := by simp only [wrap64]; omega
    have w2 : wrap64 (2 * (y : Int)) = 2 * (y : Int) := by simp only [wrap64]; omega
    have w3 : wrap64 (2 + (y : Int)) = 2 + (y : Int) := by simp only [wrap64]; omega
    have w4 : wrap64 (2 * (y : Int) + (z : Int)) = 2 * (y : Int) + (z : Int) := by simp only [wrap64]; omega
    have HX := Lib.hid (And.intro hx (And.intro hy hz))
    have HY := Lib.hid (And.intro hx2 (And.intro hy2 hz2))
    clear hx hy hz hx2 hy2 hz2
    go_enter Try.func39, Try.ntmps39
    go_wp2_with fail
    refine (rThrough9_at a 6 cap ao s 1 0 _ _ x _ rfl rfl HA.out (by decide) (by decide) (by decide) HC.out HX.out.1).mono ?_
    rintro e v1 ⟨rfl, hb1⟩
    have HC1 := Lib.hid (HC.out.keep hb1)
    have HB1 := Lib.hid hb1
    clear hb1
    go_wp2_with fail
    refine (rThrough9_at a 6 cap ao s (4 + x) 1 _ _ y _ (by simp) rfl HA.out (by decide) (by have := HY.out; omega) (by decide) HC1.out HX.out.2.1).mono ?_
    rintro e v2 ⟨rfl, hb2⟩
    have HB2 := Lib.hid (HB1.out.trans (hb2.mono HB1.out.size))
    have HC2 := Lib.hid (HC1.out.keep hb2)
    clear hb2
    go_wp2_with fail
    refine (rThrough9_at a 6 cap ao s (2 + y) x _ _ z _ (by simp) rfl HA.out (by decide) (by have := HY.out; omega) HY.out.1 HC2.out HX.out.2.2).mono ?_
    rintro e v3 ⟨rfl, hb3⟩
    have HB3 := Lib.hid (HB2.out.trans (hb3.mono HB2.out.size))
    clear hb3
    go_wp2_with fail
    go_ret
    exact ⟨by rw [HE.out] <;> first | rfl | simp [w4], HB3.out⟩
  · obtain ⟨x, hx⟩ : ∃ x, fl (tsB s a 1) 1 = x := ⟨_, rfl⟩
    have hx2 : x < 2 := by rw [← hx]; exact fl_two _ (by decide)
    obtain ⟨y, hy⟩ : ∃ y, fl (tsB s a (4 + x)) 1 = y := ⟨_, rfl⟩
    have hy2 : y < 2 := by rw [← hy]; exact fl_two _ (by decide)
    obtain ⟨z, hz⟩ : ∃ z, fl (tsB s a (2 + y)) x = z := ⟨_, rfl⟩
    have hz2 : z < 2 := by rw [← hz]; exact fl_two _ hx2
    have HE : Hid (out (tsB s a) 1 0 3 = 2 * y + z) := Lib.hid (by
      show 2 * fl (tsB s a (0 + 4 + fl (tsB s a (0 + 1)) 1 * 1)) 1 + fl (tsB s a (0 + 2 + fl (tsB s a (0 + 4 + fl (tsB s a (0 + 1)) 1 * 1)) 1)) (fl (tsB s a (0 + 1)) 1) = 2 * y + z
      simp only [Nat.zero_add, Nat.mul_one]
      rw [hx, hy, hz])
    have w1 : wrap64 (4 + (x : Int)) = 4 + (x : Int) := by simp only [wrap64]; omega
    have w2 : wrap64 (2 * (y : Int)) = 2 * (y : Int) := by simp only [wrap64]; omega
    have w3 : wrap64 (2 + (y : Int)) = 2 + (y : Int) := by simp only [wrap64]; omega
    have w4 : wrap64 (2 * (y : Int) + (z : Int)) = 2 * (y : Int) + (z : Int) := by simp only [wrap64]; omega
    have HX := Lib.hid (And.intro hx (And.intro hy hz))
    have HY := Lib.hid (And.intro hx2 (And.intro hy2 hz2))
    clear hx hy hz hx2 hy2 hz2
    go_enter Try.func39, Try.ntmps39
    go_wp2_with fail
    refine (rThrough9_at a 6 cap ao s 1 1 _ _ x _ rfl rfl HA.out (by decide) (by decide) (by decide) HC.out HX.out.1).mono ?_
    rintro e v1 ⟨rfl, hb1⟩
    have HC1 := Lib.hid (HC.out.keep hb1)
    have HB1 := Lib.hid hb1
    clear hb1
    go_wp2_with fail
    refine (rThrough9_at a 6 cap ao s (4 + x) 1 _ _ y _ (by simp) rfl HA.out (by decide) (by have := HY.out; omega) (by decide) HC1.out HX.out.2.1).mono ?_
    rintro e v2 ⟨rfl, hb2⟩
    have HB2 := Lib.hid (HB1.out.trans (hb2.mono HB1.out.size))
    have HC2 := Lib.hid (HC1.out.keep hb2)
    clear hb2
    go_wp2_with fail
    refine (rThrough9_at a 6 cap ao s (2 + y) x _ _ z _ (by simp) rfl HA.out (by decide) (by have := HY.out; omega) HY.out.1 HC2.out HX.out.2.2).mono ?_
    rintro e v3 ⟨rfl, hb3⟩
    have HB3 := Lib.hid (HB2.out.trans (hb3.mono HB2.out.size))
    clear hb3
    go_wp2_with fail
    go_ret
    exact ⟨by rw [HE.out] <;> first | rfl | simp [w4], HB3.out⟩
set_option maxRecDepth 100000 in
set_option maxHeartbeats 4000000 in
theorem rAnswer_any (n st : Int) (m cap : Nat) (ao : Option Addr) (s : Nat → Bool) (p : Int) (w : World) (hm : m ≤ 9223372036854775807) (hc : Bools w ao m s) :
    Calls Try.prog 23 #[.int .i64 n, .int .i64 st, .slice ao m cap, .int .i64 p] w fun e w' => e = .returned (.tuple #[.int .i64 (anV n st m s p).1, .int .i64 (anV n st m s p).2]) ∧ Below w.heap.size w w' := by
  cases hk : knB n
  · have HE := Lib.hid (anV_no (m := m) (s := s) (p := p) (show (isB n st && fiB n m p) = false from by rw [isB_unk hk]; rfl))
    have HK := Lib.hid hk
    clear hk
    go_enter Try.func23, Try.ntmps23
    go_wp2_with fail
    refine (rKnown_any n _).mono ?_
    rw [HK.out]
    rintro e w' ⟨rfl, rfl⟩
    go_wp2_with fail
    go_ret2
    exact ⟨by rw [HE.out] <;> rfl, Below.refl _ _⟩
  rcases kn_cases hk with rfl | rfl
  · clear hk
    cases h1 : isB 2 st
    · have HE := Lib.hid (anV_no (m := m) (s := s) (p := p) (show (isB 2 st && fiB 2 m p) = false from by rw [h1]; rfl))
      have H1 := Lib.hid h1
      clear h1
      go_enter Try.func23, Try.ntmps23
      go_wp2_with fail
      refine (rKnown_any 2 _).mono ?_
      rw [show knB 2 = true from by decide]
      rintro e w' ⟨rfl, rfl⟩
      go_wp2_with fail
      refine (rIsState_2 st _).mono ?_
      rw [H1.out]
      rintro e w' ⟨rfl, rfl⟩
      go_wp2_with fail
      go_ret2
      exact ⟨by rw [HE.out] <;> rfl, Below.refl _ _⟩
    cases h2 : fiB 2 m p
    · have HE := Lib.hid (anV_no (m := m) (s := s) (p := p) (show (isB 2 st && fiB 2 m p) = false from by rw [h1, h2]; rfl))
      have H1 := Lib.hid h1
      have H2 := Lib.hid h2
      clear h1 h2
      go_enter Try.func23, Try.ntmps23
      go_wp2_with fail
      refine (rKnown_any 2 _).mono ?_
      rw [show knB 2 = true from by decide]
      rintro e w' ⟨rfl, rfl⟩
      go_wp2_with fail
      refine (rIsState_2 st _).mono ?_
      rw [H1.out]
      rintro e w' ⟨rfl, rfl⟩
      go_wp2_with fail
      refine (rFits9_2 m cap ao p hm _).mono ?_
      rw [H2.out]
      rintro e w' ⟨rfl, rfl⟩
      go_wp2_with fail
      go_ret2
      exact ⟨by rw [HE.out] <;> rfl, Below.refl _ _⟩
    have HE := Lib.hid (anV_ok (m := m) (s := s) (p := p) h1 h2)
    have H1 := Lib.hid h1
    have H2 := Lib.hid h2
    have hb := isB_get h1
    rw [show stV 2 = 2 from by decide] at hb
    have hf := fiB_get h2
    rw [show swV 2 = 1 from by decide] at hf
    obtain rfl : m = 1 := by omega
    obtain ⟨a, rfl⟩ := Int.eq_ofNat_of_zero_le hb.1
    obtain ⟨i, rfl⟩ := Int.eq_ofNat_of_zero_le hf.2.1
    have HC := Lib.hid hc
    have HF := Lib.hid (And.intro hb.2 hf.2.2)
    have HE2 : Hid (anV 2 (a : Int) 1 s (i : Int) = (((out (tsB s a) 0 0 i : Nat) : Int), 0)) := Lib.hid HE.out
    clear hb hf hc h1 h2 hm HE
    go_enter Try.func23, Try.ntmps23
    go_wp2_with fail
    refine (rKnown_any 2 _).mono ?_
    rw [show knB 2 = true from by decide]
    rintro e w' ⟨rfl, rfl⟩
    go_wp2_with fail
    refine (rIsState_2 (a : Int) _).mono ?_
    rw [H1.out]
    rintro e w' ⟨rfl, rfl⟩
    go_wp2_with fail
    refine (rFits9_2 1 cap ao (i : Int) (by decide) _).mono ?_
    rw [H2.out]
    rintro e w' ⟨rfl, rfl⟩
    go_wp2_with fail
    refine (rAns_2 a cap ao s i _ (by have := HF.out; omega) (by have := HF.out; omega) HC.out).mono ?_
    rintro e w1 ⟨rfl, hb⟩
    have HB := Lib.hid hb
    clear hb
    go_wp2_with fail
    go_ret2
    exact ⟨by rw [HE2.out] <;> rfl, HB.out⟩
  · clear hk
    cases h1 : isB 4 st
    · have HE := Lib.hid (anV_no (m := m) (s := s) (p := p) (show (isB 4 st && fiB 4 m p) = false from by rw [h1]; rfl))
      have H1 := Lib.hid h1
      clear h1
      go_enter Try.func23, Try.ntmps23
      go_wp2_with fail
      refine (rKnown_any 4 _).mono ?_
      rw [show knB 4 = true from by decide]
      rintro e w' ⟨rfl, rfl⟩
      go_wp2_with fail
      refine (rIsState_4 st _).mono ?_
      rw [H1.out]
      rintro e w' ⟨rfl, rfl⟩
      go_wp2_with fail
      go_ret2
      exact ⟨by rw [HE.out] <;> rfl, Below.refl _ _⟩
    cases h2 : fiB 4 m p
    · have HE := Lib.hid (anV_no (m := m) (s := s) (p := p) (show (isB 4 st && fiB 4 m p) = false from by rw [h1, h2]; rfl))
      have H1 := Lib.hid h1
      have H2 := Lib.hid h2
      clear h1 h2
      go_enter Try.func23, Try.ntmps23
      go_wp2_with fail
      refine (rKnown_any 4 _).mono ?_
      rw [show knB 4 = true from by decide]
      rintro e w' ⟨rfl, rfl⟩
      go_wp2_with fail
      refine (rIsState_4 st _).mono ?_
      rw [H1.out]
      rintro e w' ⟨rfl, rfl⟩
      go_wp2_with fail
      refine (rFits9_4 m cap ao p hm _).mono ?_
      rw [H2.out]
      rintro e w' ⟨rfl, rfl⟩
      go_wp2_with fail
      go_ret2
      exact ⟨by rw [HE.out] <;> rfl, Below.refl _ _⟩
    have HE := Lib.hid (anV_ok (m := m) (s := s) (p := p) h1 h2)
    have H1 := Lib.hid h1
    have H2 := Lib.hid h2
    have hb := isB_get h1
    rw [show stV 4 = 64 from by decide] at hb
    have hf := fiB_get h2
    rw [show swV 4 = 6 from by decide] at hf
    obtain rfl : m = 6 := by omega
    obtain ⟨a, rfl⟩ := Int.eq_ofNat_of_zero_le hb.1
    obtain ⟨i, rfl⟩ := Int.eq_ofNat_of_zero_le hf.2.1
    have HC := Lib.hid hc
    have HF := Lib.hid (And.intro hb.2 hf.2.2)
    have HE2 : Hid (anV 4 (a : Int) 6 s (i : Int) = (((out (tsB s a) 1 0 i : Nat) : Int), 0)) := Lib.hid HE.out
    clear hb hf hc h1 h2 hm HE
    go_enter Try.func23, Try.ntmps23
    go_wp2_with fail
    refine (rKnown_any 4 _).mono ?_
    rw [show knB 4 = true from by decide]
    rintro e w' ⟨rfl, rfl⟩
    go_wp2_with fail
    refine (rIsState_4 (a : Int) _).mono ?_
    rw [H1.out]
    rintro e w' ⟨rfl, rfl⟩
    go_wp2_with fail
    refine (rFits9_4 6 cap ao (i : Int) (by decide) _).mono ?_
    rw [H2.out]
    rintro e w' ⟨rfl, rfl⟩
    go_wp2_with fail
    refine (rAns_4 a cap ao s i _ (by have := HF.out; omega) (by have := HF.out; omega) HC.out).mono ?_
    rintro e w1 ⟨rfl, hb⟩
    have HB := Lib.hid hb
    clear hb
    go_wp2_with fail
    go_ret2
    exact ⟨by rw [HE2.out] <;> rfl, HB.out⟩
end Go.Proofs.Ytkcbkcgampoclaa
