import Derived.Test.YtedfienfamplcaaAb
namespace Amp
theorem sgS_vals2 (p q : Int) : sgS p q = -1 ∨ sgS p q = 0 ∨ sgS p q = 1 := by
  unfold sgS; split
  · split <;> omega
  · omega
theorem sgS_neg2 (p q : Int) : sgS (-p) (-q) = - sgS p q := by
  by_cases h0 : p = 0 ∧ q = 0
  · obtain ⟨rfl, rfl⟩ := h0; rw [show (-0 : Int) = 0 from rfl, sgS_zero]; rfl
  · have h0' : ¬ (-p = 0 ∧ -q = 0) := by omega
    by_cases h : nn p q
    · have h' : ¬ nn (-p) (-q) := fun g => h0 (nn_antisymm h g)
      rw [sgS_pos h h0, sgS_neg h']
    · have h' : nn (-p) (-q) := (nn_total p q).resolve_left h
      rw [sgS_neg h, sgS_pos h' h0']; rfl
theorem gB_nn {p q : Int} : gB q (-p) = decide (nn p q) := by unfold gB; rw [Int.neg_neg]
theorem sgS_pp {p q : Int} (hp : 0 ≤ p) (hq : 0 ≤ q) : sgS p q = if p + q = 0 then 0 else 1 := by
  unfold sgS
  have hn : nn p q := Or.inl ⟨hp, hq⟩
  rw [if_pos hn]
  have e : (p = 0 ∧ q = 0) ↔ p + q = 0 := by omega
  simp only [e]
theorem sgS_mm {p q : Int} (hp : p ≤ 0) (hq : q ≤ 0) (h0 : ¬ (p = 0 ∧ q = 0)) : sgS p q = -1 := by
  apply sgS_neg
  intro h
  have h' : nn (-p) (-q) := Or.inl ⟨by omega, by omega⟩
  have := nn_antisymm h h'
  exact h0 this
end Amp
namespace Go.Proofs.Ytedfienfamplcaa
open Go.RowKit Amp
attribute [local go_sem] ix0 ix1 ix2 ix3 jx0 jx1 jx2 jx3
attribute [local go_sem high] run_eqNum run_neNum run_eqArr run_eqArr22

set_option maxHeartbeats 2000000 in
theorem side_mp (p q : Int) (w : World) (hp : p < 0) (hq : 0 < q) (bp : -4611686018427387904 ≤ p) (bq : q ≤ 2305843009213693952) :
    Calls Try.prog 141 #[.int .i64 p, .int .i64 q] w fun e w' => e = .returned (.int .i64 (sgS p q)) ∧ Below w.heap.size w w' := by
  have h0 : ¬ (p = 0 ∧ q = 0) := by omega
  have H0 := Lib.hid h0
  clear h0
  have a1 : ¬ 0 ≤ p := by omega
  have a2 : ¬ q ≤ 0 := by omega
  have a3 : p ≤ 0 := by omega
  have a4 : ¬ 0 < p := by omega
  cases hd : gB q (-p)
  · have HS := Lib.hid (sgS_neg (p := p) (q := q) (by rw [gB_nn, decide_eq_false_iff_not] at hd; exact hd))
    go_enter Try.func141, Try.ntmps141
    go_wp2_with fail
    refine (above_any _ _ _ hq (by omega) (by omega) (by omega)).mono ?_
    rintro e w1 ⟨rfl, hb1⟩
    rw [hd]
    go_wp2_with fail
    go_returns
    exact ⟨by rw [HS.out]; rfl, hb1⟩
  · have HS := Lib.hid (sgS_pos (p := p) (q := q) (by rw [gB_nn, decide_eq_true_eq] at hd; exact hd) H0.out)
    go_enter Try.func141, Try.ntmps141
    go_wp2_with fail
    refine (above_any _ _ _ hq (by omega) (by omega) (by omega)).mono ?_
    rintro e w1 ⟨rfl, hb1⟩
    rw [hd]
    go_wp2_with fail
    go_returns
    exact ⟨by rw [HS.out]; rfl, hb1⟩

set_option maxHeartbeats 2000000 in
theorem side_wide (p q : Int) (w : World) (hp : -4611686018427387904 ≤ p ∧ p ≤ 4611686018427387904) (hq : -2305843009213693952 ≤ q ∧ q ≤ 2305843009213693952) :
    Calls Try.prog 141 #[.int .i64 p, .int .i64 q] w fun e w' => e = .returned (.int .i64 (sgS p q)) ∧ Below w.heap.size w w' := by
  obtain ⟨p1, p2⟩ := hp
  obtain ⟨q1, q2⟩ := hq
  by_cases hp : 0 ≤ p
  · by_cases hq : 0 ≤ q
    · by_cases hz : p + q = 0
      · obtain rfl : p = 0 := by omega
        obtain rfl : q = 0 := by omega
        have HS := Lib.hid sgS_zero
        go_enter Try.func141, Try.ntmps141
        go_wp2_with fail
        go_returns
        exact ⟨by rw [HS.out]; rfl, Below.refl _ _⟩
      · have HS := Lib.hid (show sgS p q = 1 from by rw [sgS_pp hp hq, if_neg hz])
        have g1 : ¬ p + q ≤ 1 ∨ p + q = 1 := by omega
        have g2 : ¬ p + q < 1 := by omega
        have g3 : min (p + q) 1 = 1 := by omega
        go_enter Try.func141, Try.ntmps141
        go_wp2_with fail
        all_goals
          go_returns
          exact ⟨by rw [HS.out]; first | rfl | (simp; done) | (simp; omega), Below.refl _ _⟩
    · by_cases hz : p = 0
      · subst hz
        have HS := Lib.hid (sgS_mm (p := 0) (q := q) (by omega) (by omega) (by omega))
        have hq1 : q ≤ -1 := by omega
        go_enter Try.func141, Try.ntmps141
        go_wp2_with fail
        all_goals
          go_returns
          exact ⟨by rw [HS.out]; first | rfl | (simp; done) | (simp; omega), Below.refl _ _⟩
      · have HS := Lib.hid (sgS_neg2 p q)
        have HV := sgS_vals2 (-p) (-q)
        have a1 : ¬ p ≤ 0 := by omega
        have a2 : 0 < p := by omega
        go_enter Try.func141, Try.ntmps141
        go_wp2_with fail
        refine (side_mp _ _ _ (by omega) (by omega) (by omega) (by omega)).mono ?_
        rintro e w1 ⟨rfl, hb1⟩
        have HS2 : Hid (sgS p q = -sgS (-p) (-q)) := Lib.hid (by have := HS.out; omega)
        clear HS
        generalize sgS (-p) (-q) = v at *
        have v1 : -1 ≤ v := by omega
        have v2 : v ≤ 1 := by omega
        clear HV
        go_wp2_with fail
        go_returns
        exact ⟨by rw [HS2.out]; first | rfl | (simp; done) | (simp; omega), hb1⟩
  · by_cases hq : q ≤ 0
    · have HS := Lib.hid (sgS_mm (p := p) (q := q) (by omega) hq (by omega))
      have a3 : p ≤ 0 := by omega
      go_enter Try.func141, Try.ntmps141
      go_wp2_with fail
      all_goals
        go_returns
        exact ⟨by rw [HS.out]; first | rfl | (simp; done) | (simp; omega), Below.refl _ _⟩
    · exact side_mp p q w (by omega) (by omega) p1 q2
theorem side_any (p q : Int) (w : World) (hp : -2305843009213693952 ≤ p ∧ p ≤ 2305843009213693952) (hq : -2305843009213693952 ≤ q ∧ q ≤ 2305843009213693952) :
    Calls Try.prog 141 #[.int .i64 p, .int .i64 q] w fun e w' => e = .returned (.int .i64 (sgS p q)) ∧ Below w.heap.size w w' :=
  side_wide p q w (by omega) hq
end Go.Proofs.Ytedfienfamplcaa
