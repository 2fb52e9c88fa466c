import Derived.Test.YtkcbkcgampoclaaRt
import Derived.Test.YtkcbkcgampoclaaReal
namespace Amp
/-- f is p + q r, rounded down. -/
def isFl (p q f : Int) : Prop := nn (p - f) q ∧ ¬ nn (p - f - 1) q
theorem nn_int {n : Int} (h : 0 ≤ n) : nn n 0 := Or.inl ⟨h, Int.le_refl _⟩
theorem isFl_neg {p q f : Int} (h : isFl p q f) : f < 0 ↔ ¬ nn p q := by
  constructor
  · intro hf hn
    apply h.2
    have := nn_add hn (nn_int (n := -f - 1) (by omega))
    rw [show p + (-f - 1) = p - f - 1 by omega, Int.add_zero] at this
    exact this
  · intro hn
    apply Classical.byContradiction
    intro hf
    apply hn
    have := nn_add h.1 (nn_int (n := f) (by omega))
    rw [show p - f + f = p by omega, Int.add_zero] at this
    exact this
theorem fl_pos {p q t : Int} (hq : 0 ≤ q) (h : isRt q t) : isFl p q (p + t) := by
  obtain ⟨h0, _, h1, h2⟩ := h
  have e1 : p - (p + t) = -t := by omega
  have e2 : p - (p + t) - 1 = -(t + 1) := by omega
  unfold isFl nn
  rw [e2, e1]
  simp only [Int.neg_mul_neg]
  refine ⟨Or.inr (Or.inr ⟨by omega, hq, h1⟩), ?_⟩
  omega
theorem fl_neg {p q t : Int} (hq : q < 0) (h : isRt (-q) t) : isFl p q (p - t - 1) := by
  obtain ⟨h0, _, h1, h2⟩ := h
  simp only [Int.neg_mul_neg] at h1 h2
  have e1 : p - (p - t - 1) = t + 1 := by omega
  have e2 : p - (p - t - 1) - 1 = t := by omega
  unfold isFl
  rw [e2, e1]
  refine ⟨Or.inr (Or.inl ⟨by omega, by omega, by omega⟩), ?_⟩
  intro hn
  rcases hn with ⟨_, hb⟩ | ⟨_, _, hc⟩ | ⟨_, hb, _⟩
  · omega
  · have := (irrI (x := t) (y := q) (by omega)).2
    omega
  · omega
/-- The sign of p + q r. -/
def sgS (p q : Int) : Int := if nn p q then (if p = 0 ∧ q = 0 then 0 else 1) else -1
theorem sgS_zero : sgS 0 0 = 0 := by unfold sgS; rw [if_pos (nn_int (Int.le_refl 0)), if_pos ⟨rfl, rfl⟩]
theorem sgS_neg {p q : Int} (h : ¬ nn p q) : sgS p q = -1 := by unfold sgS; rw [if_neg h]
theorem sgS_pos {p q : Int} (h : nn p q) (h0 : ¬ (p = 0 ∧ q = 0)) : sgS p q = 1 := by unfold sgS; rw [if_pos h, if_neg h0]
end Amp
namespace Go.Proofs.Ytkcbkcgampoclaa
open Go.RowKit Amp
attribute [local go_sem] ix0 ix1 ix2 ix3
attribute [local go_sem high] run_eqNum run_neNum run_eqArr22

set_option maxHeartbeats 1000000 in
theorem floor_any (p q : Int) (w : World) (hp : -2305843009213693952 ≤ p ∧ p ≤ 2305843009213693952) (hq : -2305843009213693952 ≤ q ∧ q ≤ 2305843009213693952) :
    Calls Try.prog 60 #[.int .i64 p, .int .i64 q] w fun e w' => ∃ f : Int, e = .returned (.int .i64 f) ∧ Hid (isFl p q f) ∧ w' = w := by
  obtain ⟨p0, p1⟩ := hp
  obtain ⟨q0, q1⟩ := hq
  go_enter Try.func60, Try.ntmps60
  by_cases hq : q < 0
  · go_wp2_with fail
    refine (rootTimes_any _ _ (by first | omega | (simp; omega)) (by first | omega | (simp; omega))).mono ?_
    rintro e w1 ⟨t, rfl, HT, rfl⟩
    have b := HT.out.1
    have b2 := HT.out.2.1
    have HF := Lib.hid (fl_neg (p := p) hq HT.out)
    clear HT
    go_wp2_with fail
    go_returns
    exact ⟨p - t - 1, by go_num, HF, by trivial⟩
  · go_wp2_with fail
    refine (rootTimes_any _ _ (by omega) (by omega)).mono ?_
    rintro e w1 ⟨t, rfl, HT, rfl⟩
    have b := HT.out.1
    have b2 := HT.out.2.1
    have HF := Lib.hid (fl_pos (p := p) (by omega) HT.out)
    clear HT
    go_wp2_with fail
    go_returns
    exact ⟨p + t, by go_num, HF, by trivial⟩

set_option maxHeartbeats 1000000 in
theorem sign_any (p q c d : Int) (w : World) (hc : c = 0) (hd : d = -q) (hp : -2305843009213693952 ≤ p ∧ p ≤ 2305843009213693952) (hq : -2305843009213693952 ≤ q ∧ q ≤ 2305843009213693952) :
    Calls Try.prog 47 #[.agg #[.int .i64 p, .int .i64 q, .int .i64 c, .int .i64 d]] w fun e w' => e = .returned (.int .i64 (sgS p q)) ∧ Below w.heap.size w w' := by
  subst hc hd
  have main : ∀ hb : (p == 0 && (q == 0 && (true && -q == 0))) = false, ¬ (p = 0 ∧ q = 0) → Calls Try.prog 47 #[.agg #[.int .i64 p, .int .i64 q, .int .i64 0, .int .i64 (-q)]] w fun e w' => e = .returned (.int .i64 (sgS p q)) ∧ Below w.heap.size w w' := by
    intro hb h0
    have hb' : (p == 0 && (q == 0 && -q == 0)) = false := by simpa using hb
    have H0 := Lib.hid h0
    clear hb h0
    go_enter Try.func47, Try.ntmps47
    go_wp2_with (first | simp only [hb'] | fail)
    refine (floor_any _ _ _ hp hq).mono ?_
    rintro e w1 ⟨f, rfl, HF, rfl⟩
    by_cases hf : f < 0
    · have HS := Lib.hid (sgS_neg ((isFl_neg HF.out).1 hf))
      clear HF
      go_wp2_with fail
      go_returns
      exact ⟨by rw [HS.out]; rfl, by go_grown⟩
    · have HS := Lib.hid (sgS_pos (Classical.byContradiction fun h => hf ((isFl_neg HF.out).2 h)) H0.out)
      clear HF
      go_wp2_with fail
      go_returns
      exact ⟨by rw [HS.out]; rfl, by go_grown⟩
  by_cases hp0 : p = 0
  · by_cases hq0 : q = 0
    · subst hp0 hq0
      clear main
      have HS := Lib.hid sgS_zero
      go_enter Try.func47, Try.ntmps47
      go_wp2_with fail
      go_returns
      exact ⟨by rw [HS.out]; rfl, by go_grown⟩
    · exact main (by simp [hq0]) (by omega)
  · exact main (by simp [hp0]) (by omega)
end Go.Proofs.Ytkcbkcgampoclaa
