import Derived.Test.YtedfienfamplcaaRt
import Derived.Test.YtedfienfamplcaaReal
namespace Amp
/-- f is p + q r, rounded down. -/
def isFl (p q f : Int) : Prop := nn (p - f) q ∧ ¬ nn (p - f - 1) q
theorem nn_int {n : Int} (h : 0 ≤ n) : nn n 0 := Or.inl ⟨h, Int.le_refl _⟩
theorem isFl_neg {p q f : Int} (h : isFl p q f) : f < 0 ↔ ¬ nn p q := by
  constructor
  · intro hf hn
    apply h.2
    have := nn_add hn (nn_int (n := -f - 1) (by omega))
    rw [show p + (-f - 1) = p - f - 1 by omega, Int.add_zero] at this
    exact this
  · intro hn
    apply Classical.byContradiction
    intro hf
    apply hn
    have := nn_add h.1 (nn_int (n := f) (by omega))
    rw [show p - f + f = p by omega, Int.add_zero] at this
    exact this
theorem fl_pos {p q t : Int} (hq : 0 ≤ q) (h : isRt q t) : isFl p q (p + t) := by
  obtain ⟨h0, _, h1, h2⟩ := h
  have e1 : p - (p + t) = -t := by omega
  have e2 : p - (p + t) - 1 = -(t + 1) := by omega
  unfold isFl nn
  rw [e2, e1]
  simp only [Int.neg_mul_neg]
  refine ⟨Or.inr (Or.inr ⟨by omega, hq, h1⟩), ?_⟩
  omega
theorem fl_neg {p q t : Int} (hq : q < 0) (h : isRt (-q) t) : isFl p q (p - t - 1) := by
  obtain ⟨h0, _, h1, h2⟩ := h
  simp only [Int.neg_mul_neg] at h1 h2
  have e1 : p - (p - t - 1) = t + 1 := by omega
  have e2 : p - (p - t - 1) - 1 = t := by omega
  unfold isFl
  rw [e2, e1]
  refine ⟨Or.inr (Or.inl ⟨by omega, by omega, by omega⟩), ?_⟩
  intro hn
  rcases hn with ⟨_, hb⟩ | ⟨_, _, hc⟩ | ⟨_, hb, _⟩
  · omega
  · have := (irrI (x := t) (y := q) (by omega)).2
    omega
  · omega
/-- The sign of p + q r. -/
def sgS (p q : Int) : Int := if nn p q then (if p = 0 ∧ q = 0 then 0 else 1) else -1
theorem sgS_zero : sgS 0 0 = 0 := by unfold sgS; rw [if_pos (nn_int (Int.le_refl 0)), if_pos ⟨rfl, rfl⟩]
theorem sgS_neg {p q : Int} (h : ¬ nn p q) : sgS p q = -1 := by unfold sgS; rw [if_neg h]
theorem sgS_pos {p q : Int} (h : nn p q) (h0 : ¬ (p = 0 ∧ q = 0)) : sgS p q = 1 := by unfold sgS; rw [if_pos h, if_neg h0]
end Amp
namespace Go.Proofs.Ytedfienfamplcaa
open Go.RowKit Amp
attribute [local go_sem] ix0 ix1 ix2 ix3 jx0 jx1 jx2 jx3
attribute [local go_sem high] run_eqNum run_neNum run_eqArr run_eqArr22

set_option maxHeartbeats 1000000 in
theorem floor_any (p q : Int) (w : World) (hp : -2305843009213693952 ≤ p ∧ p ≤ 2305843009213693952) (hq : -2305843009213693952 ≤ q ∧ q ≤ 2305843009213693952) :
    Calls Try.prog 113 #[.int .i64 p, .int .i64 q] w fun e w' => ∃ f : Int, e = .returned (.int .i64 f) ∧ Hid (isFl p q f) ∧ w' = w := by
  obtain ⟨p0, p1⟩ := hp
  obtain ⟨q0, q1⟩ := hq
  go_enter Try.func113, Try.ntmps113
  by_cases hq : q < 0
  · go_wp2_with fail
    refine (rootTimes_any _ _ (by first | omega | (simp; omega)) (by first | omega | (simp; omega))).mono ?_
    rintro e w1 ⟨t, rfl, HT, rfl⟩
    have b := HT.out.1
    have b2 := HT.out.2.1
    have HF := Lib.hid (fl_neg (p := p) hq HT.out)
    clear HT
    go_wp2_with fail
    go_returns
    exact ⟨p - t - 1, by go_num, HF, by trivial⟩
  · go_wp2_with fail
    refine (rootTimes_any _ _ (by omega) (by omega)).mono ?_
    rintro e w1 ⟨t, rfl, HT, rfl⟩
    have b := HT.out.1
    have b2 := HT.out.2.1
    have HF := Lib.hid (fl_pos (p := p) (by omega) HT.out)
    clear HT
    go_wp2_with fail
    go_returns
    exact ⟨p + t, by go_num, HF, by trivial⟩

end Go.Proofs.Ytedfienfamplcaa
