import Derived.Test.YtgbnpnenejgnnaaFl
namespace Amp
theorem nn_up {p q : Int} (h : nn p q) : nn (p + 2 * q) (p + q) := by
  have := nn_add h (nn_r h)
  rw [show q + p = p + q by omega] at this
  exact this
theorem nn_dn {p q : Int} : nn (2 * q - p) (p - q) ↔ nn p q := by
  constructor
  · intro h
    have := nn_up h
    rw [show 2 * q - p + 2 * (p - q) = p by omega, show 2 * q - p + (p - q) = q by omega] at this
    exact this
  · intro h
    rcases nn_total (2 * q - p) (p - q) with g | g
    · exact g
    · have := nn_up g
      rw [show -(2 * q - p) + 2 * -(p - q) = -p by omega, show -(2 * q - p) + -(p - q) = -q by omega] at this
      obtain ⟨rfl, rfl⟩ := nn_antisymm h this
      exact nn_int (by omega)
/-- Is q times the root of 2 greater than p - (part - 1) q? -/
def gB (q u : Int) : Bool := decide (nn (-u) q)
theorem gB_small {q u : Int} (hq : 0 < q) (h : u ≤ q) : gB q u = true := by
  unfold gB
  rw [decide_eq_true_eq]
  by_cases hu : u ≤ 0
  · exact Or.inl ⟨by omega, by omega⟩
  · refine Or.inr (Or.inr ⟨by omega, by omega, ?_⟩)
    have := mul_self_mono (x := u) (y := q) (by omega) h
    rw [Int.neg_mul_neg]

    have h2 : 0 ≤ q * q := Int.mul_nonneg (by omega) (by omega)
    omega
theorem gB_big {q u : Int} (hq : 0 < q) (h : 2 * q ≤ u) : gB q u = false := by
  unfold gB
  rw [decide_eq_false_iff_not]
  intro hn
  have h1 := mul_self_mono (x := 2 * q) (y := u) (by omega) h
  have h2 : 0 < q * q := Int.mul_pos hq hq
  have e : 2 * q * (2 * q) = 4 * (q * q) := by grind
  rcases hn with ⟨ha, _⟩ | ⟨_, hb, _⟩ | ⟨_, _, hc⟩
  · omega
  · omega
  · rw [Int.neg_mul_neg] at hc; omega
theorem gB_turn {q r : Int} (hr : 0 < r) : gB q (q + r) = !(gB r (q - r)) := by
  have e : nn (-(q + r)) q ↔ nn (q - r) (-r) := by
    have := nn_dn (p := q - r) (q := -r)
    rw [show 2 * -r - (q - r) = -(q + r) by omega, show q - r - -r = q by omega] at this
    exact this
  have e2 : nn (q - r) (-r) ↔ ¬ nn (-(q - r)) r := by
    constructor
    · intro h g
      have := nn_antisymm (p := q - r) (q := -r) h (by rw [show -(-r) = r by omega]; exact g)
      omega
    · intro h
      have := nn_total (q - r) (-r)
      rw [show -(-r) = r by omega] at this
      exact this.resolve_right h
  unfold gB
  rw [← decide_not]
  exact decide_eq_decide.2 (e.trans e2)
theorem quo_rem {p q : Int} (hp : 0 ≤ p) (hq : 0 < q) : p = (p / q) * q + (p % q) ∧ 0 ≤ (p % q) ∧ (p % q) < q ∧ 0 ≤ (p / q) ∧ (p / q) ≤ p := by
  refine ⟨?_, Int.emod_nonneg _ (by omega), Int.emod_lt_of_pos _ hq, Int.ediv_nonneg hp (by omega), Int.ediv_le_self _ hp⟩
  have := Int.mul_ediv_add_emod p q
  rw [Int.mul_comm] at this
  exact this.symm
/-- What one round of the comparison finds. -/
theorem ab_round {p q : Int} {part : Int} (hp : 0 ≤ p) (hq : 0 < q) (h12 : part = 1 ∨ part = 2) :
    ((p / q) < part → gB q (p - (part - 1) * q) = true) ∧ (part < (p / q) → gB q (p - (part - 1) * q) = false) ∧
    ((p / q) = part → (p % q) = 0 → gB q (p - (part - 1) * q) = true) ∧ ((p / q) = part → (p % q) ≠ 0 → gB q (p - (part - 1) * q) = !(gB ((p % q)) (q - (2 - 1) * (p % q)))) := by
  obtain ⟨e, r0, r1, n0, _⟩ := quo_rem hp hq
  generalize (p / q) = n at *
  generalize (p % q) = r at *
  refine ⟨fun h => ?_, fun h => ?_, fun h hr => ?_, fun h hr => ?_⟩
  · apply gB_small hq
    have h1 : n * q ≤ (part - 1) * q := Int.mul_le_mul_of_nonneg_right (by omega) (by omega)
    omega
  · apply gB_big hq
    have h1 : (part + 1) * q ≤ n * q := Int.mul_le_mul_of_nonneg_right (by omega) (by omega)
    have e2 : (part + 1) * q = (part - 1) * q + 2 * q := by grind
    omega
  · subst h hr
    apply gB_small hq
    have e2 : n * q = (n - 1) * q + q := by grind
    omega
  · subst h
    have e2 : n * q = (n - 1) * q + q := by grind
    rw [show p - (n - 1) * q = q + r by omega, gB_turn (by omega), show (2 - 1) * r = r by omega]
end Amp
namespace Go.Proofs.Ytgbnpnenejgnnaa
open Go.RowKit Amp
attribute [local go_sem] ix0 ix1 ix2 ix3 jx0 jx1 jx2 jx3

set_option maxRecDepth 100000 in
set_option maxHeartbeats 2000000 in
theorem aboveA_any (q p : Int) (w : World) (hq : 0 < q) (hp : 0 ≤ p) (hq2 : q ≤ 4611686018427387904) (hp2 : p ≤ 4611686018427387904) :
    Calls Try.prog 167 #[.int .i64 q, .int .i64 p] w fun e w' => e = .returned (.bool (gB q p)) ∧ Below w.heap.size w w' := by
  go_enter Try.func167, Try.ntmps167
  go_wp2_with fail
  go_loopw [0, 1, 5, 6] (fun qv pv nv tv wr => ∃ (x y part : Int) (t : Bool), qv = .int .i64 x ∧ pv = .int .i64 y ∧ nv = .int .i64 part ∧ tv = .bool t ∧ 0 < x ∧ 0 ≤ y ∧ x ≤ 4611686018427387904 ∧ y ≤ 4611686018427387904 ∧ (part = 1 ∨ part = 2) ∧ Hid (gB q p = Bool.xor t (gB x (y - (part - 1) * x))) ∧ Below w.heap.size w wr) (fun qv _ _ _ _ => (intOf qv).toNat)
  case atStart => exact ⟨q, p, 1, false, rfl, rfl, rfl, rfl, hq, hp, hq2, hp2, Or.inl rfl, Lib.hid (by rw [show p - (1 - 1) * q = p by omega]; simp), Below.refl _ _⟩
  case round =>
    obtain ⟨x, y, part, t, rfl, rfl, rfl, rfl, hx, hy, hx2, hy2, h12, HG, hbel⟩ := hrel
    obtain ⟨l1, l2, l3, l4⟩ := ab_round hy hx h12
    obtain ⟨-, r0, r1, n0, n1⟩ := quo_rem hy hx
    have L1 := Lib.hid l1
    have L2 := Lib.hid l2
    have L3 := Lib.hid l3
    have L4 := Lib.hid l4
    have hx0 : ¬ x = 0 := by omega
    have hx1 : ¬ x = -1 := by omega
    have hsz := hbel.size
    clear l1 l2 l3 l4
    have R0 := Lib.hid (And.intro r0 (And.intro r1 (And.intro n0 n1)))
    clear r0 r1 n0 n1
    by_cases hne : (y / x) = part
    · by_cases hr : (y % x) = 0
      · have HE := Lib.hid (L3.out hne hr)
        go_wp2_with fail
        go_region
        all_goals
          go_wp2_with fail
          go_returns
          exact ⟨by rw [HG.out, HE.out]; simp, by go_grown⟩
      · have HE := Lib.hid (L4.out hne hr)
        go_wp2_with fail
        go_region
        all_goals
          go_wp2_with fail
          obtain ⟨r0, r1, n0, n1⟩ := R0.out
          go_roundw
          case rel => exact ⟨(y % x), x, 2, !t, by go_num, rfl, rfl, rfl, by omega, by omega, by omega, by omega, Or.inr rfl, Lib.hid (by rw [HG.out, HE.out]; cases t <;> simp), by go_grown⟩
          case measure => simp [intOf]; omega
    · by_cases hlt : (y / x) < part
      · have HE := Lib.hid (L1.out hlt)
        go_wp2_with fail
        go_region
        all_goals
          go_wp2_with fail
          go_returns
          exact ⟨by rw [HG.out, HE.out]; cases t <;> simp <;> omega, by go_grown⟩
      · have HE := Lib.hid (L2.out (by omega))
        go_wp2_with fail
        go_region
        all_goals
          go_wp2_with fail
          go_returns
          exact ⟨by rw [HG.out, HE.out]; cases t <;> simp <;> omega, by go_grown⟩
end Go.Proofs.Ytgbnpnenejgnnaa

namespace Amp
theorem sgS_vals2 (p q : Int) : sgS p q = -1 ∨ sgS p q = 0 ∨ sgS p q = 1 := by
  unfold sgS; split
  · split <;> omega
  · omega
theorem sgS_neg2 (p q : Int) : sgS (-p) (-q) = - sgS p q := by
  by_cases h0 : p = 0 ∧ q = 0
  · obtain ⟨rfl, rfl⟩ := h0; rw [show (-0 : Int) = 0 from rfl, sgS_zero]; rfl
  · have h0' : ¬ (-p = 0 ∧ -q = 0) := by omega
    by_cases h : nn p q
    · have h' : ¬ nn (-p) (-q) := fun g => h0 (nn_antisymm h g)
      rw [sgS_pos h h0, sgS_neg h']
    · have h' : nn (-p) (-q) := (nn_total p q).resolve_left h
      rw [sgS_neg h, sgS_pos h' h0']; rfl
theorem gB_nn {p q : Int} : gB q (-p) = decide (nn p q) := by unfold gB; rw [Int.neg_neg]
theorem sgS_pp {p q : Int} (hp : 0 ≤ p) (hq : 0 ≤ q) : sgS p q = if p + q = 0 then 0 else 1 := by
  unfold sgS
  have hn : nn p q := Or.inl ⟨hp, hq⟩
  rw [if_pos hn]
  have e : (p = 0 ∧ q = 0) ↔ p + q = 0 := by omega
  simp only [e]
theorem sgS_mm {p q : Int} (hp : p ≤ 0) (hq : q ≤ 0) (h0 : ¬ (p = 0 ∧ q = 0)) : sgS p q = -1 := by
  apply sgS_neg
  intro h
  have h' : nn (-p) (-q) := Or.inl ⟨by omega, by omega⟩
  have := nn_antisymm h h'
  exact h0 this
end Amp
namespace Go.Proofs.Ytgbnpnenejgnnaa
open Go.RowKit Amp
attribute [local go_sem] ix0 ix1 ix2 ix3 jx0 jx1 jx2 jx3
attribute [local go_sem high] run_eqNum run_neNum run_eqArr run_eqArr22

set_option maxHeartbeats 2000000 in
theorem side_mp (p q : Int) (w : World) (hp : p < 0) (hq : 0 < q) (bp : -4611686018427387904 ≤ p) (bq : q ≤ 2305843009213693952) :
    Calls Try.prog 166 #[.int .i64 p, .int .i64 q] w fun e w' => e = .returned (.int .i64 (sgS p q)) ∧ Below w.heap.size w w' := by
  have h0 : ¬ (p = 0 ∧ q = 0) := by omega
  have H0 := Lib.hid h0
  clear h0
  have a1 : ¬ 0 ≤ p := by omega
  have a2 : ¬ q ≤ 0 := by omega
  have a3 : p ≤ 0 := by omega
  have a4 : ¬ 0 < p := by omega
  cases hd : gB q (-p)
  · have HS := Lib.hid (sgS_neg (p := p) (q := q) (by rw [gB_nn, decide_eq_false_iff_not] at hd; exact hd))
    go_enter Try.func166, Try.ntmps166
    go_wp2_with fail
    refine (aboveA_any _ _ _ hq (by omega) (by omega) (by omega)).mono ?_
    rintro e w1 ⟨rfl, hb1⟩
    rw [hd]
    go_wp2_with fail
    go_returns
    exact ⟨by rw [HS.out]; rfl, hb1⟩
  · have HS := Lib.hid (sgS_pos (p := p) (q := q) (by rw [gB_nn, decide_eq_true_eq] at hd; exact hd) H0.out)
    go_enter Try.func166, Try.ntmps166
    go_wp2_with fail
    refine (aboveA_any _ _ _ hq (by omega) (by omega) (by omega)).mono ?_
    rintro e w1 ⟨rfl, hb1⟩
    rw [hd]
    go_wp2_with fail
    go_returns
    exact ⟨by rw [HS.out]; rfl, hb1⟩

set_option maxHeartbeats 2000000 in
theorem side_wide (p q : Int) (w : World) (hp : -4611686018427387904 ≤ p ∧ p ≤ 4611686018427387904) (hq : -2305843009213693952 ≤ q ∧ q ≤ 2305843009213693952) :
    Calls Try.prog 166 #[.int .i64 p, .int .i64 q] w fun e w' => e = .returned (.int .i64 (sgS p q)) ∧ Below w.heap.size w w' := by
  obtain ⟨p1, p2⟩ := hp
  obtain ⟨q1, q2⟩ := hq
  by_cases hp : 0 ≤ p
  · by_cases hq : 0 ≤ q
    · by_cases hz : p + q = 0
      · obtain rfl : p = 0 := by omega
        obtain rfl : q = 0 := by omega
        have HS := Lib.hid sgS_zero
        go_enter Try.func166, Try.ntmps166
        go_wp2_with fail
        go_returns
        exact ⟨by rw [HS.out]; rfl, Below.refl _ _⟩
      · have HS := Lib.hid (show sgS p q = 1 from by rw [sgS_pp hp hq, if_neg hz])
        have g1 : ¬ p + q ≤ 1 ∨ p + q = 1 := by omega
        have g2 : ¬ p + q < 1 := by omega
        have g3 : min (p + q) 1 = 1 := by omega
        go_enter Try.func166, Try.ntmps166
        go_wp2_with fail
        all_goals
          go_returns
          exact ⟨by rw [HS.out]; first | rfl | (simp; done) | (simp; omega), Below.refl _ _⟩
    · by_cases hz : p = 0
      · subst hz
        have HS := Lib.hid (sgS_mm (p := 0) (q := q) (by omega) (by omega) (by omega))
        have hq1 : q ≤ -1 := by omega
        go_enter Try.func166, Try.ntmps166
        go_wp2_with fail
        all_goals
          go_returns
          exact ⟨by rw [HS.out]; first | rfl | (simp; done) | (simp; omega), Below.refl _ _⟩
      · have HS := Lib.hid (sgS_neg2 p q)
        have HV := sgS_vals2 (-p) (-q)
        have a1 : ¬ p ≤ 0 := by omega
        have a2 : 0 < p := by omega
        go_enter Try.func166, Try.ntmps166
        go_wp2_with fail
        refine (side_mp _ _ _ (by omega) (by omega) (by omega) (by omega)).mono ?_
        rintro e w1 ⟨rfl, hb1⟩
        have HS2 : Hid (sgS p q = -sgS (-p) (-q)) := Lib.hid (by have := HS.out; omega)
        clear HS
        generalize sgS (-p) (-q) = v at *
        have v1 : -1 ≤ v := by omega
        have v2 : v ≤ 1 := by omega
        clear HV
        go_wp2_with fail
        go_returns
        exact ⟨by rw [HS2.out]; first | rfl | (simp; done) | (simp; omega), hb1⟩
  · by_cases hq : q ≤ 0
    · have HS := Lib.hid (sgS_mm (p := p) (q := q) (by omega) hq (by omega))
      have a3 : p ≤ 0 := by omega
      go_enter Try.func166, Try.ntmps166
      go_wp2_with fail
      all_goals
        go_returns
        exact ⟨by rw [HS.out]; first | rfl | (simp; done) | (simp; omega), Below.refl _ _⟩
    · exact side_mp p q w (by omega) (by omega) p1 q2
theorem side_any (p q : Int) (w : World) (hp : -2305843009213693952 ≤ p ∧ p ≤ 2305843009213693952) (hq : -2305843009213693952 ≤ q ∧ q ≤ 2305843009213693952) :
    Calls Try.prog 166 #[.int .i64 p, .int .i64 q] w fun e w' => e = .returned (.int .i64 (sgS p q)) ∧ Below w.heap.size w w' :=
  side_wide p q w (by omega) hq
end Go.Proofs.Ytgbnpnenejgnnaa
