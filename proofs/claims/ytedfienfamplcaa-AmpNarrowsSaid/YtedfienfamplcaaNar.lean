import Derived.Test.YtedfienfamplcaaBb
import Derived.Test.YtedfienfamplcaaU8
namespace Amp
theorem nrP_up2 (p q e : Int) : (nrP p q (e + 2) = 2 * nrP p q e ∧ nrQ p q (e + 2) = 2 * nrQ p q e ∧ nrU (e + 2) = nrU e) ∨ (nrP p q (e + 2) = nrP p q e ∧ nrQ p q (e + 2) = nrQ p q e ∧ nrU e = 2 * nrU (e + 2)) := by
  have e1 : (e + 2) % 2 = e % 2 := by omega
  by_cases h : 0 ≤ e / 2
  · left
    have e2 : ((e + 2) / 2).toNat = (e / 2).toNat + 1 := by omega
    have e3 : (-((e + 2) / 2)).toNat = (-(e / 2)).toNat := by omega
    unfold nrP nrQ nrU
    rw [e1, e2, e3, Int.pow_succ]
    refine ⟨?_, ?_, rfl⟩ <;> split <;> grind
  · right
    have e2 : ((e + 2) / 2).toNat = (e / 2).toNat := by omega
    have e3 : (-(e / 2)).toNat = (-((e + 2) / 2)).toNat + 1 := by omega
    unfold nrP nrQ nrU
    rw [e1, e2, e3, Int.pow_succ]
    exact ⟨rfl, rfl, Int.mul_comm _ _⟩
theorem flu_dbl {p q u lo lo' : Int} (hu : 0 < u) (h : isFlu p q u lo) (h' : isFlu (2 * p) (2 * q) u lo') : 2 * lo ≤ lo' := by
  apply flu_le hu _ h'
  rw [show 2 * p - 2 * lo * u = 2 * (p - lo * u) by rw [Int.mul_sub, Int.mul_assoc]]
  have := nn_add h.1 h.1
  rwa [show p - lo * u + (p - lo * u) = 2 * (p - lo * u) by omega, show q + q = 2 * q by omega] at this
theorem flu_hlf {p q u u' lo lo' : Int} (hu : 0 < u') (e : u = 2 * u') (h : isFlu p q u lo) (h' : isFlu p q u' lo') : 2 * lo ≤ lo' := by
  apply flu_le hu _ h'
  rw [show 2 * lo * u' = lo * u by rw [e, Int.mul_comm 2 lo, Int.mul_assoc]]
  exact h.1
/-- One bit more. -/
theorem bd_more {p q e lo hi lo' hi' : Int} (h : isBd p q e lo hi) (h' : isBd p q (e + 2) lo' hi') : 0 ≤ hi - lo ∧ hi - lo ≤ 1 ∧ 0 ≤ hi' - lo' ∧ hi' - lo' ≤ 1 ∧ 2 * lo ≤ lo' ∧ hi' ≤ 2 * hi := by
  have w1 := sp_width (nrU_pos e) h
  have w2 := sp_width (nrU_pos (e + 2)) h'
  refine ⟨w1.1, w1.2, w2.1, w2.2, ?_⟩
  obtain ⟨a, b⟩ := h
  obtain ⟨a', b'⟩ := h'
  rcases nrP_up2 p q e with ⟨e1, e2, e3⟩ | ⟨e1, e2, e3⟩
  · rw [e1, e2, e3] at a'
    rw [e1, e2, e3, ← Int.mul_neg, ← Int.mul_neg] at b'
    have := flu_dbl (nrU_pos e) a a'
    have := flu_dbl (nrU_pos e) b b'
    omega
  · rw [e1, e2] at a' b'
    have := flu_hlf (nrU_pos (e + 2)) e3 a a'
    have := flu_hlf (nrU_pos (e + 2)) e3 b b'
    omega
theorem two_pow_succ_pred {k : Nat} (h : 1 ≤ k) : (2 : Int) ^ k = 2 * 2 ^ (k - 1) := by
  obtain ⟨j, rfl⟩ : ∃ j, k = j + 1 := ⟨k - 1, by omega⟩
  rw [show j + 1 - 1 = j by omega, Int.pow_succ, Int.mul_comm]
/-- A whole number: its parts. -/
theorem bd_whole (n : Int) (k : Nat) : isBd 0 n (2 * k - 1) (n * 2 ^ k) (n * 2 ^ k) := by
  have e1 : (2 * (k : Int) - 1) % 2 = 1 := by omega
  unfold isBd nrP nrQ nrU
  rw [if_pos e1, if_pos e1, Int.zero_mul]
  by_cases hk : 1 ≤ k
  · rw [show ((2 * (k : Int) - 1) / 2).toNat = k - 1 by omega, show (-((2 * (k : Int) - 1) / 2)).toNat = 0 by omega, two_pow_succ_pred hk]
    have e : 2 * n * 2 ^ (k - 1) - n * (2 * 2 ^ (k - 1)) * 2 ^ 0 = 0 := by grind
    refine sp_exact (by decide) ⟨?_, ?_⟩ e rfl
    · rw [e]; exact nn_int (Int.le_refl 0)
    · rw [show 2 * n * 2 ^ (k - 1) - (n * (2 * 2 ^ (k - 1)) + 1) * 2 ^ 0 = -1 by grind]
      exact nn_zero_neg (u := 1) (by omega)
  · obtain rfl : k = 0 := by omega
    show isSp (2 * n * 1) 0 2 (n * 1) (n * 1)
    refine sp_exact (by decide) ⟨?_, ?_⟩ (by omega) rfl
    · rw [show 2 * n * 1 - n * 1 * 2 = 0 by omega]; exact nn_int (Int.le_refl 0)
    · rw [show 2 * n * 1 - (n * 1 + 1) * 2 = -2 by omega]
      exact nn_zero_neg (u := 2) (by omega)
theorem bd_none (e : Int) : isBd 0 0 e 0 0 := by
  have h1 : nrP 0 0 e = 0 := by unfold nrP; split <;> simp
  have h2 : nrQ 0 0 e = 0 := by unfold nrQ; split <;> simp
  unfold isBd
  rw [h1, h2]
  refine sp_exact (nrU_pos e) ⟨?_, ?_⟩ (by omega) rfl
  · rw [show (0 : Int) - 0 * nrU e = 0 by omega]; exact nn_int (Int.le_refl 0)
  · rw [show (0 : Int) - (0 + 1) * nrU e = -nrU e by omega]
    exact nn_zero_neg (nrU_pos e)
theorem flu_rg {p q u f B : Int} (hu : 0 < u) (hp : -B ≤ p ∧ p ≤ B) (hq : q ≤ B ∧ -q ≤ B) (h : isFlu p q u f) : -(3 * B + 1) ≤ f ∧ f ≤ 3 * B := by
  have h1 := nn_lo hq h.1
  have h2 : ¬ 2 * B ≤ p - (f + 1) * u := fun hn => h.2 (nn_hi hq hn)
  constructor
  · apply Classical.byContradiction
    intro hn
    have := Int.mul_le_mul_of_nonneg_left (a := 1) (b := u) (c := -(f + 1)) (by omega) (by omega)
    simp only [Int.neg_mul, Int.mul_one] at this
    omega
  · apply Classical.byContradiction
    intro hn
    have := Int.mul_le_mul_of_nonneg_left (a := 1) (b := u) (c := f) (by omega) (by omega)
    omega
theorem bd_rg {p q e lo hi : Int} (hp : -2000000000 ≤ p ∧ p ≤ 2000000000) (hq : -1000000000 ≤ q ∧ q ≤ 1000000000) (he : e ≤ 59) (h : isBd p q e lo hi) :
    (-4000000000000000000 ≤ lo ∧ lo ≤ 4000000000000000000) ∧ (-4000000000000000000 ≤ hi ∧ hi ≤ 4000000000000000000) := by
  have hb := nr_bd hp hq he
  have a := flu_rg (B := 1073741824000000000) (nrU_pos e) (by omega) (by omega) h.1
  have b := flu_rg (B := 1073741824000000000) (nrU_pos e) (by omega) (by omega) h.2
  omega
end Amp
namespace Go.Proofs.Ytedfienfamplcaa
open Go.RowKit Amp
attribute [local go_sem] ix0 ix1 ix2 ix3 jx0 jx1 jx2 jx3

set_option maxHeartbeats 1000000 in
theorem between_yes (a b c d : Int) (w : World) (h1 : 0 ≤ b - a) (h2 : b - a ≤ 1) (h3 : 0 ≤ d - c) (h4 : d - c ≤ 1) (h5 : 2 * a ≤ c) (h6 : d ≤ 2 * b) (ra : -4000000000000000000 ≤ a ∧ a ≤ 4000000000000000000) (rb : -4000000000000000000 ≤ b ∧ b ≤ 4000000000000000000) (rc : -4000000000000000000 ≤ c ∧ c ≤ 4000000000000000000) (rd : -4000000000000000000 ≤ d ∧ d ≤ 4000000000000000000) :
    Calls Try.prog 18 #[.agg #[.int .i64 a, .int .i64 b], .agg #[.int .i64 c, .int .i64 d]] w fun e w' => e = .returned (.bool true) ∧ Below w.heap.size w w' := by
  obtain ⟨ra1, ra2⟩ := ra
  obtain ⟨rb1, rb2⟩ := rb
  obtain ⟨rc1, rc2⟩ := rc
  obtain ⟨rd1, rd2⟩ := rd
  go_enter Try.func18, Try.ntmps18
  go_wp2_with fail
  go_returns
  exact ⟨rfl, by go_grown⟩
set_option maxHeartbeats 8000000 in
theorem AmpNarrows_bad (a b c d k n1 n : Int) (K : Nat) (w : World) (hn0 : 0 ≤ n1) (hn1 : n1 ≤ 255) (hk : n1 % 30 = (K : Int)) (_hK : K ≤ 29) (hn : -9223372036854775808 ≤ n ∧ n ≤ 9223372036854775807) (hv : vld ⟨⟨a, b, c, d⟩, k⟩ = false) :
    Calls Try.prog 4 #[.agg #[.int .i64 a, .int .i64 b, .int .i64 c, .int .i64 d, .int .i64 k], .int .u8 n1, .int .i64 n] w fun e w' => e = .returned (.bool true) ∧ Below w.heap.size w w' := by
  have H1 : Hid (isBnd ⟨⟨a, b, c, d⟩, k⟩ K 0 0 0 0 10) := Lib.hid (by unfold isBnd; rw [hv]; simp)
  have H2 : Hid (isBnd ⟨⟨a, b, c, d⟩, k⟩ (K + 1) 0 0 0 0 10) := Lib.hid (by unfold isBnd; rw [hv]; simp)
  clear hv
  obtain ⟨hn2, hn3⟩ := hn
  go_enter Try.func4, Try.ntmps4
  go_wp2_with fail
  refine (Bounds_is _ _ _ _ _ _ _ _ _ _ _ _ H1).mono ?_
  rintro e w1 ⟨rfl, hb⟩
  have K1z : Has5 w1 (w.heap.size) a b c d k := Has5.keep (by refine ⟨⟨?_, ?_, ?_, ?_, ?_⟩, ?_, ?_, ?_, ?_, ?_⟩ <;> go_cell) hb (by first | omega | (simp; done) | (simp; omega))
  have D1 : Below w.heap.size w w1 := Below.trans (by go_grown) (hb.mono (by first | omega | (simp; done) | (simp; omega)))
  have z1 := D1.size
  have s1 : w.heap.size < w1.heap.size := by have := hb.size; (try simp at this); omega
  clear hb
  obtain ⟨⟨c1z0, c1z1, c1z2, c1z3, c1z4⟩, f1z0, f1z1, f1z2, f1z3, f1z4⟩ := K1z
  go_wp2_with fail
  refine (Bounds_is _ _ _ _ _ _ _ _ _ _ _ _ H2).mono ?_
  rintro e w2 ⟨rfl, hb⟩
  have K2z : Has5 w2 (w.heap.size) a b c d k := Has5.keep (by refine ⟨⟨?_, ?_, ?_, ?_, ?_⟩, ?_, ?_, ?_, ?_, ?_⟩ <;> go_cell) hb (by first | omega | (simp; done) | (simp; omega))
  have D2 : Below w.heap.size w w2 := Below.trans (by go_grown) (hb.mono (by first | omega | (simp; done) | (simp; omega)))
  have z2 := D2.size
  have s2 : w.heap.size < w2.heap.size := by have := hb.size; (try simp at this); omega
  clear hb D1 c1z0 c1z1 c1z2 c1z3 c1z4 f1z0 f1z1 f1z2 f1z3 f1z4
  obtain ⟨⟨c2z0, c2z1, c2z2, c2z3, c2z4⟩, f2z0, f2z1, f2z2, f2z3, f2z4⟩ := K2z
  go_wp2_with fail
  refine (awake_any _).mono ?_
  rintro e w3 ⟨rfl, hb⟩
  have D3 : Below w.heap.size w w3 := Below.trans (by go_grown) (hb.mono (by first | omega | (simp; done) | (simp; omega)))
  clear hb
  go_wp2_with fail
  go_returns
  exact ⟨rfl, D3⟩

set_option maxHeartbeats 8000000 in
theorem AmpNarrows_ok (a b c d k n1 n : Int) (K : Nat) (w : World) (hn0 : 0 ≤ n1) (hn1 : n1 ≤ 255) (hk : n1 % 30 = (K : Int)) (hK : K ≤ 29) (hn : -9223372036854775808 ≤ n ∧ n ≤ 9223372036854775807) (hv : vld ⟨⟨a, b, c, d⟩, k⟩ = true) :
    Calls Try.prog 4 #[.agg #[.int .i64 a, .int .i64 b, .int .i64 c, .int .i64 d, .int .i64 k], .int .u8 n1, .int .i64 n] w fun e w' => e = .returned (.bool true) ∧ Below w.heap.size w w' := by
  obtain ⟨⟨a1, a2⟩, ⟨b1, b2⟩, ⟨c1, c2⟩, ⟨d1, d2⟩⟩ := vld_sm hv
  have hkk := vld_k hv
  simp only at a1 a2 b1 b2 c1 c2 d1 d2 hkk
  obtain ⟨rl, rh, il, ih, er, H1⟩ := bnd_ex ⟨⟨a, b, c, d⟩, k⟩ K
  obtain ⟨rl', rh', il', ih', er', H2⟩ := bnd_ex ⟨⟨a, b, c, d⟩, k⟩ (K + 1)
  have G1 := H1.out
  have G2 := H2.out
  unfold isBnd at G1 G2
  rw [if_pos hv, if_pos (by omega)] at G1 G2
  obtain ⟨rfl, g1, g2⟩ := G1
  obtain ⟨rfl, g3, g4⟩ := G2
  simp only at g1 g2 g3 g4
  rw [show 2 * ((K : Int) + 1) - k - 1 = (2 * K - k - 1) + 2 by omega] at g3 g4
  obtain ⟨p1, p2, p3, p4, p5, p6⟩ := bd_more g1 g3
  obtain ⟨q1, q2, q3, q4, q5, q6⟩ := bd_more g2 g4
  obtain ⟨r1, r2⟩ := bd_rg (by omega) (by omega) (by omega) g1
  obtain ⟨r3, r4⟩ := bd_rg (by omega) (by omega) (by omega) g2
  obtain ⟨r5, r6⟩ := bd_rg (by omega) (by omega) (by omega) g3
  obtain ⟨r7, r8⟩ := bd_rg (by omega) (by omega) (by omega) g4
  clear g1 g2 g3 g4 hv
  obtain ⟨m, hm⟩ : ∃ m, n.tmod 1000 = m := ⟨_, rfl⟩
  have m1 : -1000 < m ∧ m < 1000 := by rw [← hm]; have h1 := Int.tmod_lt_of_pos n (b := 1000) (by omega); have h2 := Int.lt_tmod_of_pos n (b := 1000) (by omega); omega
  obtain ⟨m1, m2⟩ := m1
  have pw := pw2_bd K hK
  obtain ⟨t1, t2⟩ := mul_bd2 (x := m) (B := 1000) (by omega) pw
  have H3 : Hid (isBnd ⟨⟨m, 0, 0, 0⟩, 0⟩ K (m * 2 ^ K) (m * 2 ^ K) 0 0 0) := Lib.hid (by
    have hv : vld ⟨⟨m, 0, 0, 0⟩, 0⟩ = true := by rw [vld, Bool.and_eq_true]; exact ⟨(sm_iff _).2 (by simp only [big, bg]; omega), by simp⟩
    unfold isBnd
    rw [if_pos hv, if_pos (by omega)]
    refine ⟨rfl, ?_, ?_⟩
    · show isBd (0 - 0) m (2 * K - 0 - 1) _ _
      rw [show (0 : Int) - 0 = 0 by omega, show 2 * (K : Int) - 0 - 1 = 2 * K - 1 by omega]
      exact bd_whole m K
    · exact bd_none _)
  have y1 : IntKind.i64.wrap (m * 2 ^ K) = m * 2 ^ K := IntWalk.i64_in _ (by omega)
  clear pw
  obtain ⟨hn2, hn3⟩ := hn
  go_enter Try.func4, Try.ntmps4
  go_wp2_with fail
  refine (Bounds_is _ _ _ _ _ _ _ _ _ _ _ _ H1).mono ?_
  rintro e w1 ⟨rfl, hb⟩
  have K1z : Has5 w1 (w.heap.size) a b c d k := Has5.keep (by refine ⟨⟨?_, ?_, ?_, ?_, ?_⟩, ?_, ?_, ?_, ?_, ?_⟩ <;> go_cell) hb (by first | omega | (simp; done) | (simp; omega))
  have D1 : Below w.heap.size w w1 := Below.trans (by go_grown) (hb.mono (by first | omega | (simp; done) | (simp; omega)))
  have z1 := D1.size
  have s1 : w.heap.size < w1.heap.size := by have := hb.size; (try simp at this); omega
  clear hb
  obtain ⟨⟨c1z0, c1z1, c1z2, c1z3, c1z4⟩, f1z0, f1z1, f1z2, f1z3, f1z4⟩ := K1z
  go_wp2_with fail
  refine (Bounds_is _ _ _ _ _ _ _ _ _ _ _ _ H2).mono ?_
  rintro e w2 ⟨rfl, hb⟩
  have K2z : Has5 w2 (w.heap.size) a b c d k := Has5.keep (by refine ⟨⟨?_, ?_, ?_, ?_, ?_⟩, ?_, ?_, ?_, ?_, ?_⟩ <;> go_cell) hb (by first | omega | (simp; done) | (simp; omega))
  have K2p : Has2 w2 (w1.heap.size) rl rh := Has2.keep (by refine ⟨⟨?_, ?_⟩, ?_, ?_⟩ <;> go_cell) hb (by first | omega | (simp; done) | (simp; omega))
  have K2q : Has2 w2 (w1.heap.size + 1) il ih := Has2.keep (by refine ⟨⟨?_, ?_⟩, ?_, ?_⟩ <;> go_cell) hb (by first | omega | (simp; done) | (simp; omega))
  have D2 : Below w.heap.size w w2 := Below.trans (by go_grown) (hb.mono (by first | omega | (simp; done) | (simp; omega)))
  have z2 := D2.size
  have s2 : w1.heap.size + 1 < w2.heap.size := by have := hb.size; (try simp at this); omega
  clear hb D1 c1z0 c1z1 c1z2 c1z3 c1z4 f1z0 f1z1 f1z2 f1z3 f1z4
  obtain ⟨⟨c2z0, c2z1, c2z2, c2z3, c2z4⟩, f2z0, f2z1, f2z2, f2z3, f2z4⟩ := K2z
  obtain ⟨⟨c2p0, c2p1⟩, f2p0, f2p1⟩ := K2p
  obtain ⟨⟨c2q0, c2q1⟩, f2q0, f2q1⟩ := K2q
  have l2_0 : w.heap.size < w2.heap.size := by omega
  have l2_1 : w1.heap.size < w2.heap.size := by omega
  go_wp2_with fail
  refine (between_yes _ _ _ _ _ p1 p2 p3 p4 p5 p6 r1 r2 r5 r6).mono ?_
  rintro e w3 ⟨rfl, hb⟩
  have K3p : Has2 w3 (w1.heap.size) rl rh := Has2.keep (by refine ⟨⟨?_, ?_⟩, ?_, ?_⟩ <;> go_cell) hb (by first | omega | (simp; done) | (simp; omega))
  have K3q : Has2 w3 (w1.heap.size + 1) il ih := Has2.keep (by refine ⟨⟨?_, ?_⟩, ?_, ?_⟩ <;> go_cell) hb (by first | omega | (simp; done) | (simp; omega))
  have K3r : Has2 w3 (w2.heap.size) rl' rh' := Has2.keep (by refine ⟨⟨?_, ?_⟩, ?_, ?_⟩ <;> go_cell) hb (by first | omega | (simp; done) | (simp; omega))
  have K3t : Has2 w3 (w2.heap.size + 1) il' ih' := Has2.keep (by refine ⟨⟨?_, ?_⟩, ?_, ?_⟩ <;> go_cell) hb (by first | omega | (simp; done) | (simp; omega))
  have D3 : Below w.heap.size w w3 := Below.trans (by go_grown) (hb.mono (by first | omega | (simp; done) | (simp; omega)))
  have z3 := D3.size
  have s3 : w2.heap.size + 1 < w3.heap.size := by have := hb.size; (try simp at this); omega
  clear hb D2 c2z0 c2z1 c2z2 c2z3 c2z4 f2z0 f2z1 f2z2 f2z3 f2z4 c2p0 c2p1 f2p0 f2p1 c2q0 c2q1 f2q0 f2q1
  obtain ⟨⟨c3p0, c3p1⟩, f3p0, f3p1⟩ := K3p
  obtain ⟨⟨c3q0, c3q1⟩, f3q0, f3q1⟩ := K3q
  obtain ⟨⟨c3r0, c3r1⟩, f3r0, f3r1⟩ := K3r
  obtain ⟨⟨c3t0, c3t1⟩, f3t0, f3t1⟩ := K3t
  have l3_0 : w1.heap.size < w3.heap.size := by omega
  have l3_1 : w1.heap.size + 1 < w3.heap.size := by omega
  have l3_2 : w2.heap.size < w3.heap.size := by omega
  go_wp2_with fail
  refine (between_yes _ _ _ _ _ q1 q2 q3 q4 q5 q6 r3 r4 r7 r8).mono ?_
  rintro e w4 ⟨rfl, hb⟩
  have K4p : Has2 w4 (w1.heap.size) rl rh := Has2.keep (by refine ⟨⟨?_, ?_⟩, ?_, ?_⟩ <;> go_cell) hb (by first | omega | (simp; done) | (simp; omega))
  have K4q : Has2 w4 (w1.heap.size + 1) il ih := Has2.keep (by refine ⟨⟨?_, ?_⟩, ?_, ?_⟩ <;> go_cell) hb (by first | omega | (simp; done) | (simp; omega))
  have K4r : Has2 w4 (w2.heap.size) rl' rh' := Has2.keep (by refine ⟨⟨?_, ?_⟩, ?_, ?_⟩ <;> go_cell) hb (by first | omega | (simp; done) | (simp; omega))
  have K4t : Has2 w4 (w2.heap.size + 1) il' ih' := Has2.keep (by refine ⟨⟨?_, ?_⟩, ?_, ?_⟩ <;> go_cell) hb (by first | omega | (simp; done) | (simp; omega))
  have D4 : Below w.heap.size w w4 := Below.trans (by go_grown) (hb.mono (by first | omega | (simp; done) | (simp; omega)))
  have z4 := D4.size
  have s4 : w2.heap.size + 1 < w4.heap.size := by have := hb.size; (try simp at this); omega
  clear hb D3 c3p0 c3p1 f3p0 f3p1 c3q0 c3q1 f3q0 f3q1 c3r0 c3r1 f3r0 f3r1 c3t0 c3t1 f3t0 f3t1
  obtain ⟨⟨c4p0, c4p1⟩, f4p0, f4p1⟩ := K4p
  obtain ⟨⟨c4q0, c4q1⟩, f4q0, f4q1⟩ := K4q
  obtain ⟨⟨c4r0, c4r1⟩, f4r0, f4r1⟩ := K4r
  obtain ⟨⟨c4t0, c4t1⟩, f4t0, f4t1⟩ := K4t
  have l4_0 : w1.heap.size < w4.heap.size := by omega
  have l4_1 : w1.heap.size + 1 < w4.heap.size := by omega
  have l4_2 : w2.heap.size < w4.heap.size := by omega
  go_wp2_with fail
  refine (Bounds_is _ _ _ _ _ _ _ _ _ _ _ _ H3).mono ?_
  rintro e w5 ⟨rfl, hb⟩
  have D5 : Below w.heap.size w w5 := Below.trans (by go_grown) (hb.mono (by first | omega | (simp; done) | (simp; omega)))
  have z5 := D5.size
  clear hb D4 c4p0 c4p1 f4p0 f4p1 c4q0 c4q1 f4q0 f4q1 c4r0 c4r1 f4r0 f4r1 c4t0 c4t1 f4t0 f4t1
  go_wp2_with fail
  go_region
  all_goals
    go_wp2_with fail
    refine (awake_any _).mono ?_
    rintro e w6 ⟨rfl, hb⟩
    have D6 : Below w.heap.size w w6 := Below.trans (by go_grown) (hb.mono (by first | omega | (simp; done) | (simp; omega)))
    clear hb
    go_wp2_with fail
    go_returns
    exact ⟨rfl, D6⟩

theorem AmpNarrows_any (a b c d k n1 n : Int) (w : World) (h0 : 0 ≤ n1) (h1 : n1 ≤ 255) (hn : -9223372036854775808 ≤ n ∧ n ≤ 9223372036854775807) :
    Calls Try.prog 4 #[.agg #[.int .i64 a, .int .i64 b, .int .i64 c, .int .i64 d, .int .i64 k], .int .u8 n1, .int .i64 n] w fun e w' => e = .returned (.bool true) ∧ Below w.heap.size w w' := by
  have hk : n1 % 30 = (((n1 % 30).toNat : Nat) : Int) := by omega
  cases hv : vld ⟨⟨a, b, c, d⟩, k⟩
  · exact AmpNarrows_bad a b c d k n1 n (n1 % 30).toNat w h0 h1 hk (by omega) hn hv
  · exact AmpNarrows_ok a b c d k n1 n (n1 % 30).toNat w h0 h1 hk (by omega) hn hv
end Go.Proofs.Ytedfienfamplcaa
