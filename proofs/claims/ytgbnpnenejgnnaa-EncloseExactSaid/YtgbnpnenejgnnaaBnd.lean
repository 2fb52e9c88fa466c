import Derived.Test.YtgbnpnenejgnnaaFl
import Derived.Deep.RegionHeld3
namespace Amp
/-- f is (p + q r) / u, rounded down. -/
def isFlu (p q u f : Int) : Prop := nn (p - f * u) q ∧ ¬ nn (p - (f + 1) * u) q
theorem nn_mono {p p' q : Int} (h : nn p q) (hp : p ≤ p') : nn p' q := by
  have := nn_add h (nn_int (n := p' - p) (by omega))
  rw [show p + (p' - p) = p' by omega, Int.add_zero] at this
  exact this
theorem flu_le {p q u f g : Int} (hu : 0 < u) (h : nn (p - f * u) q) (h' : isFlu p q u g) : f ≤ g := by
  apply Classical.byContradiction
  intro hn
  apply h'.2
  have : (g + 1) * u ≤ f * u := Int.mul_le_mul_of_nonneg_right (by omega) (by omega)
  exact nn_mono h (by omega)
theorem flu_unique {p q u f g : Int} (hu : 0 < u) (h : isFlu p q u f) (h' : isFlu p q u g) : f = g := by
  have := flu_le hu h.1 h'
  have := flu_le hu h'.1 h
  omega
theorem flu_shift {p q u f : Int} (hu : 0 < u) (h : isFl p q f) : isFlu p q u (f / u) := by
  have e := Int.mul_ediv_add_emod f u
  have r0 := Int.emod_nonneg f (show u ≠ 0 by omega)
  have r1 := Int.emod_lt_of_pos f hu
  rw [Int.mul_comm] at e
  have e2 : (f / u + 1) * u = f / u * u + u := by rw [Int.add_mul, Int.one_mul]
  exact ⟨nn_mono h.1 (by omega), fun hn => h.2 (nn_mono hn (by omega))⟩
/-- lo and hi are the bounds of (p + q r) / u. -/
def isSp (p q u lo hi : Int) : Prop := isFlu p q u lo ∧ isFlu (-p) (-q) u (-hi)
theorem sp_unique {p q u lo hi lo' hi' : Int} (hu : 0 < u) (h : isSp p q u lo hi) (h' : isSp p q u lo' hi') : lo = lo' ∧ hi = hi' := by
  have a := flu_unique hu h.1 h'.1
  have b := flu_unique hu h.2 h'.2
  omega
theorem nn_zero_neg {u : Int} (hu : 0 < u) : ¬ nn (-u) 0 := by
  rintro (⟨h, _⟩ | ⟨h, _⟩ | ⟨_, _, h⟩)
  · omega
  · omega
  · rw [Int.neg_mul_neg] at h
    have := Int.mul_pos hu hu
    omega
theorem sp_exact {p q u f : Int} (hu : 0 < u) (h : isFlu p q u f) (e1 : p - f * u = 0) (e2 : q = 0) : isSp p q u f f := by
  subst e2
  refine ⟨h, ?_, ?_⟩
  · rw [show -p - -f * u = 0 by rw [Int.neg_mul]; omega]
    exact nn_int (Int.le_refl 0)
  · rw [show -p - (-f + 1) * u = -u by rw [Int.add_mul, Int.neg_mul]; omega]
    exact nn_zero_neg hu
theorem sp_next {p q u f : Int} (h : isFlu p q u f) (e : ¬ (p - f * u = 0 ∧ q = 0)) : isSp p q u f (f + 1) := by
  refine ⟨h, ?_, ?_⟩
  · rw [show -p - -(f + 1) * u = -(p - (f + 1) * u) by rw [Int.neg_mul]; omega]
    exact (nn_total _ _).resolve_left h.2
  · rw [show -(f + 1) + 1 = -f by omega, show -p - -f * u = -(p - f * u) by rw [Int.neg_mul]; omega]
    exact fun hn => e (nn_antisymm h.1 hn)
theorem sp_width {p q u lo hi : Int} (hu : 0 < u) (h : isSp p q u lo hi) : 0 ≤ hi - lo ∧ hi - lo ≤ 1 := by
  by_cases e : p - lo * u = 0 ∧ q = 0
  · have := sp_unique hu h (sp_exact hu h.1 e.1 e.2); omega
  · have := sp_unique hu h (sp_next h.1 e); omega
/-- (p + q r) r^e is (P + Q r) / U. -/
def nrP (p q e : Int) : Int := (if e % 2 = 1 then 2 * q else p) * 2 ^ (e / 2).toNat
def nrQ (p q e : Int) : Int := (if e % 2 = 1 then p else q) * 2 ^ (e / 2).toNat
def nrU (e : Int) : Int := 2 ^ (-(e / 2)).toNat
def isBd (p q e lo hi : Int) : Prop := isSp (nrP p q e) (nrQ p q e) (nrU e) lo hi
theorem nrU_pos (e : Int) : 0 < nrU e := Int.pow_pos (by omega)
theorem bd_unique {p q e lo hi lo' hi' : Int} (h : isBd p q e lo hi) (h' : isBd p q e lo' hi') : lo = lo' ∧ hi = hi' := sp_unique (nrU_pos e) h h'
theorem pw2_bd (m : Nat) (h : m ≤ 29) : 1 ≤ (2 : Int) ^ m ∧ (2 : Int) ^ m ≤ 536870912 := by
  have h1 : (2 : Nat) ^ m ≤ 2 ^ 29 := Nat.pow_le_pow_right (by omega) h
  have h2 : 0 < (2 : Nat) ^ m := Nat.pow_pos (by omega)
  have h3 : (2 : Int) ^ m = ((2 ^ m : Nat) : Int) := by simp
  rw [h3]
  omega
theorem mul_bd2 {x p B : Int} (h : -B ≤ x ∧ x ≤ B) (hp : 1 ≤ p ∧ p ≤ 536870912) : -(B * 536870912) ≤ x * p ∧ x * p ≤ B * 536870912 := by
  have hB : 0 ≤ B := by omega
  have h1 : -B * p ≤ x * p := Int.mul_le_mul_of_nonneg_right h.1 (by omega)
  have h2 : B * p ≤ B * 536870912 := Int.mul_le_mul_of_nonneg_left hp.2 hB
  have h3 : x * p ≤ B * p := Int.mul_le_mul_of_nonneg_right h.2 (by omega)
  rw [Int.neg_mul] at h1
  omega
theorem nr_bd {p q e : Int} (hp : -2000000000 ≤ p ∧ p ≤ 2000000000) (hq : -1000000000 ≤ q ∧ q ≤ 1000000000) (he : e ≤ 59) :
    (-1073741824000000000 ≤ nrP p q e ∧ nrP p q e ≤ 1073741824000000000) ∧ (-1073741824000000000 ≤ nrQ p q e ∧ nrQ p q e ≤ 1073741824000000000) := by
  have b := pw2_bd (e / 2).toNat (by omega)
  have h1 : -2000000000 ≤ (if e % 2 = 1 then 2 * q else p) ∧ (if e % 2 = 1 then 2 * q else p) ≤ 2000000000 := by split <;> omega
  have h2 : -2000000000 ≤ (if e % 2 = 1 then p else q) ∧ (if e % 2 = 1 then p else q) ≤ 2000000000 := by split <;> omega
  have c1 := mul_bd2 h1 b
  have c2 := mul_bd2 h2 b
  unfold nrP nrQ
  omega
theorem nr_neg (p q e : Int) : nrP (-p) (-q) e = -nrP p q e ∧ nrQ (-p) (-q) e = -nrQ p q e := by
  unfold nrP nrQ
  constructor <;> split <;> simp [Int.neg_mul, Int.mul_neg]
end Amp

namespace Amp
theorem sqrt_ex (n : Nat) : ∃ t : Nat, t * t ≤ n ∧ n < (t + 1) * (t + 1) := by
  induction n with
  | zero => exact ⟨0, by omega, by omega⟩
  | succ n ih =>
    obtain ⟨t, h1, h2⟩ := ih
    by_cases h : n + 1 < (t + 1) * (t + 1)
    · exact ⟨t, by omega, h⟩
    · refine ⟨t + 1, by omega, ?_⟩
      have e : (t + 1 + 1) * (t + 1 + 1) = (t + 1) * (t + 1) + 2 * t + 3 := by grind
      omega
theorem isRt_ex {q : Int} (h0 : 0 ≤ q) (h1 : q ≤ 2305843009213693952) : ∃ t, isRt q t := by
  obtain ⟨t, h2, h3⟩ := sqrt_ex (2 * (q * q)).toNat
  have hq : 0 ≤ q * q := Int.mul_nonneg h0 h0
  have hb := Int.mul_le_mul h1 h1 h0 (by omega)
  have e1 : ((t * t : Nat) : Int) ≤ 2 * (q * q) := by omega
  have e2 : 2 * (q * q) < (((t + 1) * (t + 1) : Nat) : Int) := by omega
  rw [Int.natCast_mul] at e1 e2
  refine ⟨t, by omega, ?_, e1, by rw [show ((t + 1 : Nat) : Int) = (t : Int) + 1 by omega] at e2; exact e2⟩
  apply Classical.byContradiction
  intro hn
  have := mul_self_mono (x := 4611686018427387904) (y := (t : Int)) (by omega) (by omega)
  omega
theorem isFl_ex {p q : Int} (hq : -2305843009213693952 ≤ q ∧ q ≤ 2305843009213693952) : ∃ f, isFl p q f := by
  by_cases h : q < 0
  · obtain ⟨t, ht⟩ := isRt_ex (q := -q) (by omega) (by omega)
    exact ⟨_, fl_neg h ht⟩
  · obtain ⟨t, ht⟩ := isRt_ex (q := q) (by omega) (by omega)
    exact ⟨_, fl_pos (by omega) ht⟩
theorem isFl_unique {p q f g : Int} (h : isFl p q f) (h' : isFl p q g) : f = g := by
  apply flu_unique (p := p) (q := q) (u := 1) (by omega)
  · unfold isFlu isFl at *; rw [Int.mul_one, Int.mul_one, show p - (f + 1) = p - f - 1 by omega]; exact h
  · unfold isFlu isFl at *; rw [Int.mul_one, Int.mul_one, show p - (g + 1) = p - g - 1 by omega]; exact h'
theorem nn_lo {x q B : Int} (hB : q ≤ B ∧ -q ≤ B) (h : nn x q) : -(2 * B) ≤ x := by
  rcases h with ⟨h, _⟩ | ⟨h, _, _⟩ | ⟨h1, h2, h3⟩
  · omega
  · omega
  · apply Classical.byContradiction
    intro hn
    have := mul_self_mono (x := 2 * B) (y := -x) (by omega) (by omega)
    have h4 := mul_self_mono (x := q) (y := B) h2 hB.1
    rw [Int.neg_mul_neg] at this
    have e : 2 * B * (2 * B) = 4 * (B * B) := by grind
    have hx : x * x = 0 ∨ 0 < x * x := by
      have : 0 ≤ x * x := by
        have := Int.mul_nonneg (a := -x) (b := -x) (by omega) (by omega)
        rwa [Int.neg_mul_neg] at this
      omega
    have b0 : 0 ≤ B * B := Int.mul_nonneg (by omega) (by omega)
    have h5 : B * B = 0 := by omega
    have h6 : x * x = 0 := by omega
    have h7 := Int.mul_pos (a := -x) (b := -x) (by omega) (by omega)
    rw [Int.neg_mul_neg] at h7
    omega
theorem nn_hi {x q B : Int} (hB : q ≤ B ∧ -q ≤ B) (h : 2 * B ≤ x) : nn x q := by
  by_cases hq : 0 ≤ q
  · exact Or.inl ⟨by omega, hq⟩
  · refine Or.inr (Or.inl ⟨by omega, by omega, ?_⟩)
    have h1 := mul_self_mono (x := 2 * B) (y := x) (by omega) h
    have h2 := mul_self_mono (x := -q) (y := B) (by omega) hB.2
    rw [Int.neg_mul_neg] at h2
    have e : 2 * B * (2 * B) = 4 * (B * B) := by grind
    have b0 : 0 ≤ B * B := Int.mul_nonneg (by omega) (by omega)
    omega
theorem fl_bd {p q f B : Int} (hB : q ≤ B ∧ -q ≤ B) (h : isFl p q f) : p - 2 * B - 1 ≤ f ∧ f ≤ p + 2 * B := by
  have h1 := nn_lo hB h.1
  have h2 : ¬ 2 * B ≤ p - f - 1 := fun hn => h.2 (nn_hi hB hn)
  omega
theorem quo_bd {g u : Int} (hu : 0 < u) : (g ≤ g / u ∧ g / u ≤ -1) ∨ (0 ≤ g / u ∧ g / u ≤ g) := by
  by_cases h : 0 ≤ g
  · exact Or.inr ⟨Int.ediv_nonneg h (by omega), Int.ediv_le_self _ h⟩
  · refine Or.inl ⟨?_, by have := Int.ediv_neg_of_neg_of_pos (a := g) (b := u) (by omega) hu; omega⟩
    rw [Int.le_ediv_iff_mul_le hu]
    have := Int.mul_le_mul_of_nonneg_left (a := 1) (b := u) (c := -g) (by omega) (by omega)
    rw [Int.neg_mul, Int.neg_mul] at this
    omega
end Amp
namespace Go.Proofs.Ytgbnpnenejgnnaa
open Go.RowKit Amp
attribute [local go_sem] ix0 ix1 ix2 ix3 jx0 jx1 jx2 jx3

theorem floor_is (p q f : Int) (w : World) (hp : -2305843009213693952 ≤ p ∧ p ≤ 2305843009213693952) (hq : -2305843009213693952 ≤ q ∧ q ≤ 2305843009213693952) (h : isFl p q f) :
    Calls Try.prog 159 #[.int .i64 p, .int .i64 q] w fun e w' => e = .returned (.int .i64 f) ∧ w' = w := by
  refine (floor_any p q w hp hq).mono ?_
  rintro e w' ⟨g, rfl, hg, rfl⟩
  exact ⟨by rw [isFl_unique h hg.out], rfl⟩

theorem i64w {x : Int} (h : -1073741824000000000 ≤ x ∧ x ≤ 1073741824000000000) : -2305843009213693952 ≤ x ∧ x ≤ 2305843009213693952 := by omega

set_option maxHeartbeats 1000000 in
theorem around_op (p q N : Int) (m : Nat) (w : World) (hN : Hid (N = 2 * m + 1)) (hm : 1 ≤ m) (hm2 : m ≤ 29)
    (hp : -2000000000 ≤ p ∧ p ≤ 2000000000) (hq : -1000000000 ≤ q ∧ q ≤ 1000000000) :
    Calls Try.prog 144 #[.int .i64 p, .int .i64 q, .int .i64 N] w fun e w' => ∃ lo hi : Int, e = .returned (.agg #[.int .i64 lo, .int .i64 hi]) ∧ Hid (isBd p q N lo hi) ∧ Below w.heap.size w w' := by
  have n0 : -61 ≤ N := by have := hN.out; omega
  have n1 : N ≤ 59 := by have := hN.out; omega
  have n2 : 0 ≤ N := by have := hN.out; omega
  have hr : (N % 2 == 0) = false := by have := hN.out; rw [beq_eq_false_iff_ne]; omega
  have hq1 : (N - 1) / 2 = (m : Int) := by have := hN.out; omega
  have hd : 0 < N - 1 := by have := hN.out; omega
  have z0 : IntKind.i64.wrap 0 = 0 := rfl
  have hb := nr_bd hp hq (e := N) (by omega)
  have eP : nrP p q N = 2 * q * 2 ^ m := by
    unfold nrP; rw [if_pos (by have := hN.out; omega), show (N / 2).toNat = m by have := hN.out; omega]
  have eQ : nrQ p q N = p * 2 ^ m := by
    unfold nrQ; rw [if_pos (by have := hN.out; omega), show (N / 2).toNat = m by have := hN.out; omega]
  have eU : nrU N = 1 := by
    unfold nrU; rw [show (-(N / 2)).toNat = 0 by have := hN.out; omega]; rfl
  rw [eP, eQ] at hb
  obtain ⟨⟨a1, a2⟩, a3, a4⟩ := hb
  obtain ⟨f, hf⟩ := isFl_ex (p := 2 * q * 2 ^ m) (q := p * 2 ^ m) (by omega)
  obtain ⟨g, hg⟩ := isFl_ex (p := -(2 * q * 2 ^ m)) (q := -(p * 2 ^ m)) (by omega)
  have bf := fl_bd (B := 1073741824000000000) (by omega) hf
  have bg := fl_bd (B := 1073741824000000000) (by omega) hg
  have y1 : IntKind.i64.wrap (-(2 * q * 2 ^ m)) = -(2 * q * 2 ^ m) := IntWalk.i64_in _ (by omega)
  have y2 : IntKind.i64.wrap (-(p * 2 ^ m)) = -(p * 2 ^ m) := IntWalk.i64_in _ (by omega)
  have y3 : IntKind.i64.wrap (-g) = -g := IntWalk.i64_in _ (by omega)
  have HS : Hid (isBd p q N f (-g)) := Lib.hid (by unfold isBd; rw [eP, eQ, eU]; exact ⟨by have := flu_shift (u := 1) (by omega) hf; rwa [Int.ediv_one] at this, by have := flu_shift (u := 1) (by omega) hg; rw [Int.ediv_one] at this; rwa [Int.neg_neg]⟩)
  have HF := Lib.hid hf
  have HG := Lib.hid hg
  clear hf hg eP eQ eU bf bg
  go_enter Try.func144, Try.ntmps144
  go_wp2_with fail
  go_region
  all_goals go_wp2_with fail
  all_goals
    go_region_held3 (fun _ => True)
      (trivial)
      ((go_at_call 159; refine (floor_is _ _ _ _ (by omega) (by omega) (by first | exact HF.out | exact HG.out)).mono ?_; rintro e wA ⟨rfl, rfl⟩))
  all_goals go_wp2_with fail
  all_goals go_returns
  all_goals exact ⟨_, _, rfl, HS, by go_grown⟩

set_option maxHeartbeats 1000000 in
theorem around_ep (p q N : Int) (m : Nat) (w : World) (hN : Hid (N = 2 * m)) (hm : 1 ≤ m) (hm2 : m ≤ 29)
    (hp : -2000000000 ≤ p ∧ p ≤ 2000000000) (hq : -1000000000 ≤ q ∧ q ≤ 1000000000) :
    Calls Try.prog 144 #[.int .i64 p, .int .i64 q, .int .i64 N] w fun e w' => ∃ lo hi : Int, e = .returned (.agg #[.int .i64 lo, .int .i64 hi]) ∧ Hid (isBd p q N lo hi) ∧ Below w.heap.size w w' := by
  have n0 : -61 ≤ N := by have := hN.out; omega
  have n1 : N ≤ 59 := by have := hN.out; omega
  have n2 : 0 ≤ N := by have := hN.out; omega
  have hr : (N % 2 == 0) = true := by have := hN.out; rw [beq_iff_eq]; omega
  have hq1 : (N) / 2 = (m : Int) := by have := hN.out; omega
  have hd : 0 < N := by have := hN.out; omega
  have z0 : IntKind.i64.wrap 0 = 0 := rfl
  have hb := nr_bd hp hq (e := N) (by omega)
  have eP : nrP p q N = p * 2 ^ m := by
    unfold nrP; rw [if_neg (by have := hN.out; omega), show (N / 2).toNat = m by have := hN.out; omega]
  have eQ : nrQ p q N = q * 2 ^ m := by
    unfold nrQ; rw [if_neg (by have := hN.out; omega), show (N / 2).toNat = m by have := hN.out; omega]
  have eU : nrU N = 1 := by
    unfold nrU; rw [show (-(N / 2)).toNat = 0 by have := hN.out; omega]; rfl
  rw [eP, eQ] at hb
  obtain ⟨⟨a1, a2⟩, a3, a4⟩ := hb
  obtain ⟨f, hf⟩ := isFl_ex (p := p * 2 ^ m) (q := q * 2 ^ m) (by omega)
  obtain ⟨g, hg⟩ := isFl_ex (p := -(p * 2 ^ m)) (q := -(q * 2 ^ m)) (by omega)
  have bf := fl_bd (B := 1073741824000000000) (by omega) hf
  have bg := fl_bd (B := 1073741824000000000) (by omega) hg
  have y1 : IntKind.i64.wrap (-(p * 2 ^ m)) = -(p * 2 ^ m) := IntWalk.i64_in _ (by omega)
  have y2 : IntKind.i64.wrap (-(q * 2 ^ m)) = -(q * 2 ^ m) := IntWalk.i64_in _ (by omega)
  have y3 : IntKind.i64.wrap (-g) = -g := IntWalk.i64_in _ (by omega)
  have HS : Hid (isBd p q N f (-g)) := Lib.hid (by unfold isBd; rw [eP, eQ, eU]; exact ⟨by have := flu_shift (u := 1) (by omega) hf; rwa [Int.ediv_one] at this, by have := flu_shift (u := 1) (by omega) hg; rw [Int.ediv_one] at this; rwa [Int.neg_neg]⟩)
  have HF := Lib.hid hf
  have HG := Lib.hid hg
  clear hf hg eP eQ eU bf bg
  go_enter Try.func144, Try.ntmps144
  go_wp2_with fail
  go_region
  all_goals go_wp2_with fail
  all_goals
    go_region_held3 (fun _ => True)
      (trivial)
      ((go_at_call 159; refine (floor_is _ _ _ _ (by omega) (by omega) (by first | exact HF.out | exact HG.out)).mono ?_; rintro e wA ⟨rfl, rfl⟩))
  all_goals go_wp2_with fail
  all_goals go_returns
  all_goals exact ⟨_, _, rfl, HS, by go_grown⟩

set_option maxHeartbeats 1000000 in
theorem around_on (p q N : Int) (m : Nat) (w : World) (hN : Hid (N = 1 - 2 * m)) (hm2 : m ≤ 30)
    (hp : -2000000000 ≤ p ∧ p ≤ 2000000000) (hq : -1000000000 ≤ q ∧ q ≤ 1000000000) :
    Calls Try.prog 144 #[.int .i64 p, .int .i64 q, .int .i64 N] w fun e w' => ∃ lo hi : Int, e = .returned (.agg #[.int .i64 lo, .int .i64 hi]) ∧ Hid (isBd p q N lo hi) ∧ Below w.heap.size w w' := by
  have n0 : -61 ≤ N := by have := hN.out; omega
  have n1 : N ≤ 59 := by have := hN.out; omega
  have hr : (N.tmod 2 == 0) = false := by have := hN.out; rw [beq_eq_false_iff_ne, ne_eq, tmod2]; omega
  have hd : ¬ 0 < N - 1 := by have := hN.out; omega
  have z0 : IntKind.i64.wrap (-(N - 1)) = -(N - 1) := IntWalk.i64_in _ (by omega)
  have z1 : IntKind.i64.wrap (-(N - 1).tdiv 2) = (m : Int) := by have := hN.out; rw [← Int.neg_tdiv, Int.tdiv_eq_ediv_of_nonneg (by omega), IntWalk.i64_in _ (by omega)]; omega
  have z2 : min m 64 = m := by omega
  have hb := nr_bd hp hq (e := N) (by omega)
  have eP : nrP p q N = 2 * q := by
    unfold nrP; rw [if_pos (by have := hN.out; omega), show (N / 2).toNat = 0 by have := hN.out; omega]; simp
  have eQ : nrQ p q N = p := by
    unfold nrQ; rw [if_pos (by have := hN.out; omega), show (N / 2).toNat = 0 by have := hN.out; omega]; simp
  have eU : nrU N = 2 ^ m := by
    unfold nrU; rw [show (-(N / 2)).toNat = m by have := hN.out; omega]
  rw [eP, eQ] at hb
  obtain ⟨⟨a1, a2⟩, a3, a4⟩ := hb
  obtain ⟨f, hf⟩ := isFl_ex (p := 2 * q) (q := p) (by omega)
  obtain ⟨g, hg⟩ := isFl_ex (p := -(2 * q)) (q := -(p)) (by omega)
  have bf := fl_bd (B := 1073741824000000000) (by omega) hf
  have bg := fl_bd (B := 1073741824000000000) (by omega) hg
  have y1 : IntKind.i64.wrap (-(2 * q)) = -(2 * q) := IntWalk.i64_in _ (by omega)
  have y2 : IntKind.i64.wrap (-(p)) = -(p) := IntWalk.i64_in _ (by omega)
  have hu : (0 : Int) < 2 ^ m := Int.pow_pos (by omega)
  have dg := quo_bd (g := g) hu
  have y3 : IntKind.i64.wrap (-(g / 2 ^ m)) = -(g / 2 ^ m) := IntWalk.i64_in _ (by omega)
  have HS : Hid (isBd p q N (f / 2 ^ m) (-(g / 2 ^ m))) := Lib.hid (by unfold isBd; rw [eP, eQ, eU]; exact ⟨flu_shift hu hf, by rw [Int.neg_neg]; exact flu_shift hu hg⟩)
  clear dg
  have HF := Lib.hid hf
  have HG := Lib.hid hg
  clear hf hg eP eQ eU bf bg
  go_enter Try.func144, Try.ntmps144
  go_wp2_with fail
  all_goals
    go_region_held3 (fun _ => True)
      (trivial)
      ((go_at_call 159; refine (floor_is _ _ _ _ (by omega) (by omega) (by first | exact HF.out | exact HG.out)).mono ?_; rintro e wA ⟨rfl, rfl⟩))
  all_goals go_wp2_with fail
  all_goals go_returns
  all_goals exact ⟨_, _, rfl, HS, by go_grown⟩

set_option maxHeartbeats 1000000 in
theorem around_en (p q N : Int) (m : Nat) (w : World) (hN : Hid (N = -(2 * m))) (hm2 : m ≤ 30)
    (hp : -2000000000 ≤ p ∧ p ≤ 2000000000) (hq : -1000000000 ≤ q ∧ q ≤ 1000000000) :
    Calls Try.prog 144 #[.int .i64 p, .int .i64 q, .int .i64 N] w fun e w' => ∃ lo hi : Int, e = .returned (.agg #[.int .i64 lo, .int .i64 hi]) ∧ Hid (isBd p q N lo hi) ∧ Below w.heap.size w w' := by
  have n0 : -61 ≤ N := by have := hN.out; omega
  have n1 : N ≤ 59 := by have := hN.out; omega
  have hr : (N.tmod 2 == 0) = true := by have := hN.out; rw [beq_iff_eq, tmod2]; omega
  have hd : ¬ 0 < N := by have := hN.out; omega
  have z0 : IntKind.i64.wrap (-(N)) = -(N) := IntWalk.i64_in _ (by omega)
  have z1 : IntKind.i64.wrap (-(N).tdiv 2) = (m : Int) := by have := hN.out; rw [← Int.neg_tdiv, Int.tdiv_eq_ediv_of_nonneg (by omega), IntWalk.i64_in _ (by omega)]; omega
  have z2 : min m 64 = m := by omega
  have hb := nr_bd hp hq (e := N) (by omega)
  have eP : nrP p q N = p := by
    unfold nrP; rw [if_neg (by have := hN.out; omega), show (N / 2).toNat = 0 by have := hN.out; omega]; simp
  have eQ : nrQ p q N = q := by
    unfold nrQ; rw [if_neg (by have := hN.out; omega), show (N / 2).toNat = 0 by have := hN.out; omega]; simp
  have eU : nrU N = 2 ^ m := by
    unfold nrU; rw [show (-(N / 2)).toNat = m by have := hN.out; omega]
  rw [eP, eQ] at hb
  obtain ⟨⟨a1, a2⟩, a3, a4⟩ := hb
  obtain ⟨f, hf⟩ := isFl_ex (p := p) (q := q) (by omega)
  obtain ⟨g, hg⟩ := isFl_ex (p := -(p)) (q := -(q)) (by omega)
  have bf := fl_bd (B := 1073741824000000000) (by omega) hf
  have bg := fl_bd (B := 1073741824000000000) (by omega) hg
  have y1 : IntKind.i64.wrap (-(p)) = -(p) := IntWalk.i64_in _ (by omega)
  have y2 : IntKind.i64.wrap (-(q)) = -(q) := IntWalk.i64_in _ (by omega)
  have hu : (0 : Int) < 2 ^ m := Int.pow_pos (by omega)
  have dg := quo_bd (g := g) hu
  have y3 : IntKind.i64.wrap (-(g / 2 ^ m)) = -(g / 2 ^ m) := IntWalk.i64_in _ (by omega)
  have HS : Hid (isBd p q N (f / 2 ^ m) (-(g / 2 ^ m))) := Lib.hid (by unfold isBd; rw [eP, eQ, eU]; exact ⟨flu_shift hu hf, by rw [Int.neg_neg]; exact flu_shift hu hg⟩)
  clear dg
  have HF := Lib.hid hf
  have HG := Lib.hid hg
  clear hf hg eP eQ eU bf bg
  go_enter Try.func144, Try.ntmps144
  go_wp2_with fail
  all_goals
    go_region_held3 (fun _ => True)
      (trivial)
      ((go_at_call 159; refine (floor_is _ _ _ _ (by omega) (by omega) (by first | exact HF.out | exact HG.out)).mono ?_; rintro e wA ⟨rfl, rfl⟩))
  all_goals go_wp2_with fail
  all_goals go_returns
  all_goals exact ⟨_, _, rfl, HS, by go_grown⟩

theorem around_any (p q N : Int) (w : World) (hp : -2000000000 ≤ p ∧ p ≤ 2000000000) (hq : -1000000000 ≤ q ∧ q ≤ 1000000000) (hN : -41 ≤ N ∧ N ≤ 59) :
    Calls Try.prog 144 #[.int .i64 p, .int .i64 q, .int .i64 N] w fun e w' => ∃ lo hi : Int, e = .returned (.agg #[.int .i64 lo, .int .i64 hi]) ∧ Hid (isBd p q N lo hi) ∧ Below w.heap.size w w' := by
  rcases (show N % 2 = 1 ∨ N % 2 = 0 by omega) with h | h
  · by_cases h0 : 1 ≤ N / 2
    · exact around_op p q N (N / 2).toNat w (Lib.hid (by omega)) (by omega) (by omega) hp hq
    · exact around_on p q N (-(N / 2)).toNat w (Lib.hid (by omega)) (by omega) hp hq
  · by_cases h0 : 1 ≤ N / 2
    · exact around_ep p q N (N / 2).toNat w (Lib.hid (by omega)) (by omega) (by omega) hp hq
    · exact around_en p q N (-(N / 2)).toNat w (Lib.hid (by omega)) (by omega) hp hq
end Go.Proofs.Ytgbnpnenejgnnaa
