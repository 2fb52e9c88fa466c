import Derived.Test.YtedfienfamplcaaFl
namespace Amp
/-- f is (p + q r) / u, rounded down. -/
def isFlu (p q u f : Int) : Prop := nn (p - f * u) q ∧ ¬ nn (p - (f + 1) * u) q
theorem nn_mono {p p' q : Int} (h : nn p q) (hp : p ≤ p') : nn p' q := by
  have := nn_add h (nn_int (n := p' - p) (by omega))
  rw [show p + (p' - p) = p' by omega, Int.add_zero] at this
  exact this
theorem flu_le {p q u f g : Int} (hu : 0 < u) (h : nn (p - f * u) q) (h' : isFlu p q u g) : f ≤ g := by
  apply Classical.byContradiction
  intro hn
  apply h'.2
  have : (g + 1) * u ≤ f * u := Int.mul_le_mul_of_nonneg_right (by omega) (by omega)
  exact nn_mono h (by omega)
theorem flu_unique {p q u f g : Int} (hu : 0 < u) (h : isFlu p q u f) (h' : isFlu p q u g) : f = g := by
  have := flu_le hu h.1 h'
  have := flu_le hu h'.1 h
  omega
theorem flu_shift {p q u f : Int} (hu : 0 < u) (h : isFl p q f) : isFlu p q u (f / u) := by
  have e := Int.mul_ediv_add_emod f u
  have r0 := Int.emod_nonneg f (show u ≠ 0 by omega)
  have r1 := Int.emod_lt_of_pos f hu
  rw [Int.mul_comm] at e
  have e2 : (f / u + 1) * u = f / u * u + u := by rw [Int.add_mul, Int.one_mul]
  exact ⟨nn_mono h.1 (by omega), fun hn => h.2 (nn_mono hn (by omega))⟩
/-- lo and hi are the bounds of (p + q r) / u. -/
def isSp (p q u lo hi : Int) : Prop := isFlu p q u lo ∧ isFlu (-p) (-q) u (-hi)
theorem sp_unique {p q u lo hi lo' hi' : Int} (hu : 0 < u) (h : isSp p q u lo hi) (h' : isSp p q u lo' hi') : lo = lo' ∧ hi = hi' := by
  have a := flu_unique hu h.1 h'.1
  have b := flu_unique hu h.2 h'.2
  omega
theorem nn_zero_neg {u : Int} (hu : 0 < u) : ¬ nn (-u) 0 := by
  rintro (⟨h, _⟩ | ⟨h, _⟩ | ⟨_, _, h⟩)
  · omega
  · omega
  · rw [Int.neg_mul_neg] at h
    have := Int.mul_pos hu hu
    omega
theorem sp_exact {p q u f : Int} (hu : 0 < u) (h : isFlu p q u f) (e1 : p - f * u = 0) (e2 : q = 0) : isSp p q u f f := by
  subst e2
  refine ⟨h, ?_, ?_⟩
  · rw [show -p - -f * u = 0 by rw [Int.neg_mul]; omega]
    exact nn_int (Int.le_refl 0)
  · rw [show -p - (-f + 1) * u = -u by rw [Int.add_mul, Int.neg_mul]; omega]
    exact nn_zero_neg hu
theorem sp_next {p q u f : Int} (h : isFlu p q u f) (e : ¬ (p - f * u = 0 ∧ q = 0)) : isSp p q u f (f + 1) := by
  refine ⟨h, ?_, ?_⟩
  · rw [show -p - -(f + 1) * u = -(p - (f + 1) * u) by rw [Int.neg_mul]; omega]
    exact (nn_total _ _).resolve_left h.2
  · rw [show -(f + 1) + 1 = -f by omega, show -p - -f * u = -(p - f * u) by rw [Int.neg_mul]; omega]
    exact fun hn => e (nn_antisymm h.1 hn)
theorem sp_width {p q u lo hi : Int} (hu : 0 < u) (h : isSp p q u lo hi) : 0 ≤ hi - lo ∧ hi - lo ≤ 1 := by
  by_cases e : p - lo * u = 0 ∧ q = 0
  · have := sp_unique hu h (sp_exact hu h.1 e.1 e.2); omega
  · have := sp_unique hu h (sp_next h.1 e); omega
/-- (p + q r) r^e is (P + Q r) / U. -/
def nrP (p q e : Int) : Int := (if e % 2 = 1 then 2 * q else p) * 2 ^ (e / 2).toNat
def nrQ (p q e : Int) : Int := (if e % 2 = 1 then p else q) * 2 ^ (e / 2).toNat
def nrU (e : Int) : Int := 2 ^ (-(e / 2)).toNat
def isBd (p q e lo hi : Int) : Prop := isSp (nrP p q e) (nrQ p q e) (nrU e) lo hi
theorem nrU_pos (e : Int) : 0 < nrU e := Int.pow_pos (by omega)
theorem bd_unique {p q e lo hi lo' hi' : Int} (h : isBd p q e lo hi) (h' : isBd p q e lo' hi') : lo = lo' ∧ hi = hi' := sp_unique (nrU_pos e) h h'
theorem pw2_bd (m : Nat) (h : m ≤ 29) : 1 ≤ (2 : Int) ^ m ∧ (2 : Int) ^ m ≤ 536870912 := by
  have h1 : (2 : Nat) ^ m ≤ 2 ^ 29 := Nat.pow_le_pow_right (by omega) h
  have h2 : 0 < (2 : Nat) ^ m := Nat.pow_pos (by omega)
  have h3 : (2 : Int) ^ m = ((2 ^ m : Nat) : Int) := by simp
  rw [h3]
  omega
theorem mul_bd2 {x p B : Int} (h : -B ≤ x ∧ x ≤ B) (hp : 1 ≤ p ∧ p ≤ 536870912) : -(B * 536870912) ≤ x * p ∧ x * p ≤ B * 536870912 := by
  have hB : 0 ≤ B := by omega
  have h1 : -B * p ≤ x * p := Int.mul_le_mul_of_nonneg_right h.1 (by omega)
  have h2 : B * p ≤ B * 536870912 := Int.mul_le_mul_of_nonneg_left hp.2 hB
  have h3 : x * p ≤ B * p := Int.mul_le_mul_of_nonneg_right h.2 (by omega)
  rw [Int.neg_mul] at h1
  omega
theorem nr_bd {p q e : Int} (hp : -2000000000 ≤ p ∧ p ≤ 2000000000) (hq : -1000000000 ≤ q ∧ q ≤ 1000000000) (he : e ≤ 59) :
    (-1073741824000000000 ≤ nrP p q e ∧ nrP p q e ≤ 1073741824000000000) ∧ (-1073741824000000000 ≤ nrQ p q e ∧ nrQ p q e ≤ 1073741824000000000) := by
  have b := pw2_bd (e / 2).toNat (by omega)
  have h1 : -2000000000 ≤ (if e % 2 = 1 then 2 * q else p) ∧ (if e % 2 = 1 then 2 * q else p) ≤ 2000000000 := by split <;> omega
  have h2 : -2000000000 ≤ (if e % 2 = 1 then p else q) ∧ (if e % 2 = 1 then p else q) ≤ 2000000000 := by split <;> omega
  have c1 := mul_bd2 h1 b
  have c2 := mul_bd2 h2 b
  unfold nrP nrQ
  omega
theorem nr_neg (p q e : Int) : nrP (-p) (-q) e = -nrP p q e ∧ nrQ (-p) (-q) e = -nrQ p q e := by
  unfold nrP nrQ
  constructor <;> split <;> simp [Int.neg_mul, Int.mul_neg]
end Amp
