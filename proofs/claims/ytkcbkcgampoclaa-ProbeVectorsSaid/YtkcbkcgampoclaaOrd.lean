namespace Amp

theorem sq_le {x y : Int} (hx : 0 ≤ x) (hy : 0 ≤ y) (h : x * x ≤ y * y) : x ≤ y := by
  apply Classical.byContradiction; intro hn
  have h1 : y < x := by omega
  have h2 : y * y ≤ y * x := Int.mul_le_mul_of_nonneg_left (by omega) hy
  have h3 : y * x < x * x := Int.mul_lt_mul_of_pos_right h1 (by omega)
  omega
theorem mul_self_mono {x y : Int} (hx : 0 ≤ x) (h : x ≤ y) : x * x ≤ y * y := Int.mul_le_mul h h hx (by omega)
theorem cross {x y u v : Int} (hx : 0 ≤ x) (hy : 0 ≤ y) (hu : 0 ≤ u) (hv : 0 ≤ v) (h1 : x * x ≤ 2 * (y * y)) (h2 : u * u ≤ 2 * (v * v)) : x * u ≤ 2 * (y * v) := by
  apply sq_le (Int.mul_nonneg hx hu) (Int.mul_nonneg (by omega) (Int.mul_nonneg hy hv))
  have := Int.mul_le_mul h1 h2 (Int.mul_nonneg hu hu) (by have := Int.mul_nonneg hy hy; omega)
  have e1 : x * u * (x * u) = x * x * (u * u) := by grind
  have e2 : 2 * (y * v) * (2 * (y * v)) = 2 * (y * y) * (2 * (v * v)) := by grind
  omega
theorem cross' {x y u v : Int} (hx : 0 ≤ x) (hy : 0 ≤ y) (hu : 0 ≤ u) (hv : 0 ≤ v) (h1 : 2 * (y * y) ≤ x * x) (h2 : 2 * (v * v) ≤ u * u) : 2 * (y * v) ≤ x * u := by
  apply sq_le (Int.mul_nonneg (by omega) (Int.mul_nonneg hy hv)) (Int.mul_nonneg hx hu)
  have := Int.mul_le_mul h1 h2 (by have := Int.mul_nonneg hv hv; omega) (Int.mul_nonneg hx hx)
  have e1 : x * u * (x * u) = x * x * (u * u) := by grind
  have e2 : 2 * (y * v) * (2 * (y * v)) = 2 * (y * y) * (2 * (v * v)) := by grind
  omega

/-- p + q r is not negative. -/
def nn (p q : Int) : Prop := (0 ≤ p ∧ 0 ≤ q) ∨ (0 ≤ p ∧ q ≤ 0 ∧ 2 * (q * q) ≤ p * p) ∨ (p ≤ 0 ∧ 0 ≤ q ∧ p * p ≤ 2 * (q * q))
instance (p q : Int) : Decidable (nn p q) := by unfold nn; infer_instance

theorem nn_addA {p q p' q' : Int} (h0 : 0 ≤ p) (h1 : 0 ≤ q) (g : nn p' q') : nn (p + p') (q + q') := by
  rcases g with ⟨g0, g1⟩ | ⟨g0, g1, g2⟩ | ⟨g0, g1, g2⟩
  · exact Or.inl ⟨by omega, by omega⟩
  · by_cases hQ : 0 ≤ q + q'
    · exact Or.inl ⟨by omega, hQ⟩
    · refine Or.inr (Or.inl ⟨by omega, by omega, ?_⟩)
      have a := mul_self_mono (x := -(q + q')) (y := -q') (by omega) (by omega)
      have b := mul_self_mono (x := p') (y := p + p') (by omega) (by omega)
      simp only [Int.neg_mul_neg] at a
      omega
  · by_cases hP : 0 ≤ p + p'
    · exact Or.inl ⟨hP, by omega⟩
    · refine Or.inr (Or.inr ⟨by omega, by omega, ?_⟩)
      have a := mul_self_mono (x := -(p + p')) (y := -p') (by omega) (by omega)
      have b := mul_self_mono (x := q') (y := q + q') (by omega) (by omega)
      simp only [Int.neg_mul_neg] at a
      omega
theorem nn_addBC {p q p' q' : Int} (h0 : 0 ≤ p) (h1 : q ≤ 0) (h2 : 2 * (q * q) ≤ p * p) (g0 : p' ≤ 0) (g1 : 0 ≤ q') (g2 : p' * p' ≤ 2 * (q' * q')) : nn (p + p') (q + q') := by
  by_cases hP : 0 ≤ p + p'
  · by_cases hQ : 0 ≤ q + q'
    · exact Or.inl ⟨hP, hQ⟩
    · refine Or.inr (Or.inl ⟨by omega, by omega, ?_⟩)
      apply Classical.byContradiction; intro hn
      have c := cross (x := p + p') (y := -(q + q')) (u := -p') (v := q') hP (by omega) (by omega) g1 (by simp only [Int.neg_mul_neg]; omega) (by simp only [Int.neg_mul_neg]; omega)
      have e1 : p * p = (p + p') * (p + p') + 2 * ((p + p') * -p') + p' * p' := by grind
      have e2 : q * q = (q + q') * (q + q') + 2 * (-(q + q') * q') + q' * q' := by grind
      omega
  · by_cases hQ : 0 ≤ q + q'
    · refine Or.inr (Or.inr ⟨by omega, by omega, ?_⟩)
      apply Classical.byContradiction; intro hn
      have c := cross' (x := -(p + p')) (y := q + q') (u := p) (v := -q) (by omega) hQ h0 (by omega) (by simp only [Int.neg_mul_neg]; omega) (by simp only [Int.neg_mul_neg]; omega)
      have e1 : p' * p' = (p + p') * (p + p') + 2 * (-(p + p') * p) + p * p := by grind
      have e2 : q' * q' = (q + q') * (q + q') + 2 * ((q + q') * -q) + q * q := by grind
      omega
    · exfalso
      have a := mul_self_mono (x := p) (y := -p' - 1) h0 (by omega)
      have b := mul_self_mono (x := q') (y := -q) g1 (by omega)
      simp only [Int.neg_mul_neg] at b
      have e : (-p' - 1) * (-p' - 1) = p' * p' + 2 * p' + 1 := by grind
      omega
theorem nn_add {p q p' q' : Int} (h : nn p q) (g : nn p' q') : nn (p + p') (q + q') := by
  rcases h with ⟨h0, h1⟩ | ⟨h0, h1, h2⟩ | ⟨h0, h1, h2⟩
  · exact nn_addA h0 h1 g
  · rcases g with ⟨g0, g1⟩ | ⟨g0, g1, g2⟩ | ⟨g0, g1, g2⟩
    · rw [Int.add_comm p, Int.add_comm q]
      exact nn_addA g0 g1 (Or.inr (Or.inl ⟨h0, h1, h2⟩))
    · refine Or.inr (Or.inl ⟨by omega, by omega, ?_⟩)
      have c := cross' (x := p) (y := -q) (u := p') (v := -q') h0 (by omega) g0 (by omega) (by simp only [Int.neg_mul_neg]; omega) (by simp only [Int.neg_mul_neg]; omega)
      simp only [Int.neg_mul_neg] at c
      have e1 : (p + p') * (p + p') = p * p + 2 * (p * p') + p' * p' := by grind
      have e2 : (q + q') * (q + q') = q * q + 2 * (q * q') + q' * q' := by grind
      omega
    · exact nn_addBC h0 h1 h2 g0 g1 g2
  · rcases g with ⟨g0, g1⟩ | ⟨g0, g1, g2⟩ | ⟨g0, g1, g2⟩
    · rw [Int.add_comm p, Int.add_comm q]
      exact nn_addA g0 g1 (Or.inr (Or.inr ⟨h0, h1, h2⟩))
    · rw [Int.add_comm p, Int.add_comm q]
      exact nn_addBC g0 g1 g2 h0 h1 h2
    · refine Or.inr (Or.inr ⟨by omega, by omega, ?_⟩)
      have c := cross (x := -p) (y := q) (u := -p') (v := q') (by omega) h1 (by omega) g1 (by simp only [Int.neg_mul_neg]; omega) (by simp only [Int.neg_mul_neg]; omega)
      simp only [Int.neg_mul_neg] at c
      have e1 : (p + p') * (p + p') = p * p + 2 * (p * p') + p' * p' := by grind
      have e2 : (q + q') * (q + q') = q * q + 2 * (q * q') + q' * q' := by grind
      omega
theorem nn_total (p q : Int) : nn p q ∨ nn (-p) (-q) := by
  unfold nn
  simp only [Int.neg_mul_neg]
  omega
/-- The root of 2 is not rational. -/
theorem irr (n : Nat) : ∀ x y : Nat, y ≤ n → x * x = 2 * (y * y) → y = 0 := by
  induction n with
  | zero => intro x y h _; omega
  | succ n ih =>
    intro x y hy h
    apply Classical.byContradiction; intro hy0
    have hx2 : x % 2 = 0 := by
      have h1 : (x * x) % 2 = 0 := by omega
      rcases Nat.mod_two_eq_zero_or_one x with h2 | h2
      · exact h2
      · rw [Nat.mul_mod, h2] at h1; simp at h1
    obtain ⟨k, hk⟩ : ∃ k, x = 2 * k := ⟨x / 2, by omega⟩
    subst hk
    have h1 : y * y = 2 * (k * k) := by
      have : 2 * k * (2 * k) = 4 * (k * k) := by grind
      omega
    have hk0 : k = 0 := ih y k (by
      apply Classical.byContradiction; intro hk
      have h2 : y ≤ k := by omega
      have h3 := Nat.mul_le_mul h2 h2
      have h4 : 0 < k * k := Nat.mul_pos (by omega) (by omega)
      omega) h1
    subst hk0
    have : 0 < y * y := Nat.mul_pos (by omega) (by omega)
    omega
theorem irrI {x y : Int} (h : x * x = 2 * (y * y)) : x = 0 ∧ y = 0 := by
  have h1 : x.natAbs * x.natAbs = 2 * (y.natAbs * y.natAbs) := by
    have a := Int.natAbs_mul_self (a := x)
    have b := Int.natAbs_mul_self (a := y)
    omega
  have h2 := irr _ _ _ (Nat.le_refl _) h1
  rw [h2] at h1
  have h3 : x.natAbs = 0 := by
    rcases Nat.eq_zero_or_pos x.natAbs with h | h
    · exact h
    · have := Nat.mul_pos h h; omega
  omega
theorem nn_antisymm {p q : Int} (h : nn p q) (g : nn (-p) (-q)) : p = 0 ∧ q = 0 := by
  unfold nn at h g
  simp only [Int.neg_mul_neg] at g
  by_cases e : p * p = 2 * (q * q)
  · exact irrI e
  · rcases h with ⟨h0, h1⟩ | ⟨h0, h1, h2⟩ | ⟨h0, h1, h2⟩ <;> rcases g with ⟨g0, g1⟩ | ⟨g0, g1, g2⟩ | ⟨g0, g1, g2⟩ <;> (try (exact ⟨by omega, by omega⟩)) <;> (try (exfalso; omega))
    · have hp : p = 0 := by omega
      subst hp; exfalso
      have := Int.mul_nonneg (a := q) (b := q) 
      have : 0 ≤ q * q := by rw [← Int.neg_mul_neg]; exact Int.mul_nonneg (by omega) (by omega)
      omega
    · have hq : q = 0 := by omega
      subst hq; exfalso
      have : 0 ≤ p * p := Int.mul_nonneg (by omega) (by omega)
      omega
    · have hp : p = 0 := by omega
      subst hp; exfalso
      have : 0 ≤ q * q := by rw [← Int.neg_mul_neg]; exact Int.mul_nonneg (by omega) (by omega)
      omega
    · have hq : q = 0 := by omega
      subst hq; exfalso
      have : 0 ≤ p * p := by rw [← Int.neg_mul_neg]; exact Int.mul_nonneg (by omega) (by omega)
      omega
theorem nn_r {p q : Int} (h : nn p q) : nn (2 * q) p := by
  rcases h with ⟨h0, h1⟩ | ⟨h0, h1, h2⟩ | ⟨h0, h1, h2⟩
  · exact Or.inl ⟨by omega, h0⟩
  · refine Or.inr (Or.inr ⟨by omega, h0, ?_⟩)
    have e : 2 * q * (2 * q) = 4 * (q * q) := by grind
    omega
  · refine Or.inr (Or.inl ⟨by omega, h0, ?_⟩)
    have e : 2 * q * (2 * q) = 4 * (q * q) := by grind
    omega
theorem nn_dbl {p q : Int} (h : nn (2 * p) (2 * q)) : nn p q := by
  have e1 : 2 * p * (2 * p) = 4 * (p * p) := by grind
  have e2 : 2 * q * (2 * q) = 4 * (q * q) := by grind
  unfold nn at *
  omega
theorem nn_r_iff {p q : Int} : nn (2 * q) p ↔ nn p q := ⟨fun h => nn_dbl (nn_r h), nn_r⟩
end Amp
