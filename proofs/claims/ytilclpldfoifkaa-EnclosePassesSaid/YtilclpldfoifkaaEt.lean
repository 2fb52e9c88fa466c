import Derived.Test.YtilclpldfoifkaaEs
namespace Encl

theorem fl_lt {a b d k : Int} (h : 0 < d) : fl a b d < k ↔ a * b < k * d := Int.ediv_lt_iff_lt_mul h
theorem le_fl {a b d k : Int} (h : 0 < d) : k ≤ fl a b d ↔ k * d ≤ a * b := Int.le_ediv_iff_mul_le h
theorem ce_le {a b d k : Int} (h : 0 < d) : ce a b d ≤ k ↔ a * b ≤ k * d := by
  unfold ce
  have := Int.le_ediv_iff_mul_le (a := -k) (b := -(a * b)) h
  rw [Int.neg_mul] at this
  constructor
  · intro g; have := this.1 (by omega); omega
  · intro g; have := this.2 (by omega); omega
theorem lt_ce {a b d k : Int} (h : 0 < d) : k < ce a b d ↔ k * d < a * b := by
  have := ce_le (a := a) (b := b) (k := k) h
  omega

/-- A product of absolute values, divided: rounded down and up, with the sign. -/
theorem sc_nat {n d q r : Int} (hd : 0 < d) (h : n = q * d + r) (h0 : 0 ≤ r) (h1 : r < d) : n / d = q ∧ -(-n / d) = (if 0 < r then q + 1 else q) := by
  have e1 : n / d = q := by
    rw [h, Int.add_comm, Int.add_mul_ediv_right _ _ (by omega), Int.ediv_eq_zero_of_lt h0 h1]; omega
  refine ⟨e1, ?_⟩
  split
  · next hr =>
    have : -n = (d - r) + (-(q + 1)) * d := by rw [h]; grind
    rw [this, Int.add_mul_ediv_right _ _ (by omega), Int.ediv_eq_zero_of_lt (by omega) (by omega)]; omega
  · next hr =>
    have : r = 0 := by omega
    have : -n = 0 + (-q) * d := by rw [h]; grind
    rw [this, Int.add_mul_ediv_right _ _ (by omega)]; simp
/-- What the absolute values make, with the sign of the product. -/
def sgn (a b : Int) (s : Sp) : Sp := if (decide (a < 0) != decide (b < 0)) = true then negS s else s
def absI (n : Int) : Int := max n (-n)
theorem sc_abs {a b d q r : Int} (hd : 0 < d) (h : absI a * absI b = q * d + r) (h0 : 0 ≤ r) (h1 : r < d) :
    sgn a b ⟨q, if 0 < r then q + 1 else q⟩ = ⟨fl a b d, ce a b d⟩ := by
  obtain ⟨e1, e2⟩ := sc_nat hd h h0 h1
  unfold sgn
  have ha : absI a = if a < 0 then -a else a := by unfold absI; split <;> omega
  have hb : absI b = if b < 0 then -b else b := by unfold absI; split <;> omega
  rw [ha, hb] at e1 e2
  unfold fl ce negS
  by_cases h1 : a < 0 <;> by_cases h2 : b < 0 <;> simp only [h1, h2, if_true, if_false] at e1 e2 <;> simp [h1, h2] <;> (try rw [Int.neg_mul_neg] at e1 e2) <;> (try rw [Int.neg_mul] at e1 e2) <;> (try rw [Int.mul_neg] at e1 e2) <;> (try rw [Int.neg_neg] at e2) <;> constructor <;> omega

/-- Four results, each in range or not, and the least span of all. -/
theorem four_inR (a b c d : Sp) (ha : a.lo ≤ a.hi) (hb : b.lo ≤ b.hi) (hc : c.lo ≤ c.hi) (hd : d.lo ≤ d.hi) :
    four (inR a) (inR b) (inR c) (inR d) = inR (hul (hul (hul a b) c) d) := by
  by_cases h1 : okS a = true
  · by_cases h2 : okS b = true
    · by_cases h3 : okS c = true
      · by_cases h4 : okS d = true
        · rw [inR_ok h1, inR_ok h2, inR_ok h3, inR_ok h4]
          simp only [four, Out.bind_ok]
          rw [inR_ok]
          rw [okS_iff] at *
          simp only [hul]; omega
        · rw [inR_ok h1, inR_ok h2, inR_ok h3, inR_bad h4]
          simp only [four, Out.bind_ok, Out.bind_bad]
          rw [inR_bad]
          rw [okS_iff] at *
          simp only [hul]; omega
      · rw [inR_ok h1, inR_ok h2, inR_bad h3]
        simp only [four, Out.bind_ok, Out.bind_bad]
        rw [inR_bad]
        rw [okS_iff] at *
        simp only [hul]; omega
    · rw [inR_ok h1, inR_bad h2]
      simp only [four, Out.bind_ok, Out.bind_bad]
      rw [inR_bad]
      rw [okS_iff] at *
      simp only [hul]; omega
  · rw [inR_bad h1]
    simp only [four, Out.bind_bad]
    rw [inR_bad]
    rw [okS_iff] at *
    simp only [hul]; omega
theorem mulS_eq (x y : Sp) : mulS x y = inR ⟨min (min (min (fl x.lo y.lo 1073741824) (fl x.lo y.hi 1073741824)) (fl x.hi y.lo 1073741824)) (fl x.hi y.hi 1073741824), max (max (max (ce x.lo y.lo 1073741824) (ce x.lo y.hi 1073741824)) (ce x.hi y.lo 1073741824)) (ce x.hi y.hi 1073741824)⟩ :=
  four_inR _ _ _ _ (fl_le_ce _ _ (by omega)) (fl_le_ce _ _ (by omega)) (fl_le_ce _ _ (by omega)) (fl_le_ce _ _ (by omega))
theorem divS_eq (x y : Sp) (h : 0 < y.lo) (h2 : y.lo ≤ y.hi) : divS x y = inR ⟨min (min (min (fl x.lo 1073741824 y.lo) (fl x.lo 1073741824 y.hi)) (fl x.hi 1073741824 y.lo)) (fl x.hi 1073741824 y.hi), max (max (max (ce x.lo 1073741824 y.lo) (ce x.lo 1073741824 y.hi)) (ce x.hi 1073741824 y.lo)) (ce x.hi 1073741824 y.hi)⟩ :=
  four_inR _ _ _ _ (fl_le_ce _ _ (by omega)) (fl_le_ce _ _ (by omega)) (fl_le_ce _ _ (by omega)) (fl_le_ce _ _ (by omega))
theorem fl_sq (a : Int) : 0 ≤ fl a a 1073741824 := by
  rw [le_fl (by omega)]
  have : 0 ≤ a * a := by
    by_cases h : 0 ≤ a
    · exact Int.mul_nonneg h h
    · have := Int.mul_nonneg (show 0 ≤ -a by omega) (show 0 ≤ -a by omega); rw [Int.neg_mul_neg] at this; exact this
  omega
theorem sqS_eq (x : Sp) : sqS x = inR (zlo x ⟨min (fl x.lo x.lo 1073741824) (fl x.hi x.hi 1073741824), max (ce x.lo x.lo 1073741824) (ce x.hi x.hi 1073741824)⟩) := by
  have a1 := fl_sq x.lo
  have a2 := fl_sq x.hi
  have a3 := fl_le_ce x.lo x.lo (show (0 : Int) < 1073741824 by omega)
  have a4 := fl_le_ce x.hi x.hi (show (0 : Int) < 1073741824 by omega)
  unfold sqS scS
  generalize fl x.lo x.lo 1073741824 = p at *
  generalize fl x.hi x.hi 1073741824 = q at *
  generalize ce x.lo x.lo 1073741824 = r at *
  generalize ce x.hi x.hi 1073741824 = s at *
  by_cases h1 : okS ⟨p, r⟩ = true
  · by_cases h2 : okS ⟨q, s⟩ = true
    · rw [inR_ok h1, inR_ok h2]
      simp only [Out.bind_ok]
      rw [inR_ok]
      · rfl
      · rw [okS_iff] at *
        simp only at h1 h2
        simp only [zlo]; split <;> simp only <;> omega
    · rw [inR_ok h1, inR_bad h2]
      simp only [Out.bind_ok, Out.bind_bad]
      rw [inR_bad]
      rw [okS_iff] at *
      simp only at h1 h2
      simp only [zlo]; split <;> simp only <;> omega
  · rw [inR_bad h1]
    simp only [Out.bind_bad]
    rw [inR_bad]
    rw [okS_iff] at *
    simp only at h1
    simp only [zlo]; split <;> simp only <;> omega

/-! ### The document's own answers -/
/-- a * b / One out of whole parts and rests. -/
theorem down_eq (a b : Int) : a / 1073741824 * b + (a - a / 1073741824 * 1073741824) * (b / 1073741824) + (a - a / 1073741824 * 1073741824) * (b - b / 1073741824 * 1073741824) / 1073741824 = fl a b 1073741824 := by
  unfold fl
  have h1 : a * b = (a - a / 1073741824 * 1073741824) * (b - b / 1073741824 * 1073741824) + (a / 1073741824 * b + (a - a / 1073741824 * 1073741824) * (b / 1073741824)) * 1073741824 := by grind
  rw [h1, Int.add_mul_ediv_right _ _ (by omega)]
  omega
theorem up_eq (a b d : Int) : -fl (-a) b d = ce a b d := by unfold fl ce; rw [Int.neg_mul]
def far : Int := 35184372088832
/-- a * One / b, rounded down, or far. -/
def odS (a b : Int) : Int := if 2048 < a / b then far else if a / b < -2048 then -far else fl a 1073741824 b
def ouS (a b : Int) : Int := -odS (-a) b
theorem od_cases {a b : Int} (hb : 0 < b) : (okS ⟨fl a 1073741824 b, ce a 1073741824 b⟩ = true → odS a b = fl a 1073741824 b ∧ ouS a b = ce a 1073741824 b) ∧
    (¬ okS ⟨fl a 1073741824 b, ce a 1073741824 b⟩ = true → odS a b ≤ ouS a b ∧ (odS a b < -1099511627776 ∨ 1099511627776 < ouS a b)) := by
  have e1 := fl_le_ce a 1073741824 hb
  have u := up_eq a 1073741824 b
  have l1 := le_fl (a := a) (b := 1073741824) (d := b) (k := -1099511627776) hb
  have l2 := fl_lt (a := a) (b := 1073741824) (d := b) (k := -1099511627776) hb
  have c1 := ce_le (a := a) (b := 1073741824) (d := b) (k := 1099511627776) hb
  have p1 := Int.mul_ediv_add_emod a b
  have p2 := Int.emod_nonneg a (show b ≠ 0 by omega)
  have p3 := Int.emod_lt_of_pos a hb
  have q1 := Int.mul_ediv_add_emod (-a) b
  have q2 := Int.emod_nonneg (-a) (show b ≠ 0 by omega)
  have q3 := Int.emod_lt_of_pos (-a) hb
  have m1 : ∀ k : Int, k ≤ a / b ↔ k * b ≤ a := fun k => Int.le_ediv_iff_mul_le hb
  have m2 : ∀ k : Int, k ≤ -a / b ↔ k * b ≤ -a := fun k => Int.le_ediv_iff_mul_le hb
  have r1 := m1 2049
  have r2 := m1 (-2048)
  have s1 := m2 2049
  have s2 := m2 (-2048)
  rw [okS_iff]
  clear p1 q1 m1 m2
  unfold ouS odS far
  constructor
  · rintro ⟨g1, g2, g3⟩
    simp only at g1 g2 g3
    have := l1.1 g1
    have := c1.1 g3
    rw [if_neg (by omega), if_neg (by omega), if_neg (by omega), if_neg (by omega)]
    exact ⟨rfl, u⟩
  · intro g
    have hg : ¬ -1099511627776 ≤ fl a 1073741824 b ∨ ¬ ce a 1073741824 b ≤ 1099511627776 := by
      simp only at g; omega
    clear g
    by_cases h1 : 2048 < a / b
    · rw [if_pos h1]
      by_cases h2 : 2048 < -a / b
      · exfalso; omega
      · rw [if_neg h2, if_pos (by omega)]; omega
    · rw [if_neg h1]
      by_cases h2 : a / b < -2048
      · rw [if_pos h2]
        by_cases h3 : 2048 < -a / b
        · rw [if_pos h3]; omega
        · rw [if_neg h3, if_neg (by omega)]
          have : fl (-a) 1073741824 b < 35184372088832 := by rw [fl_lt hb]; omega
          omega
      · rw [if_neg h2, if_neg (by omega)]
        by_cases h3 : -a / b < -2048
        · rw [if_pos h3]
          have : fl a 1073741824 b < 35184372088832 := by rw [fl_lt hb]; omega
          omega
        · rw [if_neg h3, u]; omega
theorem divS_far (x y : Sp) (h : 0 < y.lo) (h2 : y.lo ≤ y.hi) : inR ⟨min (min (min (odS x.lo y.lo) (odS x.lo y.hi)) (odS x.hi y.lo)) (odS x.hi y.hi), max (max (max (ouS x.lo y.lo) (ouS x.lo y.hi)) (ouS x.hi y.lo)) (ouS x.hi y.hi)⟩ = divS x y := by
  rw [divS_eq x y h h2]
  have t1 := od_cases (a := x.lo) (b := y.lo) h
  have t2 := od_cases (a := x.lo) (b := y.hi) (by omega)
  have t3 := od_cases (a := x.hi) (b := y.lo) h
  have t4 := od_cases (a := x.hi) (b := y.hi) (by omega)
  have a1 := fl_le_ce x.lo 1073741824 (show 0 < y.lo by omega)
  have a2 := fl_le_ce x.lo 1073741824 (show 0 < y.hi by omega)
  have a3 := fl_le_ce x.hi 1073741824 (show 0 < y.lo by omega)
  have a4 := fl_le_ce x.hi 1073741824 (show 0 < y.hi by omega)
  generalize fl x.lo 1073741824 y.lo = f1 at *
  generalize fl x.lo 1073741824 y.hi = f2 at *
  generalize fl x.hi 1073741824 y.lo = f3 at *
  generalize fl x.hi 1073741824 y.hi = f4 at *
  generalize ce x.lo 1073741824 y.lo = g1 at *
  generalize ce x.lo 1073741824 y.hi = g2 at *
  generalize ce x.hi 1073741824 y.lo = g3 at *
  generalize ce x.hi 1073741824 y.hi = g4 at *
  generalize odS x.lo y.lo = o1 at *
  generalize odS x.lo y.hi = o2 at *
  generalize odS x.hi y.lo = o3 at *
  generalize odS x.hi y.hi = o4 at *
  generalize ouS x.lo y.lo = u1 at *
  generalize ouS x.lo y.hi = u2 at *
  generalize ouS x.hi y.lo = u3 at *
  generalize ouS x.hi y.hi = u4 at *
  by_cases h1 : okS ⟨f1, g1⟩ = true
  · obtain ⟨rfl, rfl⟩ := t1.1 h1
    by_cases h2 : okS ⟨f2, g2⟩ = true
    · obtain ⟨rfl, rfl⟩ := t2.1 h2
      by_cases h3 : okS ⟨f3, g3⟩ = true
      · obtain ⟨rfl, rfl⟩ := t3.1 h3
        by_cases h4 : okS ⟨f4, g4⟩ = true
        · obtain ⟨rfl, rfl⟩ := t4.1 h4
          rfl
        · have := t4.2 h4
          rw [inR_bad (by rw [okS_iff]; simp only; omega), inR_bad (by rw [okS_iff] at *; simp only at *; omega)]
      · have := t3.2 h3
        rw [inR_bad (by rw [okS_iff]; simp only; omega), inR_bad (by rw [okS_iff] at *; simp only at *; omega)]
    · have := t2.2 h2
      rw [inR_bad (by rw [okS_iff]; simp only; omega), inR_bad (by rw [okS_iff] at *; simp only at *; omega)]
  · have := t1.2 h1
    rw [inR_bad (by rw [okS_iff]; simp only; omega), inR_bad (by rw [okS_iff] at *; simp only at *; omega)]

/-- The greatest t < 2^k with t * t < n, from t0 on, or t0. -/
def rlGo (n : Int) : Nat → Int → Int
  | 0, t => t
  | k + 1, t => if (t + 2 ^ k) * (t + 2 ^ k) < n then rlGo n k (t + 2 ^ k) else rlGo n k t
theorem rlGo_spec (n : Int) : ∀ (k : Nat) (t : Int), 0 ≤ t → (t = 0 ∨ t * t < n) → n ≤ (t + 2 ^ k) * (t + 2 ^ k) → 0 ≤ rlGo n k t ∧ (rlGo n k t = 0 ∨ rlGo n k t * rlGo n k t < n) ∧ n ≤ (rlGo n k t + 1) * (rlGo n k t + 1) := by
  intro k
  induction k with
  | zero => intro t h0 h1 h2; simp only [rlGo]; simp at h2; exact ⟨h0, h1, h2⟩
  | succ k ih =>
    intro t h0 h1 h2
    have hp : (0 : Int) < 2 ^ k := Int.pow_pos (by omega)
    have he : (2 : Int) ^ (k + 1) = 2 ^ k + 2 ^ k := by rw [Int.pow_succ]; omega
    simp only [rlGo]
    split
    · next h => exact ih (t + 2 ^ k) (by omega) (.inr h) (by rw [he] at h2; rw [Int.add_assoc]; exact h2)
    · next h => exact ih t h0 h1 (by omega)
theorem rlGo_le (n : Int) : ∀ (k : Nat) (t : Int), t ≤ rlGo n k t ∧ rlGo n k t < t + 2 ^ k := by
  intro k
  induction k with
  | zero => intro t; simp only [rlGo]; simp; omega
  | succ k ih =>
    intro t
    have hp : (0 : Int) < 2 ^ k := Int.pow_pos (by omega)
    have he : (2 : Int) ^ (k + 1) = 2 ^ k + 2 ^ k := by rw [Int.pow_succ]; omega
    simp only [rlGo]
    split
    · have := ih (t + 2 ^ k); omega
    · have := ih t; omega
theorem rtGo_le (n : Int) : ∀ (k : Nat) (t : Int), t ≤ rtGo n k t ∧ rtGo n k t < t + 2 ^ k := by
  intro k
  induction k with
  | zero => intro t; simp only [rtGo]; simp; omega
  | succ k ih =>
    intro t
    have hp : (0 : Int) < 2 ^ k := Int.pow_pos (by omega)
    have he : (2 : Int) ^ (k + 1) = 2 ^ k + 2 ^ k := by rw [Int.pow_succ]; omega
    simp only [rtGo]
    split
    · have := ih (t + 2 ^ k); omega
    · have := ih t; omega
theorem rl_up {n : Int} (h0 : 0 ≤ n) (h1 : n < 18889465931478580854784) : (if rlGo n 37 0 * rlGo n 37 0 < n then rlGo n 37 0 + 1 else rlGo n 37 0) = rtU n := by
  obtain ⟨a, b, c⟩ := rlGo_spec n 37 0 (by omega) (.inl rfl) (by simp; omega)
  generalize rlGo n 37 0 = t at *
  apply rtU_eq h0 h1
  split
  · next h => exact ⟨by omega, by omega, .inr (by rw [Int.add_sub_cancel]; exact h)⟩
  · next h =>
    rcases b with rfl | b
    · exact ⟨by omega, by omega, .inl rfl⟩
    · exact absurd b h
end Encl
