import Derived.Test.YtgbnpnenejgnnaaEu
namespace Encl
/-! Wider spans and rectangles have wider results. -/
def InS (x y : Sp) : Prop := y.lo ≤ x.lo ∧ x.hi ≤ y.hi
def InR (x y : Rc) : Prop := InS x.re y.re ∧ InS x.im y.im
theorem inR_mono {s t b : Sp} (h : InS s t) (h0 : s.lo ≤ s.hi) (ht : inR t = .ok b) : inR s = .ok s ∧ InS s b := by
  have hb := inR_okS ht
  have e : b = t := by
    unfold inR at ht
    split at ht
    · exact (Out.ok.inj ht).symm
    · cases ht
  subst e
  refine ⟨inR_ok ?_, h⟩
  rw [okS_iff] at hb ⊢
  obtain ⟨h1, h2⟩ := h
  omega
theorem okS_le {s : Sp} (h : okS s = true) : s.lo ≤ s.hi := ((okS_iff s).1 h).2.1
theorem addS_mono {x y p q b : Sp} (hx : InS x p) (hy : InS y q) (kx : okS x = true) (ky : okS y = true) (h : addS p q = .ok b) : ∃ a, addS x y = .ok a ∧ InS a b := by
  have h1 := okS_le kx
  have h2 := okS_le ky
  have := inR_mono (s := ⟨x.lo + y.lo, x.hi + y.hi⟩) (t := ⟨p.lo + q.lo, p.hi + q.hi⟩) (b := b) ⟨by have := hx.1; have := hy.1; simp only; omega, by have := hx.2; have := hy.2; simp only; omega⟩ (by simp only; omega) h
  exact ⟨_, this.1, this.2⟩
theorem negS_in {x p : Sp} (h : InS x p) : InS (negS x) (negS p) := ⟨by have := h.2; simp only [negS]; omega, by have := h.1; simp only [negS]; omega⟩
theorem negS_ok {x : Sp} (h : okS x = true) : okS (negS x) = true := by
  rw [okS_iff] at h ⊢
  simp only [negS]; omega
theorem subS_mono {x y p q b : Sp} (hx : InS x p) (hy : InS y q) (kx : okS x = true) (ky : okS y = true) (h : subS p q = .ok b) : ∃ a, subS x y = .ok a ∧ InS a b :=
  addS_mono hx (negS_in hy) kx (negS_ok ky) h
theorem fl_mono {m n d : Int} (hd : 0 < d) (h : m ≤ n) : m / d ≤ n / d := Int.ediv_le_ediv hd h
theorem ce_mono {m n d : Int} (hd : 0 < d) (h : m ≤ n) : -(-m / d) ≤ -(-n / d) := by
  have := Int.ediv_le_ediv hd (show -n ≤ -m by omega)
  omega
/-- A product of numbers of two spans lies between the products of their bounds. -/
theorem corner_lo {a b c d e f : Int} (h1 : c ≤ a) (h2 : a ≤ d) (h3 : e ≤ b) (h4 : b ≤ f) : c * e ≤ a * b ∨ c * f ≤ a * b ∨ d * e ≤ a * b ∨ d * f ≤ a * b := by
  by_cases hb : 0 ≤ b
  · have k1 : c * b ≤ a * b := Int.mul_le_mul_of_nonneg_right h1 hb
    by_cases hc : 0 ≤ c
    · have := Int.mul_le_mul_of_nonneg_left h3 hc; left; omega
    · have := Int.mul_le_mul_of_nonpos_left (show c ≤ 0 by omega) h4; right; left; omega
  · have k1 : d * b ≤ a * b := Int.mul_le_mul_of_nonpos_right h2 (by omega)
    by_cases hc : 0 ≤ d
    · have := Int.mul_le_mul_of_nonneg_left h3 hc; right; right; left; omega
    · have := Int.mul_le_mul_of_nonpos_left (show d ≤ 0 by omega) h4; right; right; right; omega
theorem corner_hi {a b c d e f : Int} (h1 : c ≤ a) (h2 : a ≤ d) (h3 : e ≤ b) (h4 : b ≤ f) : a * b ≤ c * e ∨ a * b ≤ c * f ∨ a * b ≤ d * e ∨ a * b ≤ d * f := by
  have := corner_lo (a := -a) (b := b) (c := -d) (d := -c) (e := e) (f := f) (by omega) (by omega) h3 h4
  simp only [Int.neg_mul] at this
  omega
theorem fl_corner {a b c d e f k : Int} (hk : 0 < k) (h1 : c ≤ a) (h2 : a ≤ d) (h3 : e ≤ b) (h4 : b ≤ f) :
    min (min (min (fl c e k) (fl c f k)) (fl d e k)) (fl d f k) ≤ fl a b k ∧ ce a b k ≤ max (max (max (ce c e k) (ce c f k)) (ce d e k)) (ce d f k) := by
  unfold fl ce
  constructor
  · rcases corner_lo h1 h2 h3 h4 with h | h | h | h <;> have := fl_mono hk h <;> omega
  · rcases corner_hi h1 h2 h3 h4 with h | h | h | h <;> have := ce_mono hk h <;> omega
theorem mulS_mono {x y p q b : Sp} (hx : InS x p) (hy : InS y q) (kx : okS x = true) (ky : okS y = true) (h : mulS p q = .ok b) : ∃ a, mulS x y = .ok a ∧ InS a b := by
  have l1 := okS_le kx
  have l2 := okS_le ky
  obtain ⟨a1, a2⟩ := hx
  obtain ⟨b1, b2⟩ := hy
  rw [mulS_eq] at h ⊢
  have hk : (0 : Int) < 1073741824 := by omega
  have c1 := fl_corner hk (a := x.lo) (b := y.lo) a1 (show x.lo ≤ p.hi by omega) b1 (show y.lo ≤ q.hi by omega)
  have c2 := fl_corner hk (a := x.lo) (b := y.hi) a1 (show x.lo ≤ p.hi by omega) (show q.lo ≤ y.hi by omega) b2
  have c3 := fl_corner hk (a := x.hi) (b := y.lo) (show p.lo ≤ x.hi by omega) a2 b1 (show y.lo ≤ q.hi by omega)
  have c4 := fl_corner hk (a := x.hi) (b := y.hi) (show p.lo ≤ x.hi by omega) a2 (show q.lo ≤ y.hi by omega) b2
  have e1 := fl_le_ce x.lo y.lo hk
  generalize min (min (min (fl p.lo q.lo 1073741824) (fl p.lo q.hi 1073741824)) (fl p.hi q.lo 1073741824)) (fl p.hi q.hi 1073741824) = L at *
  generalize max (max (max (ce p.lo q.lo 1073741824) (ce p.lo q.hi 1073741824)) (ce p.hi q.lo 1073741824)) (ce p.hi q.hi 1073741824) = H at *
  have := inR_mono (s := ⟨min (min (min (fl x.lo y.lo 1073741824) (fl x.lo y.hi 1073741824)) (fl x.hi y.lo 1073741824)) (fl x.hi y.hi 1073741824), max (max (max (ce x.lo y.lo 1073741824) (ce x.lo y.hi 1073741824)) (ce x.hi y.lo 1073741824)) (ce x.hi y.hi 1073741824)⟩) (t := ⟨L, H⟩) (b := b) ⟨by simp only; omega, by simp only; omega⟩ (by simp only; omega) h
  exact ⟨_, this.1, this.2⟩
/-- A smaller divisor brings a number farther from 0. -/
theorem fl_den {n e y f : Int} (he : 0 < e) (h1 : e ≤ y) (h2 : y ≤ f) : n / f ≤ n / y ∨ n / e ≤ n / y := by
  by_cases hn : 0 ≤ n
  · left
    rw [Int.le_ediv_iff_mul_le (by omega)]
    have k0 : 0 ≤ n / f := Int.ediv_nonneg hn (by omega)
    have k1 := Int.mul_le_mul_of_nonneg_left h2 k0
    have k2 := Int.ediv_mul_le n (show f ≠ 0 by omega)
    omega
  · right
    rw [Int.le_ediv_iff_mul_le (by omega)]
    have k0 : n / e < 0 := Int.ediv_neg_of_neg_of_pos (by omega) he
    have k1 := Int.mul_le_mul_of_nonpos_left (show n / e ≤ 0 by omega) h1
    have k2 := Int.ediv_mul_le n (show e ≠ 0 by omega)
    omega
theorem quo_corner {a c d y e f k : Int} (hk : 0 < k) (he : 0 < e) (h1 : c ≤ a) (h2 : a ≤ d) (h3 : e ≤ y) (h4 : y ≤ f) :
    min (min (min (fl c k e) (fl c k f)) (fl d k e)) (fl d k f) ≤ fl a k y ∧ ce a k y ≤ max (max (max (ce c k e) (ce c k f)) (ce d k e)) (ce d k f) := by
  unfold fl ce
  have m1 : c * k ≤ a * k := Int.mul_le_mul_of_nonneg_right h1 (by omega)
  have m2 : a * k ≤ d * k := Int.mul_le_mul_of_nonneg_right h2 (by omega)
  have q1 := fl_mono (d := y) (by omega) m1
  have q2 := fl_mono (d := y) (by omega) (show -(d * k) ≤ -(a * k) by omega)
  constructor
  · rcases fl_den (n := c * k) he h3 h4 with h | h <;> omega
  · rcases fl_den (n := -(d * k)) he h3 h4 with h | h <;> omega
theorem divS_mono {x y p q b : Sp} (hx : InS x p) (hy : InS y q) (kx : okS x = true) (ky : okS y = true) (hq : 0 < q.lo) (h : divS p q = .ok b) : ∃ a, divS x y = .ok a ∧ InS a b := by
  have l1 := okS_le kx
  have l2 := okS_le ky
  obtain ⟨a1, a2⟩ := hx
  obtain ⟨b1, b2⟩ := hy
  rw [divS_eq p q hq (by omega)] at h
  rw [divS_eq x y (by omega) l2]
  have hk : (0 : Int) < 1073741824 := by omega
  have c1 := quo_corner hk hq (a := x.lo) (y := y.lo) a1 (show x.lo ≤ p.hi by omega) b1 (show y.lo ≤ q.hi by omega)
  have c2 := quo_corner hk hq (a := x.lo) (y := y.hi) a1 (show x.lo ≤ p.hi by omega) (show q.lo ≤ y.hi by omega) b2
  have c3 := quo_corner hk hq (a := x.hi) (y := y.lo) (show p.lo ≤ x.hi by omega) a2 b1 (show y.lo ≤ q.hi by omega)
  have c4 := quo_corner hk hq (a := x.hi) (y := y.hi) (show p.lo ≤ x.hi by omega) a2 (show q.lo ≤ y.hi by omega) b2
  have e1 := fl_le_ce x.lo 1073741824 (show 0 < y.lo by omega)
  generalize min (min (min (fl p.lo 1073741824 q.lo) (fl p.lo 1073741824 q.hi)) (fl p.hi 1073741824 q.lo)) (fl p.hi 1073741824 q.hi) = L at *
  generalize max (max (max (ce p.lo 1073741824 q.lo) (ce p.lo 1073741824 q.hi)) (ce p.hi 1073741824 q.lo)) (ce p.hi 1073741824 q.hi) = H at *
  have := inR_mono (s := ⟨min (min (min (fl x.lo 1073741824 y.lo) (fl x.lo 1073741824 y.hi)) (fl x.hi 1073741824 y.lo)) (fl x.hi 1073741824 y.hi), max (max (max (ce x.lo 1073741824 y.lo) (ce x.lo 1073741824 y.hi)) (ce x.hi 1073741824 y.lo)) (ce x.hi 1073741824 y.hi)⟩) (t := ⟨L, H⟩) (b := b) ⟨by simp only; omega, by simp only; omega⟩ (by simp only; omega) h
  exact ⟨_, this.1, this.2⟩
theorem sq_lo {a c d : Int} (h1 : c ≤ a) (h2 : a ≤ d) (h : 0 < c ∨ d < 0) : c * c ≤ a * a ∨ d * d ≤ a * a := by
  rcases h with h | h
  · left; exact sqle (by omega) h1
  · right; have := sqle (x := -d) (y := -a) (by omega) (by omega); simp only [Int.neg_mul_neg] at this; exact this
theorem sq_hi {a c d : Int} (h1 : c ≤ a) (h2 : a ≤ d) : a * a ≤ c * c ∨ a * a ≤ d * d := by
  by_cases h : 0 ≤ a
  · right; exact sqle h h2
  · left; have := sqle (x := -a) (y := -c) (by omega) (by omega); simp only [Int.neg_mul_neg] at this; exact this
theorem sqS_mono {x p b : Sp} (hx : InS x p) (kx : okS x = true) (h : sqS p = .ok b) : ∃ a, sqS x = .ok a ∧ InS a b := by
  have l1 := okS_le kx
  obtain ⟨a1, a2⟩ := hx
  rw [sqS_eq] at h ⊢
  have hk : (0 : Int) < 1073741824 := by omega
  have g1 := fl_sq x.lo
  have g2 := fl_sq x.hi
  have g3 := fl_sq p.lo
  have g4 := fl_sq p.hi
  have e1 := fl_le_ce x.lo x.lo hk
  have e2 := fl_le_ce x.hi x.hi hk
  have u1 : max (ce x.lo x.lo 1073741824) (ce x.hi x.hi 1073741824) ≤ max (ce p.lo p.lo 1073741824) (ce p.hi p.hi 1073741824) := by
    unfold ce
    rcases sq_hi a1 (show x.lo ≤ p.hi by omega) with h | h <;> have := ce_mono hk h <;> rcases sq_hi (show p.lo ≤ x.hi by omega) a2 with h' | h' <;> have := ce_mono hk h' <;> omega
  have u2 : ¬ (p.lo ≤ 0 ∧ 0 ≤ p.hi) → min (fl p.lo p.lo 1073741824) (fl p.hi p.hi 1073741824) ≤ min (fl x.lo x.lo 1073741824) (fl x.hi x.hi 1073741824) := by
    intro hz
    have hz' : 0 < p.lo ∨ p.hi < 0 := by omega
    unfold fl
    rcases sq_lo a1 (show x.lo ≤ p.hi by omega) hz' with h | h <;> have := fl_mono hk h <;> rcases sq_lo (show p.lo ≤ x.hi by omega) a2 hz' with h' | h' <;> have := fl_mono hk h' <;> omega
  have i1 : InS (zlo x ⟨min (fl x.lo x.lo 1073741824) (fl x.hi x.hi 1073741824), max (ce x.lo x.lo 1073741824) (ce x.hi x.hi 1073741824)⟩) (zlo p ⟨min (fl p.lo p.lo 1073741824) (fl p.hi p.hi 1073741824), max (ce p.lo p.lo 1073741824) (ce p.hi p.hi 1073741824)⟩) := by
    unfold zlo InS
    by_cases hp : p.lo ≤ 0 ∧ 0 ≤ p.hi
    · rw [if_pos hp]
      by_cases hx : x.lo ≤ 0 ∧ 0 ≤ x.hi
      · rw [if_pos hx]; exact ⟨by simp only; omega, u1⟩
      · rw [if_neg hx]; exact ⟨by simp only; omega, u1⟩
    · rw [if_neg hp, if_neg (by omega)]; exact ⟨u2 hp, u1⟩
  have i2 : (zlo x ⟨min (fl x.lo x.lo 1073741824) (fl x.hi x.hi 1073741824), max (ce x.lo x.lo 1073741824) (ce x.hi x.hi 1073741824)⟩).lo ≤ (zlo x ⟨min (fl x.lo x.lo 1073741824) (fl x.hi x.hi 1073741824), max (ce x.lo x.lo 1073741824) (ce x.hi x.hi 1073741824)⟩).hi := by
    unfold zlo; split <;> simp only <;> omega
  have := inR_mono i1 i2 h
  exact ⟨_, this.1, this.2⟩
theorem addR_mono {x y p q b : Rc} (hx : InR x p) (hy : InR y q) (kx : okR x = true) (ky : okR y = true) (h : addR p q = .ok b) : ∃ a, addR x y = .ok a ∧ InR a b := by
  rw [okR_iff] at kx ky
  unfold addR at h ⊢
  obtain ⟨r, h1, h⟩ := bind_okI h
  obtain ⟨i, h2, h⟩ := bind_okI h
  obtain ⟨r', g1, k1⟩ := addS_mono hx.1 hy.1 kx.1 ky.1 h1
  obtain ⟨i', g2, k2⟩ := addS_mono hx.2 hy.2 kx.2 ky.2 h2
  rw [g1, g2, ← Out.ok.inj h]
  exact ⟨_, rfl, k1, k2⟩
theorem subR_mono {x y p q b : Rc} (hx : InR x p) (hy : InR y q) (kx : okR x = true) (ky : okR y = true) (h : subR p q = .ok b) : ∃ a, subR x y = .ok a ∧ InR a b := by
  rw [okR_iff] at kx ky
  unfold subR at h ⊢
  obtain ⟨r, h1, h⟩ := bind_okI h
  obtain ⟨i, h2, h⟩ := bind_okI h
  obtain ⟨r', g1, k1⟩ := subS_mono hx.1 hy.1 kx.1 ky.1 h1
  obtain ⟨i', g2, k2⟩ := subS_mono hx.2 hy.2 kx.2 ky.2 h2
  rw [g1, g2, ← Out.ok.inj h]
  exact ⟨_, rfl, k1, k2⟩
theorem mulR_mono {x y p q b : Rc} (hx : InR x p) (hy : InR y q) (kx : okR x = true) (ky : okR y = true) (h : mulR p q = .ok b) : ∃ a, mulR x y = .ok a ∧ InR a b := by
  rw [okR_iff] at kx ky
  unfold mulR at h ⊢
  obtain ⟨s1, h1, h⟩ := bind_okI h
  obtain ⟨s2, h2, h⟩ := bind_okI h
  obtain ⟨s3, h3, h⟩ := bind_okI h
  obtain ⟨s4, h4, h⟩ := bind_okI h
  obtain ⟨s5, h5, h⟩ := bind_okI h
  obtain ⟨s6, h6, h⟩ := bind_okI h
  obtain ⟨t1, g1, k1⟩ := mulS_mono hx.1 hy.1 kx.1 ky.1 h1
  obtain ⟨t2, g2, k2⟩ := mulS_mono hx.2 hy.2 kx.2 ky.2 h2
  obtain ⟨t3, g3, k3⟩ := subS_mono k1 k2 (mulS_ok g1) (mulS_ok g2) h3
  obtain ⟨t4, g4, k4⟩ := mulS_mono hx.1 hy.2 kx.1 ky.2 h4
  obtain ⟨t5, g5, k5⟩ := mulS_mono hx.2 hy.1 kx.2 ky.1 h5
  obtain ⟨t6, g6, k6⟩ := addS_mono k4 k5 (mulS_ok g4) (mulS_ok g5) h6
  rw [g1, g2, ← Out.ok.inj h]
  simp only [Out.bind_ok]
  rw [g3, g4, g5]
  simp only [Out.bind_ok]
  rw [g6]
  exact ⟨_, rfl, k3, k6⟩
theorem powR_mono {x p : Rc} {b : Sp} (hx : InR x p) (kx : okR x = true) (h : powR p = .ok b) : ∃ a, powR x = .ok a ∧ InS a b := by
  rw [okR_iff] at kx
  unfold powR at h ⊢
  obtain ⟨s1, h1, h⟩ := bind_okI h
  obtain ⟨s2, h2, h⟩ := bind_okI h
  obtain ⟨t1, g1, k1⟩ := sqS_mono hx.1 kx.1 h1
  obtain ⟨t2, g2, k2⟩ := sqS_mono hx.2 kx.2 h2
  rw [g1, g2]
  exact addS_mono k1 k2 (sqS_ok g1) (sqS_ok g2) h
theorem divR_mono {x y p q b : Rc} (hx : InR x p) (hy : InR y q) (kx : okR x = true) (ky : okR y = true) (h : divR p q = .ok b) : ∃ a, divR x y = .ok a ∧ InR a b := by
  unfold divR at h ⊢
  obtain ⟨P, h1, h⟩ := bind_okI h
  by_cases hP : P.lo ≤ 0
  · rw [if_pos hP] at h; cases h
  rw [if_neg hP] at h
  obtain ⟨z, h2, h⟩ := bind_okI h
  obtain ⟨a, h3, h⟩ := bind_okI h
  obtain ⟨c, h4, h⟩ := bind_okI h
  obtain ⟨P', g1, k1⟩ := powR_mono hy ky h1
  have hky := (okR_iff y).1 ky
  obtain ⟨z', g2, k2⟩ := mulR_mono (x := x) (y := cjR y) hx (show InR (cjR y) (cjR q) from ⟨hy.1, negS_in hy.2⟩) kx ((okR_iff _).2 ⟨hky.1, negS_ok hky.2⟩) h2
  have kz := (okR_iff z').1 (mulR_ok g2)
  obtain ⟨a', g3, k3⟩ := divS_mono k2.1 k1 kz.1 (powR_ok g1) (by omega) h3
  obtain ⟨c', g4, k4⟩ := divS_mono k2.2 k1 kz.2 (powR_ok g1) (by omega) h4
  rw [g1]
  simp only [Out.bind_ok]
  rw [if_neg (by have := k1.1; omega), g2]
  simp only [Out.bind_ok]
  rw [g3, g4, ← Out.ok.inj h]
  exact ⟨_, rfl, k3, k4⟩
theorem rootS_mono {x p : Sp} (hx : InS x p) (kx : okS x = true) (kp : okS p = true) (h0 : 0 ≤ x.lo) (h1 : 0 ≤ p.lo) : InS (rootS x) (rootS p) := by
  rw [okS_iff] at kx kp
  obtain ⟨a1, a2⟩ := hx
  have d1 := rtD_is (n := x.lo * 1073741824) (by omega) (by omega)
  have d2 := rtD_is (n := p.lo * 1073741824) (by omega) (by omega)
  have u1 := rtU_is (n := x.hi * 1073741824) (by omega) (by omega)
  have u2 := rtU_is (n := p.hi * 1073741824) (by omega) (by omega)
  exact ⟨isD_mono d2 d1 (by omega), isU_mono u1 u2 (by omega)⟩
end Encl
