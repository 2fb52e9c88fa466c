import Derived.Test.YtfilofnkiocbeaaWc8
import Derived.Deep.OwnRows
import Derived.Deep.RegionHeld2
import Derived.Deep.DeepCutAuto
namespace Ben
theorem sdF_two (a j : Nat) : sdF (bt a) (2 * j) = bt a j := by
  unfold sdF
  rw [show 2 * j / 2 = j by omega, decide_eq_false (by omega)]
  cases bt a j <;> rfl
theorem pt_even (j : Nat) : pt (2 * j) = 2 * j + 1 := by unfold pt; rw [if_pos (by omega)]
theorem pt_odd (j : Nat) : pt (2 * j + 1) = 2 * j := by unfold pt; rw [if_neg (by omega)]; omega
/-- Whether settings of the first switches are let, and leave the last ones possible, as the reference looks at it. -/
theorem hal_iff {H a : Nat} {q : Nat → Nat} {st : Nat → Int} : (vaF H q a && maS H q st (sdF (bt a))) = true ↔
    (∀ j, j < H → myB (st j) (bt a j) = true) ∧ ∀ j, j < H → ¬ sdF (bt a) (q (2 * j)) = sdF (bt a) (q (2 * j + 1)) ∧ myB (st (H + j)) (sdF (bt a) (q (2 * j))) = true := by
  obtain ⟨σ, hσ⟩ : ∃ σ, sdF (bt a) = σ := ⟨_, rfl⟩
  have h2 : ∀ j, σ (2 * j) = bt a j := fun j => by rw [← hσ]; exact sdF_two a j
  rw [Bool.and_eq_true]
  unfold vaF maS
  rw [hσ, decide_eq_true_iff, decide_eq_true_iff]
  constructor
  · rintro ⟨h, g⟩
    refine ⟨fun j hj => by rw [← h2]; exact (g j hj).1, fun j hj => ⟨?_, (g j hj).2⟩⟩
    have := h (2 * j) (by omega)
    rw [pt_even] at this
    rw [this]
    cases σ (q (2 * j)) <;> simp
  · rintro ⟨h, g⟩
    refine ⟨fun y hy => ?_, fun j hj => ⟨by rw [h2]; exact h j hj, (g j hj).2⟩⟩
    have hg := (g (y / 2) (by omega)).1
    by_cases e : y % 2 = 0
    · obtain ⟨j, rfl⟩ : ∃ j, y = 2 * j := ⟨y / 2, by omega⟩
      rw [show 2 * j / 2 = j by omega] at hg
      rw [pt_even]
      revert hg
      cases σ (q (2 * j)) <;> cases σ (q (2 * j + 1)) <;> simp
    · obtain ⟨j, rfl⟩ : ∃ j, y = 2 * j + 1 := ⟨y / 2, by omega⟩
      rw [show (2 * j + 1) / 2 = j by omega] at hg
      rw [pt_odd]
      revert hg
      cases σ (q (2 * j)) <;> cases σ (q (2 * j + 1)) <;> simp
/-- The input of a first switch whose light goes up, or down. -/
def xu (σ : Nat → Bool) (i : Nat) : Nat := if σ (2 * i) = true then 2 * i + 1 else 2 * i
def xl (σ : Nat → Bool) (i : Nat) : Nat := if σ (2 * i) = true then 2 * i else 2 * i + 1
def b2 (t : Bool) : Int := if t = true then 1 else 0
def frS (q : Nat → Nat) (σ : Nat → Bool) (k : Nat) : Nat → Int := fun y => if q y < k then b2 (σ (q y)) else 0
def uS (p : Nat → Nat) (σ : Nat → Bool) (k : Nat) : Nat → Int := fun i => if xu σ i < k then ((upS p σ i : Nat) : Int) else 0
def lS (p : Nat → Nat) (σ : Nat → Bool) (k : Nat) : Nat → Int := fun i => if xl σ i < k then ((loS p σ i : Nat) : Int) else 0
theorem sd_at (a k : Nat) : sdF (bt a) k = (bt a (k / 2) ^^ decide (k % 2 = 1)) := rfl
theorem frS_next {p q : Nat → Nat} {n : Nat} (P : Pm n p q) {σ : Nat → Bool} {k : Nat} (hk : k < n) {y : Nat} (hy : y < n) : (if y = p k then b2 (σ k) else frS q σ k y) = frS q σ (k + 1) y := by
  unfold frS
  by_cases e : y = p k
  · have e2 : q y = k := by rw [e]; exact P.qp k hk
    rw [if_pos e, if_pos (by omega), e2]
  · have e2 : ¬ q y = k := fun h => e (by rw [← h]; exact (P.pq y hy).symm)
    rw [if_neg e]
    by_cases h : q y < k
    · rw [if_pos h, if_pos (by omega)]
    · rw [if_neg h, if_neg (by omega)]
theorem xu_div (σ : Nat → Bool) (i : Nat) : xu σ i / 2 = i := by unfold xu; split <;> omega
theorem xl_div (σ : Nat → Bool) (i : Nat) : xl σ i / 2 = i := by unfold xl; split <;> omega
theorem xu_at {a k : Nat} (h : sdF (bt a) k = false) : xu (sdF (bt a)) (k / 2) = k := by
  rw [sd_at] at h
  unfold xu
  rw [sdF_two]
  by_cases e : k % 2 = 1
  · rw [decide_eq_true e] at h
    have : bt a (k / 2) = true := by revert h; cases bt a (k / 2) <;> simp
    rw [if_pos this]; omega
  · rw [decide_eq_false e] at h
    have : bt a (k / 2) = false := by revert h; cases bt a (k / 2) <;> simp
    rw [this, if_neg Bool.false_ne_true]; omega
theorem xl_at {a k : Nat} (h : sdF (bt a) k = true) : xl (sdF (bt a)) (k / 2) = k := by
  rw [sd_at] at h
  unfold xl
  rw [sdF_two]
  by_cases e : k % 2 = 1
  · rw [decide_eq_true e] at h
    have : bt a (k / 2) = false := by revert h; cases bt a (k / 2) <;> simp
    rw [this, if_neg Bool.false_ne_true]; omega
  · rw [decide_eq_false e] at h
    have : bt a (k / 2) = true := by revert h; cases bt a (k / 2) <;> simp
    rw [if_pos this]; omega
theorem xu_ne {a k i : Nat} (h : sdF (bt a) k = true) : ¬ xu (sdF (bt a)) i = k := by
  intro e
  have h1 := xu_div (sdF (bt a)) i
  rw [e] at h1
  have h2 := xl_at h
  rw [h1] at h2
  unfold xu at e
  unfold xl at h2
  by_cases h3 : sdF (bt a) (2 * i) = true
  · rw [if_pos h3] at e h2; omega
  · rw [if_neg h3] at e h2; omega
theorem xl_ne {a k i : Nat} (h : sdF (bt a) k = false) : ¬ xl (sdF (bt a)) i = k := by
  intro e
  have h1 := xl_div (sdF (bt a)) i
  rw [e] at h1
  have h2 := xu_at h
  rw [h1] at h2
  unfold xl at e
  unfold xu at h2
  by_cases h3 : sdF (bt a) (2 * i) = true
  · rw [if_pos h3] at e h2; omega
  · rw [if_neg h3] at e h2; omega
theorem uS_up {p : Nat → Nat} {a k : Nat} (h : sdF (bt a) k = false) (i : Nat) : (if i = k / 2 then ((p k / 2 : Nat) : Int) else uS p (sdF (bt a)) k i) = uS p (sdF (bt a)) (k + 1) i := by
  unfold uS
  have hx := xu_at h
  by_cases e : i = k / 2
  · rw [if_pos e, e, if_pos (by omega)]
    unfold upS
    unfold xu at hx
    rw [hx]
  · have : ¬ xu (sdF (bt a)) i = k := fun e2 => e (by rw [← e2, xu_div])
    rw [if_neg e]
    by_cases h3 : xu (sdF (bt a)) i < k
    · rw [if_pos h3, if_pos (by omega)]
    · rw [if_neg h3, if_neg (by omega)]
theorem uS_lo {p : Nat → Nat} {a k : Nat} (h : sdF (bt a) k = true) (i : Nat) : uS p (sdF (bt a)) k i = uS p (sdF (bt a)) (k + 1) i := by
  unfold uS
  have := xu_ne (i := i) h
  by_cases h3 : xu (sdF (bt a)) i < k
  · rw [if_pos h3, if_pos (by omega)]
  · rw [if_neg h3, if_neg (by omega)]
theorem lS_lo {p : Nat → Nat} {a k : Nat} (h : sdF (bt a) k = true) (i : Nat) : (if i = k / 2 then ((p k / 2 : Nat) : Int) else lS p (sdF (bt a)) k i) = lS p (sdF (bt a)) (k + 1) i := by
  unfold lS
  have hx := xl_at h
  by_cases e : i = k / 2
  · rw [if_pos e, e, if_pos (by omega)]
    unfold loS
    unfold xl at hx
    rw [hx]
  · have : ¬ xl (sdF (bt a)) i = k := fun e2 => e (by rw [← e2, xl_div])
    rw [if_neg e]
    by_cases h3 : xl (sdF (bt a)) i < k
    · rw [if_pos h3, if_pos (by omega)]
    · rw [if_neg h3, if_neg (by omega)]
theorem lS_up {p : Nat → Nat} {a k : Nat} (h : sdF (bt a) k = false) (i : Nat) : lS p (sdF (bt a)) k i = lS p (sdF (bt a)) (k + 1) i := by
  unfold lS
  have := xl_ne (i := i) h
  by_cases h3 : xl (sdF (bt a)) i < k
  · rw [if_pos h3, if_pos (by omega)]
  · rw [if_neg h3, if_neg (by omega)]
theorem uS_all {p : Nat → Nat} {σ : Nat → Bool} {H i : Nat} (hi : i < H) : uS p σ (2 * H) i = ((upS p σ i : Nat) : Int) := if_pos (by have := xu_div σ i; omega)
theorem lS_all {p : Nat → Nat} {σ : Nat → Bool} {H i : Nat} (hi : i < H) : lS p σ (2 * H) i = ((loS p σ i : Nat) : Int) := if_pos (by have := xl_div σ i; omega)
theorem frS_all {p q : Nat → Nat} {n : Nat} (P : Pm n p q) {σ : Nat → Bool} {y : Nat} (hy : y < n) : frS q σ n y = b2 (σ (q y)) := if_pos (P.lq y hy)
end Ben
namespace Go.Proofs.Ytfilofnkiocbeaa
open Go.RowKit Ben
theorem and_bits8 : ∀ (a : Fin 256) (j : Fin 8), (bits .and .i64 (((a.val : Nat) : Int) / 2 ^ j.val) 1 == 1) = bt a.val j.val := by decide +kernel
theorem and_bit8 {a j : Nat} (ha : a < 256) (hj : j < 8) : (bits .and .i64 ((a : Int) / 2 ^ j) 1 == 1) = bt a j := and_bits8 ⟨a, ha⟩ ⟨j, hj⟩
end Go.Proofs.Ytfilofnkiocbeaa
