import Derived.Test.YtfilofnkiocbeaaCe8
namespace Ben
/-- Settings that are joined make the permutation of which the halves are made. -/
theorem join_out {k : Nat} {p q : Nat → Nat} {σ : Nat → Bool} {s : Nat → Bool} {b : Nat} (P : Pm (2 * sz k) p q) (G : Good (sz k) q σ)
    (hf : ∀ j, j < sz k → s (b + j) = σ (2 * j)) (hl : ∀ j, j < sz k → s (b + sz k + j) = σ (q (2 * j)))
    (hu : ∀ i, i < sz k → out s k (b + sz (k + 1)) i = upS p σ i) (hv : ∀ i, i < sz k → out s k (b + sz (k + 1) + cn k) i = loS p σ i) {x : Nat} (hx : x < 2 * sz k) :
    out s (k + 1) b x = p x := by
  have hpx := P.lp x hx
  have e2 : pt (2 * (x / 2)) = 2 * (x / 2) + 1 := by unfold pt; rw [if_pos (by omega)]
  have g1 := G.1 (2 * (x / 2)) (by omega)
  rw [e2] at g1
  have g2 := G.2 (2 * (p x / 2)) (by omega)
  have e3 : pt (2 * (p x / 2)) = 2 * (p x / 2) + 1 := by unfold pt; rw [if_pos (by omega)]
  rw [e3] at g2
  have hq := P.qp x hx
  have hs : fl (s (b + x / 2)) (x % 2) = if σ x = true then 1 else 0 := by
    rw [hf (x / 2) (by omega)]
    by_cases e : x % 2 = 0
    · have e1 : 2 * (x / 2) = x := by omega
      rw [e1, e]
      unfold fl
      cases σ x <;> rfl
    · have e1 : 2 * (x / 2) + 1 = x := by omega
      rw [e1] at g1
      rw [show x % 2 = 1 by omega, g1]
      unfold fl
      cases σ (2 * (x / 2)) <;> rfl
  have ho : ∀ c, c = (if σ x = true then 1 else 0) → out s k (b + sz (k + 1) + c * cn k) (x / 2) = p x / 2 := by
    intro c hc
    cases hσ : σ x
    · rw [hσ, if_neg (by decide)] at hc
      rw [hc, Nat.zero_mul, Nat.add_zero, hu _ (by omega)]
      unfold upS
      by_cases e : x % 2 = 0
      · have e1 : 2 * (x / 2) = x := by omega
        rw [e1, hσ, if_neg (by decide)]
      · have e1 : 2 * (x / 2) + 1 = x := by omega
        rw [e1, hσ] at g1
        rw [e1, if_pos (by revert g1; cases σ (2 * (x / 2)) <;> simp)]
    · rw [hσ, if_pos rfl] at hc
      rw [hc, Nat.one_mul, hv _ (by omega)]
      unfold loS
      by_cases e : x % 2 = 0
      · have e1 : 2 * (x / 2) = x := by omega
        rw [e1, hσ, if_pos rfl]
      · have e1 : 2 * (x / 2) + 1 = x := by omega
        rw [e1, hσ] at g1
        rw [e1, if_neg (by revert g1; cases σ (2 * (x / 2)) <;> simp)]
  simp only [out]
  rw [ho _ hs, hs, hl (p x / 2) (by omega)]
  by_cases e : p x % 2 = 0
  · have e1 : 2 * (p x / 2) = p x := by omega
    rw [e1, hq]
    unfold fl
    cases σ x <;> simp
  · have e1 : 2 * (p x / 2) + 1 = p x := by omega
    rw [e1, hq] at g2
    have e4 : fl (σ (q (2 * (p x / 2)))) (if σ x = true then 1 else 0) = 1 := by
      rw [g2]
      unfold fl
      cases σ (q (2 * (p x / 2))) <;> rfl
    rw [e4, e1]
theorem su_pos_iff {f : Nat → Nat} {n : Nat} : 0 < su f n ↔ ∃ d, d < n ∧ 0 < f d := by
  constructor
  · intro h
    induction n with
    | zero => simp only [su] at h; omega
    | succ n ih =>
      by_cases e : 0 < f n
      · exact ⟨n, by omega, e⟩
      · simp only [su] at h
        obtain ⟨d, a, b⟩ := ih (by omega)
        exact ⟨d, by omega, b⟩
  · rintro ⟨d, a, b⟩
    exact su_pos a b
theorem wS_pos_iff {k : Nat} {p q : Nat → Nat} {st : Nat → Int} {σ : Nat → Bool} : 0 < wS k p q st σ ↔
    maS (sz k) q st σ = true ∧ 0 < wN k (upS p σ) (fun i => st (sz (k + 1) + i)) ∧ 0 < wN k (loS p σ) (fun i => st (sz (k + 1) + cn k + i)) := by
  unfold wS
  by_cases e : maS (sz k) q st σ = true
  · rw [if_pos e]
    exact ⟨fun h => ⟨e, Nat.pos_of_mul_pos_right h, Nat.pos_of_mul_pos_left h⟩, fun h => Nat.mul_pos h.2.1 h.2.2⟩
  · rw [if_neg e]
    exact ⟨fun h => by omega, fun h => absurd h.1 e⟩
/-- One switch stuck in another way. -/
def up (st : Nat → Int) (i : Nat) (v : Int) : Nat → Int := fun j => if j = i then v else st j
/-- The setting of a first or a last switch that sides ask. -/
def tI (h : Nat) (q : Nat → Nat) (σ : Nat → Bool) (i : Nat) : Bool := if i < h then σ (2 * i) else σ (q (2 * (i - h)))
theorem maS_iff {h : Nat} {q : Nat → Nat} {st : Nat → Int} {σ : Nat → Bool} : maS h q st σ = true ↔ ∀ i, i < 2 * h → myB (st i) (tI h q σ i) = true := by
  unfold maS
  rw [decide_eq_true_eq]
  constructor
  · intro H i hi
    unfold tI
    by_cases e : i < h
    · rw [if_pos e]; exact (H i e).1
    · rw [if_neg e]
      have := (H (i - h) (by omega)).2
      rwa [show h + (i - h) = i by omega] at this
  · intro H j hj
    have h1 := H j (by omega)
    have h2 := H (h + j) (by omega)
    unfold tI at h1 h2
    rw [if_pos hj] at h1
    rw [if_neg (by omega), show h + j - h = j by omega] at h2
    exact ⟨h1, h2⟩
theorem myB_zero (t : Bool) : myB 0 t = true := rfl
theorem myB_one (t : Bool) : myB 1 t = !t := by cases t <;> rfl
theorem myB_two (t : Bool) : myB 2 t = t := by cases t <;> rfl
theorem maS_up {h : Nat} {q : Nat → Nat} {st : Nat → Int} {σ : Nat → Bool} {i : Nat} (h0 : st i = 0) {v : Int} (hv : myB v (tI h q σ i) = true) : maS h q (up st i v) σ = maS h q st σ := by
  rw [Bool.eq_iff_iff, maS_iff, maS_iff]
  refine forall_congr' fun j => forall_congr' fun _ => ?_
  unfold up
  by_cases e : j = i
  · rw [if_pos e, e, hv, h0, myB_zero]
  · rw [if_neg e]
theorem maS_no {h : Nat} {q : Nat → Nat} {st : Nat → Int} {σ : Nat → Bool} {i : Nat} (hi : i < 2 * h) {v : Int} (hv : myB v (tI h q σ i) = false) : maS h q (up st i v) σ = false := by
  rw [← Bool.not_eq_true, maS_iff]
  intro H
  have := H i hi
  unfold up at this
  rw [if_pos rfl, hv] at this
  exact absurd this (by decide)
theorem maS_far {h : Nat} {q : Nat → Nat} {st : Nat → Int} {σ : Nat → Bool} {i : Nat} (hi : 2 * h ≤ i) (v : Int) : maS h q (up st i v) σ = maS h q st σ := by
  rw [Bool.eq_iff_iff, maS_iff, maS_iff]
  refine forall_congr' fun j => forall_congr' fun hj => ?_
  unfold up
  rw [if_neg (by omega)]
theorem wN_far {k : Nat} {p : Nat → Nat} {st : Nat → Int} {i b : Nat} {v : Int} (h : i < b ∨ b + cn k ≤ i) : wN k p (fun j => up st i v (b + j)) = wN k p (fun j => st (b + j)) :=
  wN_congr k (fun _ _ => rfl) fun j hj => by unfold up; rw [if_neg (by omega)]
theorem up_in (st : Nat → Int) (b i : Nat) (v : Int) : (fun j => up st (b + i) v (b + j)) = up (fun j => st (b + j)) i v := funext fun j => by
  unfold up
  by_cases e : j = i
  · rw [if_pos (by omega), if_pos e]
  · rw [if_neg (by omega), if_neg e]
/-- Where a switch works, the ways are those with it stuck in the one way and those with it stuck in the other. -/
theorem wN_split : ∀ (k : Nat) (p : Nat → Nat) (st : Nat → Int) (i : Nat), i < cn k → st i = 0 → wN k p st = wN k p (up st i 1) + wN k p (up st i 2)
  | 0, p, st, i, hi, h0 => by
    have e : i = 0 := by have : cn 0 = 1 := rfl; omega
    subst e
    simp only [wN, up, if_pos, h0, myB_zero, myB_one, myB_two]
    cases decide (p 0 = 1) <;> rfl
  | k + 1, p, st, i, hi, h0 => by
    have hn : cn (k + 1) = sz (k + 1) + 2 * cn k := rfl
    have hz : sz (k + 1) = 2 * sz k := rfl
    simp only [wN]
    rw [← su_add]
    refine su_congr fun a _ => ?_
    by_cases hva : vaF (sz k) (ivN (sz (k + 1)) p) a = true
    · rw [if_pos hva, if_pos hva, if_pos hva]
      by_cases c1 : i < 2 * sz k
      · rw [wN_far (b := sz (k + 1)) (Or.inl (by omega)), wN_far (b := sz (k + 1)) (Or.inl (by omega)), wN_far (b := sz (k + 1) + cn k) (Or.inl (by omega)), wN_far (b := sz (k + 1) + cn k) (Or.inl (by omega))]
        cases ht : tI (sz k) (ivN (sz (k + 1)) p) (sdF (bt a)) i
        · rw [maS_up h0 (v := 1) (by rw [ht]; rfl), maS_no c1 (v := 2) (by rw [ht]; rfl), if_neg Bool.false_ne_true]
          exact (Nat.add_zero _).symm
        · rw [maS_no c1 (v := 1) (by rw [ht]; rfl), maS_up h0 (v := 2) (by rw [ht]; rfl), if_neg Bool.false_ne_true]
          exact (Nat.zero_add _).symm
      · rw [maS_far (by omega), maS_far (by omega)]
        by_cases hm : maS (sz k) (ivN (sz (k + 1)) p) st (sdF (bt a)) = true
        · rw [if_pos hm, if_pos hm, if_pos hm]
          by_cases c2 : i < sz (k + 1) + cn k
          · obtain ⟨i, rfl⟩ : ∃ i', i = sz (k + 1) + i' := ⟨i - sz (k + 1), by omega⟩
            rw [wN_far (b := sz (k + 1) + cn k) (Or.inl (by omega)), wN_far (b := sz (k + 1) + cn k) (Or.inl (by omega)), up_in, up_in, ← Nat.add_mul, ← wN_split k _ _ i (by omega) h0]
          · obtain ⟨i, rfl⟩ : ∃ i', i = sz (k + 1) + cn k + i' := ⟨i - (sz (k + 1) + cn k), by omega⟩
            rw [wN_far (b := sz (k + 1)) (Or.inr (by omega)), wN_far (b := sz (k + 1)) (Or.inr (by omega)), up_in, up_in, ← Nat.mul_add, ← wN_split k _ _ i (by omega) h0]
        · rw [if_neg hm, if_neg hm, if_neg hm]
    · rw [if_neg hva, if_neg hva, if_neg hva]
end Ben
