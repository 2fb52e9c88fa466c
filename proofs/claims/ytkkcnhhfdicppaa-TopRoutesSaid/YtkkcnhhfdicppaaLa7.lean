namespace Lay
/-- One function value changed. -/
def upd {α : Type} (f : Nat → α) (i : Nat) (x : α) : Nat → α := fun k => if k = i then x else f k
theorem upd_eq {α : Type} (f : Nat → α) (i : Nat) (x : α) : upd f i x i = x := by simp [upd]
theorem upd_ne {α : Type} (f : Nat → α) {i k : Nat} (x : α) (h : k ≠ i) : upd f i x k = f k := by simp [upd, h]
/-- Two exchanged. -/
def swp {α : Type} (f : Nat → α) (i j : Nat) : Nat → α := fun k => if k = j then f i else if k = i then f j else f k
theorem swp_l {α : Type} (f : Nat → α) (i j : Nat) : swp f i j i = f j := by unfold swp; split <;> simp_all
theorem swp_r {α : Type} (f : Nat → α) (i j : Nat) : swp f i j j = f i := by unfold swp; simp
theorem swp_o {α : Type} (f : Nat → α) {i j k : Nat} (h1 : k ≠ i) (h2 : k ≠ j) : swp f i j k = f k := by unfold swp; simp [h1, h2]
theorem swp_mem {α : Type} (f : Nat → α) {i j n : Nat} (hi : i < n) (hj : j < n) (x : α) : (∃ k, k < n ∧ swp f i j k = x) ↔ ∃ k, k < n ∧ f k = x := by
  constructor
  · rintro ⟨k, hk, h⟩
    by_cases h2 : k = j
    · subst h2; rw [swp_r] at h; exact ⟨i, hi, h⟩
    · by_cases h1 : k = i
      · subst h1; rw [swp_l] at h; exact ⟨j, hj, h⟩
      · rw [swp_o f h1 h2] at h; exact ⟨k, hk, h⟩
  · rintro ⟨k, hk, h⟩
    by_cases h2 : k = j
    · subst h2; exact ⟨i, hi, by rw [swp_l]; exact h⟩
    · by_cases h1 : k = i
      · subst h1; exact ⟨j, hj, by rw [swp_r]; exact h⟩
      · exact ⟨k, hk, by rw [swp_o f h1 h2]; exact h⟩
/-- The costs are a heap: a parent costs no more than its children. -/
def Hp {α : Type} (c : α → Int) (f : Nat → α) (n : Nat) : Prop := ∀ k, 0 < k → k < n → c (f ((k - 1) / 2)) ≤ c (f k)
/-- .. but for one, whose parent costs no more than its children. -/
def HpUp {α : Type} (c : α → Int) (f : Nat → α) (n j : Nat) : Prop :=
  (∀ k, 0 < k → k < n → k ≠ j → c (f ((k - 1) / 2)) ≤ c (f k)) ∧ (0 < j → ∀ k, 0 < k → k < n → (k - 1) / 2 = j → c (f ((j - 1) / 2)) ≤ c (f k))
/-- .. but for the children of one, whose parent costs no more than they. -/
def HpDn {α : Type} (c : α → Int) (f : Nat → α) (n i : Nat) : Prop :=
  (∀ k, 0 < k → k < n → (k - 1) / 2 ≠ i → c (f ((k - 1) / 2)) ≤ c (f k)) ∧ (0 < i → ∀ k, 0 < k → k < n → (k - 1) / 2 = i → c (f ((i - 1) / 2)) ≤ c (f k))
theorem Hp.root {α : Type} {c : α → Int} {f : Nat → α} {n : Nat} (h : Hp c f n) : ∀ k, k < n → c (f 0) ≤ c (f k) := by
  intro k
  induction k using Nat.strongRecOn with
  | ind k ih =>
    intro hk
    by_cases h0 : k = 0
    · subst h0; exact Int.le_refl _
    · have h1 := ih ((k - 1) / 2) (by omega) (by omega)
      have h2 := h k (by omega) hk
      omega
theorem up_stop0 {α : Type} {c : α → Int} {f : Nat → α} {n : Nat} (h : HpUp c f n 0) : Hp c f n := fun k h0 hk => h.1 k h0 hk (by omega)
theorem up_stop {α : Type} {c : α → Int} {f : Nat → α} {n j : Nat} (h : HpUp c f n j) (hc : ¬ c (f j) < c (f ((j - 1) / 2))) : Hp c f n := by
  intro k h0 hk
  by_cases hj : k = j
  · subst hj; omega
  · exact h.1 k h0 hk hj
theorem up_step {α : Type} {c : α → Int} {f : Nat → α} {n j : Nat} (h : HpUp c f n j) (h0 : 0 < j) (hn : j < n) (hc : c (f j) < c (f ((j - 1) / 2))) : HpUp c (swp f ((j - 1) / 2) j) n ((j - 1) / 2) := by
  have hij : (j - 1) / 2 < j := by omega
  generalize hi : (j - 1) / 2 = i at *
  refine ⟨?_, ?_⟩
  · intro k hk0 hkn hki
    by_cases hkj : k = j
    · subst hkj
      rw [hi, swp_l, swp_r]; omega
    · rw [swp_o f hki hkj]
      by_cases hp : (k - 1) / 2 = j
      · rw [hp, swp_r]
        have := h.2 h0 k hk0 hkn hp
        rw [hi] at this
        exact this
      · by_cases hq : (k - 1) / 2 = i
        · rw [hq, swp_l]
          have := h.1 k hk0 hkn hkj
          rw [hq] at this
          omega
        · rw [swp_o f hq hp]
          exact h.1 k hk0 hkn hkj
  · intro hi0 k hk0 hkn hp
    have hg : (i - 1) / 2 < i := by omega
    rw [swp_o f (by omega) (by omega)]
    have h1 := h.1 i hi0 (by omega) (by omega)
    by_cases hkj : k = j
    · subst hkj
      rw [swp_r]
      exact h1
    · rw [swp_o f (by omega) hkj]
      have h2 := h.1 k hk0 hkn hkj
      rw [hp] at h2
      omega
/-- The lesser child. -/
def les {α : Type} (c : α → Int) (f : Nat → α) (n i : Nat) : Nat := if 2 * i + 2 < n ∧ c (f (2 * i + 2)) < c (f (2 * i + 1)) then 2 * i + 2 else 2 * i + 1
theorem les_par {α : Type} (c : α → Int) (f : Nat → α) (n i : Nat) : (les c f n i - 1) / 2 = i := by unfold les; split <;> omega
theorem les_pos {α : Type} (c : α → Int) (f : Nat → α) (n i : Nat) : i < les c f n i := by unfold les; split <;> omega
theorem les_lt {α : Type} (c : α → Int) (f : Nat → α) {n i : Nat} (h : 2 * i + 1 < n) : les c f n i < n := by unfold les; split <;> omega
theorem les_le {α : Type} (c : α → Int) (f : Nat → α) {n i k : Nat} (hk0 : 0 < k) (hk : k < n) (hp : (k - 1) / 2 = i) : c (f (les c f n i)) ≤ c (f k) := by
  have : k = 2 * i + 1 ∨ k = 2 * i + 2 := by omega
  unfold les
  split
  · next h =>
    rcases this with rfl | rfl <;> omega
  · next h =>
    rcases this with rfl | rfl
    · omega
    · by_cases hl : c (f (2 * i + 2)) < c (f (2 * i + 1))
      · exact absurd ⟨hk, hl⟩ h
      · omega
theorem dn_stop0 {α : Type} {c : α → Int} {f : Nat → α} {n i : Nat} (h : HpDn c f n i) (hn : ¬ 2 * i + 1 < n) : Hp c f n := fun k h0 hk => h.1 k h0 hk (by omega)
theorem dn_stop {α : Type} {c : α → Int} {f : Nat → α} {n i : Nat} (h : HpDn c f n i) (hc : ¬ c (f (les c f n i)) < c (f i)) : Hp c f n := by
  intro k h0 hk
  by_cases hp : (k - 1) / 2 = i
  · have := les_le c f h0 hk hp
    rw [hp]; omega
  · exact h.1 k h0 hk hp
theorem dn_step {α : Type} {c : α → Int} {f : Nat → α} {n i : Nat} (h : HpDn c f n i) (hn : 2 * i + 1 < n) (hc : c (f (les c f n i)) < c (f i)) : HpDn c (swp f i (les c f n i)) n (les c f n i) := by
  have hl := les_lt c f hn
  have hpar := les_par c f n i
  have hpos := les_pos c f n i
  have hle := fun k h0 hk hp => les_le c f (n := n) (i := i) (k := k) h0 hk hp
  generalize les c f n i = j at *
  refine ⟨?_, ?_⟩
  · intro k hk0 hkn hkp
    by_cases hkj : k = j
    · subst hkj
      rw [hpar, swp_l, swp_r]; omega
    · by_cases hki : k = i
      · subst hki
        rw [swp_l, swp_o f (by omega) (by omega)]
        exact h.2 hk0 j (by omega) hl hpar
      · rw [swp_o f hki hkj]
        by_cases hp : (k - 1) / 2 = i
        · rw [hp, swp_l]
          exact hle k hk0 hkn hp
        · rw [swp_o f hp hkp]
          exact h.1 k hk0 hkn hp
  · intro _ k hk0 hkn hp
    rw [hpar, swp_l, swp_o f (by omega) (by omega)]
    have := h.1 k hk0 hkn (by omega)
    rw [hp] at this
    exact this
/-- A new one at the end. -/
theorem push_up {α : Type} {c : α → Int} {f : Nat → α} {n : Nat} (h : Hp c f n) (x : α) : HpUp c (upd f n x) (n + 1) n := by
  refine ⟨?_, ?_⟩
  · intro k h0 hk hn
    rw [upd_ne f x (by omega), upd_ne f x hn]
    exact h k h0 (by omega)
  · intro h0 k hk0 hk hp
    omega
/-- The first and the last exchanged: a heap of one less, but for the root's children. -/
theorem pop_dn {α : Type} {c : α → Int} {f : Nat → α} {n : Nat} (h : Hp c f (n + 1)) : HpDn c (swp f 0 n) n 0 := by
  refine ⟨?_, fun h0 => absurd h0 (by omega)⟩
  intro k hk0 hk hp
  rw [swp_o f (by omega) (by omega), swp_o f (by omega) (by omega)]
  exact h k hk0 (by omega)
end Lay
