import Derived.Test.YtkkcnhhfdicppaaCq7
namespace Lay
/-- The direction from a cell to its neighbour, or −1. -/
def wyS (x y p q : Int) : Int := if y = q ∧ x + 1 = p then 0 else if x = p ∧ y + 1 = q then 1 else if y = q ∧ p + 1 = x then 2 else if x = p ∧ q + 1 = y then 3 else -1
def wyN (X Y : Nat → Int) (k : Nat) : Int := wyS (X k) (Y k) (X (k + 1)) (Y (k + 1))
theorem wyS_range (x y p q : Int) : -1 ≤ wyS x y p q ∧ wyS x y p q < 4 := by unfold wyS; repeat' split <;> omega
theorem wyS_iff {x y p q d : Int} (h0 : 0 ≤ d) (h4 : d < 4) : wyS x y p q = d ↔ nx x d = p ∧ ny y d = q := by
  have : d = 0 ∨ d = 1 ∨ d = 2 ∨ d = 3 := by omega
  unfold wyS
  rcases this with rfl | rfl | rfl | rfl <;> simp [nx, ny] <;> (repeat' split) <;> omega
/-- The first steps all go to neighbours. -/
def stB (X Y : Nat → Int) : Nat → Bool
  | 0 => true
  | n + 1 => stB X Y n && decide (wyN X Y n ≠ -1)
theorem stB_stop {X Y : Nat → Int} {k : Nat} (h : wyN X Y k = -1) : ∀ n, k < n → stB X Y n = false := by
  intro n
  induction n with
  | zero => intro h; omega
  | succ n ih =>
    intro hk
    simp only [stB]
    by_cases e : k = n
    · subst e; simp [h]
    · rw [ih (by omega)]; rfl
theorem stB_iff {X Y : Nat → Int} : ∀ {n : Nat}, stB X Y n = true ↔ ∀ k, k < n → wyN X Y k ≠ -1
  | 0 => ⟨fun _ k hk => by omega, fun _ => rfl⟩
  | n + 1 => by
    simp only [stB, Bool.and_eq_true, stB_iff (n := n), decide_eq_true_eq]
    constructor
    · intro h k hk
      by_cases e : k = n
      · rw [e]; exact h.2
      · exact h.1 k (by omega)
    · intro h
      exact ⟨fun k hk => h k (by omega), h n (by omega)⟩
/-- Cells that could be a path on a grid without limits. -/
def paB (X Y : Nat → Int) (n : Nat) : Bool := decide (1 ≤ n ∧ n ≤ 1000) && (!repN X Y n && stB X Y (n - 1))
/-- All cells may be used. -/
def opA (W H : Int) (K : Int → Int → Bool) (X Y : Nat → Int) : Nat → Bool
  | 0 => true
  | n + 1 => opA W H K X Y n && opB W H K (X n) (Y n)
theorem opA_stop {W H : Int} {K : Int → Int → Bool} {X Y : Nat → Int} {k : Nat} (h : opB W H K (X k) (Y k) = false) : ∀ n, k < n → opA W H K X Y n = false := by
  intro n
  induction n with
  | zero => intro h; omega
  | succ n ih =>
    intro hk
    simp only [opA]
    by_cases e : k = n
    · subst e; simp [h]
    · rw [ih (by omega)]; rfl
theorem opA_iff {W H : Int} {K : Int → Int → Bool} {X Y : Nat → Int} : ∀ {n : Nat}, opA W H K X Y n = true ↔ ∀ k, k < n → opB W H K (X k) (Y k) = true
  | 0 => ⟨fun _ k hk => by omega, fun _ => rfl⟩
  | n + 1 => by
    simp only [opA, Bool.and_eq_true, opA_iff (n := n)]
    constructor
    · intro h k hk
      by_cases e : k = n
      · rw [e]; exact h.2
      · exact h.1 k (by omega)
    · intro h
      exact ⟨fun k hk => h k (by omega), h n (by omega)⟩
theorem blkN_iff {X Y : Nat → Int} {x y : Int} : ∀ {n : Nat}, blkN X Y n x y = true ↔ ∃ k, k < n ∧ x = X k ∧ y = Y k
  | 0 => ⟨fun h => by simp [blkN] at h, fun ⟨k, hk, _⟩ => by omega⟩
  | n + 1 => by
    simp only [blkN, Bool.or_eq_true, blkN_iff (n := n), decide_eq_true_eq]
    constructor
    · rintro (⟨k, hk, h⟩ | h)
      · exact ⟨k, by omega, h⟩
      · exact ⟨n, by omega, h⟩
    · rintro ⟨k, hk, h⟩
      by_cases e : k = n
      · subst e; exact Or.inr h
      · exact Or.inl ⟨k, by omega, h⟩
theorem repN_iff {X Y : Nat → Int} : ∀ {n : Nat}, repN X Y n = false ↔ ∀ i j, i < j → j < n → ¬ (X j = X i ∧ Y j = Y i)
  | 0 => ⟨fun _ i j _ h => by omega, fun _ => rfl⟩
  | n + 1 => by
    simp only [repN, Bool.or_eq_false_iff, repN_iff (n := n)]
    constructor
    · rintro ⟨h1, h2⟩ i j hi hj
      by_cases e : j = n
      · subst e
        intro h
        rw [blkN_iff.2 ⟨i, hi, h⟩] at h2
        cases h2
      · exact h1 i j hi (by omega)
    · intro h
      refine ⟨fun i j hi hj => h i j hi (by omega), ?_⟩
      cases hb : blkN X Y n (X n) (Y n) with
      | false => rfl
      | true =>
        obtain ⟨k, hk, e⟩ := blkN_iff.1 hb
        exact absurd e (h k n hk (by omega))
/-- The error of a path on a board. -/
def chE (W H : Int) (K : Int → Int → Bool) (X Y : Nat → Int) (n : Nat) : Int := if paB X Y n = true then (if opA W H K X Y n = true then 0 else 72) else 71
theorem chE_ok {W H : Int} {K : Int → Int → Bool} {X Y : Nat → Int} {n : Nat} : chE W H K X Y n = 0 ↔ paB X Y n = true ∧ opA W H K X Y n = true := by
  unfold chE; split <;> simp_all
theorem chE_vals {W H : Int} {K : Int → Int → Bool} {X Y : Nat → Int} {n : Nat} : chE W H K X Y n = 0 ∨ chE W H K X Y n = 71 ∨ chE W H K X Y n = 72 := by
  unfold chE; split
  · split <;> simp
  · simp
theorem paB_iff {X Y : Nat → Int} {n : Nat} : paB X Y n = true ↔ (1 ≤ n ∧ n ≤ 1000) ∧ (∀ i j, i < j → j < n → ¬ (X j = X i ∧ Y j = Y i)) ∧ ∀ k, k < n - 1 → wyN X Y k ≠ -1 := by
  unfold paB
  rw [Bool.and_eq_true, Bool.and_eq_true, Bool.not_eq_true', repN_iff, stB_iff, decide_eq_true_eq]
/-- All numbers of some cells are numbers of 64 bits. -/
def R2 (X Y : Nat → Int) (n : Nat) : Prop := ∀ k, k < n → (-9223372036854775808 ≤ X k ∧ X k ≤ 9223372036854775807) ∧ -9223372036854775808 ≤ Y k ∧ Y k ≤ 9223372036854775807
/-- The direction of the step to a cell. -/
def pvN (X Y : Nat → Int) : Nat → Int
  | 0 => -1
  | k + 1 => wyN X Y k
/-- Bends of the first steps, and what these cost. -/
def beN (X Y : Nat → Int) : Nat → Int
  | 0 => 0
  | k + 1 => beN X Y k + (if pvN X Y k ≠ -1 ∧ wyN X Y k ≠ -1 ∧ pvN X Y k ≠ wyN X Y k then 1 else 0)
def coN (M B : Int) (X Y : Nat → Int) : Nat → Int
  | 0 => 0
  | k + 1 => coN M B X Y k + (M + bd B (pvN X Y k) (wyN X Y k))
theorem beN_le {X Y : Nat → Int} : ∀ k, 0 ≤ beN X Y k ∧ beN X Y k ≤ k
  | 0 => ⟨Int.le_refl _, Int.le_refl _⟩
  | k + 1 => by
    have := beN_le (X := X) (Y := Y) k
    simp only [beN]
    split <;> omega
theorem coN_le {M B : Int} {X Y : Nat → Int} (hM : 0 ≤ M ∧ M ≤ 1000) (hB : 0 ≤ B ∧ B ≤ 1000) : ∀ k : Nat, 0 ≤ coN M B X Y k ∧ coN M B X Y k ≤ 2000 * k
  | 0 => ⟨Int.le_refl _, by simp [coN]⟩
  | k + 1 => by
    have := coN_le (X := X) (Y := Y) hM hB k
    have := bd_le (i := pvN X Y k) (o := wyN X Y k) hB.1
    simp only [coN]
    omega
/-- The steps of a path are as odd as the distance of its ends. -/
theorem path_odd {X Y : Nat → Int} : ∀ {n : Nat}, (∀ k, k < n → wyN X Y k ≠ -1) → ((n : Int) + X 0 + Y 0 + X n + Y n) % 2 = 0
  | 0, _ => by omega
  | n + 1, h => by
    have ih := path_odd (X := X) (Y := Y) (n := n) (fun k hk => h k (by omega))
    have hn := h n (by omega)
    unfold wyN wyS at hn
    by_cases h0 : Y n = Y (n + 1) ∧ X n + 1 = X (n + 1)
    · omega
    rw [if_neg h0] at hn
    by_cases h1 : X n = X (n + 1) ∧ Y n + 1 = Y (n + 1)
    · omega
    rw [if_neg h1] at hn
    by_cases h2 : Y n = Y (n + 1) ∧ X (n + 1) + 1 = X n
    · omega
    rw [if_neg h2] at hn
    by_cases h3 : X n = X (n + 1) ∧ Y (n + 1) + 1 = Y n
    · omega
    rw [if_neg h3] at hn
    exact absurd rfl hn
end Lay
