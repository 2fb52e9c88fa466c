import Derived.Test.YtdhlikedjephmaaDr6
namespace Heat
open Go Go.RowKit
def fB : Nat → Nat
  | 0 => 1
  | n + 1 => (n + 1) * (200 * fB n)
theorem sumI_le {f : Nat → Int} {M : Nat} : ∀ {n : Nat}, (∀ k, k < n → (f k).natAbs ≤ M) → (sumI f n).natAbs ≤ n * M
  | 0, _ => by unfold sumI; simp
  | n + 1, h => by
    have h1 := sumI_le (n := n) fun k hk => h k (by omega)
    have h2 := h n (by omega)
    unfold sumI
    rw [Nat.add_mul]
    omega
theorem term_le {k : Nat} {a b : Int} {A B : Nat} (ha : a.natAbs ≤ A) (hb : b.natAbs ≤ B) : (sgnK k * a * b).natAbs ≤ A * B := by
  rw [Int.natAbs_mul, Int.natAbs_mul, show (sgnK k).natAbs = 1 from by rcases sgnK_or k with h | h <;> rw [h] <;> rfl, Nat.one_mul]
  exact Nat.mul_le_mul ha hb
theorem detP_b0 : ∀ {n : Nat} {F : Nat → Nat → Int}, (∀ i, i < n → ∀ j, j < n → (F i j).natAbs ≤ 200) → (detP n F).natAbs ≤ fB n
  | 0, _, _ => by unfold detP fB; decide
  | n + 1, F, h => by
    unfold detP detPU fB
    refine sumI_le fun k hk => ?_
    refine term_le (h 0 (by omega) k hk) (detP_b0 fun i hi j hj => ?_)
    unfold mnF
    exact h _ (by omega) _ (by split <;> omega)
theorem detP_b1 : ∀ {n s : Nat} {F : Nat → Nat → Int}, s < n + 1 → (∀ i, i < n + 1 → ∀ j, j < n + 1 → ¬ j = s → (F i j).natAbs ≤ 200) → (∀ i, i < n + 1 → (F i s).natAbs ≤ 1000000) → (detP (n + 1) F).natAbs ≤ (n + 1) * (1000000 * fB n)
  | n, s, F, hs, h, hc => by
    unfold detP detPU
    refine sumI_le fun k hk => ?_
    (try dsimp only)
    by_cases e : k = s
    · subst e
      refine term_le (hc 0 (by omega)) (detP_b0 fun i hi j hj => ?_)
      unfold mnF
      exact h _ (by omega) _ (by split <;> omega) (by split <;> omega)
    · cases n with
      | zero => omega
      | succ m =>
        have h1 := detP_b1 (n := m) (s := if s < k then s else s - 1) (F := mnF k F) (by split <;> omega) (fun i hi j hj hne => by
          unfold mnF
          refine h _ (by omega) _ (by split <;> omega) ?_
          split at hne <;> split <;> omega) (fun i hi => by
          unfold mnF
          have e2 : (if (if s < k then s else s - 1) < k then (if s < k then s else s - 1) else (if s < k then s else s - 1) + 1) = s := by
            by_cases h3 : s < k
            · rw [if_pos h3, if_pos h3]
            · rw [if_neg h3, if_neg (by omega)]; omega
          rw [e2]
          exact hc _ (by omega))
        have h2 := term_le (k := k) (h 0 (by omega) k hk e) h1
        have e3 : 200 * ((m + 1) * (1000000 * fB m)) = 1000000 * fB (m + 1) := by
          show 200 * ((m + 1) * (1000000 * fB m)) = 1000000 * ((m + 1) * (200 * fB m))
          have a1 : (m + 1) * (1000000 * fB m) = 1000000 * ((m + 1) * fB m) := Nat.mul_left_comm _ _ _
          have a2 : (m + 1) * (200 * fB m) = 200 * ((m + 1) * fB m) := Nat.mul_left_comm _ _ _
          rw [a1, a2]; omega
        omega
theorem fB_le {n : Nat} (h : n ≤ 5) : fB n ≤ 38400000000000 := by
  rcases (show n = 0 ∨ n = 1 ∨ n = 2 ∨ n = 3 ∨ n = 4 ∨ n = 5 by omega) with rfl | rfl | rfl | rfl | rfl | rfl <;> decide
theorem fB_le1 {n : Nat} (h : n ≤ 4) : (n + 1) * (1000000 * fB n) ≤ 192000000000000000 := by
  rcases (show n = 0 ∨ n = 1 ∨ n = 2 ∨ n = 3 ∨ n = 4 by omega) with rfl | rfl | rfl | rfl | rfl <;> decide
theorem wrap_small {x : Int} (h : x.natAbs ≤ 192000000000000000) : wrap64 x = x := by simp only [wrap64]; omega
/-- The determinant of a bank is small. -/
theorem detN_small {N : Nat} {F : Nat → Nat → Int} (hN : N ≤ 5) (hF : ∀ i, i < N → ∀ j, j < N → -200 ≤ F i j ∧ F i j ≤ 200) : (detN N (gnL N N F)).natAbs ≤ 1000000000000000000 := by
  rw [← detM_N hN, detM_P]
  have h := detP_b0 (n := N) (F := F) fun i hi j hj => by have := hF i hi j hj; omega
  have := fB_le hN
  rw [wrap_small (by omega)]
  omega
/-- A column in the place of another one. -/
def wcF (k : Nat) (C : Nat → Int) (F : Nat → Nat → Int) (i j : Nat) : Int := if j = k then C i else F i j
theorem wi_wc {N k : Nat} {C : Nat → Int} {F : Nat → Nat → Int} (hN : N ≤ 5) : detN N (wiL k N (padI N C) (gnL N N F)) = detM N (wcF k C F) := by
  rw [detM_P, detN_P hN]
  congr 1
  refine detP_congr fun i hi j hj => ?_
  have h5 : (i * 5 + j) / 5 = i ∧ (i * 5 + j) % 5 = j := by omega
  unfold wiL gnL padI wcF
  rw [h5.1, h5.2]
  by_cases e : j = k
  · rw [if_pos ⟨e, hi⟩, if_pos hi, if_pos e]
  · rw [if_neg (fun h => e h.1), if_pos ⟨hi, hj⟩, if_neg e]
/-- So is that with a column of phases. -/
theorem detN_small1 {N k : Nat} {C : Nat → Int} {F : Nat → Nat → Int} (hN : N ≤ 5) (hk : k < N) (hF : ∀ i, i < N → ∀ j, j < N → -200 ≤ F i j ∧ F i j ≤ 200) (hC : ∀ i, i < N → -1000000 ≤ C i ∧ C i ≤ 1000000) : (detM N (wcF k C F)).natAbs ≤ 1000000000000000000 := by
  rw [detM_P]
  obtain ⟨n, rfl⟩ : ∃ n, N = n + 1 := ⟨N - 1, by omega⟩
  have h := detP_b1 (n := n) (s := k) (F := wcF k C F) hk (fun i hi j hj hne => by unfold wcF; rw [if_neg hne]; have := hF i hi j hj; omega) (fun i hi => by unfold wcF; rw [if_pos rfl]; have := hC i hi; omega)
  have := fB_le1 (n := n) (by omega)
  rw [wrap_small (by omega)]
  omega
end Heat
