import Derived.Test.YtdhlikedjephmaaHo
namespace Heat
open Go Go.RowKit
theorem wrap_cong (x t : Int) : wrap64 (x + 18446744073709551616 * t) = wrap64 x := by simp only [wrap64]; omega
theorem wrap_is (a : Int) : ∃ u, wrap64 a = a + 18446744073709551616 * u := by
  refine ⟨-((a + 9223372036854775808) / 18446744073709551616), ?_⟩
  simp only [wrap64]; omega
theorem wrap_add (a b : Int) : wrap64 (wrap64 a + wrap64 b) = wrap64 (a + b) := by
  obtain ⟨u, hu⟩ := wrap_is a
  obtain ⟨v, hv⟩ := wrap_is b
  rw [hu, hv, show a + 18446744073709551616 * u + (b + 18446744073709551616 * v) = a + b + 18446744073709551616 * (u + v) by omega, wrap_cong]
theorem wrap_mul (a b : Int) : wrap64 (wrap64 a * wrap64 b) = wrap64 (a * b) := by
  obtain ⟨u, hu⟩ := wrap_is a
  obtain ⟨v, hv⟩ := wrap_is b
  rw [hu, hv, show (a + 18446744073709551616 * u) * (b + 18446744073709551616 * v) = a * b + 18446744073709551616 * (u * b + a * v + 18446744073709551616 * (u * v)) by grind, wrap_cong]
theorem wrap_neg (a : Int) : wrap64 (-wrap64 a) = wrap64 (-a) := by
  obtain ⟨u, hu⟩ := wrap_is a
  rw [hu, show -(a + 18446744073709551616 * u) = -a + 18446744073709551616 * (-u) by omega, wrap_cong]
/-- The matrix without its first row and the column k. -/
def mnF (k : Nat) (F : Nat → Nat → Int) (i j : Nat) : Int := F (i + 1) (if j < k then j else j + 1)
def detPU (d r : Nat → Int) (m : Nat) : Int := sumI (fun k => sgnK k * r k * d k) m
/-- The determinant, in whole numbers. -/
def detP : Nat → (Nat → Nat → Int) → Int
  | 0, _ => 1
  | n + 1, F => detPU (fun k => detP n (mnF k F)) (F 0) (n + 1)
theorem sumI_congr {f g : Nat → Int} : ∀ {n : Nat}, (∀ k, k < n → f k = g k) → sumI f n = sumI g n
  | 0, _ => rfl
  | n + 1, h => by unfold sumI; rw [sumI_congr fun k hk => h k (by omega), h n (by omega)]
theorem detP_congr : ∀ {n : Nat} {F G : Nat → Nat → Int}, (∀ i, i < n → ∀ j, j < n → F i j = G i j) → detP n F = detP n G
  | 0, _, _, _ => rfl
  | n + 1, F, G, h => by
    unfold detP detPU
    refine sumI_congr fun k hk => ?_
    (try dsimp only)
    rw [h 0 (by omega) k hk, detP_congr (n := n) (F := mnF k F) (G := mnF k G) fun i hi j hj => by unfold mnF; split <;> exact h _ (by omega) _ (by omega)]
theorem detU_P {d' d L : Nat → Int} : ∀ {m : Nat}, (∀ k, k < m → d' k = wrap64 (d k)) → detU d' L m = wrap64 (detPU d L m)
  | 0, _ => by unfold detU detPU sumI; simp [wrap64]
  | m + 1, h => by
    have ih := detU_P (d' := d') (d := d) (L := L) (m := m) fun k hk => h k (by omega)
    unfold detU
    rw [ih, h m (by omega), wrap_mul, wrap_add]
    rfl
/-- The determinant in words is that in whole numbers, modulo 2^64. -/
theorem detN_P : ∀ {n : Nat} {L : Nat → Int}, n ≤ 5 → detN n L = wrap64 (detP n fun i j => L (i * 5 + j))
  | 0, _, _ => by unfold detN detP; simp [wrap64]
  | n + 1, L, h => by
    show detU (fun k => detN n (minL k n L)) L (n + 1) = _
    rw [detU_P (d := fun k => detP n (mnF k fun i j => L (i * 5 + j))) (fun k hk => ?_)]
    · congr 1
      show detPU _ L (n + 1) = detPU _ (fun j => L (0 * 5 + j)) (n + 1)
      unfold detPU
      refine sumI_congr fun k hk => ?_
      (try dsimp only)
      rw [show 0 * 5 + k = k by omega]
    · (try dsimp only)
      rw [detN_P (by omega)]
      congr 1
      refine detP_congr fun i hi j hj => ?_
      unfold mnF minL
      have h5 : (i * 5 + j) / 5 = i ∧ (i * 5 + j) % 5 = j := by omega
      rw [h5.1, h5.2, if_pos ⟨hi, by omega⟩]
theorem sumI_neg {f : Nat → Int} : ∀ {n : Nat}, sumI (fun k => - f k) n = - sumI f n
  | 0 => rfl
  | n + 1 => by unfold sumI; rw [sumI_neg]; omega
theorem sumI_add {f g : Nat → Int} : ∀ {n : Nat}, sumI (fun k => f k + g k) n = sumI f n + sumI g n
  | 0 => rfl
  | n + 1 => by unfold sumI; rw [sumI_add]; omega
theorem sumI_mul {c : Int} {f : Nat → Int} : ∀ {n : Nat}, sumI (fun k => c * f k) n = c * sumI f n
  | 0 => by unfold sumI; simp
  | n + 1 => by unfold sumI; rw [sumI_mul, Int.mul_add]
theorem sumI_zero : ∀ {n : Nat}, sumI (fun _ => 0) n = 0
  | 0 => rfl
  | n + 1 => by unfold sumI; rw [sumI_zero]; rfl
theorem sumI_swap {f : Nat → Nat → Int} {n : Nat} : ∀ {m : Nat}, sumI (fun i => sumI (fun j => f i j) n) m = sumI (fun j => sumI (fun i => f i j) m) n
  | 0 => by
    show (0 : Int) = sumI (fun _ => 0) n
    rw [sumI_zero]
  | m + 1 => by
    show sumI (fun i => sumI (fun j => f i j) n) m + sumI (fun j => f m j) n = sumI (fun j => sumI (fun i => f i j) m + f m j) n
    rw [sumI_add, sumI_swap]
theorem sumI_skip {g : Nat → Int} {k : Nat} : ∀ {m : Nat}, k ≤ m → sumI (fun l => g (if l < k then l else l + 1)) m = sumI g (m + 1) - g k
  | 0, h => by
    obtain rfl : k = 0 := by omega
    show (0 : Int) = (0 + g 0) - g 0
    omega
  | m + 1, h => by
    show sumI (fun l => g (if l < k then l else l + 1)) m + g (if m < k then m else m + 1) = sumI g (m + 1) + g (m + 1) - g k
    by_cases e : k = m + 1
    · subst e
      rw [if_pos (by omega), sumI_congr (g := g) fun l hl => by rw [if_pos (by omega)]]
      show sumI g m + g m = (sumI g m + g m) + g (m + 1) - g (m + 1)
      omega
    · rw [sumI_skip (by omega), if_neg (by omega)]
      omega
/-- The rows i and k exchanged. -/
def swR (i k : Nat) (F : Nat → Nat → Int) (a : Nat) : Nat → Int := if a = i then F k else if a = k then F i else F a
theorem swR_comm {i k : Nat} {F : Nat → Nat → Int} : swR i k F = swR k i F := by
  funext a
  unfold swR
  by_cases h1 : a = i
  · by_cases h2 : a = k
    · subst h1; subst h2; rfl
    · rw [if_pos h1, if_neg h2, if_pos h1]
  · by_cases h2 : a = k
    · rw [if_neg h1, if_pos h2, if_pos h2]
    · rw [if_neg h1, if_neg h2, if_neg h2, if_neg h1]
theorem mnF_low {i k c : Nat} {F : Nat → Nat → Int} : mnF c (swR (i + 1) (k + 1) F) = swR i k (mnF c F) := by
  funext a b
  unfold mnF swR
  by_cases h1 : a = i
  · subst h1; rw [if_pos rfl, if_pos rfl]
  · rw [if_neg (by omega), if_neg h1]
    by_cases h2 : a = k
    · subst h2; rw [if_pos rfl, if_pos rfl]
    · rw [if_neg (by omega), if_neg h2]
theorem detP_low {n i k : Nat} {F : Nat → Nat → Int} (h : ∀ G, detP n (swR i k G) = - detP n G) : detP (n + 1) (swR (i + 1) (k + 1) F) = - detP (n + 1) F := by
  unfold detP detPU
  rw [← sumI_neg]
  refine sumI_congr fun c hc => ?_
  (try dsimp only)
  rw [mnF_low, h]
  have e : swR (i + 1) (k + 1) F 0 = F 0 := by unfold swR; rw [if_neg (by omega), if_neg (by omega)]
  rw [e, Int.mul_neg]
theorem mnF_two {n k c : Nat} {F : Nat → Nat → Int} (h : c < k) : detP n (mnF (k - 1) (mnF c F)) = detP n (mnF c (mnF k F)) := by
  refine detP_congr fun i _ j _ => ?_
  unfold mnF
  congr 1
  (repeat' split) <;> omega
theorem sgnK_pred {c : Nat} (h : 0 < c) : sgnK (c - 1) = - sgnK c := by
  obtain ⟨d, rfl⟩ : ∃ d, c = d + 1 := ⟨c - 1, by omega⟩
  rw [sgnK_next, show d + 1 - 1 = d from rfl]; omega
/-- The rest behind two columns. -/
def twoM (n : Nat) (F : Nat → Nat → Int) (k c : Nat) : Int := if c < k then detP n (mnF c (mnF k F)) else if k < c then - detP n (mnF (c - 1) (mnF k F)) else 0
theorem twoM_anti {n : Nat} {F : Nat → Nat → Int} {k c : Nat} : twoM n F k c = - twoM n F c k := by
  unfold twoM
  by_cases h1 : c < k
  · rw [if_pos h1, if_neg (by omega), if_pos h1, mnF_two h1]; omega
  · by_cases h2 : k < c
    · rw [if_neg h1, if_pos h2, if_pos h2, mnF_two h2]
    · rw [if_neg h1, if_neg h2, if_neg h2, if_neg h1]; rfl
theorem detP_two {n : Nat} {F : Nat → Nat → Int} : detP (n + 2) F = sumI (fun k => sumI (fun c => sgnK k * sgnK c * F 0 k * F 1 c * twoM n F k c) (n + 2)) (n + 2) := by
  show detPU (fun k => detP (n + 1) (mnF k F)) (F 0) (n + 2) = _
  unfold detPU
  refine sumI_congr fun k hk => ?_
  have h := sumI_skip (g := fun c => sgnK k * sgnK c * F 0 k * F 1 c * twoM n F k c) (k := k) (m := n + 1) (by omega)
  have h0 : twoM n F k k = 0 := by unfold twoM; rw [if_neg (by omega), if_neg (by omega)]
  (try dsimp only at h)
  rw [h0, Int.mul_zero, Int.sub_zero] at h
  rw [← h]
  show sgnK k * F 0 k * detPU (fun l => detP n (mnF l (mnF k F))) (mnF k F 0) (n + 1) = _
  unfold detPU
  rw [← sumI_mul]
  refine sumI_congr fun l hl => ?_
  (try dsimp only)
  show sgnK k * F 0 k * (sgnK l * F 1 (if l < k then l else l + 1) * detP n (mnF l (mnF k F))) = _
  unfold twoM
  by_cases e : l < k
  · rw [if_pos e, if_pos e]; grind
  · rw [if_neg e, if_neg (by omega), if_pos (by omega), show l + 1 - 1 = l from rfl, sgnK_next]; grind
theorem detP_top {n : Nat} {F : Nat → Nat → Int} : detP (n + 2) (swR 0 1 F) = - detP (n + 2) F := by
  rw [detP_two, detP_two, sumI_swap, ← sumI_neg]
  refine sumI_congr fun k hk => ?_
  rw [← sumI_neg]
  refine sumI_congr fun c hc => ?_
  have e0 : swR 0 1 F 0 = F 1 := by unfold swR; rw [if_pos rfl]
  have e1 : swR 0 1 F 1 = F 0 := by unfold swR; rw [if_neg (by omega), if_pos rfl]
  have e2 : twoM n (swR 0 1 F) c k = twoM n F c k := by
    have h : ∀ x y, mnF x (mnF y (swR 0 1 F)) = mnF x (mnF y F) := fun x y => by
      funext a b
      unfold mnF swR
      rw [if_neg (by omega), if_neg (by omega)]
    unfold twoM
    rw [h, h]
  rw [e0, e1, e2, twoM_anti (k := c) (c := k)]
  grind
theorem detP_next : ∀ {n i : Nat} {F : Nat → Nat → Int}, i + 1 < n → detP n (swR i (i + 1) F) = - detP n F
  | 0, _, _, h => by omega
  | 1, _, _, h => by omega
  | n + 2, 0, F, _ => detP_top
  | n + 2, i + 1, F, h => detP_low (n := n + 1) (i := i) (k := i + 1) fun G => detP_next (by omega)
/-- Two rows exchanged change the sign. -/
theorem detP_swap {n : Nat} : ∀ {d i : Nat} {F : Nat → Nat → Int}, i + d + 1 < n → detP n (swR i (i + d + 1) F) = - detP n F
  | 0, i, F, h => detP_next h
  | d + 1, i, F, h => by
    have e : swR i (i + (d + 1) + 1) F = swR (i + d + 1) (i + d + 1 + 1) (swR i (i + d + 1) (swR (i + d + 1) (i + d + 1 + 1) F)) := by
      funext a
      unfold swR
      by_cases h1 : a = i
      · subst h1
        rw [if_pos rfl, if_neg (show ¬ a = a + d + 1 by omega), if_neg (show ¬ a = a + d + 1 + 1 by omega), if_pos rfl, if_pos rfl]
        rfl
      · by_cases h2 : a = i + d + 1
        · subst h2
          rw [if_neg h1, if_neg (by omega), if_pos rfl, if_neg (show ¬ i + d + 1 + 1 = i by omega), if_neg (show ¬ i + d + 1 + 1 = i + d + 1 by omega), if_neg (show ¬ i + d + 1 + 1 = i + d + 1 by omega), if_pos rfl]
        · by_cases h3 : a = i + d + 1 + 1
          · rw [if_neg h1, if_pos (by omega), if_neg h2, if_pos h3, if_neg (show ¬ i + d + 1 = i by omega), if_pos rfl, if_neg (show ¬ i = i + d + 1 by omega), if_neg (show ¬ i = i + d + 1 + 1 by omega)]
          · rw [if_neg h1, if_neg (by omega), if_neg h2, if_neg h3, if_neg h1, if_neg h2, if_neg h2, if_neg h3]
    rw [e, detP_next (by omega), detP_swap (by omega), detP_next (by omega)]
    omega
theorem detP_exch {n i k : Nat} {F : Nat → Nat → Int} (hi : i < n) (hk : k < n) (h : ¬ i = k) : detP n (swR i k F) = - detP n F := by
  rcases Nat.lt_or_gt_of_ne h with h | h
  · obtain ⟨d, rfl⟩ : ∃ d, k = i + d + 1 := ⟨k - i - 1, by omega⟩
    exact detP_swap (by omega)
  · obtain ⟨d, rfl⟩ : ∃ d, i = k + d + 1 := ⟨i - k - 1, by omega⟩
    rw [swR_comm]
    exact detP_swap (by omega)
/-- A row that is there twice makes it 0. -/
theorem detP_twice {n i k : Nat} {F : Nat → Nat → Int} (hi : i < n) (hk : k < n) (h : ¬ i = k) (he : F i = F k) : detP n F = 0 := by
  have e : swR i k F = F := by
    funext a
    unfold swR
    by_cases h1 : a = i
    · subst h1; rw [if_pos rfl, he]
    · by_cases h2 : a = k
      · subst h2; rw [if_neg h1, if_pos rfl, he]
      · rw [if_neg h1, if_neg h2]
  have := detP_exch (F := F) hi hk h
  rw [e] at this
  omega
end Heat
