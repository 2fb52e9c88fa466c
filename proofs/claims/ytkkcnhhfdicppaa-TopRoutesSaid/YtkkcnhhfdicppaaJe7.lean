import Derived.Test.YtkkcnhhfdicppaaPa7
import Derived.Test.YtkkcnhhfdicppaaMu7
namespace Lay
theorem ifc {a b : Prop} [Decidable a] [Decidable b] (h : a ↔ b) (x y : Int) : (if a then x else y) = if b then x else y := by by_cases ha : a <;> simp [ha, ← h]
/-- The sum of the first numbers. -/
def sm (f : Nat → Int) : Nat → Int
  | 0 => 0
  | n + 1 => sm f n + f n
theorem sm_congr {f g : Nat → Int} : ∀ {n : Nat}, (∀ i, i < n → f i = g i) → sm f n = sm g n
  | 0, _ => rfl
  | n + 1, h => by simp only [sm]; rw [sm_congr (n := n) (fun i hi => h i (by omega)), h n (by omega)]
theorem sm_zero {f : Nat → Int} {n : Nat} (h : ∀ i, i < n → f i = 0) : sm f n = 0 := by
  induction n with
  | zero => rfl
  | succ n ih => simp only [sm]; rw [ih (fun i hi => h i (by omega)), h n (by omega)]; rfl
theorem sm_one {f : Nat → Int} {n j : Nat} (hj : j < n) (h1 : f j = 1) (h : ∀ i, i < n → i ≠ j → f i = 0) : sm f n = 1 := by
  induction n with
  | zero => omega
  | succ n ih =>
    simp only [sm]
    by_cases e : j = n
    · subst e
      rw [sm_zero (fun i hi => h i (by omega) (by omega)), h1]; rfl
    · rw [ih (by omega) (fun i hi => h i (by omega)), h n (by omega) (fun k => e k.symm)]; rfl
theorem sm_add (f g : Nat → Int) : ∀ n, sm (fun i => f i + g i) n = sm f n + sm g n
  | 0 => rfl
  | n + 1 => by simp only [sm]; rw [sm_add f g n]; omega
theorem sm_swap (f : Nat → Nat → Int) (m : Nat) : ∀ n, sm (fun i => sm (f i) m) n = sm (fun j => sm (fun i => f i j) n) m
  | 0 => by rw [sm_zero (f := fun j => sm (fun i => f i j) 0) (fun i _ => rfl)]; rfl
  | n + 1 => by
    simp only [sm]
    rw [sm_swap f m n, ← sm_add]
/-- The part of a step's height: it goes between the columns a and a + 1, not below the row b. -/
def hsT (x y p q a b : Int) : Int := if y = q ∧ ((x = a ∧ p = a + 1) ∨ (p = a ∧ x = a + 1)) ∧ y ≤ b then 1 else 0
def unT (x y a b : Int) : Int := if x = a ∧ y ≤ b then 1 else 0
/-- The steps cross, if the second one is moved by half a cell. -/
def cxT (x y p q s t u v : Int) : Int :=
  if y = q ∧ s = u ∧ min x p = s ∧ max t v = y then 1 else if x = p ∧ t = v ∧ min y q = t ∧ max s u = x then 1 else 0
/-- A step that goes to the column a from its left, not above the row b. -/
def rtT (s t u v a b : Int) : Int := if t = v ∧ max s u = a ∧ b ≤ t then 1 else 0
def Adj (x y p q : Int) : Prop := (y = q ∧ (x + 1 = p ∨ p + 1 = x)) ∨ (x = p ∧ (y + 1 = q ∨ q + 1 = y))
theorem adj_wy {x y p q : Int} (h : wyS x y p q ≠ -1) : Adj x y p q := by
  unfold wyS at h
  unfold Adj
  by_cases h0 : y = q ∧ x + 1 = p
  · omega
  rw [if_neg h0] at h
  by_cases h1 : x = p ∧ y + 1 = q
  · omega
  rw [if_neg h1] at h
  by_cases h2 : y = q ∧ p + 1 = x
  · omega
  rw [if_neg h2] at h
  by_cases h3 : x = p ∧ q + 1 = y
  · omega
  rw [if_neg h3] at h
  exact absurd rfl h
set_option maxHeartbeats 8000000 in
theorem step2 {x y p q s t u v : Int} (ha : Adj x y p q) (hb : Adj s t u v) :
    (hsT x y p q s t + hsT x y p q u v + cxT x y p q s t u v + rtT s t u v x y + rtT s t u v p q) % 2 = 0 := by
  unfold hsT cxT rtT
  rcases ha with ⟨rfl, rfl | rfl⟩ | ⟨rfl, rfl | rfl⟩ <;> rcases hb with ⟨rfl, rfl | rfl⟩ | ⟨rfl, rfl | rfl⟩ <;> (repeat' split) <;> omega
/-- What a path's steps and one step have in common. -/
theorem row_step (X Y : Nat → Int) {s t u v : Int} (hb : Adj s t u v) : ∀ (n : Nat), (∀ k, k < n → wyN X Y k ≠ -1) →
    (sm (fun i => cxT (X i) (Y i) (X (i + 1)) (Y (i + 1)) s t u v) n + sm (fun i => hsT (X i) (Y i) (X (i + 1)) (Y (i + 1)) s t) n + sm (fun i => hsT (X i) (Y i) (X (i + 1)) (Y (i + 1)) u v) n + rtT s t u v (X 0) (Y 0) + rtT s t u v (X n) (Y n)) % 2 = 0
  | 0, _ => by simp only [sm]; omega
  | n + 1, h => by
    have ih := row_step X Y hb n (fun k hk => h k (by omega))
    have h2 := step2 (adj_wy (h n (by omega))) hb
    simp only [sm]
    omega
theorem all_steps (X Y U V : Nat → Int) (n : Nat) (h : ∀ k, k < n → wyN X Y k ≠ -1) : ∀ (m : Nat), (∀ k, k < m → wyN U V k ≠ -1) →
    (sm (fun j => sm (fun i => cxT (X i) (Y i) (X (i + 1)) (Y (i + 1)) (U j) (V j) (U (j + 1)) (V (j + 1))) n) m
      + sm (fun i => hsT (X i) (Y i) (X (i + 1)) (Y (i + 1)) (U 0) (V 0)) n + sm (fun i => hsT (X i) (Y i) (X (i + 1)) (Y (i + 1)) (U m) (V m)) n
      + sm (fun j => rtT (U j) (V j) (U (j + 1)) (V (j + 1)) (X 0) (Y 0)) m + sm (fun j => rtT (U j) (V j) (U (j + 1)) (V (j + 1)) (X n) (Y n)) m) % 2 = 0
  | 0, _ => by simp only [sm]; omega
  | m + 1, g => by
    have ih := all_steps X Y U V n h m (fun k hk => g k (by omega))
    have h2 := row_step X Y (adj_wy (g m (by omega))) n h
    simp only [sm]
    omega
/-- The height of a cell of the rim, from the ends of a path that misses it. -/
def hiA (W H a b x y : Int) : Int := if b = 0 then 0 else if a = W - 1 then 0 else if b = H - 1 then (if x ≤ a then 1 else 0) else (if x = 0 ∧ y ≤ b then 1 else 0)
def loB (W _H a b x y : Int) : Int := if b = 0 then (if x < a then 1 else 0) else if a = W - 1 then (if x = a ∧ b ≤ y then 1 else 0) else 0
def OnG (W H x y : Int) : Prop := 0 ≤ x ∧ x < W ∧ 0 ≤ y ∧ y < H
def OnR (W H x y : Int) : Prop := OnG W H x y ∧ (x = 0 ∨ y = 0 ∨ x = W - 1 ∨ y = H - 1)
set_option maxHeartbeats 8000000 in
theorem hi_step {W H x y p q a b : Int} (ha : Adj x y p q) (h1 : OnG W H x y) (h2 : OnG W H p q) (hr : OnR W H a b) (n1 : ¬ (a = x ∧ b = y)) (n2 : ¬ (a = p ∧ b = q)) :
    (hsT x y p q a b + hiA W H a b x y + hiA W H a b p q) % 2 = 0 := by
  obtain ⟨hg, hr⟩ := hr
  unfold hsT hiA
  unfold OnG at h1 h2 hg
  rcases ha with ⟨rfl, rfl | rfl⟩ | ⟨rfl, rfl | rfl⟩ <;> (repeat' split) <;> omega
set_option maxHeartbeats 8000000 in
theorem lo_step {W H x y p q a b : Int} (ha : Adj x y p q) (h1 : OnG W H x y) (h2 : OnG W H p q) (hr : OnR W H a b) (n1 : ¬ (a = x ∧ b = y)) (n2 : ¬ (a = p ∧ b = q)) :
    (rtT x y p q a b + loB W H a b x y + loB W H a b p q) % 2 = 0 := by
  obtain ⟨hg, hr⟩ := hr
  unfold rtT loB
  unfold OnG at h1 h2 hg
  rcases ha with ⟨rfl, rfl | rfl⟩ | ⟨rfl, rfl | rfl⟩ <;> (repeat' split) <;> omega
theorem hi_all {W H a b : Int} (X Y : Nat → Int) (hr : OnR W H a b) : ∀ (n : Nat), (∀ k, k < n → wyN X Y k ≠ -1) → (∀ k, k ≤ n → OnG W H (X k) (Y k) ∧ ¬ (a = X k ∧ b = Y k)) →
    (sm (fun i => hsT (X i) (Y i) (X (i + 1)) (Y (i + 1)) a b) n + hiA W H a b (X 0) (Y 0) + hiA W H a b (X n) (Y n)) % 2 = 0
  | 0, _, _ => by simp only [sm]; omega
  | n + 1, h, g => by
    have ih := hi_all X Y hr n (fun k hk => h k (by omega)) (fun k hk => g k (by omega))
    have h2 := hi_step (adj_wy (h n (by omega))) (g n (by omega)).1 (g (n + 1) (by omega)).1 hr (g n (by omega)).2 (g (n + 1) (by omega)).2
    simp only [sm]
    omega
theorem lo_all {W H a b : Int} (X Y : Nat → Int) (hr : OnR W H a b) : ∀ (n : Nat), (∀ k, k < n → wyN X Y k ≠ -1) → (∀ k, k ≤ n → OnG W H (X k) (Y k) ∧ ¬ (a = X k ∧ b = Y k)) →
    (sm (fun i => rtT (X i) (Y i) (X (i + 1)) (Y (i + 1)) a b) n + loB W H a b (X 0) (Y 0) + loB W H a b (X n) (Y n)) % 2 = 0
  | 0, _, _ => by simp only [sm]; omega
  | n + 1, h, g => by
    have ih := lo_all X Y hr n (fun k hk => h k (by omega)) (fun k hk => g k (by omega))
    have h2 := lo_step (adj_wy (h n (by omega))) (g n (by omega)).1 (g (n + 1) (by omega)).1 hr (g n (by omega)).2 (g (n + 1) (by omega)).2
    simp only [sm]
    omega
/-- Whether the first of two places is the earlier one. -/
def bfT (p q : Int) : Int := if p < q then 1 else 0
def c1T (y : Int) : Int := if y = 0 then 1 else 0
def c2T (W a b : Int) : Int := if b = 0 ∨ a = W - 1 then 0 else 1
set_option maxHeartbeats 8000000 in
theorem pair_eq {W H x y a b : Int} (h1 : OnR W H x y) (h2 : OnR W H a b) (hn : ¬ (x = a ∧ y = b)) :
    (hiA W H a b x y + loB W H x y a b + bfT (riP W H x y) (riP W H a b) + c1T y + c2T W a b) % 2 = 0 := by
  obtain ⟨g1, r1⟩ := h1
  obtain ⟨g2, r2⟩ := h2
  unfold OnG at g1 g2
  unfold hiA loB bfT c1T c2T riP
  (repeat' split) <;> omega
theorem OnR_iff {W H x y : Int} (h : OnG W H x y) (hr : 0 ≤ riP W H x y) : OnR W H x y := by
  refine ⟨h, ?_⟩
  unfold riP at hr
  split at hr
  · omega
  split at hr
  · omega
  split at hr
  · omega
  split at hr
  · omega
  · omega
/-- Whether a path is met. -/
def inT (U V : Nat → Int) (m : Nat) (x y : Int) : Int := if blkN U V m x y = true then 1 else 0
theorem inT_01 (U V : Nat → Int) (m : Nat) (x y : Int) : inT U V m x y = 0 ∨ inT U V m x y = 1 := by unfold inT; split <;> simp
/-- Two paths that go together: where they meet, neither ends, neither bends, and they are at right angles. -/
def TogT (X Y U V : Nat → Int) (n m : Nat) : Prop := ∀ k j, k ≤ n → j ≤ m → X k = U j → Y k = V j →
  0 < k ∧ k < n ∧ 0 < j ∧ j < m ∧ wyN X Y (k - 1) = wyN X Y k ∧ wyN U V (j - 1) = wyN U V j ∧ wyN X Y k % 2 ≠ wyN U V j % 2
theorem wy_cases {x y p q : Int} (h : wyS x y p q ≠ -1) : (wyS x y p q = 0 ∧ q = y ∧ p = x + 1) ∨ (wyS x y p q = 1 ∧ p = x ∧ q = y + 1) ∨ (wyS x y p q = 2 ∧ q = y ∧ x = p + 1) ∨ (wyS x y p q = 3 ∧ p = x ∧ y = q + 1) := by
  unfold wyS at h ⊢
  by_cases h0 : y = q ∧ x + 1 = p
  · rw [if_pos h0]; omega
  rw [if_neg h0] at h ⊢
  by_cases h1 : x = p ∧ y + 1 = q
  · rw [if_pos h1]; omega
  rw [if_neg h1] at h ⊢
  by_cases h2 : y = q ∧ p + 1 = x
  · rw [if_pos h2]; omega
  rw [if_neg h2] at h ⊢
  by_cases h3 : x = p ∧ q + 1 = y
  · rw [if_pos h3]; omega
  rw [if_neg h3] at h
  exact absurd rfl h
set_option maxHeartbeats 8000000 in
/-- Steps that cross have the base of the first one in common. -/
theorem cx_end {x y p q s t u v : Int} (ha : Adj x y p q) (hb : Adj s t u v) (h : cxT x y p q s t u v ≠ 0) : (s = min x p ∧ t = min y q) ∨ (u = min x p ∧ v = min y q) := by
  unfold cxT at h
  rcases ha with ⟨rfl, rfl | rfl⟩ | ⟨rfl, rfl | rfl⟩ <;> rcases hb with ⟨rfl, rfl | rfl⟩ | ⟨rfl, rfl | rfl⟩ <;> (repeat' split at h) <;> omega
theorem inT_pos {U V : Nat → Int} {m : Nat} {x y : Int} (k : Nat) (hk : k < m) (hx : x = U k) (hy : y = V k) : inT U V m x y = 1 := by
  unfold inT; rw [if_pos (blkN_iff.2 ⟨k, hk, hx, hy⟩)]
theorem inT_ex {U V : Nat → Int} {m : Nat} {x y : Int} (h : inT U V m x y ≠ 0) : ∃ k, k < m ∧ x = U k ∧ y = V k := by
  unfold inT at h
  split at h
  · next h1 => exact blkN_iff.1 h1
  · exact absurd rfl h
set_option maxHeartbeats 8000000 in
/-- The steps of the other path that cross a step: one, if the other path is met there. -/
theorem col_sum {X Y U V : Nat → Int} {n m : Nat} (hX : ∀ k, k < n → wyN X Y k ≠ -1) (hU : ∀ k, k < m → wyN U V k ≠ -1) (hq : ∀ i j, i < j → j < m + 1 → ¬ (U j = U i ∧ V j = V i)) (ht : TogT X Y U V n m) {i : Nat} (hi : i < n) :
    sm (fun j => cxT (X i) (Y i) (X (i + 1)) (Y (i + 1)) (U j) (V j) (U (j + 1)) (V (j + 1))) m = inT U V (m + 1) (min (X i) (X (i + 1))) (min (Y i) (Y (i + 1))) := by
  have hai := adj_wy (hX i hi)
  by_cases hin : inT U V (m + 1) (min (X i) (X (i + 1))) (min (Y i) (Y (i + 1))) = 0
  · rw [hin]
    refine sm_zero fun j hj => ?_
    by_cases hc : cxT (X i) (Y i) (X (i + 1)) (Y (i + 1)) (U j) (V j) (U (j + 1)) (V (j + 1)) = 0
    · exact hc
    · rcases cx_end hai (adj_wy (hU j hj)) hc with ⟨a, b⟩ | ⟨a, b⟩
      · rw [inT_pos j (by omega) a.symm b.symm] at hin; cases hin
      · rw [inT_pos (j + 1) (by omega) a.symm b.symm] at hin; cases hin
  · obtain ⟨l, hl, hlx, hly⟩ := inT_ex hin
    rw [inT_pos l hl hlx hly]
    have hk : ∃ k, (k = i ∨ k = i + 1) ∧ X k = min (X i) (X (i + 1)) ∧ Y k = min (Y i) (Y (i + 1)) := by
      rcases hai with ⟨a, b | b⟩ | ⟨a, b | b⟩
      · exact ⟨i, Or.inl rfl, by omega, by omega⟩
      · exact ⟨i + 1, Or.inr rfl, by omega, by omega⟩
      · exact ⟨i, Or.inl rfl, by omega, by omega⟩
      · exact ⟨i + 1, Or.inr rfl, by omega, by omega⟩
    obtain ⟨k, hki, hkx, hky⟩ := hk
    obtain ⟨k0, kn, l0, lm, e1, e2, e3⟩ := ht k l (by omega) (by omega) (by omega) (by omega)
    have hd : wyN X Y i = wyN X Y k := by
      rcases hki with rfl | rfl
      · rfl
      · rw [← e1]; rfl
    obtain ⟨l', rfl⟩ : ∃ l', l = l' + 1 := ⟨l - 1, by omega⟩
    rw [Nat.add_sub_cancel] at e2
    rw [← hd] at e3
    have hcA := wy_cases (hX i hi)
    have hc1 := wy_cases (hU l' (by omega))
    have hc2 := wy_cases (hU (l' + 1) lm)
    change (wyN X Y i = 0 ∧ _) ∨ (wyN X Y i = 1 ∧ _) ∨ (wyN X Y i = 2 ∧ _) ∨ (wyN X Y i = 3 ∧ _) at hcA
    change (wyN U V l' = 0 ∧ _) ∨ (wyN U V l' = 1 ∧ _) ∨ (wyN U V l' = 2 ∧ _) ∨ (wyN U V l' = 3 ∧ _) at hc1
    change (wyN U V (l' + 1) = 0 ∧ _) ∨ (wyN U V (l' + 1) = 1 ∧ _) ∨ (wyN U V (l' + 1) = 2 ∧ _) ∨ (wyN U V (l' + 1) = 3 ∧ _) at hc2
    have hother : ∀ j, j < m → j ≠ l' → j ≠ l' + 1 → cxT (X i) (Y i) (X (i + 1)) (Y (i + 1)) (U j) (V j) (U (j + 1)) (V (j + 1)) = 0 := by
      intro j hj n1 n2
      by_cases hc : cxT (X i) (Y i) (X (i + 1)) (Y (i + 1)) (U j) (V j) (U (j + 1)) (V (j + 1)) = 0
      · exact hc
      · exfalso
        rcases cx_end hai (adj_wy (hU j hj)) hc with ⟨a, b⟩ | ⟨a, b⟩
        · rcases Nat.lt_or_gt_of_ne n2 with h | h
          · exact hq j (l' + 1) h (by omega) ⟨by omega, by omega⟩
          · exact hq (l' + 1) j h (by omega) ⟨by omega, by omega⟩
        · rcases Nat.lt_or_gt_of_ne (show j + 1 ≠ l' + 1 by omega) with h | h
          · exact hq (j + 1) (l' + 1) h (by omega) ⟨by omega, by omega⟩
          · exact hq (l' + 1) (j + 1) h (by omega) ⟨by omega, by omega⟩
    generalize wyN X Y i = d at *
    generalize wyN U V l' = e at *
    generalize wyN U V (l' + 1) = e' at *
    by_cases h2 : e < 2 ∧ e ≠ 2
    · refine sm_one (j := l') (by omega) ?_ fun j hj hne => ?_
      · unfold cxT; (repeat' split) <;> omega
      · by_cases hj2 : j = l' + 1
        · subst hj2; unfold cxT; (repeat' split) <;> omega
        · exact hother j hj hne hj2
    · refine sm_one (j := l' + 1) lm ?_ fun j hj hne => ?_
      · unfold cxT; (repeat' split) <;> omega
      · by_cases hj2 : j = l'
        · subst hj2; unfold cxT; (repeat' split) <;> omega
        · exact hother j hj hj2 hne
set_option maxHeartbeats 8000000 in
theorem base_sum {X Y : Nat → Int} (I : Nat → Int) (B : Nat → Int) (h0 : I 0 = 0) : ∀ (n : Nat), (∀ k, k < n → wyN X Y k ≠ -1) → (∀ k, 0 < k → k < n → I k ≠ 0 → wyN X Y (k - 1) = wyN X Y k) →
    (∀ i, i < n → B i = if wyN X Y i < 2 then I i else I (i + 1)) → sm B n = sm I n + (if n = 0 ∨ wyN X Y (n - 1) < 2 then 0 else I n)
  | 0, _, _, _ => by simp [sm]
  | n + 1, hX, hs, hB => by
    have ih := base_sum I B h0 n (fun k hk => hX k (by omega)) (fun k h0 hk => hs k h0 (by omega)) (fun i hi => hB i (by omega))
    simp only [sm]
    rw [ih, hB n (by omega)]
    have hn : (n + 1 = 0 ∨ wyN X Y (n + 1 - 1) < 2) ↔ wyN X Y n < 2 := by rw [Nat.add_sub_cancel]; omega
    rw [ifc hn]
    cases n with
    | zero => simp only [true_or, if_true]; split <;> omega
    | succ k =>
      have hn' : (k + 1 = 0 ∨ wyN X Y (k + 1 - 1) < 2) ↔ wyN X Y k < 2 := by rw [Nat.add_sub_cancel]; omega
      rw [ifc hn']
      by_cases hI : I (k + 1) = 0
      · rw [hI]; (repeat' split) <;> omega
      · have := hs (k + 1) (by omega) (by omega) hI
        rw [Nat.add_sub_cancel] at this
        rw [this]
        (repeat' split) <;> omega
/-- How often two paths that go together meet. -/
theorem meet_sum {X Y U V : Nat → Int} {n m : Nat} (hX : ∀ k, k < n → wyN X Y k ≠ -1) (hU : ∀ k, k < m → wyN U V k ≠ -1) (hq : ∀ i j, i < j → j < m + 1 → ¬ (U j = U i ∧ V j = V i)) (ht : TogT X Y U V n m) :
    sm (fun j => sm (fun i => cxT (X i) (Y i) (X (i + 1)) (Y (i + 1)) (U j) (V j) (U (j + 1)) (V (j + 1))) n) m = sm (fun k => inT U V (m + 1) (X k) (Y k)) (n + 1) := by
  rw [← sm_swap (fun i j => cxT (X i) (Y i) (X (i + 1)) (Y (i + 1)) (U j) (V j) (U (j + 1)) (V (j + 1))) m n]
  rw [sm_congr (g := fun i => inT U V (m + 1) (min (X i) (X (i + 1))) (min (Y i) (Y (i + 1)))) (fun i hi => col_sum hX hU hq ht hi)]
  have hat : ∀ k, k ≤ n → inT U V (m + 1) (X k) (Y k) ≠ 0 → 0 < k ∧ k < n ∧ wyN X Y (k - 1) = wyN X Y k := by
    intro k hk hi
    obtain ⟨l, hl, hx, hy⟩ := inT_ex hi
    obtain ⟨a, b, _, _, c, _⟩ := ht k l hk (by omega) hx hy
    exact ⟨a, b, c⟩
  have hz : ∀ k, k ≤ n → (k = 0 ∨ k = n) → inT U V (m + 1) (X k) (Y k) = 0 := by
    intro k hk hkn
    by_cases h : inT U V (m + 1) (X k) (Y k) = 0
    · exact h
    · have := hat k hk h; omega
  have h := base_sum (X := X) (Y := Y) (fun k => inT U V (m + 1) (X k) (Y k)) (fun i => inT U V (m + 1) (min (X i) (X (i + 1))) (min (Y i) (Y (i + 1)))) (hz 0 (by omega) (Or.inl rfl)) n hX (fun k h0 hk hi => (hat k (by omega) hi).2.2) (fun i hi => by
    have hc := wy_cases (hX i hi)
    change (wyN X Y i = 0 ∧ _) ∨ (wyN X Y i = 1 ∧ _) ∨ (wyN X Y i = 2 ∧ _) ∨ (wyN X Y i = 3 ∧ _) at hc
    have hmin : (wyN X Y i < 2 ∧ min (X i) (X (i + 1)) = X i ∧ min (Y i) (Y (i + 1)) = Y i) ∨ (¬ wyN X Y i < 2 ∧ min (X i) (X (i + 1)) = X (i + 1) ∧ min (Y i) (Y (i + 1)) = Y (i + 1)) := by omega
    rcases hmin with ⟨a, b, c⟩ | ⟨a, b, c⟩
    · rw [if_pos a, b, c]
    · rw [if_neg a, b, c])
  rw [h]
  simp only [sm]
  rw [hz n (by omega) (Or.inr rfl)]
  split <;> rfl
set_option maxHeartbeats 8000000 in
/-- Two paths that go together, with four different ends on the rim, meet an odd number of times exactly if they must. -/
theorem par_rim {W H : Int} {X Y U V P : Nat → Int} {n m : Nat} (hX : ∀ k, k < n → wyN X Y k ≠ -1) (hU : ∀ k, k < m → wyN U V k ≠ -1) (hq : ∀ i j, i < j → j < m + 1 → ¬ (U j = U i ∧ V j = V i)) (ht : TogT X Y U V n m)
    (hgX : ∀ k, k ≤ n → OnG W H (X k) (Y k)) (hgU : ∀ k, k ≤ m → OnG W H (U k) (V k)) (h0 : P 0 = riP W H (X 0) (Y 0)) (h1 : P 1 = riP W H (X n) (Y n)) (h2 : P 2 = riP W H (U 0) (V 0)) (h3 : P 3 = riP W H (U m) (V m)) (ho : muO P = true) :
    (sm (fun k => inT U V (m + 1) (X k) (Y k)) (n + 1) % 2 = 1) ↔ muR P = true := by
  unfold muO at ho
  rw [decide_eq_true_eq] at ho
  obtain ⟨⟨p0, p1, p2, p3⟩, d01, d02, d12, d03, d13, d23⟩ := ho
  have r0 := OnR_iff (hgX 0 (by omega)) (by omega)
  have r1 := OnR_iff (hgX n (by omega)) (by omega)
  have r2 := OnR_iff (hgU 0 (by omega)) (by omega)
  have r3 := OnR_iff (hgU m (by omega)) (by omega)
  have hne : ∀ k j, k ≤ n → j ≤ m → (k = 0 ∨ k = n ∨ j = 0 ∨ j = m) → ¬ (U j = X k ∧ V j = Y k) := fun k j hk hj h ⟨a, b⟩ => by
    have := ht k j hk hj a.symm b.symm
    omega
  have hA := all_steps X Y U V n hX m hU
  rw [meet_sum hX hU hq ht] at hA
  have a0 := hi_all X Y r2 n hX (fun k hk => ⟨hgX k hk, hne k 0 hk (by omega) (by omega)⟩)
  have a1 := hi_all X Y r3 n hX (fun k hk => ⟨hgX k hk, hne k m hk (by omega) (by omega)⟩)
  have b0 := lo_all U V r0 m hU (fun k hk => ⟨hgU k hk, fun h => hne 0 k (by omega) hk (by omega) ⟨h.1.symm, h.2.symm⟩⟩)
  have b1 := lo_all U V r1 m hU (fun k hk => ⟨hgU k hk, fun h => hne n k (by omega) hk (by omega) ⟨h.1.symm, h.2.symm⟩⟩)
  have c00 := pair_eq r0 r2 (fun h => hne 0 0 (by omega) (by omega) (by omega) ⟨h.1.symm, h.2.symm⟩)
  have c01 := pair_eq r0 r3 (fun h => hne 0 m (by omega) (by omega) (by omega) ⟨h.1.symm, h.2.symm⟩)
  have c10 := pair_eq r1 r2 (fun h => hne n 0 (by omega) (by omega) (by omega) ⟨h.1.symm, h.2.symm⟩)
  have c11 := pair_eq r1 r3 (fun h => hne n m (by omega) (by omega) (by omega) ⟨h.1.symm, h.2.symm⟩)
  rw [← h0, ← h2] at c00
  rw [← h0, ← h3] at c01
  rw [← h1, ← h2] at c10
  rw [← h1, ← h3] at c11
  have hsum : (sm (fun k => inT U V (m + 1) (X k) (Y k)) (n + 1) + bfT (P 0) (P 2) + bfT (P 0) (P 3) + bfT (P 1) (P 2) + bfT (P 1) (P 3)) % 2 = 0 := by omega
  clear a0 a1 b0 b1 c00 c01 c10 c11 hA
  unfold muR btw
  unfold bfT at hsum
  rw [bne_iff_ne, ne_eq, Bool.eq_iff_iff]
  simp only [Bool.and_eq_true, decide_eq_true_eq]
  (repeat' split at hsum) <;> omega
theorem sm_only {f : Nat → Int} {n j : Nat} (hj : j < n) (h : ∀ i, i < n → i ≠ j → f i = 0) : sm f n = f j := by
  induction n with
  | zero => omega
  | succ n ih =>
    simp only [sm]
    by_cases e : j = n
    · subst e
      rw [sm_zero (fun i hi => h i (by omega) (by omega))]; omega
    · rw [ih (by omega) (fun i hi => h i (by omega)), h n (by omega) (fun k => e k.symm)]; omega
/-- Whether a cell of the grid is in both paths. -/
def bothT (X Y U V : Nat → Int) (n m Wn j : Nat) : Bool := blkN X Y n (j % Wn : Nat) (j / Wn : Nat) && blkN U V m (j % Wn : Nat) (j / Wn : Nat)
/-- Counted by the cells of the grid, or by those of a path, it is the same. -/
theorem cell_sum {X Y U V : Nat → Int} {n m Wn Hn : Nat} (hp : ∀ i j, i < j → j < n → ¬ (X j = X i ∧ Y j = Y i)) (hg : ∀ k, k < n → OnG Wn Hn (X k) (Y k)) :
    sm (fun j => if bothT X Y U V n m Wn j = true then 1 else 0) (Hn * Wn) = sm (fun k => inT U V m (X k) (Y k)) n := by
  have e1 : ∀ j, j < Hn * Wn → (if bothT X Y U V n m Wn j = true then 1 else 0) = sm (fun k => if X k = ((j % Wn : Nat) : Int) ∧ Y k = ((j / Wn : Nat) : Int) then inT U V m (X k) (Y k) else 0) n := by
    intro j _
    unfold bothT
    by_cases hb : blkN X Y n (j % Wn : Nat) (j / Wn : Nat) = true
    · obtain ⟨k, hk, hx, hy⟩ := blkN_iff.1 hb
      rw [hb, Bool.true_and]
      rw [sm_only (j := k) hk (fun i hi hne => by
        rw [if_neg]
        rintro ⟨a, b⟩
        rcases Nat.lt_or_gt_of_ne hne with h | h
        · exact hp i k h hk ⟨by omega, by omega⟩
        · exact hp k i h hi ⟨by omega, by omega⟩)]
      rw [hx, hy, if_pos (show X k = X k ∧ Y k = Y k from ⟨rfl, rfl⟩)]
      rfl
    · have hb' : blkN X Y n (j % Wn : Nat) (j / Wn : Nat) = false := by simpa using hb
      rw [hb', Bool.false_and, if_neg (by simp)]
      refine (sm_zero fun k hk => ?_).symm
      rw [if_neg]
      rintro ⟨a, b⟩
      exact hb (blkN_iff.2 ⟨k, hk, a.symm, b.symm⟩)
  rw [sm_congr e1, sm_swap (fun j k => if X k = ((j % Wn : Nat) : Int) ∧ Y k = ((j / Wn : Nat) : Int) then inT U V m (X k) (Y k) else 0) n (Hn * Wn)]
  refine sm_congr fun k hk => ?_
  obtain ⟨a, b, c, d⟩ := hg k hk
  obtain ⟨x, hx⟩ : ∃ x : Nat, X k = x := ⟨(X k).toNat, by omega⟩
  obtain ⟨y, hy⟩ : ∃ y : Nat, Y k = y := ⟨(Y k).toNat, by omega⟩
  have hlt : y * Wn + x < Hn * Wn := by
    have h : (y + 1) * Wn ≤ Hn * Wn := Nat.mul_le_mul_right _ (by omega)
    rw [Nat.succ_mul] at h
    omega
  have hm : (y * Wn + x) % Wn = x := by rw [Nat.mul_comm, Nat.mul_add_mod, Nat.mod_eq_of_lt (by omega)]
  have hd : (y * Wn + x) / Wn = y := by rw [Nat.mul_comm, Nat.mul_add_div (by omega), Nat.div_eq_of_lt (by omega)]; omega
  rw [sm_only (j := y * Wn + x) hlt (fun j hj hne => by
    rw [if_neg]
    rintro ⟨e, f⟩
    refine hne ?_
    have h1 : x = j % Wn := by omega
    have h2 : y = j / Wn := by omega
    rw [h1, h2, Nat.mul_comm]
    exact (Nat.div_add_mod j Wn).symm)]
  rw [hm, hd, if_pos ⟨hx, hy⟩]
end Lay
