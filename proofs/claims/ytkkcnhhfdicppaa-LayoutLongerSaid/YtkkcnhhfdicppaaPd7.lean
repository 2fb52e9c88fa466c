import Derived.Test.YtkkcnhhfdicppaaPa7
import Derived.Test.YtkkcnhhfdicppaaBk7
namespace Lay
theorem wyS_ne {x y p q : Int} : wyS x y p q ≠ -1 ↔ (y = q ∧ (x + 1 = p ∨ p + 1 = x)) ∨ (x = p ∧ (y + 1 = q ∨ q + 1 = y)) := by
  unfold wyS
  by_cases h0 : y = q ∧ x + 1 = p
  · rw [if_pos h0]; simp; omega
  rw [if_neg h0]
  by_cases h1 : x = p ∧ y + 1 = q
  · rw [if_pos h1]; simp; omega
  rw [if_neg h1]
  by_cases h2 : y = q ∧ p + 1 = x
  · rw [if_pos h2]; simp; omega
  rw [if_neg h2]
  by_cases h3 : x = p ∧ q + 1 = y
  · rw [if_pos h3]; simp; omega
  rw [if_neg h3]
  simp; omega
/-- Two more behind place i. -/
def ins2 (X : Nat → Int) (i : Nat) (a c : Int) (k : Nat) : Int := if k ≤ i then X k else if k = i + 1 then a else if k = i + 2 then c else X (k - 2)
theorem ins2_0 {X : Nat → Int} {i k : Nat} {a c : Int} (h : k ≤ i) : ins2 X i a c k = X k := by unfold ins2; rw [if_pos h]
theorem ins2_1 {X : Nat → Int} {i : Nat} {a c : Int} : ins2 X i a c (i + 1) = a := by unfold ins2; rw [if_neg (by omega), if_pos rfl]
theorem ins2_2 {X : Nat → Int} {i : Nat} {a c : Int} : ins2 X i a c (i + 2) = c := by unfold ins2; rw [if_neg (by omega), if_neg (by omega), if_pos rfl]
theorem ins2_3 {X : Nat → Int} {i k : Nat} {a c : Int} (h : i < k) : ins2 X i a c (k + 2) = X k := by
  unfold ins2; rw [if_neg (by omega), if_neg (by omega), if_neg (by omega)]; rfl
theorem ins2_cases {n i k : Nat} (hk : k < n + 2) (hi : i < n) : (k ≤ i) ∨ k = i + 1 ∨ k = i + 2 ∨ ∃ j, k = j + 2 ∧ i < j ∧ j < n := by
  by_cases h1 : k ≤ i
  · exact Or.inl h1
  by_cases h2 : k = i + 1
  · exact Or.inr (Or.inl h2)
  by_cases h3 : k = i + 2
  · exact Or.inr (Or.inr (Or.inl h3))
  · exact Or.inr (Or.inr (Or.inr ⟨k - 2, by omega, by omega, by omega⟩))
theorem blkN_ins {X Y : Nat → Int} {n i : Nat} {a b c e p q : Int} (hi : i < n) : blkN (ins2 X i a c) (ins2 Y i b e) (n + 2) p q = ((blkN X Y n p q || decide (p = a ∧ q = b)) || decide (p = c ∧ q = e)) := by
  rw [Bool.eq_iff_iff, Bool.or_eq_true, Bool.or_eq_true, blkN_iff, blkN_iff, decide_eq_true_eq, decide_eq_true_eq]
  constructor
  · rintro ⟨k, hk, h1, h2⟩
    rcases ins2_cases hk hi with h | h | h | ⟨j, h, hj, hn⟩
    · rw [ins2_0 h] at h1 h2; exact Or.inl (Or.inl ⟨k, by omega, h1, h2⟩)
    · subst h; rw [ins2_1] at h1 h2; exact Or.inl (Or.inr ⟨h1, h2⟩)
    · subst h; rw [ins2_2] at h1 h2; exact Or.inr ⟨h1, h2⟩
    · subst h; rw [ins2_3 hj] at h1 h2; exact Or.inl (Or.inl ⟨j, hn, h1, h2⟩)
  · rintro ((⟨k, hk, h1, h2⟩ | ⟨h1, h2⟩) | ⟨h1, h2⟩)
    · by_cases hki : k ≤ i
      · exact ⟨k, by omega, by rw [ins2_0 hki]; exact h1, by rw [ins2_0 hki]; exact h2⟩
      · exact ⟨k + 2, by omega, by rw [ins2_3 (by omega)]; exact h1, by rw [ins2_3 (by omega)]; exact h2⟩
    · exact ⟨i + 1, by omega, by rw [ins2_1]; exact h1, by rw [ins2_1]; exact h2⟩
    · exact ⟨i + 2, by omega, by rw [ins2_2]; exact h1, by rw [ins2_2]; exact h2⟩
theorem opA_ins {W H : Int} {K : Int → Int → Bool} {X Y : Nat → Int} {n i : Nat} {a b c e : Int} (h : opA W H K X Y n = true) (hi : i < n) (h1 : opB W H K a b = true) (h2 : opB W H K c e = true) : opA W H K (ins2 X i a c) (ins2 Y i b e) (n + 2) = true := by
  rw [opA_iff] at h ⊢
  intro k hk
  rcases ins2_cases hk hi with h' | h' | h' | ⟨j, h', hj, hn⟩
  · rw [ins2_0 h', ins2_0 h']; exact h k (by omega)
  · subst h'; rw [ins2_1, ins2_1]; exact h1
  · subst h'; rw [ins2_2, ins2_2]; exact h2
  · subst h'; rw [ins2_3 hj, ins2_3 hj]; exact h j hn
theorem rep_ins {X Y : Nat → Int} {n i : Nat} {a b c e : Int} (h : ∀ i j, i < j → j < n → ¬ (X j = X i ∧ Y j = Y i)) (hi : i < n) (h1 : ∀ k, k < n → ¬ (a = X k ∧ b = Y k)) (h2 : ∀ k, k < n → ¬ (c = X k ∧ e = Y k)) (h3 : ¬ (c = a ∧ e = b)) :
    ∀ k j, k < j → j < n + 2 → ¬ (ins2 X i a c j = ins2 X i a c k ∧ ins2 Y i b e j = ins2 Y i b e k) := by
  intro k j hkj hj
  rcases ins2_cases hj hi with e2 | e2 | e2 | ⟨j', e2, hj2, hn2⟩
  · rw [ins2_0 e2, ins2_0 e2, ins2_0 (by omega), ins2_0 (by omega)]
    exact h k j hkj (by omega)
  · subst e2
    rw [ins2_1, ins2_1, ins2_0 (by omega), ins2_0 (by omega)]
    exact h1 k (by omega)
  · subst e2
    rw [ins2_2, ins2_2]
    by_cases hk1 : k = i + 1
    · subst hk1; rw [ins2_1, ins2_1]; exact h3
    · rw [ins2_0 (by omega), ins2_0 (by omega)]
      exact h2 k (by omega)
  · subst e2
    rw [ins2_3 hj2, ins2_3 hj2]
    rcases ins2_cases (n := n) (k := k) (by omega) hi with e1 | e1 | e1 | ⟨k', e1, hk1, hn1⟩
    · rw [ins2_0 e1, ins2_0 e1]; exact h k j' (by omega) hn2
    · subst e1; rw [ins2_1, ins2_1]; exact fun q => h1 j' hn2 ⟨q.1.symm, q.2.symm⟩
    · subst e1; rw [ins2_2, ins2_2]; exact fun q => h2 j' hn2 ⟨q.1.symm, q.2.symm⟩
    · subst e1; rw [ins2_3 hk1, ins2_3 hk1]; exact h k' j' (by omega) hn2
theorem st_ins {X Y : Nat → Int} {n i : Nat} {a b c e : Int} (h : ∀ k, k < n - 1 → wyN X Y k ≠ -1) (hi : i + 1 < n) (h1 : wyS (X i) (Y i) a b ≠ -1) (h2 : wyS a b c e ≠ -1) (h3 : wyS c e (X (i + 1)) (Y (i + 1)) ≠ -1) :
    ∀ k, k < n + 2 - 1 → wyN (ins2 X i a c) (ins2 Y i b e) k ≠ -1 := by
  intro k hk
  unfold wyN
  by_cases e1 : k < i
  · rw [ins2_0 (by omega), ins2_0 (by omega), ins2_0 (by omega), ins2_0 (by omega)]; exact h k (by omega)
  by_cases e2 : k = i
  · subst e2; rw [ins2_0 (Nat.le_refl _), ins2_0 (Nat.le_refl _), ins2_1, ins2_1]; exact h1
  by_cases e3 : k = i + 1
  · subst e3; rw [ins2_1, ins2_1, ins2_2, ins2_2]; exact h2
  by_cases e4 : k = i + 2
  · subst e4
    rw [ins2_2, ins2_2, show i + 2 + 1 = (i + 1) + 2 by omega, ins2_3 (by omega), ins2_3 (by omega)]; exact h3
  · obtain ⟨j, rfl⟩ : ∃ j, k = j + 2 := ⟨k - 2, by omega⟩
    rw [ins2_3 (by omega), ins2_3 (by omega), show j + 2 + 1 = (j + 1) + 2 by omega, ins2_3 (by omega), ins2_3 (by omega)]
    exact h j (by omega)
/-- Room beside a step: the two cells that are put between. -/
theorem side_steps {x y p q d s o : Int} (hd : wyS x y p q = d) (hd0 : d ≠ -1) (hs : s = 1 ∨ s = 3) (ho : o = (d + s) % 4) :
    wyS x y (nx x o) (ny y o) ≠ -1 ∧ wyS (nx x o) (ny y o) (nx p o) (ny q o) ≠ -1 ∧ wyS (nx p o) (ny q o) p q ≠ -1 ∧ ¬ (nx p o = nx x o ∧ ny q o = ny y o) := by
  have hr := wyS_range x y p q
  rw [hd] at hr
  obtain ⟨h1, h2⟩ := (wyS_iff (by omega) (by omega)).1 hd
  have hc : d = 0 ∨ d = 1 ∨ d = 2 ∨ d = 3 := by omega
  simp only [wyS_ne]
  rcases hs with rfl | rfl <;> rcases hc with rfl | rfl | rfl | rfl <;> simp at ho <;> subst ho <;> simp [nx, ny] at h1 h2 ⊢ <;> omega
/-- A path with two cells more. -/
def Pth (W H : Int) (K : Int → Int → Bool) (X Y : Nat → Int) (n : Nat) : Prop := (∀ i j, i < j → j < n → ¬ (X j = X i ∧ Y j = Y i)) ∧ (∀ k, k < n - 1 → wyN X Y k ≠ -1) ∧ opA W H K X Y n = true
theorem Pth.ins {W H : Int} {K : Int → Int → Bool} {X Y : Nat → Int} {n i : Nat} {s o : Int} (h : Pth W H K X Y n) (hi : i + 1 < n) (hs : s = 1 ∨ s = 3) (ho : o = (wyN X Y i + s) % 4)
    (b1 : opB W H K (nx (X i) o) (ny (Y i) o) = true) (b2 : opB W H K (nx (X (i + 1)) o) (ny (Y (i + 1)) o) = true) (u1 : blkN X Y n (nx (X i) o) (ny (Y i) o) = false) (u2 : blkN X Y n (nx (X (i + 1)) o) (ny (Y (i + 1)) o) = false) :
    Pth W H K (ins2 X i (nx (X i) o) (nx (X (i + 1)) o)) (ins2 Y i (ny (Y i) o) (ny (Y (i + 1)) o)) (n + 2) := by
  obtain ⟨h1, h2, h3⟩ := h
  obtain ⟨s1, s2, s3, s4⟩ := side_steps (x := X i) (y := Y i) (p := X (i + 1)) (q := Y (i + 1)) rfl (h2 i (by omega)) hs ho
  have n1 : ∀ k, k < n → ¬ (nx (X i) o = X k ∧ ny (Y i) o = Y k) := fun k hk q => by rw [blkN_iff.2 ⟨k, hk, q⟩] at u1; cases u1
  have n2 : ∀ k, k < n → ¬ (nx (X (i + 1)) o = X k ∧ ny (Y (i + 1)) o = Y k) := fun k hk q => by rw [blkN_iff.2 ⟨k, hk, q⟩] at u2; cases u2
  exact ⟨rep_ins h1 (by omega) n1 n2 s4, st_ins h2 hi s1 s2 s3, opA_ins h3 (by omega) b1 b2⟩
theorem prL_ins {X Y : Nat → Int} {n i : Nat} {a b c e : Int} (hi : i < n) : prL (ins2 X i a c) (ins2 Y i b e) (n + 2) = (prL X Y n).take (i + 1) ++ ([(a, b), (c, e)] ++ (prL X Y n).drop (i + 1)) := by
  refine List.ext_getElem? fun k => ?_
  unfold prL
  by_cases hk : k < n + 2
  · rw [List.getElem?_map, List.getElem?_range hk]
    rcases ins2_cases hk hi with h | h | h | ⟨j, h, hj, hn⟩
    · rw [List.getElem?_append_left (by simp; omega), List.getElem?_take_of_lt (by omega), List.getElem?_map, List.getElem?_range (by omega)]
      simp [ins2_0 h]
    · subst h
      rw [List.getElem?_append_right (by simp; omega)]
      simp [ins2_1, Nat.min_eq_left (show i + 1 ≤ n by omega)]
    · subst h
      rw [List.getElem?_append_right (by simp; omega)]
      simp [ins2_2, Nat.min_eq_left (show i + 1 ≤ n by omega), show i + 2 - (i + 1) = 1 by omega]
    · subst h
      rw [List.getElem?_append_right (by simp; omega), List.getElem?_append_right (by simp; omega), List.getElem?_drop]
      simp only [List.length_take, List.length_map, List.length_range, List.length_cons, List.length_nil, Nat.min_eq_left (show i + 1 ≤ n by omega)]
      rw [show i + 1 + (j + 2 - (i + 1) - (0 + 1 + 1)) = j by omega, List.getElem?_map, List.getElem?_range hn]
      simp [ins2_3 hj]
  · rw [List.getElem?_eq_none (by simp; omega), List.getElem?_eq_none (by simp; omega)]
end Lay
