import Derived.Test.YtldepffpafccpaaSl6
namespace Heat
open Go Go.RowKit
theorem selC_at (c : Nat → Bool) (t : Nat → Int) : ∀ (n k : Nat), k < n → c k = true → ∀ ys, (selC c t n ++ ys)[selN c k * 2]? = some (.int .i64 k) ∧ (selC c t n ++ ys)[selN c k * 2 + 1]? = some (.int .i64 (t k))
  | 0, _, h, _, _ => by omega
  | n + 1, k, h, hc, ys => by
    by_cases e : k = n
    · subst e
      have hs : selC c t (k + 1) = selC c t k ++ [.int .i64 k, .int .i64 (t k)] := if_pos hc
      have hl := selC_len c t k
      rw [hs, List.append_assoc]
      constructor
      · rw [List.getElem?_append_right (by omega), hl, Nat.sub_self]; rfl
      · rw [List.getElem?_append_right (by omega), hl, show selN c k * 2 + 1 - selN c k * 2 = 1 by omega]; rfl
    · obtain ⟨zs, hz⟩ : ∃ zs, selC c t (n + 1) = selC c t n ++ zs := by
        by_cases hn : c n = true
        · exact ⟨_, if_pos hn⟩
        · exact ⟨[], by rw [List.append_nil]; exact if_neg hn⟩
      rw [hz, List.append_assoc]
      exact selC_at c t n k (by omega) hc (zs ++ ys)
theorem intAt_of {xs : List Value} {d i : Nat} {z : Int} (h : xs[i * 2 + d]? = some (.int .i64 z)) : intAt xs d i = z := by unfold intAt; rw [h]
theorem sum_le {a b : Nat → Int} : ∀ {n : Nat}, (∀ j, j < n → a j ≤ b j) → sumI a n ≤ sumI b n
  | 0, _ => Int.le_refl _
  | n + 1, h => by
    have h1 := sum_le (n := n) (fun j hj => h j (by omega))
    have h2 := h n (by omega)
    unfold sumI
    omega
theorem sum_eq {a b : Nat → Int} {n : Nat} (h : ∀ j, j < n → a j = b j) : sumI a n = sumI b n :=
  Int.le_antisymm (sum_le fun j hj => by rw [h j hj]; exact Int.le_refl _) (sum_le fun j hj => by rw [h j hj]; exact Int.le_refl _)
def stXs (f t : Nat → Int) (n : Nat) : List Value := selC (lessB f t) t n ++ selC (moreB f t) t n
theorem st_first {f t : Nat → Int} {n k : Nat} (hk : k < n) (hc : lessB f t k = true) : intAt (stXs f t n) 0 (selN (lessB f t) k) = k ∧ intAt (stXs f t n) 1 (selN (lessB f t) k) = t k := by
  obtain ⟨h1, h2⟩ := selC_at (lessB f t) t n k hk hc (selC (moreB f t) t n)
  exact ⟨intAt_of h1, intAt_of h2⟩
theorem st_second {f t : Nat → Int} {n k : Nat} (hk : k < n) (hc : moreB f t k = true) : intAt (stXs f t n) 0 (selN (lessB f t) n + selN (moreB f t) k) = k ∧ intAt (stXs f t n) 1 (selN (lessB f t) n + selN (moreB f t) k) = t k := by
  obtain ⟨h1, h2⟩ := selC_at (moreB f t) t n k hk hc []
  rw [List.append_nil] at h1 h2
  have hl := selC_len (lessB f t) t n
  refine ⟨intAt_of ?_, intAt_of ?_⟩
  · unfold stXs
    rw [List.getElem?_append_right (by omega), hl, show (selN (lessB f t) n + selN (moreB f t) k) * 2 + 0 - selN (lessB f t) n * 2 = selN (moreB f t) k * 2 by omega]
    exact h1
  · unfold stXs
    rw [List.getElem?_append_right (by omega), hl, show (selN (lessB f t) n + selN (moreB f t) k) * 2 + 1 - selN (lessB f t) n * 2 = selN (moreB f t) k * 2 + 1 by omega]
    exact h2
theorem chIn_at {n : Nat} {P Q : Nat → Int} {m : Nat} (h : chIn n P Q m = true) : ∀ i, i < m → 0 ≤ P i ∧ P i < n ∧ 0 ≤ Q i ∧ Q i ≤ 1000 := by
  induction m with
  | zero => intro i hi; omega
  | succ j ih =>
    intro i hi
    have h' : (chIn n P Q j && chB n (P j) (Q j)) = true := h
    rw [Bool.and_eq_true] at h'
    by_cases e : i = j
    · subst e; exact of_decide_eq_true h'.2
    · exact ih h'.1 i (by omega)
end Heat
namespace Go.Proofs.Ytldepffpafccpaa
open Go.RowKit Heat
theorem chIn_prev {n : Nat} {P Q : Nat → Int} {m : Nat} (h : chIn n P Q m = true) : ∀ i, i ≤ m → chIn n P Q i = true := by
  induction m with
  | zero =>
    intro i hi
    obtain rfl : i = 0 := by omega
    exact h
  | succ j ih =>
    intro i hi
    have h' : (chIn n P Q j && chB n (P j) (Q j)) = true := h
    rw [Bool.and_eq_true] at h'
    by_cases e : i = j + 1
    · subst e; exact h
    · exact ih h'.1 i (by omega)
theorem path_first {f t : Nat → Int} {n : Nat} (ht : ∀ k, k < n → 0 ≤ t k ∧ t k ≤ 1000) : ∀ k, k ≤ n →
    chIn n (intAt (stXs f t n) 0) (intAt (stXs f t n) 1) (selN (lessB f t) k) = true ∧ (∀ j, j < n → chg f (intAt (stXs f t n) 0) (intAt (stXs f t n) 1) (selN (lessB f t) k) j = if j < k ∧ t j < f j then t j else f j) ∧ pkT n f (intAt (stXs f t n) 0) (intAt (stXs f t n) 1) (selN (lessB f t) k) = sumI f n
  | 0, _ => ⟨rfl, fun j _ => by rw [if_neg (by omega)]; rfl, rfl⟩
  | k + 1, hk => by
    obtain ⟨h1, h2, h3⟩ := path_first ht k (by omega)
    by_cases hc : t k < f k
    · have hc' : lessB f t k = true := decide_eq_true hc
      obtain ⟨p1, p2⟩ := st_first (f := f) (t := t) (n := n) (by omega) hc'
      have hs : selN (lessB f t) (k + 1) = selN (lessB f t) k + 1 := if_pos hc'
      rw [hs]
      have hch : ∀ j, j < n → chg f (intAt (stXs f t n) 0) (intAt (stXs f t n) 1) (selN (lessB f t) k + 1) j = if j < k + 1 ∧ t j < f j then t j else f j := fun j hj => by
        show updI _ (intAt (stXs f t n) 0 (selN (lessB f t) k)).toNat (intAt (stXs f t n) 1 (selN (lessB f t) k)) j = _
        rw [p1, p2, Int.toNat_natCast]
        by_cases e : j = k
        · subst e; rw [updI_at, if_pos ⟨by omega, hc⟩]
        · rw [updI_ne _ _ e, h2 j hj]
          by_cases hh : j < k ∧ t j < f j
          · rw [if_pos hh, if_pos ⟨by omega, hh.2⟩]
          · rw [if_neg hh, if_neg (by omega)]
      refine ⟨chIn_next h1 ?_, hch, ?_⟩
      · rw [p1, p2]; exact decide_eq_true (by have := ht k (by omega); omega)
      · show max (pkT n f _ _ (selN (lessB f t) k)) (sumI _ n) = _
        rw [h3, sum_eq hch]
        have := sum_le (a := fun j => if j < k + 1 ∧ t j < f j then t j else f j) (b := f) (n := n) (fun j hj => by split <;> omega)
        omega
    · have hs : selN (lessB f t) (k + 1) = selN (lessB f t) k := if_neg (by unfold lessB; rw [decide_eq_false hc]; decide)
      rw [hs]
      refine ⟨h1, fun j hj => ?_, h3⟩
      rw [h2 j hj]
      by_cases hh : j < k ∧ t j < f j
      · rw [if_pos hh, if_pos ⟨by omega, hh.2⟩]
      · rw [if_neg hh, if_neg]
        rintro ⟨a, b⟩
        by_cases e : j = k
        · subst e; exact hc b
        · exact hh ⟨by omega, b⟩
def upK (f t : Nat → Int) (k j : Nat) : Int := if t j < f j then t j else if j < k ∧ f j < t j then t j else f j
theorem path_second {f t : Nat → Int} {n : Nat} (ht : ∀ k, k < n → 0 ≤ t k ∧ t k ≤ 1000) : ∀ k, k ≤ n →
    chIn n (intAt (stXs f t n) 0) (intAt (stXs f t n) 1) (selN (lessB f t) n + selN (moreB f t) k) = true ∧ (∀ j, j < n → chg f (intAt (stXs f t n) 0) (intAt (stXs f t n) 1) (selN (lessB f t) n + selN (moreB f t) k) j = upK f t k j) ∧ pkT n f (intAt (stXs f t n) 0) (intAt (stXs f t n) 1) (selN (lessB f t) n + selN (moreB f t) k) = max (sumI f n) (sumI (upK f t k) n)
  | 0, _ => by
    obtain ⟨h1, h2, h3⟩ := path_first ht n (Nat.le_refl _)
    refine ⟨h1, fun j hj => ?_, ?_⟩
    · show chg f _ _ (selN (lessB f t) n) j = _
      rw [h2 j hj]
      unfold upK
      by_cases hh : t j < f j
      · rw [if_pos ⟨hj, hh⟩, if_pos hh]
      · rw [if_neg (by omega), if_neg hh, if_neg (by omega)]
    · show pkT n f _ _ (selN (lessB f t) n) = _
      rw [h3]
      have := sum_le (a := upK f t 0) (b := f) (n := n) (fun j hj => by unfold upK; split <;> (try split) <;> omega)
      omega
  | k + 1, hk => by
    obtain ⟨h1, h2, h3⟩ := path_second ht k (by omega)
    by_cases hc : f k < t k
    · have hc' : moreB f t k = true := decide_eq_true hc
      obtain ⟨p1, p2⟩ := st_second (f := f) (t := t) (n := n) (by omega) hc'
      have hs : selN (moreB f t) (k + 1) = selN (moreB f t) k + 1 := if_pos hc'
      rw [hs, ← Nat.add_assoc]
      have hch : ∀ j, j < n → chg f (intAt (stXs f t n) 0) (intAt (stXs f t n) 1) (selN (lessB f t) n + selN (moreB f t) k + 1) j = upK f t (k + 1) j := fun j hj => by
        show updI _ (intAt (stXs f t n) 0 (selN (lessB f t) n + selN (moreB f t) k)).toNat (intAt (stXs f t n) 1 (selN (lessB f t) n + selN (moreB f t) k)) j = _
        rw [p1, p2, Int.toNat_natCast]
        by_cases e : j = k
        · subst e; rw [updI_at]; unfold upK; rw [if_neg (by omega), if_pos ⟨by omega, hc⟩]
        · rw [updI_ne _ _ e, h2 j hj]
          unfold upK
          by_cases hh : t j < f j
          · rw [if_pos hh, if_pos hh]
          · rw [if_neg hh, if_neg hh]
            by_cases h4 : j < k ∧ f j < t j
            · rw [if_pos h4, if_pos ⟨by omega, h4.2⟩]
            · rw [if_neg h4, if_neg (by omega)]
      refine ⟨chIn_next h1 ?_, hch, ?_⟩
      · rw [p1, p2]; exact decide_eq_true (by have := ht k (by omega); omega)
      · show max (pkT n f _ _ (selN (lessB f t) n + selN (moreB f t) k)) (sumI _ n) = _
        rw [h3, sum_eq hch]
        have := sum_le (a := upK f t k) (b := upK f t (k + 1)) (n := n) (fun j hj => by unfold upK; split <;> (try split) <;> (try split) <;> omega)
        omega
    · have hs : selN (moreB f t) (k + 1) = selN (moreB f t) k := if_neg (by unfold moreB; rw [decide_eq_false hc]; decide)
      rw [hs]
      have he : ∀ j, j < n → upK f t k j = upK f t (k + 1) j := fun j hj => by
        unfold upK
        by_cases hh : t j < f j
        · rw [if_pos hh, if_pos hh]
        · rw [if_neg hh, if_neg hh]
          by_cases h4 : j < k ∧ f j < t j
          · rw [if_pos h4, if_pos ⟨by omega, h4.2⟩]
          · rw [if_neg h4, if_neg]
            rintro ⟨a, b⟩
            by_cases e : j = k
            · subst e; exact hc b
            · exact h4 ⟨by omega, b⟩
      exact ⟨h1, fun j hj => (h2 j hj).trans (he j hj), by rw [h3, sum_eq he]⟩
/-- The changes lead to the powers, and no sum on the way is greater than at the ends. -/
theorem path_all {f t : Nat → Int} {n : Nat} (ht : ∀ k, k < n → 0 ≤ t k ∧ t k ≤ 1000) :
    chIn n (intAt (stXs f t n) 0) (intAt (stXs f t n) 1) (selN (lessB f t) n + selN (moreB f t) n) = true ∧ (∀ j, j < n → chg f (intAt (stXs f t n) 0) (intAt (stXs f t n) 1) (selN (lessB f t) n + selN (moreB f t) n) j = t j) ∧ pkT n f (intAt (stXs f t n) 0) (intAt (stXs f t n) 1) (selN (lessB f t) n + selN (moreB f t) n) = max (sumI f n) (sumI t n) := by
  obtain ⟨h1, h2, h3⟩ := path_second (f := f) ht n (Nat.le_refl _)
  have he : ∀ j, j < n → upK f t n j = t j := fun j hj => by
    unfold upK
    split
    · rfl
    · split <;> omega
  exact ⟨h1, fun j hj => (h2 j hj).trans (he j hj), by rw [h3, sum_eq he]⟩
end Go.Proofs.Ytldepffpafccpaa
