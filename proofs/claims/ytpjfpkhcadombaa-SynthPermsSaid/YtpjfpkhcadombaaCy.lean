import Derived.Test.YtpjfpkhcadombaaPm
namespace Prm
/-- Behind j steps. -/
def it (s : Nat → Nat) : Nat → Nat → Nat
  | 0, x => x
  | j + 1, x => s (it s j x)
theorem it_add (s : Nat → Nat) (i j x : Nat) : it s (i + j) x = it s i (it s j x) := by
  induction i with
  | zero => rw [Nat.zero_add]; rfl
  | succ i ih => rw [Nat.succ_add]; show s (it s (i + j) x) = s (it s i (it s j x)); rw [ih]
theorem it_succ' (s : Nat → Nat) (j x : Nat) : it s (j + 1) x = it s j (s x) := it_add s j 1 x
variable {n : Nat} {s : Nat → Nat}
theorem Bij.it_lt (h : Bij n s) {x : Nat} (hx : x < n) (j : Nat) : it s j x < n := by
  induction j with
  | zero => exact hx
  | succ j ih => exact h.1 _ ih
theorem Bij.inj (h : Bij n s) {x y : Nat} (hx : x < n) (hy : y < n) (e : s x = s y) : x = y := by
  rcases Nat.lt_trichotomy x y with h1 | h1 | h1
  · exact absurd e (h.2 x y h1 hy)
  · exact h1
  · exact absurd e.symm (h.2 y x h1 hx)
theorem Bij.it_inj (h : Bij n s) {x y : Nat} (hx : x < n) (hy : y < n) {j : Nat} (e : it s j x = it s j y) : x = y := by
  induction j with
  | zero => exact e
  | succ j ih => exact ih (h.inj (h.it_lt hx j) (h.it_lt hy j) e)
theorem pigeon {m : Nat} {t : Nat → Nat} (h1 : ∀ k, k < m → t k < n) (h2 : ∀ j k, j < k → k < m → t j ≠ t k) : m ≤ n := by
  have key : ∀ k, k ≤ m → S n (fun x => if hit t k x = true then 1 else 0) = k := by
    intro k
    induction k with
    | zero => intro _; exact S_nul fun _ _ => if_neg (by simp [hit])
    | succ k ih =>
      intro hk
      have hn : hit t k (t k) = false := by
        cases e : hit t k (t k) with
        | false => rfl
        | true => obtain ⟨j, hj, e'⟩ := hit_iff.1 e; exact absurd e' (h2 j k hj hk)
      have e := S_one (h1 k hk) 1
      have e2 : S n (fun x => if hit t (k + 1) x = true then 1 else 0) = S n (fun x => if hit t k x = true then 1 else 0) + S n (fun a => if a = t k then 1 else 0) := by
        rw [← S_add]
        refine S_congr fun x _ => ?_
        simp only [hit, Bool.or_eq_true, decide_eq_true_eq]
        by_cases ex : x = t k
        · subst ex; rw [hn]; simp
        · have ex' : ¬ t k = x := fun h => ex h.symm
          rw [if_neg ex]; simp [ex']
      rw [e2, ih (by omega), e]
  have := key m (Nat.le_refl m)
  have le : S n (fun x => if hit t m x = true then 1 else 0) ≤ S n (fun _ => 1) := S_le fun x _ => by split <;> omega
  rw [S_const, this] at le
  omega
theorem Bij.period (h : Bij n s) {x : Nat} (hx : x < n) : ∃ c, 1 ≤ c ∧ c ≤ n ∧ it s c x = x := by
  apply Classical.byContradiction
  intro hno
  have := pigeon (n := n) (m := n + 1) (t := fun j => it s j x) (fun k _ => h.it_lt hx k) (fun i j hij hj e => by
    refine hno ⟨j - i, by omega, by omega, ?_⟩
    have e2 : it s i (it s (j - i) x) = it s i x := by rw [← it_add, show i + (j - i) = j by omega]; exact e.symm
    exact h.it_inj (h.it_lt hx _) hx e2)
  omega
/-- The first c from k on with p. -/
def fnd (p : Nat → Bool) : Nat → Nat → Nat
  | 0, k => k
  | m + 1, k => if p k = true then k else fnd p m (k + 1)
theorem fnd_spec {p : Nat → Bool} {m k c : Nat} (h1 : k ≤ c) (h2 : c < k + m) (h3 : p c = true) : p (fnd p m k) = true ∧ k ≤ fnd p m k ∧ fnd p m k ≤ c ∧ ∀ d, k ≤ d → d < fnd p m k → p d = false := by
  induction m generalizing k with
  | zero => omega
  | succ m ih =>
    simp only [fnd]
    by_cases e : p k = true
    · rw [if_pos e]; exact ⟨e, Nat.le_refl _, h1, fun d h4 h5 => by omega⟩
    · rw [if_neg e]
      have hk : k ≠ c := fun h => e (h ▸ h3)
      obtain ⟨a1, a2, a3, a4⟩ := ih (k := k + 1) (by omega) (by omega)
      refine ⟨a1, by omega, a3, fun d h4 h5 => ?_⟩
      by_cases ed : d = k
      · subst ed; exact Bool.eq_false_iff.2 e
      · exact a4 d (by omega) h5
/-- The length of the cycle of x. -/
def clen (n : Nat) (s : Nat → Nat) (x : Nat) : Nat := fnd (fun c => decide (it s c x = x)) n 1
theorem Bij.clen (h : Bij n s) {x : Nat} (hx : x < n) : 1 ≤ Prm.clen n s x ∧ Prm.clen n s x ≤ n ∧ it s (Prm.clen n s x) x = x ∧ ∀ d, 1 ≤ d → d < Prm.clen n s x → it s d x ≠ x := by
  obtain ⟨c, h1, h2, h3⟩ := h.period hx
  obtain ⟨a1, a2, a3, a4⟩ := fnd_spec (p := fun c => decide (it s c x = x)) (m := n) (k := 1) (c := c) h1 (by omega) (decide_eq_true h3)
  exact ⟨a2, Nat.le_trans a3 h2, of_decide_eq_true a1, fun d h4 h5 => of_decide_eq_false (a4 d h4 h5)⟩
/-- Are the first t numbers behind x all greater? -/
def gtTo (s : Nat → Nat) (x : Nat) : Nat → Bool
  | 0 => true
  | t + 1 => gtTo s x t && decide (x < it s (t + 1) x)
theorem gtTo_iff {x t : Nat} : gtTo s x t = true ↔ ∀ i, 1 ≤ i → i ≤ t → x < it s i x := by
  induction t with
  | zero => simp only [gtTo, true_iff]; intro i h1 h2; omega
  | succ t ih =>
    simp only [gtTo, Bool.and_eq_true, ih, decide_eq_true_eq]
    constructor
    · rintro ⟨h1, h2⟩ i h3 h4
      by_cases e : i = t + 1
      · subst e; exact h2
      · exact h1 i h3 (by omega)
    · intro h
      exact ⟨fun i h3 h4 => h i h3 (by omega), h (t + 1) (by omega) (Nat.le_refl _)⟩
/-- Is x the least of its cycle? -/
def lst (n : Nat) (s : Nat → Nat) (x : Nat) : Bool := gtTo s x (clen n s x - 1)
/-- Is x in the cycle of a number below m? -/
def Seen (s : Nat → Nat) (m x : Nat) : Prop := ∃ a, a < m ∧ ∃ j, it s j a = x
theorem Seen.next {m x : Nat} (h : Seen s m x) (j : Nat) : Seen s m (it s j x) := by
  obtain ⟨a, ha, i, e⟩ := h
  exact ⟨a, ha, j + i, by rw [it_add, e]⟩
theorem Bij.it_mul (h : Bij n s) {x : Nat} (hx : x < n) (j : Nat) : it s (j * Prm.clen n s x) x = x := by
  induction j with
  | zero => rw [Nat.zero_mul]; rfl
  | succ j ih => rw [Nat.succ_mul, it_add, (h.clen hx).2.2.1, ih]
theorem Bij.back (h : Bij n s) {x : Nat} (hx : x < n) (j : Nat) : ∃ i, it s i (it s j x) = x := by
  have hc := (h.clen hx).1
  refine ⟨j * Prm.clen n s x - j, ?_⟩
  have : j ≤ j * Prm.clen n s x := Nat.le_mul_of_pos_right j hc
  rw [← it_add, show j * Prm.clen n s x - j + j = j * Prm.clen n s x by omega]
  exact h.it_mul hx j
theorem Bij.mod (h : Bij n s) {x : Nat} (hx : x < n) : ∀ j, ∃ i, i < Prm.clen n s x ∧ it s i x = it s j x := by
  intro j
  have hc := h.clen hx
  induction j using Nat.strongRecOn with
  | ind j ih =>
    by_cases e : j < Prm.clen n s x
    · exact ⟨j, e, rfl⟩
    · obtain ⟨i, hi, e2⟩ := ih (j - Prm.clen n s x) (by omega)
      refine ⟨i, hi, e2.trans ?_⟩
      conv => rhs; rw [show j = j - Prm.clen n s x + Prm.clen n s x by omega, it_add, hc.2.2.1]
theorem Bij.seen_back (h : Bij n s) {m x : Nat} (hx : x < n) {j : Nat} (hs : Seen s m (it s j x)) : Seen s m x := by
  obtain ⟨i, e⟩ := h.back hx j
  have := hs.next i
  rwa [e] at this
theorem Bij.lst_seen (h : Bij n s) {x : Nat} (hx : x < n) : lst n s x = true ↔ ¬ Seen s x x := by
  have hc := h.clen hx
  unfold lst
  rw [gtTo_iff]
  constructor
  · rintro h1 ⟨a, ha, j, e⟩
    obtain ⟨i, e2⟩ := h.back (x := a) (by omega) j
    rw [e] at e2
    obtain ⟨i', hi', e3⟩ := h.mod hx i
    rw [e2] at e3
    have h0 : i' ≠ 0 := by rintro rfl; simp only [it] at e3; omega
    have := h1 i' (by omega) (by omega)
    omega
  · intro h1 i h2 h3
    have h4 := hc.2.2.2 i h2 (by omega)
    apply Classical.byContradiction
    intro h5
    obtain ⟨k, e⟩ := h.back hx i
    exact h1 ⟨it s i x, by omega, k, e⟩
theorem Bij.seen_succ (h : Bij n s) {m x : Nat} (hm : m < n) : Seen s (m + 1) x ↔ Seen s m x ∨ ∃ i, i < Prm.clen n s m ∧ it s i m = x := by
  constructor
  · rintro ⟨a, ha, j, e⟩
    by_cases em : a = m
    · subst em
      obtain ⟨i, hi, e2⟩ := h.mod hm j
      exact .inr ⟨i, hi, e2.trans e⟩
    · exact .inl ⟨a, by omega, j, e⟩
  · rintro (⟨a, ha, j, e⟩ | ⟨i, _, e⟩)
    · exact ⟨a, by omega, j, e⟩
    · exact ⟨m, by omega, i, e⟩
theorem Bij.seen_same (h : Bij n s) {m x : Nat} (hm : m < n) (hs : Seen s m m) : Seen s (m + 1) x ↔ Seen s m x := by
  rw [h.seen_succ hm]
  constructor
  · rintro (h1 | ⟨i, _, e⟩)
    · exact h1
    · rw [← e]; exact hs.next i
  · exact .inl
/-- The lengths of the cycles whose least number is below m. -/
def cyP (n : Nat) (s : Nat → Nat) : Nat → List Int
  | 0 => []
  | m + 1 => if lst n s m = true then cyP n s m ++ [(clen n s m : Int)] else cyP n s m
/-- How many cycles below m have the length l. -/
def cyC (n : Nat) (s : Nat → Nat) (l : Int) (m : Nat) : Nat := S m (fun x => if lst n s x = true ∧ (clen n s x : Int) = l then 1 else 0)
/-- The lengths of cycles up to l, in ascending order. -/
def cyR (n : Nat) (s : Nat → Nat) : Nat → List Int
  | 0 => []
  | l + 1 => cyR n s l ++ List.replicate (cyC n s ((l : Int) + 1) n) ((l : Int) + 1)
theorem cyP_count (n : Nat) (s : Nat → Nat) (v : Int) (m : Nat) : (cyP n s m).count v = cyC n s v m := by
  induction m with
  | zero => rfl
  | succ m ih =>
    unfold cyC at ih ⊢
    simp only [cyP, S]
    by_cases e : lst n s m = true
    · rw [if_pos e, List.count_append, ih]
      by_cases e2 : (clen n s m : Int) = v
      · rw [if_pos ⟨e, e2⟩, e2]; simp
      · rw [if_neg (fun h => e2 h.2)]; simp [e2]
    · rw [if_neg e, if_neg (fun h => e h.1), ih]; rfl
theorem cyR_count (n : Nat) (s : Nat → Nat) (v : Int) (l : Nat) : (cyR n s l).count v = if 1 ≤ v ∧ v ≤ l then cyC n s v n else 0 := by
  induction l with
  | zero => simp only [cyR, List.count_nil]; rw [if_neg (by omega)]
  | succ l ih =>
    simp only [cyR]
    rw [List.count_append, ih, List.count_replicate]
    by_cases e : (l : Int) + 1 = v
    · rw [if_neg (by omega), if_pos (by simp [e]), if_pos (by omega), e]; omega
    · have e' : ((l : Int) + 1 == v) = false := beq_eq_false_iff_ne.2 e
      rw [e', if_neg Bool.false_ne_true, Nat.add_zero]
      by_cases e2 : 1 ≤ v ∧ v ≤ l
      · rw [if_pos e2, if_pos (show 1 ≤ v ∧ v ≤ ((l + 1 : Nat) : Int) by omega)]
      · rw [if_neg e2, if_neg (show ¬ (1 ≤ v ∧ v ≤ ((l + 1 : Nat) : Int)) by omega)]
theorem cyR_le (n : Nat) (s : Nat → Nat) (l : Nat) : ∀ v, v ∈ cyR n s l → v ≤ l := by
  induction l with
  | zero => intro v h; simp [cyR] at h
  | succ l ih =>
    intro v h
    simp only [cyR, List.mem_append, List.mem_replicate] at h
    rcases h with h | ⟨_, h⟩
    · have := ih v h; omega
    · omega
theorem cyR_sorted (n : Nat) (s : Nat → Nat) (l : Nat) : (cyR n s l).Pairwise (fun a b => a ≤ b) := by
  induction l with
  | zero => exact List.Pairwise.nil
  | succ l ih =>
    simp only [cyR]
    rw [List.pairwise_append]
    refine ⟨ih, List.pairwise_replicate.2 (.inr (Int.le_refl _)), fun a ha b hb => ?_⟩
    have h1 := cyR_le n s l a ha
    have h2 := (List.mem_replicate.1 hb).2
    omega
theorem Bij.perm (h : Bij n s) : (cyP n s n).Perm (cyR n s n) := by
  rw [List.perm_iff_count]
  intro v
  rw [cyP_count, cyR_count]
  by_cases e : 1 ≤ v ∧ v ≤ n
  · rw [if_pos e]
  · rw [if_neg e]
    refine S_nul fun x hx => if_neg ?_
    rintro ⟨_, e2⟩
    have := h.clen hx
    omega
theorem Bij.sorted (h : Bij n s) : (cyP n s n).mergeSort (fun x y => decide (x ≤ y)) = cyR n s n := by
  refine List.Perm.eq_of_pairwise (le := fun a b => a ≤ b) (fun a b _ _ h1 h2 => Int.le_antisymm h1 h2) ?_ (cyR_sorted n s n) ((List.mergeSort_perm _ _).trans h.perm)
  have := List.pairwise_mergeSort (le := fun x y : Int => decide (x ≤ y)) (fun a b c h1 h2 => by simp at h1 h2 ⊢; omega) (fun a b => by simp; omega) (cyP n s n)
  exact this.imp fun h => of_decide_eq_true h
theorem Bij.cyP_pos (h : Bij n s) (hn : 1 ≤ n) : 0 < (cyP n s n).length := by
  have h0 : lst n s 0 = true := (h.lst_seen (by omega)).2 (by rintro ⟨a, ha, _⟩; omega)
  have key : ∀ m, 1 ≤ m → 0 < (cyP n s m).length := by
    intro m
    induction m with
    | zero => omega
    | succ m ih =>
      intro _
      simp only [cyP]
      by_cases em : m = 0
      · subst em; rw [if_pos h0]; simp
      · have := ih (by omega)
        split
        · rw [List.length_append]; omega
        · exact this
  exact key n hn
theorem cyP_len (n : Nat) (s : Nat → Nat) (m : Nat) : (cyP n s m).length ≤ m := by
  induction m with
  | zero => exact Nat.le_refl _
  | succ m ih =>
    simp only [cyP]
    split
    · rw [List.length_append]; simp; omega
    · omega
end Prm
