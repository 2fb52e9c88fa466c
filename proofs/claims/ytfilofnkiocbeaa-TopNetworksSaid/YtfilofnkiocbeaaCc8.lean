import Derived.Test.YtfilofnkiocbeaaCb8
namespace Ben
/-- A permutation p of the first n and its inverse q. -/
structure Pm (n : Nat) (p q : Nat → Nat) : Prop where
  lp : ∀ x, x < n → p x < n
  lq : ∀ y, y < n → q y < n
  qp : ∀ x, x < n → q (p x) = x
  pq : ∀ y, y < n → p (q y) = y
/-- The input whose light meets an input's light at its last switch. -/
def ax (p q : Nat → Nat) (x : Nat) : Nat := q (pt (p x))
/-- The input with which a loop goes on behind an input and its neighbour. -/
def tt (p q : Nat → Nat) (x : Nat) : Nat := ax p q (pt x)
def itt (p q : Nat → Nat) (s : Nat) : Nat → Nat
  | 0 => s
  | k + 1 => tt p q (itt p q s k)
theorem pt_ne (x : Nat) : pt x ≠ x := by unfold pt; split <;> omega
theorem ax_lt {h : Nat} {p q : Nat → Nat} (P : Pm (2 * h) p q) {x : Nat} (hx : x < 2 * h) : ax p q x < 2 * h := P.lq _ (pt_lt (P.lp _ hx))
theorem ax_ax {h : Nat} {p q : Nat → Nat} (P : Pm (2 * h) p q) {x : Nat} (hx : x < 2 * h) : ax p q (ax p q x) = x := by
  unfold ax
  rw [P.pq _ (pt_lt (P.lp _ hx)), pt_pt, P.qp _ hx]
theorem ax_ne {h : Nat} {p q : Nat → Nat} (P : Pm (2 * h) p q) {x : Nat} (hx : x < 2 * h) : ax p q x ≠ x := by
  intro e
  have e1 : p (ax p q x) = p x := by rw [e]
  unfold ax at e1
  rw [P.pq _ (pt_lt (P.lp _ hx))] at e1
  exact pt_ne _ e1
theorem tt_lt {h : Nat} {p q : Nat → Nat} (P : Pm (2 * h) p q) {x : Nat} (hx : x < 2 * h) : tt p q x < 2 * h := ax_lt P (pt_lt hx)
theorem itt_lt {h : Nat} {p q : Nat → Nat} (P : Pm (2 * h) p q) {s : Nat} (hs : s < 2 * h) : ∀ k, itt p q s k < 2 * h
  | 0 => hs
  | k + 1 => tt_lt P (itt_lt P hs k)
theorem tt_inj {h : Nat} {p q : Nat → Nat} (P : Pm (2 * h) p q) {x y : Nat} (hx : x < 2 * h) (hy : y < 2 * h) (e : tt p q x = tt p q y) : x = y := by
  unfold tt at e
  have e1 : ax p q (ax p q (pt x)) = ax p q (ax p q (pt y)) := by rw [e]
  rw [ax_ax P (pt_lt hx), ax_ax P (pt_lt hy)] at e1
  rw [← pt_pt x, e1, pt_pt]
/-- No input of a loop at an even place is a neighbour of one at an even place. -/
theorem itt_far {h : Nat} {p q : Nat → Nat} (P : Pm (2 * h) p q) {s : Nat} (hs : s < 2 * h) : ∀ d k j, k = j + d → itt p q s k ≠ pt (itt p q s j) := by
  intro d
  induction d using Nat.strongRecOn with
  | ind d ih =>
    intro k j hk e
    match d, ih, hk with
    | 0, _, hk => obtain rfl : k = j := by omega
                  exact pt_ne _ e.symm
    | 1, _, hk =>
      obtain rfl : k = j + 1 := by omega
      exact ax_ne P (pt_lt (itt_lt P hs j)) e
    | d + 2, ih, hk =>
      obtain rfl : k = j + 1 + d + 1 := by omega
      refine ih d (by omega) (j + 1 + d) (j + 1) rfl ?_
      have e1 : ax p q (itt p q s (j + 1 + d + 1)) = ax p q (pt (itt p q s j)) := by rw [e]
      have e2 : itt p q s (j + 1 + d + 1) = ax p q (pt (itt p q s (j + 1 + d))) := rfl
      rw [e2, ax_ax P (pt_lt (itt_lt P hs _))] at e1
      have e3 : itt p q s (j + 1) = ax p q (pt (itt p q s j)) := rfl
      rw [e3, ← e1, pt_pt]
theorem itt_two {h : Nat} {p q : Nat → Nat} (P : Pm (2 * h) p q) {s : Nat} (hs : s < 2 * h) (k j : Nat) : itt p q s k ≠ pt (itt p q s j) := by
  by_cases hkj : j ≤ k
  · exact itt_far P hs (k - j) k j (by omega)
  · intro e
    refine itt_far P hs (j - k) j k (by omega) ?_
    rw [e, pt_pt]
/-- A set of inputs that no loop leaves. -/
def Cls (n : Nat) (p q : Nat → Nat) (sn : Nat → Prop) : Prop := ∀ x, x < n → (sn (pt x) ↔ sn x) ∧ (sn (ax p q x) ↔ sn x)
theorem cls_tt {h : Nat} {p q : Nat → Nat} {sn : Nat → Prop} (C : Cls (2 * h) p q sn) {x : Nat} (hx : x < 2 * h) : sn (tt p q x) ↔ sn x := ((C _ (pt_lt hx)).2).trans (C _ hx).1
theorem cls_itt {h : Nat} {p q : Nat → Nat} {sn : Nat → Prop} (P : Pm (2 * h) p q) (C : Cls (2 * h) p q sn) {s : Nat} (hs : s < 2 * h) : ∀ k, sn (itt p q s k) ↔ sn s
  | 0 => Iff.rfl
  | k + 1 => (cls_tt C (itt_lt P hs k)).trans (cls_itt P C hs k)
/-- What is seen behind k rounds of a loop. -/
def Sn (p q : Nat → Nat) (sn : Nat → Prop) (s k x : Nat) : Prop := sn x ∨ ∃ j, j < k ∧ (x = itt p q s j ∨ x = pt (itt p q s j))
/-- A loop ends where it began. -/
theorem loop_end {h : Nat} {p q : Nat → Nat} {sn : Nat → Prop} (P : Pm (2 * h) p q) (C : Cls (2 * h) p q sn) {s k : Nat} (hs : s < 2 * h) (h0 : ¬ sn s) (hk : ∀ j, j < k → ¬ Sn p q sn s j (itt p q s j)) (he : Sn p q sn s k (itt p q s k)) :
    itt p q s k = s := by
  obtain h1 | ⟨j, hj, h1 | h1⟩ := he
  · exact absurd ((cls_itt P C hs k).1 h1) h0
  · cases j with
    | zero => exact h1
    | succ j =>
      exfalso
      obtain ⟨k, rfl⟩ : ∃ k', k = k' + 1 := ⟨k - 1, by omega⟩
      have h2 : itt p q s k = itt p q s j := tt_inj P (itt_lt P hs k) (itt_lt P hs j) h1
      exact hk k (by omega) (Or.inr ⟨j, by omega, Or.inl h2⟩)
  · exact absurd h1 (itt_two P hs k j)
theorem itt_back {h : Nat} {p q : Nat → Nat} (P : Pm (2 * h) p q) {s k j : Nat} (hs : s < 2 * h) (hj : j < k) (he : itt p q s k = s) : ∃ j', j' < k ∧ ax p q (itt p q s j) = pt (itt p q s j') := by
  cases j with
  | zero =>
    obtain ⟨k, rfl⟩ : ∃ k', k = k' + 1 := ⟨k - 1, by omega⟩
    refine ⟨k, by omega, ?_⟩
    have e : itt p q s 0 = ax p q (pt (itt p q s k)) := he.symm
    rw [e, ax_ax P (pt_lt (itt_lt P hs k))]
  | succ j =>
    refine ⟨j, by omega, ?_⟩
    have e : itt p q s (j + 1) = ax p q (pt (itt p q s j)) := rfl
    rw [e, ax_ax P (pt_lt (itt_lt P hs j))]
theorem itt_on {p q : Nat → Nat} {s k j : Nat} (hj : j < k) (he : itt p q s k = s) : ∃ j', j' < k ∧ ax p q (pt (itt p q s j)) = itt p q s j' := by
  by_cases e : j + 1 = k
  · exact ⟨0, by omega, by subst e; exact he⟩
  · exact ⟨j + 1, by omega, rfl⟩
/-- What is seen behind a whole loop is again a set that no loop leaves. -/
theorem loop_cls {h : Nat} {p q : Nat → Nat} {sn : Nat → Prop} (P : Pm (2 * h) p q) (C : Cls (2 * h) p q sn) {s k : Nat} (hs : s < 2 * h) (he : itt p q s k = s) : Cls (2 * h) p q (Sn p q sn s k) := by
  have f1 : ∀ x, x < 2 * h → Sn p q sn s k x → Sn p q sn s k (pt x) := by
    rintro x hx (h1 | ⟨j, hj, rfl | rfl⟩)
    · exact Or.inl ((C x hx).1.2 h1)
    · exact Or.inr ⟨j, hj, Or.inr rfl⟩
    · exact Or.inr ⟨j, hj, Or.inl (pt_pt _)⟩
  have f2 : ∀ x, x < 2 * h → Sn p q sn s k x → Sn p q sn s k (ax p q x) := by
    rintro x hx (h1 | ⟨j, hj, rfl | rfl⟩)
    · exact Or.inl ((C x hx).2.2 h1)
    · obtain ⟨j', h1, h2⟩ := itt_back P hs hj he
      exact Or.inr ⟨j', h1, Or.inr h2⟩
    · obtain ⟨j', h1, h2⟩ := itt_on hj he
      exact Or.inr ⟨j', h1, Or.inl h2⟩
  intro x hx
  refine ⟨⟨fun h1 => ?_, f1 x hx⟩, fun h1 => ?_, f2 x hx⟩
  · have := f1 _ (pt_lt hx) h1
    rwa [pt_pt] at this
  · have := f2 _ (ax_lt P hx) h1
    rwa [ax_ax P hx] at this
/-- The loops: where each begins and how many pairs it has. -/
structure Lps (h : Nat) (p q : Nat → Nat) (L : Nat) (s kk : Nat → Nat) : Prop where
  at_ : ∀ i, i < L → s i < 2 * h ∧ 0 < kk i ∧ itt p q (s i) (kk i) = s i
  all : ∀ x, x < 2 * h → ∃ i, i < L ∧ ∃ j, j < kk i ∧ (x = itt p q (s i) j ∨ x = pt (itt p q (s i) j))
  one : ∀ i j i' j', i < L → i' < L → j < kk i → j' < kk i' → (itt p q (s i) j = itt p q (s i') j' ∨ itt p q (s i) j = pt (itt p q (s i') j')) → i = i'
/-- Loops have a number and a side for each input. -/
theorem lps_loops {h : Nat} {p q : Nat → Nat} {L : Nat} {s kk : Nat → Nat} (P : Pm (2 * h) p q) (H : Lps h p q L s kk) :
    ∃ id par, Loops h L q id par s ∧ ∀ i j, i < L → j < kk i → id (itt p q (s i) j) = i ∧ par (itt p q (s i) j) = false ∧ id (pt (itt p q (s i) j)) = i ∧ par (pt (itt p q (s i) j)) = true := by
  have h1 : ∀ x, ∃ z : Nat × Bool, x < 2 * h → z.1 < L ∧ ∃ j, j < kk z.1 ∧ x = if z.2 = true then pt (itt p q (s z.1) j) else itt p q (s z.1) j := by
    intro x
    by_cases hx : x < 2 * h
    · obtain ⟨i, hi, j, hj, e | e⟩ := H.all x hx
      · exact ⟨(i, false), fun _ => ⟨hi, j, hj, e⟩⟩
      · exact ⟨(i, true), fun _ => ⟨hi, j, hj, e⟩⟩
    · exact ⟨(0, false), fun h => absurd h hx⟩
  obtain ⟨f, hf⟩ := Classical.axiomOfChoice h1
  have hev : ∀ i j, i < L → j < kk i → (f (itt p q (s i) j)).1 = i ∧ (f (itt p q (s i) j)).2 = false := by
    intro i j hi hj
    obtain ⟨a, j', b, c⟩ := hf _ (itt_lt P (H.at_ i hi).1 j)
    cases e : (f (itt p q (s i) j)).2
    · rw [e, if_neg (by decide)] at c
      exact ⟨(H.one i j _ j' hi a hj b (Or.inl c)).symm, rfl⟩
    · rw [e, if_pos rfl] at c
      have e1 := H.one i j _ j' hi a hj b (Or.inr c)
      rw [← e1] at c
      exact absurd c (itt_two P (H.at_ i hi).1 j j')
  have hod : ∀ i j, i < L → j < kk i → (f (pt (itt p q (s i) j))).1 = i ∧ (f (pt (itt p q (s i) j))).2 = true := by
    intro i j hi hj
    obtain ⟨a, j', b, c⟩ := hf _ (pt_lt (itt_lt P (H.at_ i hi).1 j))
    cases e : (f (pt (itt p q (s i) j))).2
    · rw [e, if_neg (by decide)] at c
      have e1 := H.one _ j' i j a hi b hj (Or.inr c.symm)
      rw [e1] at c
      exact absurd c.symm (itt_two P (H.at_ i hi).1 j' j)
    · rw [e, if_pos rfl] at c
      have c1 : itt p q (s i) j = itt p q (s (f (pt (itt p q (s i) j))).1) j' := by
        have c2 := congrArg pt c
        rwa [pt_pt, pt_pt] at c2
      exact ⟨(H.one i j _ j' hi a hj b (Or.inl c1)).symm, rfl⟩
  refine ⟨fun x => (f x).1, fun x => (f x).2, ⟨fun x hx => ?_, fun y hy => ?_, fun i hi => ?_, fun σ hg x hx => ?_⟩, fun i j hi hj => ⟨(hev i j hi hj).1, (hev i j hi hj).2, (hod i j hi hj).1, (hod i j hi hj).2⟩⟩
  · obtain ⟨i, hi, j, hj, rfl | rfl⟩ := H.all x hx
    · simp only [(hev i j hi hj).1, (hev i j hi hj).2, (hod i j hi hj).1, (hod i j hi hj).2]
      exact ⟨hi, trivial, rfl⟩
    · simp only [pt_pt, (hev i j hi hj).1, (hev i j hi hj).2, (hod i j hi hj).1, (hod i j hi hj).2]
      exact ⟨hi, trivial, rfl⟩
  · have e : q (pt y) = ax p q (q y) := by unfold ax; rw [P.pq _ hy]
    rw [e]
    obtain ⟨i, hi, j, hj, e1 | e1⟩ := H.all (q y) (P.lq _ hy)
    · rw [e1]
      obtain ⟨j', h2, h3⟩ := itt_back P (H.at_ i hi).1 hj (H.at_ i hi).2.2
      rw [h3]
      simp only [(hev i j hi hj).1, (hev i j hi hj).2, (hod i j' hi h2).1, (hod i j' hi h2).2]
      exact ⟨trivial, rfl⟩
    · rw [e1]
      obtain ⟨j', h2, h3⟩ := itt_on hj (H.at_ i hi).2.2
      rw [h3]
      simp only [(hod i j hi hj).1, (hod i j hi hj).2, (hev i j' hi h2).1, (hev i j' hi h2).2]
      exact ⟨trivial, rfl⟩
  · have e := hev i 0 hi (H.at_ i hi).2.1
    exact ⟨(H.at_ i hi).1, e.1, e.2⟩
  · have h2 : ∀ i, i < L → ∀ j, σ (itt p q (s i) j) = σ (s i) := by
      intro i hi j
      induction j with
      | zero => rfl
      | succ j ih =>
        have hl := itt_lt P (H.at_ i hi).1 j
        have e : itt p q (s i) (j + 1) = q (pt (p (pt (itt p q (s i) j)))) := rfl
        rw [e, hg.2 _ (P.lp _ (pt_lt hl)), P.qp _ (pt_lt hl), hg.1 _ hl, ih, Bool.not_not]
    obtain ⟨i, hi, j, hj, rfl | rfl⟩ := H.all x hx
    · simp only [(hev i j hi hj).1, (hev i j hi hj).2]
      rw [h2 i hi j, Bool.xor_false]
    · simp only [(hod i j hi hj).1, (hod i j hi hj).2]
      rw [hg.1 _ (itt_lt P (H.at_ i hi).1 j), h2 i hi j, Bool.xor_true]
end Ben
