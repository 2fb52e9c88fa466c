import Derived.Test.YtkkcnhhfdicppaaCz7
namespace Lay
variable {op : Int → Int → Bool} {M B p q x y : Int} {F : Int → Int → Int → Option Int}
/-- What is known of a state that is on the way. -/
theorem sq_at (h : Fin7 op M B p q F) (hM : 1 ≤ M) (hB : 0 ≤ B) (h0 : (chp F B x y (-1)).1 ≠ -1) {L : Nat} (hn : ∀ j, j < L → ¬ (sqX F B x y j = p ∧ sqY F B x y j = q)) {k : Nat} (hk : k < L) :
    (0 ≤ (sqC F B x y k).1 ∧ (sqC F B x y k).1 < 4) ∧ F (sqX F B x y k) (sqY F B x y k) (sqC F B x y k).1 = some ((sqC F B x y k).2 - bd B (sqI F B x y k) (sqC F B x y k).1) ∧
    (∀ d v, 0 ≤ d → d < 4 → F (sqX F B x y k) (sqY F B x y k) d = some v → (sqC F B x y k).2 ≤ v + bd B (sqI F B x y k) d) ∧
    wyN (sqX F B x y) (sqY F B x y) k = (sqC F B x y k).1 ∧ pvN (sqX F B x y) (sqY F B x y) k = sqI F B x y k ∧ op (sqX F B x y k) (sqY F B x y k) = true := by
  have wy : ∀ j, j < L → wyN (sqX F B x y) (sqY F B x y) j = (sqC F B x y j).1 := fun j hj => by
    obtain ⟨g, _⟩ := sq_run h hM hB h0 j (fun i hi => hn i (by omega))
    obtain ⟨hd, _⟩ := chp_is g
    exact (wyS_iff hd.1 hd.2).2 ⟨rfl, rfl⟩
  obtain ⟨g, _⟩ := sq_run h hM hB h0 k (fun i hi => hn i (by omega))
  obtain ⟨hd, hf, hm⟩ := chp_is g
  refine ⟨hd, hf, hm, wy k hk, ?_, (h.can hf).1⟩
  cases k with
  | zero => rfl
  | succ j => exact wy j (by omega)
theorem bd_le' {i o : Int} (hB : 0 ≤ B) : 0 ≤ bd B i o ∧ bd B i o ≤ B := by unfold bd; split <;> omega
/-- From a state on: straight on, or a bend is in between. -/
theorem sq_far (h : Fin7 op M B p q F) (hM : 1 ≤ M) (hB : 0 ≤ B) (h0 : (chp F B x y (-1)).1 ≠ -1) {L : Nat} (hn : ∀ j, j < L → ¬ (sqX F B x y j = p ∧ sqY F B x y j = q)) (a : Nat) : ∀ m, a + m < L →
    ((sqC F B x y a).2 - bd B (sqI F B x y a) (sqC F B x y a).1 ≥ (sqC F B x y (a + m)).2 - bd B (sqI F B x y (a + m)) (sqC F B x y (a + m)).1 + m ∧ (sqC F B x y (a + m)).1 = (sqC F B x y a).1 ∧
      (((sqC F B x y a).1 = 0 ∧ sqX F B x y (a + m) = sqX F B x y a + m) ∨ ((sqC F B x y a).1 = 1 ∧ sqY F B x y (a + m) = sqY F B x y a + m) ∨ ((sqC F B x y a).1 = 2 ∧ sqX F B x y (a + m) = sqX F B x y a - m) ∨ ((sqC F B x y a).1 = 3 ∧ sqY F B x y (a + m) = sqY F B x y a - m))) ∨
    (sqC F B x y a).2 - bd B (sqI F B x y a) (sqC F B x y a).1 ≥ (sqC F B x y (a + m)).2 - bd B (sqI F B x y (a + m)) (sqC F B x y (a + m)).1 + m + B
  | 0, hk => by
    obtain ⟨hd, _⟩ := sq_at h hM hB h0 hn (k := a) (by omega)
    refine Or.inl ⟨by show _ ≥ _ + ((0 : Nat) : Int); simp only [Nat.add_zero]; omega, rfl, ?_⟩
    have : (sqC F B x y a).1 = 0 ∨ (sqC F B x y a).1 = 1 ∨ (sqC F B x y a).1 = 2 ∨ (sqC F B x y a).1 = 3 := by omega
    simp only [Nat.add_zero]
    rcases this with e | e | e | e <;> simp [e]
  | m + 1, hk => by
    have ih := sq_far h hM hB h0 hn a m (by omega)
    obtain ⟨_, _, hr⟩ := sq_run h hM hB h0 (a + m + 1) (fun i hi => hn i (by omega))
    have e1 := hr (a + m) (by omega)
    obtain ⟨n1, n2, n3⟩ := sq_next F B x y (a + m)
    have e3 : a + (m + 1) = a + m + 1 := by omega
    rw [e3]
    rw [n3]
    have hb := bd_le' (i := (sqC F B x y (a + m)).1) (o := (sqC F B x y (a + m + 1)).1) hB
    by_cases hbe : (sqC F B x y (a + m + 1)).1 = (sqC F B x y (a + m)).1
    · rcases ih with ⟨i1, i2, i3⟩ | ih
      · refine Or.inl ⟨by push_cast; omega, by rw [hbe, i2], ?_⟩
        rw [n1, n2, i2]
        rcases i3 with ⟨j1, j2⟩ | ⟨j1, j2⟩ | ⟨j1, j2⟩ | ⟨j1, j2⟩
        · refine Or.inl ⟨j1, ?_⟩; rw [j1, j2]; simp [nx]; omega
        · refine Or.inr (Or.inl ⟨j1, ?_⟩); rw [j1, j2]; simp [ny]; omega
        · refine Or.inr (Or.inr (Or.inl ⟨j1, ?_⟩)); rw [j1, j2]; simp [nx]; omega
        · refine Or.inr (Or.inr (Or.inr ⟨j1, ?_⟩)); rw [j1, j2]; simp [ny]; omega
      · exact Or.inr (by push_cast; omega)
    · obtain ⟨hd, _⟩ := sq_at h hM hB h0 hn (k := a + m) (by omega)
      obtain ⟨hd', _⟩ := sq_at h hM hB h0 hn (k := a + m + 1) (by omega)
      have hbB : bd B (sqC F B x y (a + m)).1 (sqC F B x y (a + m + 1)).1 = B := by unfold bd; rw [if_pos ⟨by omega, by omega, fun e => hbe e.symm⟩]
      refine Or.inr ?_
      rcases ih with ⟨i1, _⟩ | ih <;> (push_cast; omega)
/-- The route is a path, costs the least, and is what rt says. -/
theorem sq_path (h : Fin7 op M B p q F) (hM : 1 ≤ M) (hB : 0 ≤ B) (hne : ¬ (x = p ∧ y = q)) (h0 : (chp F B x y (-1)).1 ≠ -1) (hop : op p q = true) :
    ∃ L, 1 ≤ L ∧ (sqX F B x y L = p ∧ sqY F B x y L = q) ∧ (∀ i j, i < j → j < L + 1 → ¬ (sqX F B x y j = sqX F B x y i ∧ sqY F B x y j = sqY F B x y i)) ∧ (∀ k, k < L → wyN (sqX F B x y) (sqY F B x y) k ≠ -1) ∧ (∀ k, k < L + 1 → op (sqX F B x y k) (sqY F B x y k) = true) ∧
      coN M B (sqX F B x y) (sqY F B x y) L = (chp F B x y (-1)).2 ∧ rt F M B p q L x y (-1) = some ((List.range L).map fun j => (sqX F B x y (j + 1), sqY F B x y (j + 1)), (chp F B x y (-1)).2) := by
  obtain ⟨L, hL, hn⟩ := sq_hit h hM hB h0
  have hL1 : 1 ≤ L := by
    rcases Nat.eq_zero_or_pos L with e | e
    · subst e; exact absurd hL hne
    · exact e
  have hat := fun k (hk : k < L) => sq_at h hM hB h0 hn hk
  have hco : ∀ k, k < L → coN M B (sqX F B x y) (sqY F B x y) k + (sqC F B x y k).2 = (chp F B x y (-1)).2 := by
    intro k
    induction k with
    | zero => intro _; show 0 + (chp F B x y (-1)).2 = _; omega
    | succ k ih =>
      intro hk
      have i1 := ih (by omega)
      obtain ⟨_, _, _, w1, w2, _⟩ := hat k (by omega)
      obtain ⟨_, _, hr⟩ := sq_run h hM hB h0 (k + 1) (fun i hi => hn i (by omega))
      have e1 := hr k (by omega)
      have e2 : coN M B (sqX F B x y) (sqY F B x y) (k + 1) = coN M B (sqX F B x y) (sqY F B x y) k + (M + bd B (pvN (sqX F B x y) (sqY F B x y) k) (wyN (sqX F B x y) (sqY F B x y) k)) := rfl
      rw [w1, w2] at e2
      omega
  have hend : coN M B (sqX F B x y) (sqY F B x y) L = (chp F B x y (-1)).2 := by
    obtain ⟨k, rfl⟩ : ∃ k, L = k + 1 := ⟨L - 1, by omega⟩
    obtain ⟨hd, hf, _, w1, w2, ho⟩ := hat k (by omega)
    have i1 := hco k (by omega)
    have e2 : coN M B (sqX F B x y) (sqY F B x y) (k + 1) = coN M B (sqX F B x y) (sqY F B x y) k + (M + bd B (pvN (sqX F B x y) (sqY F B x y) k) (wyN (sqX F B x y) (sqY F B x y) k)) := rfl
    rw [w1, w2] at e2
    have l1 := ((h _ _ _).1 _ hf).2 _ (Wk.base _ _ _ hd.1 hd.2 ho hL.1 hL.2)
    have l2 := (((h _ _ _).1 _ hf).1).low (by omega) hB
    omega
  refine ⟨L, hL1, hL, fun a b hab hb => ?_, fun k hk => ?_, fun k hk => ?_, hend, ?_⟩
  · intro e
    by_cases hbL : b = L
    · subst hbL
      exact hn a hab ⟨e.1.symm.trans hL.1, e.2.symm.trans hL.2⟩
    · obtain ⟨m, rfl⟩ : ∃ m, b = a + m := ⟨b - a, by omega⟩
      obtain ⟨hd, hf, _⟩ := hat (a + m) (by omega)
      obtain ⟨_, _, hm, _⟩ := hat a (by omega)
      rw [e.1, e.2] at hf
      have g1 := hm _ _ hd.1 hd.2 hf
      have g2 := bd_le' (i := sqI F B x y a) (o := (sqC F B x y (a + m)).1) hB
      have g3 := bd_le' (i := sqI F B x y a) (o := (sqC F B x y a).1) hB
      rcases sq_far h hM hB h0 hn a m (by omega) with ⟨_, _, i3⟩ | i
      · rcases i3 with ⟨_, j2⟩ | ⟨_, j2⟩ | ⟨_, j2⟩ | ⟨_, j2⟩ <;> omega
      · omega
  · obtain ⟨hd, _, _, w1, _⟩ := hat k hk
    rw [w1]; omega
  · by_cases e : k = L
    · subst e; rw [hL.1, hL.2]; exact hop
    · exact (hat k (by omega)).2.2.2.2.2
  · have hrt : ∀ m k, k + m = L → rt F M B p q m (sqX F B x y k) (sqY F B x y k) (sqI F B x y k) = some ((List.range m).map fun j => (sqX F B x y (k + 1 + j), sqY F B x y (k + 1 + j)), (chp F B x y (-1)).2 - coN M B (sqX F B x y) (sqY F B x y) k) := by
      intro m
      induction m with
      | zero =>
        intro k hk
        obtain rfl : k = L := by omega
        unfold rt
        rw [if_pos hL, hend]
        simp
      | succ m ih =>
        intro k hk
        have i1 := ih (k + 1) (by omega)
        obtain ⟨hd, _, _, w1, w2, _⟩ := hat k (by omega)
        obtain ⟨g, _⟩ := sq_run h hM hB h0 k (fun i hi => hn i (by omega))
        have e2 : coN M B (sqX F B x y) (sqY F B x y) (k + 1) = coN M B (sqX F B x y) (sqY F B x y) k + (M + bd B (pvN (sqX F B x y) (sqY F B x y) k) (wyN (sqX F B x y) (sqY F B x y) k)) := rfl
        rw [w1, w2] at e2
        unfold rt
        have g9 : ¬ (chp F B (sqX F B x y k) (sqY F B x y k) (sqI F B x y k)).1 = -1 := g
        rw [if_neg (hn k (by omega)), if_neg g9]
        have i2 : rt F M B p q m (nx (sqX F B x y k) (chp F B (sqX F B x y k) (sqY F B x y k) (sqI F B x y k)).1) (ny (sqY F B x y k) (chp F B (sqX F B x y k) (sqY F B x y k) (sqI F B x y k)).1) (chp F B (sqX F B x y k) (sqY F B x y k) (sqI F B x y k)).1 = _ := i1
        rw [i2]
        simp only
        rw [List.range_succ_eq_map, List.map_cons, List.map_map]
        have hfun : ((fun j => (sqX F B x y (k + 1 + j), sqY F B x y (k + 1 + j))) ∘ Nat.succ) = fun j => (sqX F B x y (k + 1 + 1 + j), sqY F B x y (k + 1 + 1 + j)) := by
          funext j
          show (sqX F B x y (k + 1 + (j + 1)), sqY F B x y (k + 1 + (j + 1))) = _
          rw [show k + 1 + (j + 1) = k + 1 + 1 + j by omega]
        rw [hfun]
        refine congrArg some (Prod.ext rfl ?_)
        show _ - coN M B (sqX F B x y) (sqY F B x y) (k + 1) + (M + bd B (sqI F B x y k) (sqC F B x y k).1) = _
        omega
    have := hrt L 0 (by omega)
    simp only [Nat.zero_add] at this
    have h00 : coN M B (sqX F B x y) (sqY F B x y) 0 = 0 := rfl
    rw [h00, Int.sub_zero] at this
    have hfun : (fun j => (sqX F B x y (1 + j), sqY F B x y (1 + j))) = fun j => (sqX F B x y (j + 1), sqY F B x y (j + 1)) := by
      funext j; rw [Nat.add_comm 1 j]
    rw [hfun] at this
    exact this
end Lay
