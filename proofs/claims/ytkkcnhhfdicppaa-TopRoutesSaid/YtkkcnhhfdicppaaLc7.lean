import Derived.Test.YtkkcnhhfdicppaaLb7
namespace Lay
/-- One way looked at: the best so far, and what it costs. -/
def ch1 (F : Int → Int → Int → Option Int) (B x y i : Int) (b : Int × Int) (d : Int) : Int × Int :=
  match F x y d with
  | none => b
  | some c => if b.1 = -1 ∨ c + bd B i d < b.2 then (d, c + bd B i d) else b
/-- The cheapest of the ways below k. -/
def chN (F : Int → Int → Int → Option Int) (B x y i : Int) : Nat → Int × Int
  | 0 => (-1, 0)
  | k + 1 => ch1 F B x y i (chN F B x y i k) (k : Nat)
theorem chN_is (F : Int → Int → Int → Option Int) (B x y i : Int) : ∀ k : Nat,
    ((chN F B x y i k).1 = -1 ∧ ∀ d : Int, 0 ≤ d → d < k → F x y d = none) ∨
    ∃ (d v : Int), 0 ≤ d ∧ d < k ∧ F x y d = some v ∧ chN F B x y i k = (d, v + bd B i d) ∧ (∀ d' v' : Int, 0 ≤ d' → d' < k → F x y d' = some v' → v + bd B i d ≤ v' + bd B i d') ∧ (∀ d' v' : Int, 0 ≤ d' → d' < d → F x y d' = some v' → v + bd B i d < v' + bd B i d')
  | 0 => Or.inl ⟨rfl, fun d h0 h1 => absurd h1 (by omega)⟩
  | k + 1 => by
    have ih := chN_is F B x y i k
    unfold chN ch1
    cases hF : F x y (k : Nat) with
    | none =>
      simp only
      rcases ih with ⟨h1, h2⟩ | ⟨d, v, h0, hk, hf, he, hm, hl⟩
      · refine Or.inl ⟨h1, fun d h0 h => ?_⟩
        by_cases hd : d = (k : Nat)
        · subst hd; exact hF
        · exact h2 d h0 (by omega)
      · refine Or.inr ⟨d, v, h0, by omega, hf, he, fun d' v' a b c => ?_, hl⟩
        by_cases hd : d' = (k : Nat)
        · subst hd; rw [hF] at c; cases c
        · exact hm d' v' a (by omega) c
    | some c =>
      simp only
      rcases ih with ⟨h1, h2⟩ | ⟨d, v, h0, hk, hf, he, hm, hl⟩
      · rw [if_pos (Or.inl h1)]
        refine Or.inr ⟨k, c, by omega, by omega, hF, rfl, fun d' v' a b e => ?_, fun d' v' a b e => ?_⟩
        · by_cases hd : d' = (k : Nat)
          · subst hd; rw [hF] at e; cases e; exact Int.le_refl _
          · rw [h2 d' a (by omega)] at e; cases e
        · rw [h2 d' a (by omega)] at e; cases e
      · rw [he]
        simp only
        by_cases hc : c + bd B i k < v + bd B i d
        · rw [if_pos (Or.inr hc)]
          refine Or.inr ⟨k, c, by omega, by omega, hF, rfl, fun d' v' a b e => ?_, fun d' v' a b e => ?_⟩
          · by_cases hd : d' = (k : Nat)
            · subst hd; rw [hF] at e; cases e; exact Int.le_refl _
            · have := hm d' v' a (by omega) e; omega
          · have := hm d' v' a (by omega) e; omega
        · rw [if_neg (by omega)]
          refine Or.inr ⟨d, v, h0, by omega, hf, rfl, fun d' v' a b e => ?_, hl⟩
          by_cases hd : d' = (k : Nat)
          · subst hd; rw [hF] at e; cases e; omega
          · exact hm d' v' a (by omega) e
def chp (F : Int → Int → Int → Option Int) (B x y i : Int) : Int × Int := chN F B x y i 4
/-- The route: the first of the cheapest ways, until the place is reached; none if there is no way. -/
def rt (F : Int → Int → Int → Option Int) (M B p q : Int) : Nat → Int → Int → Int → Option (List (Int × Int) × Int)
  | 0, x, y, _ => if x = p ∧ y = q then some ([], 0) else none
  | n + 1, x, y, i => if x = p ∧ y = q then some ([], 0) else
      if (chp F B x y i).1 = -1 then none else
        match rt F M B p q n (nx x (chp F B x y i).1) (ny y (chp F B x y i).1) (chp F B x y i).1 with
        | none => none
        | some (l, c) => some ((nx x (chp F B x y i).1, ny y (chp F B x y i).1) :: l, c + (M + bd B i (chp F B x y i).1))
variable {op : Int → Int → Bool} {M B p q : Int} {F : Int → Int → Int → Option Int}
/-- What is least begins at the place, or goes on with what is least. -/
theorem Fin7.after (h : Fin7 op M B p q F) {x y d v : Int} (hv : F x y d = some v) : (nx x d = p ∧ ny y d = q ∧ v = M) ∨ ∃ d' v', 0 ≤ d' ∧ d' < 4 ∧ F (nx x d) (ny y d) d' = some v' ∧ v = v' + M + bd B d d' := by
  obtain ⟨hw, hl⟩ := (h x y d).1 v hv
  cases hw with
  | base _ _ _ _ _ _ h1 h2 => exact Or.inl ⟨h1, h2, rfl⟩
  | step _ _ _ x' y' d' v' hw' h0 h4 ho h1 h2 =>
    subst h1; subst h2
    obtain ⟨u, hu⟩ := (h _ _ _).2 _ hw'
    obtain ⟨hu1, hu2⟩ := (h _ _ _).1 _ hu
    have h3 := hu2 _ hw'
    have h4' := hl _ (Wk.step x y d _ _ d' u hu1 h0 h4 ho rfl rfl)
    obtain ⟨d0, d4, _⟩ := hw'.dir
    exact Or.inr ⟨d', u, d0, d4, hu, by omega⟩
theorem Fin7.can (h : Fin7 op M B p q F) {x y d v : Int} (hv : F x y d = some v) : op x y = true ∧ 0 ≤ d ∧ d < 4 := by
  obtain ⟨a, b, c⟩ := ((h x y d).1 v hv).1.dir
  exact ⟨c, a, b⟩
theorem Wk.low (hM : 0 ≤ M) (hB : 0 ≤ B) {x y d v : Int} (hw : Wk op M B p q x y d v) : M ≤ v := by
  induction hw with
  | base => exact Int.le_refl _
  | step _ _ _ _ _ d' _ _ _ _ _ _ _ ih =>
    unfold bd; split <;> omega
/-- What a cheapest way is followed by costs so much less. -/
theorem Fin7.goes (h : Fin7 op M B p q F) {x y i d l : Int} (hc : chp F B x y i = (d, l)) (hd : d ≠ -1) (hn : ¬ (nx x d = p ∧ ny y d = q)) :
    (chp F B (nx x d) (ny y d) d).1 ≠ -1 ∧ (chp F B (nx x d) (ny y d) d).2 = l - (M + bd B i d) := by
  rcases chN_is F B x y i 4 with ⟨h1, _⟩ | ⟨d1, v1, h0, h4, hf, he, hm, _⟩
  · have : (chp F B x y i).1 = -1 := h1
    rw [hc] at this; exact absurd this hd
  have he' : chp F B x y i = (d1, v1 + bd B i d1) := he
  rw [hc] at he'
  obtain ⟨rfl, rfl⟩ := Prod.mk.inj he'
  rcases h.after hf with ⟨a, b, _⟩ | ⟨d', v', g0, g4, hg, hv⟩
  · exact absurd ⟨a, b⟩ hn
  rcases chN_is F B (nx x d) (ny y d) d 4 with ⟨_, k2⟩ | ⟨d2, v2, k0, k4, kf, ke, km, _⟩
  · rw [k2 d' g0 (by omega)] at hg; cases hg
  have ke' : chp F B (nx x d) (ny y d) d = (d2, v2 + bd B d d2) := ke
  rw [ke']
  refine ⟨by simp only; omega, ?_⟩
  simp only
  have e1 := km d' v' g0 (by omega) hg
  obtain ⟨ko, _, _⟩ := h.can kf
  obtain ⟨fo, f0, f4⟩ := h.can hf
  have e2 := ((h x y d).1 v1 hf).2 _ (Wk.step x y d _ _ d2 v2 ((h _ _ _).1 _ kf).1 f0 f4 fo rfl rfl)
  omega
/-- The walk goes on to the end: it costs what the cheapest way says. -/
theorem Fin7.rt_some (h : Fin7 op M B p q F) (hM : 1 ≤ M) (hB : 0 ≤ B) : ∀ (n : Nat) (x y i : Int), ¬ (x = p ∧ y = q) → (chp F B x y i).1 ≠ -1 → (chp F B x y i).2 ≤ n → ∃ l, rt F M B p q n x y i = some (l, (chp F B x y i).2)
  | 0, x, y, i, hne, hd, hn => by
    rcases chN_is F B x y i 4 with ⟨h1, _⟩ | ⟨d1, v1, h0, h4, hf, he, _, _⟩
    · exact absurd h1 hd
    · have h2 := (((h x y d1).1 v1 hf).1).low (by omega) hB
      have he' : chp F B x y i = (d1, v1 + bd B i d1) := he
      rw [he'] at hn
      have : 0 ≤ bd B i d1 := by unfold bd; split <;> omega
      simp only at hn
      omega
  | n + 1, x, y, i, hne, hd, hn => by
    unfold rt
    rw [if_neg hne, if_neg hd]
    obtain ⟨⟨d, l⟩, hc⟩ : ∃ c, chp F B x y i = c := ⟨_, rfl⟩
    rw [hc] at hd hn ⊢
    simp only at hd hn ⊢
    by_cases hto : nx x d = p ∧ ny y d = q
    · have e1 : rt F M B p q n (nx x d) (ny y d) d = some ([], 0) := by
        cases n <;> (unfold rt; rw [if_pos hto])
      rw [e1]
      refine ⟨[(nx x d, ny y d)], ?_⟩
      simp only
      rcases chN_is F B x y i 4 with ⟨h1, _⟩ | ⟨d1, v1, h0, h4, hf, he, hm, _⟩
      · have : (chp F B x y i).1 = -1 := h1
        rw [hc] at this; exact absurd this hd
      have he' : chp F B x y i = (d1, v1 + bd B i d1) := he
      rw [hc] at he'
      obtain ⟨rfl, rfl⟩ := Prod.mk.inj he'
      obtain ⟨fo, f0, f4⟩ := h.can hf
      have e2 := ((h x y d).1 v1 hf).2 _ (Wk.base x y d f0 f4 fo hto.1 hto.2)
      have e3 := (((h x y d).1 v1 hf).1).low (by omega) hB
      have : v1 = M := by omega
      subst this
      rw [show (0 : Int) + (v1 + bd B i d) = v1 + bd B i d by omega]
    · obtain ⟨g1, g2⟩ := h.goes hc hd hto
      have hb : 0 ≤ bd B i d := by unfold bd; split <;> omega
      obtain ⟨l', hl'⟩ := Fin7.rt_some h hM hB n (nx x d) (ny y d) d hto g1 (by omega)
      rw [hl', g2]
      refine ⟨(nx x d, ny y d) :: l', ?_⟩
      simp only
      rw [show l - (M + bd B i d) + (M + bd B i d) = l by omega]
/-- More rounds don't matter. -/
theorem rt_more : ∀ (n : Nat) (x y i : Int) (r : List (Int × Int) × Int), rt F M B p q n x y i = some r → rt F M B p q (n + 1) x y i = some r
  | 0, x, y, i, r, h => by
    unfold rt at h ⊢
    split at h
    · next hp => rw [if_pos hp]; exact h
    · cases h
  | n + 1, x, y, i, r, h => by
    unfold rt at h ⊢
    split at h
    · next hp => rw [if_pos hp]; exact h
    · next hp =>
      rw [if_neg hp]
      split at h
      · cases h
      · next hq =>
        rw [if_neg hq]
        cases hr : rt F M B p q n (nx x (chp F B x y i).1) (ny y (chp F B x y i).1) (chp F B x y i).1 with
        | none => rw [hr] at h; cases h
        | some s =>
          rw [rt_more n _ _ _ s hr]
          rw [hr] at h
          exact h
/-- The grid of the sanity check. -/
def tab0 : List (List (List Int)) := [[[55, 55, -1, -1], [45, 45, -1, 70], [30, -1, -1, 60]], [[45, 45, 70, -1], [35, 35, 60, 60], [20, -1, 45, 50]], [[35, 35, 60, -1], [25, 25, 50, 50], [10, -1, 35, 40]], [[-1, 20, 50, -1], [-1, 10, 40, 35], [-1, -1, 25, 25]]]
def op0 (x y : Int) : Bool := decide (0 ≤ x ∧ x < 4 ∧ 0 ≤ y ∧ y < 3)
def F0 (x y d : Int) : Option Int := if 0 ≤ x ∧ x < 4 ∧ 0 ≤ y ∧ y < 3 ∧ 0 ≤ d ∧ d < 4 then (let v := ((tab0.getD x.toNat []).getD y.toNat []).getD d.toNat (-1); if v = -1 then none else some v) else none
/-- Each entry has a walk: it ends, or goes on with an entry that costs less. -/
def okA (x y d : Int) : Bool := match F0 x y d with
  | none => true
  | some v => (decide (nx x d = 3 ∧ ny y d = 2 ∧ v = 10)) || [0, 1, 2, 3].any fun d' => match F0 (nx x d) (ny y d) d' with
    | none => false
    | some v' => decide (v = v' + 10 + bd 5 d d')
/-- No walk costs less. -/
def okB (x y d : Int) : Bool := (if nx x d = 3 ∧ ny y d = 2 then (match F0 x y d with | none => false | some v => decide (v ≤ 10)) else true) && [0, 1, 2, 3].all fun d' => match F0 (nx x d) (ny y d) d' with
  | none => true
  | some v' => (match F0 x y d with | none => false | some v => decide (v ≤ v' + 10 + bd 5 d d'))
def all0 (P : Int → Int → Int → Bool) : Bool := (List.range 4).all fun x => (List.range 3).all fun y => (List.range 4).all fun d => P (x : Nat) (y : Nat) (d : Nat)
theorem all0_at {P : Int → Int → Int → Bool} (h : all0 P = true) {x y d : Int} (hx : 0 ≤ x ∧ x < 4) (hy : 0 ≤ y ∧ y < 3) (hd : 0 ≤ d ∧ d < 4) : P x y d = true := by
  unfold all0 at h
  simp only [List.all_eq_true, List.mem_range] at h
  have := h x.toNat (by omega) y.toNat (by omega) d.toNat (by omega)
  rwa [Int.toNat_of_nonneg hx.1, Int.toNat_of_nonneg hy.1, Int.toNat_of_nonneg hd.1] at this
theorem F0_dom {x y d v : Int} (h : F0 x y d = some v) : (0 ≤ x ∧ x < 4) ∧ (0 ≤ y ∧ y < 3) ∧ (0 ≤ d ∧ d < 4) := by
  unfold F0 at h
  split at h
  · next g => omega
  · cases h
theorem F0_pos {x y d v : Int} (h : F0 x y d = some v) : 0 ≤ v := by
  obtain ⟨hx, hy, hd⟩ := F0_dom h
  have := all0_at (P := fun x y d => match F0 x y d with | none => true | some v => decide (0 ≤ v)) (by decide +kernel) hx hy hd
  simp only [h] at this
  simpa using this
theorem F0_walk : ∀ (n : Nat) (x y d v : Int), v ≤ n → F0 x y d = some v → Wk op0 10 5 3 2 x y d v
  | n, x, y, d, v, hn, h => by
    obtain ⟨hx, hy, hd⟩ := F0_dom h
    have ho : op0 x y = true := by unfold op0; simp; omega
    have hA := all0_at (P := okA) (by decide +kernel) hx hy hd
    unfold okA at hA
    rw [h] at hA
    simp only [Bool.or_eq_true, decide_eq_true_eq, List.any_eq_true] at hA
    rcases hA with ⟨a, b, rfl⟩ | ⟨d', hd', hm⟩
    · exact Wk.base x y d hd.1 hd.2 ho a b
    · cases hF : F0 (nx x d) (ny y d) d' with
      | none => rw [hF] at hm; cases hm
      | some v' =>
        rw [hF] at hm
        simp only [decide_eq_true_eq] at hm
        have hb : 0 ≤ bd 5 d d' := by unfold bd; split <;> omega
        have hp := F0_pos hF
        subst hm
        cases n with
        | zero => omega
        | succ n => exact Wk.step x y d _ _ d' v' (F0_walk n _ _ _ _ (by omega) hF) hd.1 hd.2 ho rfl rfl
theorem op0_dom {x y : Int} (h : op0 x y = true) : (0 ≤ x ∧ x < 4) ∧ (0 ≤ y ∧ y < 3) := by
  unfold op0 at h
  simp at h
  omega
theorem F0_low {x y d v : Int} (h : Wk op0 10 5 3 2 x y d v) : ∃ u, F0 x y d = some u ∧ u ≤ v := by
  induction h with
  | base x y d h0 h4 ho h1 h2 =>
    have hB := all0_at (P := okB) (by decide +kernel) (op0_dom ho).1 (op0_dom ho).2 ⟨h0, h4⟩
    unfold okB at hB
    rw [Bool.and_eq_true, if_pos ⟨h1, h2⟩] at hB
    cases hF : F0 x y d with
    | none => rw [hF] at hB; cases hB.1
    | some v =>
      rw [hF] at hB
      exact ⟨v, rfl, by simpa using hB.1⟩
  | step x y d x' y' d' v hw h0 h4 ho h1 h2 ih =>
    subst h1; subst h2
    obtain ⟨u, hu, hle⟩ := ih
    have hB := all0_at (P := okB) (by decide +kernel) (op0_dom ho).1 (op0_dom ho).2 ⟨h0, h4⟩
    unfold okB at hB
    rw [Bool.and_eq_true] at hB
    obtain ⟨d0, d4, _⟩ := hw.dir
    have hm : d' ∈ ([0, 1, 2, 3] : List Int) := by
      have : d' = 0 ∨ d' = 1 ∨ d' = 2 ∨ d' = 3 := by omega
      simpa using this
    have h3 := List.all_eq_true.1 hB.2 d' hm
    rw [hu] at h3
    simp only at h3
    cases hF : F0 x y d with
    | none => rw [hF] at h3; cases h3
    | some t =>
      rw [hF] at h3
      simp only [decide_eq_true_eq] at h3
      exact ⟨t, rfl, by omega⟩
theorem fin0 : Fin7 op0 10 5 3 2 F0 := by
  intro x y d
  refine ⟨fun v hv => ⟨F0_walk v.toNat x y d v (by have := F0_pos hv; omega) hv, fun u hu => ?_⟩, fun v hv => ?_⟩
  · obtain ⟨t, ht, hle⟩ := F0_low hu
    rw [hv] at ht; cases ht; exact hle
  · obtain ⟨t, ht, _⟩ := F0_low hv
    exact ⟨t, ht⟩
theorem rt0 : ∃ l, rt F0 10 5 3 2 55 0 0 (-1) = some (l, 55) := by
  have h := Fin7.rt_some fin0 (by decide) (by decide) 55 0 0 (-1) (by decide) (by decide +kernel) (by decide +kernel)
  rwa [show (chp F0 5 0 0 (-1)).2 = 55 by decide +kernel] at h
end Lay
