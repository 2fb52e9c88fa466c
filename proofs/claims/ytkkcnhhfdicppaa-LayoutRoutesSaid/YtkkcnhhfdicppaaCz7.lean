import Derived.Test.YtkkcnhhfdicppaaPa7
import Derived.Test.YtkkcnhhfdicppaaFa7
namespace Lay
/-- Walks with the directions of their first and of their last step. -/
inductive WkE (op : Int → Int → Bool) (M B : Int) : Int → Int → Int → Int → Int → Int → Int → Prop
  | one (x y d : Int) : 0 ≤ d → d < 4 → op x y = true → WkE op M B x y d (nx x d) (ny y d) d M
  | cons (x y d d' p q e v : Int) : WkE op M B (nx x d) (ny y d) d' p q e v → 0 ≤ d → d < 4 → op x y = true → WkE op M B x y d p q e (v + M + bd B d d')
variable {op : Int → Int → Bool} {M B : Int}
theorem WkE.of {p q x y d v : Int} (h : Wk op M B p q x y d v) : ∃ e, WkE op M B x y d p q e v := by
  induction h with
  | base x y d h0 h4 ho h1 h2 => subst h1; subst h2; exact ⟨d, WkE.one x y d h0 h4 ho⟩
  | step x y d x' y' d' v _ h0 h4 ho h1 h2 ih =>
    obtain ⟨e, ih⟩ := ih
    subst h1; subst h2
    exact ⟨e, WkE.cons x y d d' p q e v ih h0 h4 ho⟩
theorem WkE.to {p q x y d e v : Int} (h : WkE op M B x y d p q e v) : Wk op M B p q x y d v := by
  induction h with
  | one x y d h0 h4 ho => exact Wk.base x y d h0 h4 ho rfl rfl
  | cons x y d d' p q e v _ h0 h4 ho ih => exact Wk.step x y d _ _ d' v ih h0 h4 ho rfl rfl
theorem WkE.dirs {p q x y d e v : Int} (h : WkE op M B x y d p q e v) : (0 ≤ d ∧ d < 4) ∧ (0 ≤ e ∧ e < 4) ∧ op x y = true := by
  induction h with
  | one x y d h0 h4 ho => exact ⟨⟨h0, h4⟩, ⟨h0, h4⟩, ho⟩
  | cons x y d d' p q e v _ h0 h4 ho ih => exact ⟨⟨h0, h4⟩, ih.2.1, ho⟩
theorem WkE.snoc {p q x y d e v f : Int} (h : WkE op M B x y d p q e v) (h0 : 0 ≤ f) (h4 : f < 4) (ho : op p q = true) : WkE op M B x y d (nx p f) (ny q f) f (v + M + bd B e f) := by
  induction h with
  | one x y d g0 g4 go => exact WkE.cons x y d f _ _ f M (WkE.one _ _ f h0 h4 ho) g0 g4 go
  | cons x y d d' p q e v _ g0 g4 go ih =>
    have := WkE.cons x y d d' _ _ f _ (ih ho) g0 g4 go
    rw [show v + M + bd B e f + M + bd B d d' = v + M + bd B d d' + M + bd B e f by omega] at this
    exact this
theorem opp_dir {d : Int} (_h0 : 0 ≤ d) (_h4 : d < 4) : 0 ≤ opp d ∧ opp d < 4 := by unfold opp; omega
theorem bd_opp {d e : Int} (h0 : 0 ≤ d) (h4 : d < 4) (g0 : 0 ≤ e) (g4 : e < 4) : bd B (opp e) (opp d) = bd B d e := by
  unfold bd opp
  by_cases h : d = e
  · subst h; rw [if_neg (by omega), if_neg (by omega)]
  · rw [if_pos (by omega), if_pos (by omega)]
theorem nx_back {d : Int} (h0 : 0 ≤ d) (h4 : d < 4) (x y : Int) : nx (nx x d) (opp d) = x ∧ ny (ny y d) (opp d) = y := by
  have : d = 0 ∨ d = 1 ∨ d = 2 ∨ d = 3 := by omega
  rcases this with rfl | rfl | rfl | rfl <;> simp [nx, ny, opp] <;> omega
theorem WkE.rev {p q x y d e v : Int} (h : WkE op M B x y d p q e v) (hp : op p q = true) : WkE op M B p q (opp e) x y (opp d) v := by
  induction h with
  | one x y d h0 h4 ho =>
    obtain ⟨a, b⟩ := nx_back h0 h4 x y
    have := WkE.one (op := op) (M := M) (B := B) (nx x d) (ny y d) (opp d) (opp_dir h0 h4).1 (opp_dir h0 h4).2 hp
    rw [a, b] at this
    exact this
  | cons x y d d' p q e v hw h0 h4 ho ih =>
    obtain ⟨a, b⟩ := nx_back h0 h4 x y
    obtain ⟨⟨g0, g4⟩, _, go⟩ := hw.dirs
    have := (ih hp).snoc (f := opp d) (opp_dir h0 h4).1 (opp_dir h0 h4).2 go
    rw [a, b, bd_opp h0 h4 g0 g4] at this
    exact this
theorem Wk.rev {p q x y d v : Int} (h : Wk op M B p q x y d v) (hp : op p q = true) : ∃ e, Wk op M B x y p q e v := by
  obtain ⟨e, he⟩ := WkE.of h
  exact ⟨_, (he.rev hp).to⟩
/-- A path is a walk. -/
theorem path_walk {X Y : Nat → Int} {l : Nat} (ho : ∀ k, k < l → op (X k) (Y k) = true) (hs : ∀ k, k < l → wyN X Y k ≠ -1) : ∀ j, j < l → ∃ v, Wk op M B (X l) (Y l) (X (l - 1 - j)) (Y (l - 1 - j)) (wyN X Y (l - 1 - j)) v ∧ coN M B X Y (l - 1 - j) + bd B (pvN X Y (l - 1 - j)) (wyN X Y (l - 1 - j)) + v = coN M B X Y l
  | 0, hj => by
    obtain ⟨k, hk⟩ : ∃ k, l = k + 1 := ⟨l - 1, by omega⟩
    subst hk
    rw [show k + 1 - 1 - 0 = k by omega]
    have hr := wyS_range (X k) (Y k) (X (k + 1)) (Y (k + 1))
    have hn := hs k (by omega)
    have hw : wyN X Y k = wyS (X k) (Y k) (X (k + 1)) (Y (k + 1)) := rfl
    rw [← hw] at hr
    obtain ⟨a, b⟩ := (wyS_iff (x := X k) (y := Y k) (p := X (k + 1)) (q := Y (k + 1)) (d := wyN X Y k) (by omega) (by omega)).1 rfl
    refine ⟨M, Wk.base _ _ _ (by omega) (by omega) (ho k (by omega)) a b, ?_⟩
    show _ = coN M B X Y k + (M + bd B (pvN X Y k) (wyN X Y k))
    omega
  | j + 1, hj => by
    obtain ⟨v, h1, h2⟩ := path_walk ho hs j (by omega)
    obtain ⟨k, hk⟩ : ∃ k, l - 1 - (j + 1) = k := ⟨_, rfl⟩
    have hk1 : l - 1 - j = k + 1 := by omega
    rw [hk1] at h1 h2
    rw [hk]
    have hr := wyS_range (X k) (Y k) (X (k + 1)) (Y (k + 1))
    have hn := hs k (by omega)
    have hw : wyN X Y k = wyS (X k) (Y k) (X (k + 1)) (Y (k + 1)) := rfl
    rw [← hw] at hr
    obtain ⟨a, b⟩ := (wyS_iff (x := X k) (y := Y k) (p := X (k + 1)) (q := Y (k + 1)) (d := wyN X Y k) (by omega) (by omega)).1 rfl
    refine ⟨_, Wk.step _ _ _ _ _ _ _ h1 (by omega) (by omega) (ho k (by omega)) a b, ?_⟩
    have e1 : coN M B X Y (k + 1) = coN M B X Y k + (M + bd B (pvN X Y k) (wyN X Y k)) := rfl
    have e2 : pvN X Y (k + 1) = wyN X Y k := rfl
    rw [e1, e2] at h2
    omega
/-- Different numbers below N. -/
theorem pigeon : ∀ (N n : Nat) (f : Nat → Nat), (∀ i, i < n → f i < N) → (∀ i j, i < j → j < n → f i ≠ f j) → n ≤ N
  | 0, n, f, h, _ => by
    rcases Nat.eq_zero_or_pos n with h0 | h0
    · omega
    · have := h 0 h0; omega
  | N + 1, n, f, h, hi => by
    by_cases he : ∃ i, i < n ∧ f i = N
    · obtain ⟨i0, hi0, hf0⟩ := he
      have := pigeon N (n - 1) (fun i => if i = i0 then f (n - 1) else f i) (fun i hi' => by
        by_cases e : i = i0
        · simp only [e, if_true]
          have h1 := h (n - 1) (by omega)
          have h2 := hi i0 (n - 1) (by omega) (by omega)
          omega
        · simp only [e, if_false]
          have h1 := h i (by omega)
          have h2 : f i ≠ f i0 := by
            rcases Nat.lt_or_ge i i0 with g | g
            · exact hi i i0 g hi0
            · exact fun q => hi i0 i (by omega) (by omega) q.symm
          omega) (fun i j hij hj => by
        by_cases e : i = i0
        · have e2 : ¬ j = i0 := by omega
          simp only [e, e2, if_true, if_false]
          exact fun q => hi j (n - 1) (by omega) (by omega) q.symm
        · by_cases e2 : j = i0
          · simp only [e, e2, if_true, if_false]
            exact hi i (n - 1) (by omega) (by omega)
          · simp only [e, e2, if_false]
            exact hi i j hij (by omega))
      omega
    · have := pigeon N n f (fun i hi' => by
        have := h i hi'
        have : f i ≠ N := fun q => he ⟨i, hi', q⟩
        omega) hi
      omega
/-- A path has no more cells than the grid. -/
theorem path_short {X Y : Nat → Int} {n Wn Hn : Nat} (hr : ∀ i j, i < j → j < n → ¬ (X j = X i ∧ Y j = Y i)) (ho : ∀ k, k < n → 0 ≤ X k ∧ X k < Wn ∧ 0 ≤ Y k ∧ Y k < Hn) : n ≤ Hn * Wn := by
  refine pigeon (Hn * Wn) n (fun k => (Y k).toNat * Wn + (X k).toNat) (fun i hi => ?_) (fun i j hij hj e => ?_)
  · have h := ho i hi
    have h1 : (Y i).toNat + 1 ≤ Hn := by omega
    have h2 := Nat.mul_le_mul_right Wn h1
    rw [Nat.succ_mul] at h2
    omega
  · have h1 := ho i (by omega)
    have h2 := ho j hj
    have ei : ((Y i).toNat * Wn + (X i).toNat) % Wn = (X i).toNat := by rw [Nat.mul_comm, Nat.mul_add_mod, Nat.mod_eq_of_lt (by omega)]
    have ej : ((Y j).toNat * Wn + (X j).toNat) % Wn = (X j).toNat := by rw [Nat.mul_comm, Nat.mul_add_mod, Nat.mod_eq_of_lt (by omega)]
    have di : ((Y i).toNat * Wn + (X i).toNat) / Wn = (Y i).toNat := by rw [Nat.mul_comm, Nat.mul_add_div (by omega), Nat.div_eq_of_lt (by omega)]; omega
    have dj : ((Y j).toNat * Wn + (X j).toNat) / Wn = (Y j).toNat := by rw [Nat.mul_comm, Nat.mul_add_div (by omega), Nat.div_eq_of_lt (by omega)]; omega
    have e : (Y i).toNat * Wn + (X i).toNat = (Y j).toNat * Wn + (X j).toNat := e
    rw [e] at ei di
    exact hr i j hij hj ⟨by omega, by omega⟩
/-- The states of the route. -/
def sq (F : Int → Int → Int → Option Int) (B x y : Int) : Nat → Int × Int × Int
  | 0 => (x, y, -1)
  | k + 1 => (nx (sq F B x y k).1 (chp F B (sq F B x y k).1 (sq F B x y k).2.1 (sq F B x y k).2.2).1, ny (sq F B x y k).2.1 (chp F B (sq F B x y k).1 (sq F B x y k).2.1 (sq F B x y k).2.2).1, (chp F B (sq F B x y k).1 (sq F B x y k).2.1 (sq F B x y k).2.2).1)
def sqX (F : Int → Int → Int → Option Int) (B x y : Int) (k : Nat) : Int := (sq F B x y k).1
def sqY (F : Int → Int → Int → Option Int) (B x y : Int) (k : Nat) : Int := (sq F B x y k).2.1
def sqI (F : Int → Int → Int → Option Int) (B x y : Int) (k : Nat) : Int := (sq F B x y k).2.2
def sqC (F : Int → Int → Int → Option Int) (B x y : Int) (k : Nat) : Int × Int := chp F B (sqX F B x y k) (sqY F B x y k) (sqI F B x y k)
theorem sq_next (F : Int → Int → Int → Option Int) (B x y : Int) (k : Nat) : sqX F B x y (k + 1) = nx (sqX F B x y k) (sqC F B x y k).1 ∧ sqY F B x y (k + 1) = ny (sqY F B x y k) (sqC F B x y k).1 ∧ sqI F B x y (k + 1) = (sqC F B x y k).1 := ⟨rfl, rfl, rfl⟩
/-- What a cheapest way is. -/
theorem chp_is {F : Int → Int → Int → Option Int} {B x y i : Int} (hd : (chp F B x y i).1 ≠ -1) : (0 ≤ (chp F B x y i).1 ∧ (chp F B x y i).1 < 4) ∧ F x y (chp F B x y i).1 = some ((chp F B x y i).2 - bd B i (chp F B x y i).1) ∧ ∀ d v, 0 ≤ d → d < 4 → F x y d = some v → (chp F B x y i).2 ≤ v + bd B i d := by
  rcases chN_is F B x y i 4 with ⟨h1, _⟩ | ⟨d, v, h0, h4, hf, he, hm, _⟩
  · exact absurd h1 hd
  · have he' : chp F B x y i = (d, v + bd B i d) := he
    rw [he']
    simp only
    refine ⟨⟨h0, by omega⟩, by rw [hf]; congr 1; omega, fun d' v' a b c => hm d' v' a (by omega) c⟩
theorem chp_some {F : Int → Int → Int → Option Int} {B x y i d v : Int} (h0 : 0 ≤ d) (h4 : d < 4) (hf : F x y d = some v) : (chp F B x y i).1 ≠ -1 := by
  rcases chN_is F B x y i 4 with ⟨_, h2⟩ | ⟨d', v', g0, g4, _, he, _, _⟩
  · rw [h2 d h0 (by omega)] at hf; cases hf
  · have he' : chp F B x y i = (d', v' + bd B i d') := he
    rw [he']; show d' ≠ -1; omega
section
variable {p q x y : Int} {F : Int → Int → Int → Option Int}
/-- What holds as long as the place is not reached. -/
theorem sq_run (h : Fin7 op M B p q F) (hM : 1 ≤ M) (hB : 0 ≤ B) (h0 : (chp F B x y (-1)).1 ≠ -1) : ∀ k, (∀ j, j ≤ k → ¬ (sqX F B x y j = p ∧ sqY F B x y j = q)) → (sqC F B x y k).1 ≠ -1 ∧ (sqC F B x y k).2 + k ≤ (chp F B x y (-1)).2 ∧ (∀ j, j < k → (sqC F B x y (j + 1)).2 = (sqC F B x y j).2 - (M + bd B (sqI F B x y j) (sqC F B x y j).1))
  | 0, hn => ⟨h0, by show (chp F B x y (-1)).2 + ((0 : Nat) : Int) ≤ _; omega, fun j hj => by omega⟩
  | k + 1, hn => by
    obtain ⟨h1, h2, h3⟩ := sq_run h hM hB h0 k (fun j hj => hn j (by omega))
    have hnk := hn (k + 1) (Nat.le_refl _)
    obtain ⟨g1, g2⟩ := h.goes (x := sqX F B x y k) (y := sqY F B x y k) (i := sqI F B x y k) (d := (sqC F B x y k).1) (l := (sqC F B x y k).2) rfl h1 hnk
    have hb := (bd_le (B := B) (i := sqI F B x y k) (o := (sqC F B x y k).1) hB).1
    have g2' : (sqC F B x y (k + 1)).2 = (sqC F B x y k).2 - (M + bd B (sqI F B x y k) (sqC F B x y k).1) := g2
    refine ⟨g1, by omega, fun j hj => ?_⟩
    by_cases e : j = k
    · subst e; exact g2'
    · exact h3 j (by omega)
theorem first_hit {P : Nat → Prop} (hd : ∀ k, P k ∨ ¬ P k) : ∀ n, (∃ L, L ≤ n ∧ P L ∧ ∀ j, j < L → ¬ P j) ∨ ∀ j, j ≤ n → ¬ P j
  | 0 => by
    rcases hd 0 with h | h
    · exact Or.inl ⟨0, Nat.le_refl _, h, fun j hj => by omega⟩
    · exact Or.inr fun j hj => by obtain rfl : j = 0 := by omega
                                  exact h
  | n + 1 => by
    rcases first_hit hd n with ⟨L, h1, h2, h3⟩ | h
    · exact Or.inl ⟨L, by omega, h2, h3⟩
    · rcases hd (n + 1) with g | g
      · exact Or.inl ⟨n + 1, Nat.le_refl _, g, fun j hj => h j (by omega)⟩
      · refine Or.inr fun j hj => ?_
        by_cases e : j = n + 1
        · rw [e]; exact g
        · exact h j (by omega)
/-- The place is reached. -/
theorem sq_hit (h : Fin7 op M B p q F) (hM : 1 ≤ M) (hB : 0 ≤ B) (h0 : (chp F B x y (-1)).1 ≠ -1) : ∃ L, (sqX F B x y L = p ∧ sqY F B x y L = q) ∧ ∀ j, j < L → ¬ (sqX F B x y j = p ∧ sqY F B x y j = q) := by
  rcases first_hit (P := fun k => sqX F B x y k = p ∧ sqY F B x y k = q) (fun k => Decidable.em _) ((chp F B x y (-1)).2.toNat + 1) with ⟨L, _, h1, h2⟩ | hn
  · exact ⟨L, h1, h2⟩
  · obtain ⟨g1, g2, _⟩ := sq_run h hM hB h0 ((chp F B x y (-1)).2.toNat + 1) hn
    obtain ⟨_, hf, _⟩ := chp_is g1
    have hl := (((h _ _ _).1 _ hf).1).low (by omega) hB
    have hb := (bd_le (B := B) (i := sqI F B x y ((chp F B x y (-1)).2.toNat + 1)) (o := (sqC F B x y ((chp F B x y (-1)).2.toNat + 1)).1) hB).1
    have e : (sqC F B x y ((chp F B x y (-1)).2.toNat + 1)).2 = (chp F B (sqX F B x y ((chp F B x y (-1)).2.toNat + 1)) (sqY F B x y ((chp F B x y (-1)).2.toNat + 1)) (sqI F B x y ((chp F B x y (-1)).2.toNat + 1))).2 := rfl
    have e1 : (sqC F B x y ((chp F B x y (-1)).2.toNat + 1)).1 = (chp F B (sqX F B x y ((chp F B x y (-1)).2.toNat + 1)) (sqY F B x y ((chp F B x y (-1)).2.toNat + 1)) (sqI F B x y ((chp F B x y (-1)).2.toNat + 1))).1 := rfl
    rw [← e, ← e1] at hl
    omega
end
end Lay
