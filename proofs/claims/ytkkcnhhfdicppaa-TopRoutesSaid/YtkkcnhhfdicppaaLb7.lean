import Derived.Test.YtkkcnhhfdicppaaLa7
namespace Lay
/-- A visit: a cell, the direction of the first step, what it costs. -/
structure V where
  x : Int
  y : Int
  d : Int
  c : Int
def nx (x d : Int) : Int := if d = 0 then x + 1 else if d = 1 then x else if d = 2 then x - 1 else x
def ny (y d : Int) : Int := if d = 0 then y else if d = 1 then y + 1 else if d = 2 then y else y - 1
def opp (d : Int) : Int := (d + 2) % 4
theorem nx_opp {d : Int} (h0 : 0 ≤ d) (h4 : d < 4) (x y : Int) : nx (nx x (opp d)) d = x ∧ ny (ny y (opp d)) d = y := by
  have : d = 0 ∨ d = 1 ∨ d = 2 ∨ d = 3 := by omega
  rcases this with rfl | rfl | rfl | rfl <;> simp [nx, ny, opp] <;> omega
theorem nx_inj {d : Int} (h0 : 0 ≤ d) (h4 : d < 4) {x y p q : Int} (h1 : nx x d = p) (h2 : ny y d = q) : x = nx p (opp d) ∧ y = ny q (opp d) := by
  subst h1; subst h2
  have : d = 0 ∨ d = 1 ∨ d = 2 ∨ d = 3 := by omega
  rcases this with rfl | rfl | rfl | rfl <;> simp [nx, ny, opp] <;> omega
/-- What a bend between two directions costs; −1 stands for none. -/
def bd (B i o : Int) : Int := if i ≠ -1 ∧ o ≠ -1 ∧ i ≠ o then B else 0
/-- A walk from a cell, with the direction of its first step, to a place, and its cost. -/
inductive Wk (op : Int → Int → Bool) (M B p q : Int) : Int → Int → Int → Int → Prop
  | base (x y d : Int) : 0 ≤ d → d < 4 → op x y = true → nx x d = p → ny y d = q → Wk op M B p q x y d M
  | step (x y d x' y' d' v : Int) : Wk op M B p q x' y' d' v → 0 ≤ d → d < 4 → op x y = true → nx x d = x' → ny y d = y' → Wk op M B p q x y d (v + M + bd B d d')
variable {op : Int → Int → Bool} {M B p q : Int}
theorem Wk.dir {x y d v : Int} (h : Wk op M B p q x y d v) : 0 ≤ d ∧ d < 4 ∧ op x y = true := by
  cases h with
  | base _ _ _ a b c => exact ⟨a, b, c⟩
  | step _ _ _ _ _ _ _ _ a b c => exact ⟨a, b, c⟩
/-- Covered: done at no more, or waiting at no more. -/
def Cov (F : Int → Int → Int → Option Int) (f : Nat → V) (n : Nat) (x y d u : Int) : Prop :=
  (∃ v, F x y d = some v ∧ v ≤ u) ∨ ∃ i, i < n ∧ (f i).x = x ∧ (f i).y = y ∧ (f i).d = d ∧ (f i).c ≤ u
/-- What holds of the done and the waiting ones. -/
structure Inv (op : Int → Int → Bool) (M B p q : Int) (F : Int → Int → Int → Option Int) (f : Nat → V) (n : Nat) : Prop where
  wait : ∀ i, i < n → Wk op M B p q (f i).x (f i).y (f i).d (f i).c
  done : ∀ x y d v, F x y d = some v → Wk op M B p q x y d v ∧ ∀ u, Wk op M B p q x y d u → v ≤ u
  base : ∀ x y d, 0 ≤ d → d < 4 → op x y = true → nx x d = p → ny y d = q → Cov F f n x y d M
  step : ∀ x y d x' y' d' v, F x' y' d' = some v → 0 ≤ d → d < 4 → op x y = true → nx x d = x' → ny y d = y' → Cov F f n x y d (v + M + bd B d d')
theorem Inv.least {F : Int → Int → Int → Option Int} {f : Nat → V} {n : Nat} (h : Inv op M B p q F f n) (hM : 0 ≤ M) (hB : 0 ≤ B) {x y d v : Int} (hw : Wk op M B p q x y d v) :
    (∃ u, F x y d = some u ∧ u ≤ v) ∨ ∃ i, i < n ∧ (f i).c ≤ v := by
  induction hw with
  | base x y d h0 h4 ho h1 h2 =>
    rcases h.base x y d h0 h4 ho h1 h2 with ⟨u, a, b⟩ | ⟨i, hi, _, _, _, hc⟩
    · exact Or.inl ⟨u, a, b⟩
    · exact Or.inr ⟨i, hi, hc⟩
  | step x y d x' y' d' v hw h0 h4 ho h1 h2 ih =>
    have hb : 0 ≤ bd B d d' := by unfold bd; split <;> omega
    rcases ih with ⟨u, a, b⟩ | ⟨i, hi, hc⟩
    · rcases h.step x y d x' y' d' u a h0 h4 ho h1 h2 with ⟨u', a', b'⟩ | ⟨i, hi, _, _, _, hc⟩
      · exact Or.inl ⟨u', a', by omega⟩
      · exact Or.inr ⟨i, hi, by omega⟩
    · exact Or.inr ⟨i, hi, by omega⟩
/-- The least costs: done ones are all and the least. -/
def Fin7 (op : Int → Int → Bool) (M B p q : Int) (F : Int → Int → Int → Option Int) : Prop :=
  ∀ x y d, (∀ v, F x y d = some v → Wk op M B p q x y d v ∧ ∀ u, Wk op M B p q x y d u → v ≤ u) ∧ (∀ v, Wk op M B p q x y d v → ∃ u, F x y d = some u)
theorem Inv.fin {F : Int → Int → Int → Option Int} {f : Nat → V} (h : Inv op M B p q F f 0) (hM : 0 ≤ M) (hB : 0 ≤ B) : Fin7 op M B p q F := by
  intro x y d
  refine ⟨fun v hv => h.done x y d v hv, fun v hw => ?_⟩
  rcases h.least hM hB hw with ⟨u, a, _⟩ | ⟨i, hi, _⟩
  · exact ⟨u, a⟩
  · omega
theorem Fin7.uniq {F G : Int → Int → Int → Option Int} (h : Fin7 op M B p q F) (g : Fin7 op M B p q G) : F = G := by
  funext x y d
  cases hF : F x y d with
  | none =>
    cases hG : G x y d with
    | none => rfl
    | some v =>
      obtain ⟨u, hu⟩ := (h x y d).2 v ((g x y d).1 v hG).1
      rw [hF] at hu; cases hu
  | some v =>
    obtain ⟨u, hu⟩ := (g x y d).2 v ((h x y d).1 v hF).1
    have h1 := ((h x y d).1 v hF).2 u ((g x y d).1 u hu).1
    have h2 := ((g x y d).1 u hu).2 v ((h x y d).1 v hF).1
    rw [hu]
    have : v = u := by omega
    rw [this]
/-- One more done. -/
def set7 (F : Int → Int → Int → Option Int) (a b e v : Int) : Int → Int → Int → Option Int := fun x y d => if x = a ∧ y = b ∧ d = e then some v else F x y d
theorem set7_eq (F : Int → Int → Int → Option Int) (a b e v : Int) : set7 F a b e v a b e = some v := by simp [set7]
theorem set7_ne (F : Int → Int → Int → Option Int) {a b e v x y d : Int} (h : ¬ (x = a ∧ y = b ∧ d = e)) : set7 F a b e v x y d = F x y d := by simp [set7, h]
/-- While the ways to begin with one step more are added: as far as the ways below k. -/
structure Mid (op : Int → Int → Bool) (M B p q : Int) (F : Int → Int → Int → Option Int) (f : Nat → V) (n : Nat) (a b e v : Int) (k : Int) : Prop where
  wait : ∀ i, i < n → Wk op M B p q (f i).x (f i).y (f i).d (f i).c
  done : ∀ x y d v, F x y d = some v → Wk op M B p q x y d v ∧ ∀ u, Wk op M B p q x y d u → v ≤ u
  base : ∀ x y d, 0 ≤ d → d < 4 → op x y = true → nx x d = p → ny y d = q → Cov F f n x y d M
  step : ∀ x y d x' y' d' v, F x' y' d' = some v → 0 ≤ d → d < 4 → op x y = true → nx x d = x' → ny y d = y' → (¬ (x' = a ∧ y' = b ∧ d' = e) ∨ d < k) → Cov F f n x y d (v + M + bd B d d')
  self : F a b e = some v
/-- All of a queue's visits, as a set. -/
theorem Cov.mono {F : Int → Int → Int → Option Int} {f g : Nat → V} {n m : Nat} {x y d u : Int} (h : Cov F f n x y d u) (hs : ∀ i, i < n → ∃ j, j < m ∧ g j = f i) : Cov F g m x y d u := by
  rcases h with h | ⟨i, hi, a, b, c, e⟩
  · exact Or.inl h
  · obtain ⟨j, hj, hg⟩ := hs i hi
    exact Or.inr ⟨j, hj, by rw [hg]; exact a, by rw [hg]; exact b, by rw [hg]; exact c, by rw [hg]; exact e⟩
/-- A visit taken that is done: it may be left. -/
theorem Inv.skip {F : Int → Int → Int → Option Int} {f g : Nat → V} {n m : Nat} (h : Inv op M B p q F f n) (P : V) (hin : ∃ i, i < n ∧ f i = P) (hF : F P.x P.y P.d ≠ none)
    (h1 : ∀ i, i < n → (f i = P ∨ ∃ j, j < m ∧ g j = f i)) (h2 : ∀ j, j < m → ∃ i, i < n ∧ f i = g j) : Inv op M B p q F g m := by
  obtain ⟨i0, hi0, hP⟩ := hin
  obtain ⟨v0, hv0⟩ : ∃ v, F P.x P.y P.d = some v := by
    cases hx : F P.x P.y P.d with
    | none => exact absurd hx hF
    | some v => exact ⟨v, rfl⟩
  have hw0 := h.wait i0 hi0
  rw [hP] at hw0
  have hle := (h.done _ _ _ _ hv0).2 _ hw0
  have cov : ∀ x y d u, Cov F f n x y d u → Cov F g m x y d u := by
    intro x y d u hc
    rcases hc with hc | ⟨i, hi, a, b, c, e⟩
    · exact Or.inl hc
    · rcases h1 i hi with hp | ⟨j, hj, hg⟩
      · rw [hp] at a b c e
        subst a; subst b; subst c
        exact Or.inl ⟨v0, hv0, by omega⟩
      · exact Or.inr ⟨j, hj, by rw [hg]; exact a, by rw [hg]; exact b, by rw [hg]; exact c, by rw [hg]; exact e⟩
  refine ⟨?_, h.done, fun x y d a b c e f => cov _ _ _ _ (h.base x y d a b c e f), fun x y d x' y' d' v a b c e f i => cov _ _ _ _ (h.step x y d x' y' d' v a b c e f i)⟩
  intro j hj
  obtain ⟨i, hi, he⟩ := h2 j hj
  rw [← he]
  exact h.wait i hi
/-- The cheapest visit taken, if it is not done: it is done now. -/
theorem Inv.take {F : Int → Int → Int → Option Int} {f g : Nat → V} {n m : Nat} (h : Inv op M B p q F f n) (hM : 0 ≤ M) (hB : 0 ≤ B) (P : V) (hin : ∃ i, i < n ∧ f i = P) (hF : F P.x P.y P.d = none) (hmin : ∀ i, i < n → P.c ≤ (f i).c)
    (h1 : ∀ i, i < n → (f i = P ∨ ∃ j, j < m ∧ g j = f i)) (h2 : ∀ j, j < m → ∃ i, i < n ∧ f i = g j) : Mid op M B p q (set7 F P.x P.y P.d P.c) g m P.x P.y P.d P.c 0 := by
  obtain ⟨i0, hi0, hP⟩ := hin
  have hw0 := h.wait i0 hi0
  rw [hP] at hw0
  have cov : ∀ x y d u, Cov F f n x y d u → Cov (set7 F P.x P.y P.d P.c) g m x y d u := by
    intro x y d u hc
    by_cases hs : x = P.x ∧ y = P.y ∧ d = P.d
    · obtain ⟨rfl, rfl, rfl⟩ := hs
      refine Or.inl ⟨P.c, set7_eq _ _ _ _ _, ?_⟩
      rcases hc with ⟨v, hv, _⟩ | ⟨i, hi, _, _, _, e⟩
      · rw [hF] at hv; cases hv
      · have := hmin i hi; omega
    · rcases hc with ⟨v, hv, hle⟩ | ⟨i, hi, a, b, c, e⟩
      · exact Or.inl ⟨v, by rw [set7_ne F hs]; exact hv, hle⟩
      · rcases h1 i hi with hp | ⟨j, hj, hg⟩
        · rw [hp] at a b c
          exact absurd ⟨a.symm, b.symm, c.symm⟩ hs
        · exact Or.inr ⟨j, hj, by rw [hg]; exact a, by rw [hg]; exact b, by rw [hg]; exact c, by rw [hg]; exact e⟩
  refine ⟨?_, ?_, fun x y d a b c e f => cov _ _ _ _ (h.base x y d a b c e f), ?_, set7_eq _ _ _ _ _⟩
  · intro j hj
    obtain ⟨i, hi, he⟩ := h2 j hj
    rw [← he]
    exact h.wait i hi
  · intro x y d v hv
    by_cases hs : x = P.x ∧ y = P.y ∧ d = P.d
    · obtain ⟨rfl, rfl, rfl⟩ := hs
      rw [set7_eq] at hv
      cases hv
      refine ⟨hw0, fun u hu => ?_⟩
      rcases h.least hM hB hu with ⟨u', a, _⟩ | ⟨i, hi, hc⟩
      · rw [hF] at a; cases a
      · have := hmin i hi; omega
    · rw [set7_ne F hs] at hv
      exact h.done x y d v hv
  · intro x y d x' y' d' v hv a b c e f hk
    rcases hk with hk | hk
    · rw [set7_ne F hk] at hv
      exact cov _ _ _ _ (h.step x y d x' y' d' v hv a b c e f)
    · omega
/-- One more way: pushed if it may be. -/
theorem Mid.next {F : Int → Int → Int → Option Int} {f g : Nat → V} {n m : Nat} {a b e v k : Int} (h : Mid op M B p q F f n a b e v k) (hk0 : 0 ≤ k) (hk4 : k < 4) (h1 : ∀ i, i < n → ∃ j, j < m ∧ g j = f i)
    (h2 : ∀ j, j < m → (∃ i, i < n ∧ f i = g j) ∨ (op (nx a (opp k)) (ny b (opp k)) = true ∧ g j = ⟨nx a (opp k), ny b (opp k), k, v + M + bd B k e⟩))
    (h3 : op (nx a (opp k)) (ny b (opp k)) = true → ∃ j, j < m ∧ g j = ⟨nx a (opp k), ny b (opp k), k, v + M + bd B k e⟩) : Mid op M B p q F g m a b e v (k + 1) := by
  refine ⟨?_, h.done, fun x y d a b c e f => (h.base x y d a b c e f).mono h1, ?_, h.self⟩
  · intro j hj
    rcases h2 j hj with ⟨i, hi, he⟩ | ⟨ho, he⟩
    · rw [← he]; exact h.wait i hi
    · rw [he]
      obtain ⟨e1, e2⟩ := nx_opp hk0 hk4 a b
      exact Wk.step _ _ _ a b e v (h.done _ _ _ _ h.self).1 hk0 hk4 ho e1 e2
  · intro x y d x' y' d' u hu c1 c2 c3 c4 c5 hk
    by_cases hold : ¬ (x' = a ∧ y' = b ∧ d' = e) ∨ d < k
    · exact (h.step x y d x' y' d' u hu c1 c2 c3 c4 c5 hold).mono h1
    · have hs : x' = a ∧ y' = b ∧ d' = e := Classical.byContradiction fun hn => hold (Or.inl hn)
      have hdk : d = k := by
        have : ¬ d < k := fun hd => hold (Or.inr hd)
        rcases hk with hk | hk
        · exact absurd hs hk
        · omega
      obtain ⟨rfl, rfl, rfl⟩ := hs
      subst hdk
      rw [h.self] at hu
      cases hu
      obtain ⟨e1, e2⟩ := nx_inj c1 c2 c4 c5
      subst e1; subst e2
      obtain ⟨j, hj, hg⟩ := h3 c3
      exact Or.inr ⟨j, hj, by rw [hg], by rw [hg], by rw [hg], by rw [hg]; exact Int.le_refl _⟩
theorem Mid.all {F : Int → Int → Int → Option Int} {f : Nat → V} {n : Nat} {a b e v : Int} (h : Mid op M B p q F f n a b e v 4) : Inv op M B p q F f n :=
  ⟨h.wait, h.done, h.base, fun x y d x' y' d' u hu c1 c2 c3 c4 c5 => h.step x y d x' y' d' u hu c1 c2 c3 c4 c5 (Or.inr c2)⟩
/-- The beginning: the ways to begin a step before the place, as far as the ways below k. -/
structure Beg (op : Int → Int → Bool) (M B p q : Int) (f : Nat → V) (n : Nat) (k : Int) : Prop where
  wait : ∀ i, i < n → Wk op M B p q (f i).x (f i).y (f i).d (f i).c
  base : ∀ x y d, 0 ≤ d → d < k → op x y = true → nx x d = p → ny y d = q → Cov (fun _ _ _ => none) f n x y d M
theorem Beg.next {f g : Nat → V} {n m : Nat} {k : Int} (h : Beg op M B p q f n k) (hk0 : 0 ≤ k) (hk4 : k < 4) (h1 : ∀ i, i < n → ∃ j, j < m ∧ g j = f i)
    (h2 : ∀ j, j < m → (∃ i, i < n ∧ f i = g j) ∨ (op (nx p (opp k)) (ny q (opp k)) = true ∧ g j = ⟨nx p (opp k), ny q (opp k), k, M⟩))
    (h3 : op (nx p (opp k)) (ny q (opp k)) = true → ∃ j, j < m ∧ g j = ⟨nx p (opp k), ny q (opp k), k, M⟩) : Beg op M B p q g m (k + 1) := by
  refine ⟨?_, ?_⟩
  · intro j hj
    rcases h2 j hj with ⟨i, hi, he⟩ | ⟨ho, he⟩
    · rw [← he]; exact h.wait i hi
    · rw [he]
      obtain ⟨e1, e2⟩ := nx_opp hk0 hk4 p q
      exact Wk.base _ _ _ hk0 hk4 ho e1 e2
  · intro x y d c1 c2 c3 c4 c5
    by_cases hd : d < k
    · exact (h.base x y d c1 hd c3 c4 c5).mono h1
    · have : d = k := by omega
      subst this
      obtain ⟨e1, e2⟩ := nx_inj c1 hk4 c4 c5
      subst e1; subst e2
      obtain ⟨j, hj, hg⟩ := h3 c3
      exact Or.inr ⟨j, hj, by rw [hg], by rw [hg], by rw [hg], by rw [hg]; exact Int.le_refl _⟩
theorem Beg.inv {f : Nat → V} {n : Nat} (h : Beg op M B p q f n 4) : Inv op M B p q (fun _ _ _ => none) f n :=
  ⟨h.wait, fun _ _ _ _ hv => (by cases hv), h.base, fun _ _ _ _ _ _ _ hv => (by cases hv)⟩
/-- All states of a grid. -/
def sts (W H : Nat) : List (Int × Int × Int) := (List.range W).flatMap fun (x : Nat) => (List.range H).flatMap fun (y : Nat) => [((x : Int), (y : Int), (0 : Int)), ((x : Int), (y : Int), 1), ((x : Int), (y : Int), 2), ((x : Int), (y : Int), 3)]
theorem len_flat {α β : Type} (g : α → List β) (c : Nat) (h : ∀ a, (g a).length = c) : ∀ l : List α, (l.flatMap g).length = l.length * c
  | [] => by simp
  | a :: l => by rw [List.flatMap_cons, List.length_append, h, len_flat g c h l, List.length_cons, Nat.succ_mul]; omega
theorem sts_len (W H : Nat) : (sts W H).length = W * (H * 4) := by
  unfold sts
  rw [len_flat _ (H * 4), List.length_range]
  intro x
  rw [len_flat _ 4, List.length_range]
  intro y; rfl
theorem sts_mem {W H : Nat} {x y d : Int} (hx : 0 ≤ x) (hxW : x < W) (hy : 0 ≤ y) (hyH : y < H) (h0 : 0 ≤ d) (h4 : d < 4) : (x, y, d) ∈ sts W H := by
  unfold sts
  rw [List.mem_flatMap]
  refine ⟨x.toNat, by rw [List.mem_range]; omega, ?_⟩
  rw [List.mem_flatMap]
  refine ⟨y.toNat, by rw [List.mem_range]; omega, ?_⟩
  have e1 : ((x.toNat : Nat) : Int) = x := by omega
  have e2 : ((y.toNat : Nat) : Int) = y := by omega
  rw [e1, e2]
  have : d = 0 ∨ d = 1 ∨ d = 2 ∨ d = 3 := by omega
  rcases this with rfl | rfl | rfl | rfl <;> simp
/-- How many are done. -/
def cnt7 (L : List (Int × Int × Int)) (F : Int → Int → Int → Option Int) : Nat := L.countP fun s => (F s.1 s.2.1 s.2.2).isSome
theorem cnt7_le (L : List (Int × Int × Int)) (F : Int → Int → Int → Option Int) : cnt7 L F ≤ L.length := List.countP_le_length
theorem cnt7_set {F : Int → Int → Int → Option Int} {a b e v : Int} (hn : F a b e = none) : ∀ {L : List (Int × Int × Int)}, (a, b, e) ∈ L → cnt7 L F + 1 ≤ cnt7 L (set7 F a b e v)
  | [], h => by cases h
  | s :: L, h => by
    have hmono : cnt7 L F ≤ cnt7 L (set7 F a b e v) := by
      unfold cnt7
      refine List.countP_mono_left ?_
      intro t _ ht
      by_cases hs : t.1 = a ∧ t.2.1 = b ∧ t.2.2 = e
      · simp [set7, hs]
      · rw [set7_ne F hs]; exact ht
    by_cases hs : s = (a, b, e)
    · subst hs
      have e1 : cnt7 ((a, b, e) :: L) F = cnt7 L F := by
        unfold cnt7
        rw [List.countP_cons_of_neg]
        simp [hn]
      have e2 : cnt7 ((a, b, e) :: L) (set7 F a b e v) = cnt7 L (set7 F a b e v) + 1 := by
        unfold cnt7
        rw [List.countP_cons_of_pos]
        simp [set7]
      omega
    · have hm : (a, b, e) ∈ L := by
        rcases List.mem_cons.1 h with h | h
        · exact absurd h.symm hs
        · exact h
      have ih := cnt7_set (v := v) hn hm
      have hs' : ¬ (s.1 = a ∧ s.2.1 = b ∧ s.2.2 = e) := fun hh => hs (by obtain ⟨s1, s2, s3⟩ := s; simp at hh; simp [hh])
      unfold cnt7 at ih ⊢
      rw [List.countP_cons, List.countP_cons, set7_ne F hs']
      omega
end Lay
