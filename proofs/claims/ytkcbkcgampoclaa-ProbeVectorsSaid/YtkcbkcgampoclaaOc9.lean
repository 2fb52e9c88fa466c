import Derived.Test.YtkcbkcgampoclaaCmp
import Derived.Test.YtkcbkcgampoclaaU
/-! The octant of a vector: the parts along the eighths of a turn, the one that is greatest, and the octant that the reference reckons by turning the vector into the first quarter. -/
namespace Amp
/-- Twice the part of (x, y) along w^k is alP + alQ r. -/
def alP (x y : Int) : Nat → Int
  | 0 => 2 * x
  | 2 => 2 * y
  | 4 => -(2 * x)
  | 6 => -(2 * y)
  | _ => 0
def alQ (x y : Int) : Nat → Int
  | 1 => x + y
  | 3 => y - x
  | 5 => -(x + y)
  | 7 => x - y
  | _ => 0
def vecN (x y : Int) : Nm := ⟨⟨x, 0, y, 0⟩, 0⟩
def alS (x y : Int) (k : Nat) : Nm := ⟨⟨alP x y k, alQ x y k, 0, -alQ x y k⟩, 0⟩
theorem k8 {k : Nat} (h : k < 8) : k = 0 ∨ k = 1 ∨ k = 2 ∨ k = 3 ∨ k = 4 ∨ k = 5 ∨ k = 6 ∨ k = 7 := by omega
theorem vld0 {v : C4} (h : big 1000000000 v) : vld ⟨v, 0⟩ = true := by
  simp [vld, (sm_iff v).2 h]
theorem made0 {v : C4} (h : big 1000000000 v) : made v 0 = (⟨v, 0⟩, 0) := by
  have := vld0 h
  unfold made red
  simp [this]
theorem chg0 {v : C4} {g : C4 → C4} (h : big 1000000000 v) (h' : big 1000000000 (g v)) : chgS ⟨v, 0⟩ g = (⟨g v, 0⟩, 0) := by
  unfold chgS
  rw [vld0 h]
  exact made0 h'
theorem comb0 (u v : C4) (s : Int) : comb ⟨u, 0⟩ ⟨v, 0⟩ s = (add u (smul s v), 0) := rfl
theorem add0S {u v : C4} (h : big 1000000000 u) (h' : big 1000000000 v) (h2 : big 1000000000 (add u (smul 1 v))) : addS ⟨u, 0⟩ ⟨v, 0⟩ = (⟨add u (smul 1 v), 0⟩, 0) := by
  unfold addS
  rw [vld0 h, vld0 h', comb0]
  exact made0 h2
def okV (x y : Int) : Prop := (-1000000 ≤ x ∧ x ≤ 1000000) ∧ -1000000 ≤ y ∧ y ≤ 1000000
def tuC (x y : Int) (k : Nat) : C4 := rotn ((-(k : Int)) % 8).toNat ⟨x, 0, y, 0⟩
theorem tu_big {x y : Int} (h : okV x y) {k : Nat} : big 1000000 (tuC x y k) := by
  obtain ⟨h1, h2⟩ := h
  apply rotn_bd
  refine ⟨⟨?_, ?_⟩, ⟨?_, ?_⟩, ⟨?_, ?_⟩, ⟨?_, ?_⟩⟩ <;> simp only <;> omega
theorem vec_big {x y : Int} (h : okV x y) : big 1000000000 (⟨x, 0, y, 0⟩ : C4) := by
  obtain ⟨h1, h2⟩ := h
  refine ⟨⟨?_, ?_⟩, ⟨?_, ?_⟩, ⟨?_, ?_⟩, ⟨?_, ?_⟩⟩ <;> simp only <;> omega
theorem tuS {x y : Int} (h : okV x y) (k : Nat) : chgS ⟨⟨x, 0, y, 0⟩, 0⟩ (fun v => rotn ((-(k : Int)) % 8).toNat v) = (⟨tuC x y k, 0⟩, 0) :=
  chg0 (vec_big h) (big_mono (tu_big h (k := k)) (by omega))
theorem coS {x y : Int} (h : okV x y) (k : Nat) : chgS ⟨tuC x y k, 0⟩ conj = (⟨conj (tuC x y k), 0⟩, 0) :=
  chg0 (big_mono (tu_big h) (by omega)) (conj_bd (big_mono (tu_big h) (by omega)))
theorem alC (x y : Int) {k : Nat} (hk : k < 8) : add (tuC x y k) (smul 1 (conj (tuC x y k))) = (alS x y k).v := by
  rcases k8 hk with rfl | rfl | rfl | rfl | rfl | rfl | rfl | rfl <;>
    (apply C4.ext' <;> simp [tuC, rotn, rot, conj, add, smul, alS, alP, alQ] <;> omega)
theorem alS_big {x y : Int} (h : okV x y) {k : Nat} : big 1000000000 (alS x y k).v := by
  obtain ⟨h1, h2⟩ := h
  have hp : bg 2000000 (alP x y k) := by
    unfold alP bg
    split <;> omega
  have hq : bg 2000000 (alQ x y k) := by
    unfold alQ bg
    split <;> omega
  obtain ⟨p1, p2⟩ := hp
  obtain ⟨q1, q2⟩ := hq
  refine ⟨⟨?_, ?_⟩, ⟨?_, ?_⟩, ⟨?_, ?_⟩, ⟨?_, ?_⟩⟩ <;> simp only [alS] <;> omega
theorem adS {x y : Int} (h : okV x y) {k : Nat} (hk : k < 8) : addS ⟨tuC x y k, 0⟩ ⟨conj (tuC x y k), 0⟩ = (alS x y k, 0) := by
  rw [add0S (big_mono (tu_big h) (by omega)) (conj_bd (big_mono (tu_big h) (by omega))) (by rw [alC x y hk]; exact alS_big h), alC x y hk]
  rfl
/-- How the parts along w^j and w^k compare. -/
def cpS (x y : Int) (j k : Nat) : Int := sgS (alP x y j + -1 * alP x y k) (alQ x y j + -1 * alQ x y k)
theorem cmS {x y : Int} (h : okV x y) (j k : Nat) : cmpS (alS x y j) (alS x y k) = (cpS x y j k, 0) := by
  have r : ∀ i, relB (alS x y i).v = true := fun i => by simp [relB, alS]
  have v : ∀ i, vld (alS x y i) = true := fun i => vld0 (v := (alS x y i).v) (alS_big h)
  unfold cmpS
  rw [v, v, r, r]
  rfl
/-- The octant after so many rounds. -/
def bestO (x y : Int) : Nat → Nat
  | 0 => 0
  | n + 1 => if 0 < cpS x y (n + 1) (bestO x y n) then n + 1 else bestO x y n
theorem best_le (x y : Int) : ∀ n, bestO x y n ≤ n
  | 0 => Nat.le_refl _
  | n + 1 => by
    have := best_le x y n
    unfold bestO
    split <;> omega
def Top (x y : Int) (m : Nat) : Prop := ∀ k, k < 8 → k ≠ m → ¬ nn (alP x y k + -1 * alP x y m) (alQ x y k + -1 * alQ x y m)
theorem cp_neg {x y : Int} {m k : Nat} (h : Top x y m) (hk : k < 8) (hn : k ≠ m) : cpS x y k m = -1 := sgS_neg (h k hk hn)
theorem cp_pos {x y : Int} {m k : Nat} (h : Top x y m) (hk : k < 8) (hn : k ≠ m) : cpS x y m k = 1 := by
  have h1 := h k hk hn
  have h2 : nn (alP x y m + -1 * alP x y k) (alQ x y m + -1 * alQ x y k) := by
    rcases nn_total (alP x y m + -1 * alP x y k) (alQ x y m + -1 * alQ x y k) with h2 | h2
    · exact h2
    · exact absurd (by rw [show alP x y k + -1 * alP x y m = -(alP x y m + -1 * alP x y k) from by omega, show alQ x y k + -1 * alQ x y m = -(alQ x y m + -1 * alQ x y k) from by omega]; exact h2) h1
  apply sgS_pos h2
  rintro ⟨e1, e2⟩
  apply h1
  rw [show alP x y k + -1 * alP x y m = 0 from by omega, show alQ x y k + -1 * alQ x y m = 0 from by omega]
  exact nn_int (Int.le_refl 0)
theorem best_top {x y : Int} {m : Nat} (h : Top x y m) (hm : m < 8) : ∀ n, n < 8 → m ≤ n → bestO x y n = m := by
  intro n
  induction n with
  | zero => intro _ h2; have e : m = 0 := by omega
            subst e; rfl
  | succ n ih =>
    intro h1 h2
    unfold bestO
    by_cases e : m = n + 1
    · subst e
      have hb := best_le x y n
      rw [cp_pos h (by omega) (by omega), if_pos (by omega)]
    · rw [ih (by omega) (by omega), cp_neg h (by omega) (by omega), if_neg (by omega)]
theorem sq2 (a b x y : Int) : (a * x + b * y) * (a * x + b * y) = a * a * (x * x) + 2 * (a * b) * (x * y) + b * b * (y * y) := by grind
theorem no_nn {a b c d x y : Int} {p q : Int} (hp : p = a * x + b * y) (hq : q = c * x + d * y)
    (h : ¬ ((0 ≤ a * x + b * y ∧ 0 ≤ c * x + d * y) ∨ (0 ≤ a * x + b * y ∧ c * x + d * y ≤ 0 ∧ 2 * (c * c * (x * x) + 2 * (c * d) * (x * y) + d * d * (y * y)) ≤ a * a * (x * x) + 2 * (a * b) * (x * y) + b * b * (y * y)) ∨ (a * x + b * y ≤ 0 ∧ 0 ≤ c * x + d * y ∧ a * a * (x * x) + 2 * (a * b) * (x * y) + b * b * (y * y) ≤ 2 * (c * c * (x * x) + 2 * (c * d) * (x * y) + d * d * (y * y))))) : ¬ nn p q := by
  unfold nn
  rw [hp, hq, sq2, sq2]
  exact h
theorem top0 {x y : Int} (hx : 0 < x) (hy : 0 ≤ y) (h : (x + y) * (x + y) < 2 * x * x) : Top x y 0 := by
  have e1 : (x + y) * (x + y) = x * x + 2 * (x * y) + y * y := by grind
  have e2 : 2 * x * x = 2 * (x * x) := by grind
  have c0 : 0 ≤ x * y := Int.mul_nonneg (by omega) hy
  have b0 : 0 ≤ y * y := Int.mul_nonneg hy hy
  have hl : y < x := by
    apply Classical.byContradiction; intro hn
    have := Int.mul_le_mul (show x ≤ y by omega) (show x ≤ y by omega) (by omega) (by omega)
    omega
  intro k hk hne
  rcases k8 hk with rfl | rfl | rfl | rfl | rfl | rfl | rfl | rfl
  · exact absurd rfl hne
  · exact no_nn (a := -2) (b := 0) (c := 1) (d := 1) (x := x) (y := y) (by simp only [alP]; omega) (by simp only [alQ]; omega) (by omega)
  · exact no_nn (a := -2) (b := 2) (c := 0) (d := 0) (x := x) (y := y) (by simp only [alP]; omega) (by simp only [alQ]; omega) (by omega)
  · exact no_nn (a := -2) (b := 0) (c := -1) (d := 1) (x := x) (y := y) (by simp only [alP]; omega) (by simp only [alQ]; omega) (by omega)
  · exact no_nn (a := -4) (b := 0) (c := 0) (d := 0) (x := x) (y := y) (by simp only [alP]; omega) (by simp only [alQ]; omega) (by omega)
  · exact no_nn (a := -2) (b := 0) (c := -1) (d := -1) (x := x) (y := y) (by simp only [alP]; omega) (by simp only [alQ]; omega) (by omega)
  · exact no_nn (a := -2) (b := -2) (c := 0) (d := 0) (x := x) (y := y) (by simp only [alP]; omega) (by simp only [alQ]; omega) (by omega)
  · exact no_nn (a := -2) (b := 0) (c := 1) (d := -1) (x := x) (y := y) (by simp only [alP]; omega) (by simp only [alQ]; omega) (by omega)
theorem top2 {x y : Int} (hx : 0 < x) (hy : 0 ≤ y) (h : (x + y) * (x + y) < 2 * y * y) : Top x y 2 := by
  have e1 : (x + y) * (x + y) = x * x + 2 * (x * y) + y * y := by grind
  have e2 : 2 * y * y = 2 * (y * y) := by grind
  have c0 : 0 ≤ x * y := Int.mul_nonneg (by omega) hy
  have a0 : 0 < x * x := Int.mul_pos hx hx
  have hl : x < y := by
    apply Classical.byContradiction; intro hn
    have := Int.mul_le_mul (show y ≤ x by omega) (show y ≤ x by omega) (by omega) (by omega)
    omega
  intro k hk hne
  rcases k8 hk with rfl | rfl | rfl | rfl | rfl | rfl | rfl | rfl
  · exact no_nn (a := 2) (b := -2) (c := 0) (d := 0) (x := x) (y := y) (by simp only [alP]; omega) (by simp only [alQ]; omega) (by omega)
  · exact no_nn (a := 0) (b := -2) (c := 1) (d := 1) (x := x) (y := y) (by simp only [alP]; omega) (by simp only [alQ]; omega) (by omega)
  · exact absurd rfl hne
  · exact no_nn (a := 0) (b := -2) (c := -1) (d := 1) (x := x) (y := y) (by simp only [alP]; omega) (by simp only [alQ]; omega) (by omega)
  · exact no_nn (a := -2) (b := -2) (c := 0) (d := 0) (x := x) (y := y) (by simp only [alP]; omega) (by simp only [alQ]; omega) (by omega)
  · exact no_nn (a := 0) (b := -2) (c := -1) (d := -1) (x := x) (y := y) (by simp only [alP]; omega) (by simp only [alQ]; omega) (by omega)
  · exact no_nn (a := 0) (b := -4) (c := 0) (d := 0) (x := x) (y := y) (by simp only [alP]; omega) (by simp only [alQ]; omega) (by omega)
  · exact no_nn (a := 0) (b := -2) (c := 1) (d := -1) (x := x) (y := y) (by simp only [alP]; omega) (by simp only [alQ]; omega) (by omega)
theorem top1 {x y : Int} (hx : 0 < x) (hy : 0 ≤ y) (h : ¬ (x + y) * (x + y) < 2 * x * x) (g : ¬ (x + y) * (x + y) < 2 * y * y) : Top x y 1 := by
  have e1 : (x + y) * (x + y) = x * x + 2 * (x * y) + y * y := by grind
  have e2 : 2 * x * x = 2 * (x * x) := by grind
  have e3 : 2 * y * y = 2 * (y * y) := by grind
  have c0 : 0 ≤ x * y := Int.mul_nonneg (by omega) hy
  have a0 : 0 < x * x := Int.mul_pos hx hx
  have b0 : 0 ≤ y * y := Int.mul_nonneg hy hy
  have n1 : x * x ≠ 2 * (x * y) + y * y := by
    intro e
    have := (irrI (x := x + y) (y := x) (by omega)).2
    omega
  have n2 : y * y ≠ 2 * (x * y) + x * x := by
    intro e
    have := (irrI (x := x + y) (y := y) (by omega))
    omega
  intro k hk hne
  rcases k8 hk with rfl | rfl | rfl | rfl | rfl | rfl | rfl | rfl
  · exact no_nn (a := 2) (b := 0) (c := -1) (d := -1) (x := x) (y := y) (by simp only [alP]; omega) (by simp only [alQ]; omega) (by omega)
  · exact absurd rfl hne
  · exact no_nn (a := 0) (b := 2) (c := -1) (d := -1) (x := x) (y := y) (by simp only [alP]; omega) (by simp only [alQ]; omega) (by omega)
  · exact no_nn (a := 0) (b := 0) (c := -2) (d := 0) (x := x) (y := y) (by simp only [alP]; omega) (by simp only [alQ]; omega) (by omega)
  · exact no_nn (a := -2) (b := 0) (c := -1) (d := -1) (x := x) (y := y) (by simp only [alP]; omega) (by simp only [alQ]; omega) (by omega)
  · exact no_nn (a := 0) (b := 0) (c := -2) (d := -2) (x := x) (y := y) (by simp only [alP]; omega) (by simp only [alQ]; omega) (by omega)
  · exact no_nn (a := 0) (b := -2) (c := -1) (d := -1) (x := x) (y := y) (by simp only [alP]; omega) (by simp only [alQ]; omega) (by omega)
  · exact no_nn (a := 0) (b := 0) (c := 0) (d := -2) (x := x) (y := y) (by simp only [alP]; omega) (by simp only [alQ]; omega) (by
      intro h5
      have : 0 < y := by
        apply Classical.byContradiction; intro hn
        have e0 : y = 0 := by omega
        have z1 : x * y = 0 := by rw [e0]; exact Int.mul_zero x
        have z2 : y * y = 0 := by rw [e0]; rfl
        omega
      have := Int.mul_pos this this
      omega)
theorem rotP (x y : Int) {k : Nat} (hk : k < 8) : alP y (-x) k = alP x y ((k + 2) % 8) := by
  rcases k8 hk with rfl | rfl | rfl | rfl | rfl | rfl | rfl | rfl <;> simp [alP] <;> omega
theorem rotQ (x y : Int) {k : Nat} (hk : k < 8) : alQ y (-x) k = alQ x y ((k + 2) % 8) := by
  rcases k8 hk with rfl | rfl | rfl | rfl | rfl | rfl | rfl | rfl <;> simp [alQ] <;> omega
theorem top_rot {x y : Int} {m : Nat} (hm : m < 8) (h : Top y (-x) m) : Top x y ((m + 2) % 8) := by
  intro k hk hne
  have h1 := h ((k + 6) % 8) (by omega) (by omega)
  rw [rotP x y (by omega), rotQ x y (by omega), rotP x y hm, rotQ x y hm, show ((k + 6) % 8 + 2) % 8 = k by omega] at h1
  exact h1
def octB (x y : Int) : Int := if (x + y) * (x + y) < 2 * x * x then 0 else if (x + y) * (x + y) < 2 * y * y then 2 else 1
/-- The reference's octant, with so many turns. -/
def octF : Nat → Int → Int → Int
  | 0, x, y => octB x y
  | n + 1, x, y => if x ≤ 0 ∨ y < 0 then (octF n y (-x) + 2) % 8 else octB x y
/-- Within so many turns it is in the first quarter. -/
def Qd : Nat → Int → Int → Prop
  | 0, x, y => 0 < x ∧ 0 ≤ y
  | n + 1, x, y => (0 < x ∧ 0 ≤ y) ∨ Qd n y (-x)
theorem qd3 {x y : Int} (h : ¬ (x = 0 ∧ y = 0)) : Qd 3 x y := by
  simp only [Qd]; omega
theorem octB_top {x y : Int} (hx : 0 < x) (hy : 0 ≤ y) : Top x y (octB x y).toNat ∧ 0 ≤ octB x y ∧ octB x y < 8 := by
  unfold octB
  split
  · next h => exact ⟨top0 hx hy h, by omega, by omega⟩
  · next h =>
    split
    · next g => exact ⟨top2 hx hy g, by omega, by omega⟩
    · next g => exact ⟨top1 hx hy h g, by omega, by omega⟩
theorem octF_top : ∀ n (x y : Int), Qd n x y → Top x y (octF n x y).toNat ∧ 0 ≤ octF n x y ∧ octF n x y < 8
  | 0, x, y, h => octB_top h.1 h.2
  | n + 1, x, y, h => by
    unfold octF
    split
    · next g =>
      have hq : Qd n y (-x) := by
        rcases h with h | h
        · omega
        · exact h
      obtain ⟨h1, h2, h3⟩ := octF_top n y (-x) hq
      refine ⟨?_, by omega, by omega⟩
      have h4 := top_rot (m := (octF n y (-x)).toNat) (by omega) h1
      rw [show ((octF n y (-x) + 2) % 8).toNat = ((octF n y (-x)).toNat + 2) % 8 by omega]
      exact h4
    · next g => exact octB_top (by omega) (by omega)
/-- The octant of a vector. -/
def octS (x y : Int) : Int := octF 3 x y
theorem oct_top {x y : Int} (h : ¬ (x = 0 ∧ y = 0)) : Top x y (octS x y).toNat ∧ 0 ≤ octS x y ∧ octS x y < 8 := octF_top 3 x y (qd3 h)
theorem best_oct {x y : Int} (h : ¬ (x = 0 ∧ y = 0)) : (bestO x y 7 : Int) = octS x y := by
  obtain ⟨h1, h2, h3⟩ := oct_top h
  rw [best_top h1 (by omega) 7 (by omega) (by omega)]
  omega
theorem top_uniq {x y : Int} {m k : Nat} (hm : m < 8) (hk : k < 8) (h : Top x y m) (g : Top x y k) : m = k := by
  have h1 := best_top h hm 7 (by omega) (by omega)
  have h2 := best_top g hk 7 (by omega) (by omega)
  omega
theorem oct_turn {x y : Int} (h : ¬ (x = 0 ∧ y = 0)) : octS y (-x) = (octS x y + 6) % 8 := by
  obtain ⟨h1, h2, h3⟩ := oct_top h
  obtain ⟨g1, g2, g3⟩ := oct_top (x := y) (y := -x) (by omega)
  have h4 := top_rot (m := (octS y (-x)).toNat) (by omega) g1
  have h5 := top_uniq (by omega) (by omega) h1 h4
  omega
theorem oct_opp {x y : Int} (h : ¬ (x = 0 ∧ y = 0)) : octS (-x) (-y) = (octS x y + 4) % 8 := by
  have h1 := oct_turn h
  have h2 := oct_turn (x := y) (y := -x) (by omega)
  omega
theorem octF_stop {x y : Int} (hx : 0 < x) (hy : 0 ≤ y) : ∀ n, octF n x y = octB x y
  | 0 => rfl
  | n + 1 => by rw [octF, if_neg (by omega)]
/-- A turn towards the first quarter. -/
theorem octF_go {n : Nat} {x y : Int} (h : x ≤ 0 ∨ y < 0) : octF (n + 1) x y = (octF n y (-x) + 2) % 8 := by rw [octF, if_pos h]
end Amp
