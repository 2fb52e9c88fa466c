import Derived.Test.YtkkcnhhfdicppaaDb7
namespace Lay
def Nn : Int := 1099511627776
/-- The sum of the first n of a table. -/
def sumT (T : Nat → Int) : Nat → Nat
  | 0 => 0
  | n + 1 => sumT T n + (T n).toNat
theorem sumT_same {T T' : Nat → Int} : ∀ n, (∀ j, j < n → T' j = T j) → sumT T' n = sumT T n
  | 0, _ => rfl
  | n + 1, h => by simp only [sumT]; rw [sumT_same n fun j hj => h j (by omega), h n (by omega)]
theorem sumT_less {T : Nat → Int} {j : Nat} {v : Int} (h0 : 0 ≤ v) (hv : v < T j) : ∀ n, j < n → sumT (upd T j v) n < sumT T n
  | 0, h => by omega
  | n + 1, h => by
    simp only [sumT]
    by_cases e : j = n
    · subst e
      have hs : sumT (upd T j v) j = sumT T j := sumT_same j (fun i hi => upd_ne T v (by omega))
      rw [upd_eq, hs]
      omega
    · have := sumT_less h0 hv n (by omega)
      rw [upd_ne T v (by omega)]
      omega
variable {op : Int → Int → Bool} {M B p q : Int}
/-- What holds of the table while it is made less: j is 4 · cell + direction. -/
structure TInv (op : Int → Int → Bool) (M B p q : Int) (Wn N : Nat) (T : Nat → Int) : Prop where
  at0 : ∀ i, i < N → ((i % Wn : Nat) : Int) = p → ((i / Wn : Nat) : Int) = q → ∀ c : Nat, c < 4 → T (i * 4 + c) = 0
  val : ∀ i, i < N → ¬ (((i % Wn : Nat) : Int) = p ∧ ((i / Wn : Nat) : Int) = q) → ∀ c : Nat, c < 4 → T (i * 4 + c) = Nn ∨ ∃ d v, Wk op M B p q (i % Wn : Nat) (i / Wn : Nat) d v ∧ T (i * 4 + c) = v + bd B c d
  le : ∀ j, j < N * 4 → 0 ≤ T j ∧ T j ≤ Nn
/-- Nothing becomes less at cell i, in direction d, for those that came by direction c. -/
def Fix (op : Int → Int → Bool) (M B : Int) (Wn : Nat) (T : Nat → Int) (i d c : Nat) : Prop :=
  op (i % Wn : Nat) (i / Wn : Nat) = true → op (nx (i % Wn : Nat) d) (ny (i / Wn : Nat) d) = true → ∀ j : Nat, nx (i % Wn : Nat) d = ((j % Wn : Nat) : Int) → ny (i / Wn : Nat) d = ((j / Wn : Nat) : Int) → T (i * 4 + c) ≤ M + T (j * 4 + d) + bd B c d
/-- One number made less. -/
theorem TInv.less {Wn N : Nat} {T : Nat → Int} (h : TInv op M B p q Wn N T) (hM : 1 ≤ M) (hB : 0 ≤ B) {i d c j : Nat} (hi : i < N) (hj : j < N) (hd : d < 4) (hc : c < 4) (ho : op (i % Wn : Nat) (i / Wn : Nat) = true)
    (hx : nx (i % Wn : Nat) d = ((j % Wn : Nat) : Int)) (hy : ny (i / Wn : Nat) d = ((j / Wn : Nat) : Int)) (hl : M + T (j * 4 + d) + bd B c d < T (i * 4 + c)) : TInv op M B p q Wn N (upd T (i * 4 + c) (M + T (j * 4 + d) + bd B c d)) := by
  have hb := bd_le' (i := (c : Int)) (o := (d : Int)) hB
  have hnt : ¬ (((i % Wn : Nat) : Int) = p ∧ ((i / Wn : Nat) : Int) = q) := fun e => by
    have h1 := h.at0 i hi e.1 e.2 c hc
    have h2 := (h.le (j * 4 + d) (by omega)).1
    omega
  refine ⟨fun k hk e1 e2 c' hc' => ?_, fun k hk hn c' hc' => ?_, fun k hk => ?_⟩
  · have hki : k ≠ i := fun e => by subst e; exact hnt ⟨e1, e2⟩
    rw [upd_ne _ _ (by omega)]
    exact h.at0 k hk e1 e2 c' hc'
  · by_cases e : k * 4 + c' = i * 4 + c
    · obtain rfl : k = i := by omega
      obtain rfl : c' = c := by omega
      rw [upd_eq]
      refine Or.inr ?_
      by_cases ht : ((j % Wn : Nat) : Int) = p ∧ ((j / Wn : Nat) : Int) = q
      · refine ⟨d, M, Wk.base _ _ _ (by omega) (by omega) ho (hx.trans ht.1) (hy.trans ht.2), ?_⟩
        rw [h.at0 j hj ht.1 ht.2 d hd]
        omega
      · rcases h.val j hj ht d hd with e | ⟨d', v', hw, he⟩
        · have := (h.le (k * 4 + c') (by omega)).2; omega
        · refine ⟨d, _, Wk.step _ _ _ _ _ _ _ hw (by omega) (by omega) ho hx hy, ?_⟩
          rw [he]
          omega
    · rw [upd_ne _ _ e]
      exact h.val k hk hn c' hc'
  · by_cases e : k = i * 4 + c
    · subst e
      rw [upd_eq]
      have h1 := h.le (i * 4 + c) hk
      have h2 := h.le (j * 4 + d) (by omega)
      omega
    · rw [upd_ne _ _ e]
      exact h.le k hk
/-- A finished table: nothing becomes less any more. -/
def TFin (op : Int → Int → Bool) (M B p q : Int) (Wn N : Nat) (T : Nat → Int) : Prop := TInv op M B p q Wn N T ∧ ∀ i, i < N → ∀ d, d < 4 → ∀ c, c < 4 → Fix op M B Wn T i d c
/-- What the table has. -/
def tS (F : Int → Int → Int → Option Int) (B p q x y c : Int) : Int := if x = p ∧ y = q then 0 else if (chp F B x y c).1 = -1 then Nn else (chp F B x y c).2
theorem TFin.low {Wn Hn N : Nat} {T : Nat → Int} (h : TFin op M B p q Wn N T) (hN : N = Hn * Wn) (hon : ∀ x y, op x y = true → 0 ≤ x ∧ x < Wn ∧ 0 ≤ y ∧ y < Hn) (hop : op p q = true) {x y d v : Int} (hw : Wk op M B p q x y d v) :
    ∀ (i c : Nat), i < N → c < 4 → x = ((i % Wn : Nat) : Int) → y = ((i / Wn : Nat) : Int) → T (i * 4 + c) ≤ v + bd B c d := by
  have idx : ∀ x y, op x y = true → ∃ j : Nat, j < N ∧ x = ((j % Wn : Nat) : Int) ∧ y = ((j / Wn : Nat) : Int) := fun x y ho => by
    obtain ⟨a1, a2, a3, a4⟩ := hon x y ho
    have h1 : y.toNat + 1 ≤ Hn := by omega
    have h2 := Nat.mul_le_mul_right Wn h1
    rw [Nat.succ_mul] at h2
    refine ⟨y.toNat * Wn + x.toNat, by omega, ?_, ?_⟩
    · rw [Nat.mul_comm, Nat.mul_add_mod, Nat.mod_eq_of_lt (by omega)]; omega
    · rw [Nat.mul_comm, Nat.mul_add_div (by omega), Nat.div_eq_of_lt (by omega)]; omega
  induction hw with
  | base x y d h0 h4 ho h1 h2 =>
    intro i c hi hc ex ey
    obtain ⟨j, hj, e1, e2⟩ := idx p q hop
    obtain ⟨dn, hdn⟩ : ∃ k : Nat, d = k := ⟨d.toNat, by omega⟩
    subst hdn; subst ex; subst ey
    have := h.2 i hi dn (by omega) c hc ho (by rw [h1, h2]; exact hop) j (h1.trans e1) (h2.trans e2)
    rw [h.1.at0 j hj e1.symm e2.symm dn (by omega)] at this
    omega
  | step x y d x' y' d' v hw h0 h4 ho h1 h2 ih =>
    intro i c hi hc ex ey
    obtain ⟨_, _, ho'⟩ := hw.dir
    obtain ⟨j, hj, e1, e2⟩ := idx x' y' ho'
    obtain ⟨dn, hdn⟩ : ∃ k : Nat, d = k := ⟨d.toNat, by omega⟩
    subst hdn; subst ex; subst ey
    have g := ih j dn hj (by omega) e1 e2
    have := h.2 i hi dn (by omega) c hc ho (by rw [h1, h2]; exact ho') j (h1.trans e1) (h2.trans e2)
    omega
/-- A finished table is what the least costs say. -/
theorem TFin.spec {Wn Hn N : Nat} {T : Nat → Int} {F : Int → Int → Int → Option Int} (h : TFin op M B p q Wn N T) (hN : N = Hn * Wn) (hon : ∀ x y, op x y = true → 0 ≤ x ∧ x < Wn ∧ 0 ≤ y ∧ y < Hn) (hop : op p q = true) (hF : Fin7 op M B p q F) (hF8 : ∀ x y d v, F x y d = some v → v ≤ 8000000) (hB : 0 ≤ B ∧ B ≤ 1000) {i c : Nat} (hi : i < N) (hc : c < 4) :
    T (i * 4 + c) = tS F B p q (i % Wn : Nat) (i / Wn : Nat) c := by
  unfold tS
  by_cases ht : ((i % Wn : Nat) : Int) = p ∧ ((i / Wn : Nat) : Int) = q
  · rw [if_pos ht]; exact h.1.at0 i hi ht.1 ht.2 c hc
  rw [if_neg ht]
  rcases h.1.val i hi ht c hc with e | ⟨d, v, hw, he⟩
  · by_cases hn : (chp F B (i % Wn : Nat) (i / Wn : Nat) c).1 = -1
    · rw [if_pos hn]; exact e
    · rw [if_neg hn]
      obtain ⟨hd, hf, _⟩ := chp_is hn
      have h1 := h.low hN hon hop ((hF _ _ _).1 _ hf).1 i c hi hc rfl rfl
      have h2 := hF8 _ _ _ _ hf
      have h3 := bd_le' (i := (c : Int)) (o := (chp F B (i % Wn : Nat) (i / Wn : Nat) c).1) hB.1
      rw [e] at h1
      unfold Nn at h1
      omega
  · obtain ⟨d0, d4, _⟩ := hw.dir
    obtain ⟨u, hu⟩ := (hF _ _ _).2 v hw
    have huv := ((hF _ _ _).1 u hu).2 v hw
    have hn := chp_some (B := B) (i := (c : Int)) d0 d4 hu
    rw [if_neg hn]
    obtain ⟨hd, hf, hm⟩ := chp_is hn
    have h1 := h.low hN hon hop ((hF _ _ _).1 _ hf).1 i c hi hc rfl rfl
    have h2 := hm _ _ d0 d4 hu
    omega
/-- The table at the start. -/
theorem TInv.start {Wn N t : Nat} {T : Nat → Int} (ht : ∀ c : Nat, c < 4 → T (t * 4 + c) = 0) (hn : ∀ i, i < N → i ≠ t → ∀ c : Nat, c < 4 → T (i * 4 + c) = Nn) (hx : ((t % Wn : Nat) : Int) = p) (hy : ((t / Wn : Nat) : Int) = q) : TInv op M B p q Wn N T := by
  have same : ∀ i, ((i % Wn : Nat) : Int) = p → ((i / Wn : Nat) : Int) = q → i = t := fun i e1 e2 => by
    have h1 : i % Wn = t % Wn := by omega
    have h2 : i / Wn = t / Wn := by omega
    rw [← Nat.div_add_mod i Wn, ← Nat.div_add_mod t Wn, h1, h2]
  refine ⟨fun i hi e1 e2 c hc => ?_, fun i hi e c hc => Or.inl ?_, fun j hj => ?_⟩
  · rw [same i e1 e2]; exact ht c hc
  · exact hn i hi (fun e' => e (by rw [e']; exact ⟨hx, hy⟩)) c hc
  · have hj2 : j = j / 4 * 4 + j % 4 := by omega
    rw [hj2]
    by_cases e : j / 4 = t
    · rw [e, ht _ (by omega)]; unfold Nn; omega
    · rw [hn (j / 4) (by omega) e _ (by omega)]; unfold Nn; omega
end Lay
