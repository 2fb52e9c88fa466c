import Derived.Test.YtjodjfllgofkaaaAs
import Derived.Test.YtjodjfllgofkaaaIb
import Derived.Test.YtjodjfllgofkaaaCl
import Derived.Deep.RegionHeld3
import Derived.Deep.QuietTactic
import Derived.BigQuiet


namespace Prm
open Amp
/-- Is guide g among the n from a + 1 on? -/
def onB (a n g : Nat) : Bool := decide (a + 1 ≤ g ∧ g < a + 1 + n)
/-- Have two items a guide among the first k in common? -/
def touTo (a n a' n' : Nat) : Nat → Bool
  | 0 => false
  | k + 1 => touTo a n a' n' k || (onB a n (k + 1) && onB a' n' (k + 1))
theorem touTo_iff {a n a' n' k : Nat} : touTo a n a' n' k = true ↔ ∃ g, 1 ≤ g ∧ g ≤ k ∧ onB a n g = true ∧ onB a' n' g = true := by
  induction k with
  | zero => simp only [touTo, Bool.false_eq_true, false_iff]; rintro ⟨g, h1, h2, _⟩; omega
  | succ k ih =>
    simp only [touTo, Bool.or_eq_true, Bool.and_eq_true, ih]
    constructor
    · rintro (⟨g, h1, h2, h3⟩ | ⟨h1, h2⟩)
      · exact ⟨g, h1, by omega, h3⟩
      · exact ⟨k + 1, by omega, Nat.le_refl _, h1, h2⟩
    · rintro ⟨g, h1, h2, h3, h4⟩
      by_cases e : g = k + 1
      · subst e; exact .inr ⟨h3, h4⟩
      · exact .inl ⟨g, h1, by omega, h3, h4⟩
def touB (x y : It) : Bool := touTo (itA x) (itN x) (itA y) (itN y) 6
/-- The column of item i as the document's answer has it, from the first k items. -/
def rcTo (f : Nat → It) (i : Nat) : Nat → Int
  | 0 => 1
  | k + 1 => if touB (f i) (f k) = true then (if rcTo f i k < colF f k + 1 then colF f k + 1 else rcTo f i k) else rcTo f i k
theorem mxTo_ge {f : Nat → Int} {n i : Nat} (h : i ≤ n) : f i ≤ mxTo f n := by
  induction n with
  | zero => obtain rfl : i = 0 := by omega
            exact Int.le_refl _
  | succ n ih =>
    simp only [mxTo]
    by_cases e : i = n + 1
    · subst e; split <;> omega
    · have := ih (by omega)
      split <;> omega
theorem mxTo_ex (f : Nat → Int) (n : Nat) : ∃ i, i ≤ n ∧ mxTo f n = f i := by
  induction n with
  | zero => exact ⟨0, Nat.le_refl _, rfl⟩
  | succ n ih =>
    obtain ⟨i, h1, h2⟩ := ih
    simp only [mxTo]
    split
    · exact ⟨n + 1, Nat.le_refl _, rfl⟩
    · exact ⟨i, by omega, h2⟩
/-- Item k covers guide g (from 0 on). -/
def cov (x : It) (g : Nat) : Prop := itA x ≤ g ∧ g < itA x + itN x
theorem colF_gt {f : Nat → It} {k g : Nat} (h : cov (f k) g) : lstF f k g < colF f k := by
  have h2 := mxTo_ge (f := fun i => lstF f k (itA (f k) + i)) (n := itN (f k) - 1) (i := g - itA (f k)) (by have := h.1; have := h.2; omega)
  rw [show itA (f k) + (g - itA (f k)) = g by have := h.1; omega] at h2
  unfold colF
  omega
theorem lstF_max (f : Nat → It) (k g : Nat) : (∀ j, j < k → cov (f j) g → colF f j ≤ lstF f k g) ∧ (lstF f k g = 0 ∨ ∃ j, j < k ∧ cov (f j) g ∧ lstF f k g = colF f j) := by
  induction k with
  | zero => exact ⟨fun j h => by omega, .inl rfl⟩
  | succ k ih =>
    obtain ⟨i1, i2⟩ := ih
    rw [lstF_succ]
    by_cases e : itA (f k) ≤ g ∧ g < itA (f k) + itN (f k)
    · rw [if_pos e]
      refine ⟨fun j hj hc => ?_, .inr ⟨k, by omega, e, rfl⟩⟩
      by_cases ej : j = k
      · subst ej; exact Int.le_refl _
      · have := i1 j (by omega) hc
        have := colF_gt (f := f) (k := k) (g := g) e
        omega
    · rw [if_neg e]
      refine ⟨fun j hj hc => ?_, i2.imp_right fun ⟨j, h1, h2⟩ => ⟨j, by omega, h2⟩⟩
      by_cases ej : j = k
      · subst ej; exact absurd hc e
      · exact i1 j (by omega) hc
theorem touB_iff {x y : It} (hx : itA x + itN x ≤ 6) : touB x y = true ↔ ∃ g, cov x g ∧ cov y g := by
  unfold touB
  rw [touTo_iff]
  simp only [onB, decide_eq_true_eq]
  constructor
  · rintro ⟨g, h1, h2, h3, h4⟩
    exact ⟨g - 1, ⟨by omega, by omega⟩, ⟨by omega, by omega⟩⟩
  · rintro ⟨g, h1, h2⟩
    unfold cov at h1 h2
    exact ⟨g + 1, by omega, by omega, by omega, by omega⟩
theorem rcTo_max (f : Nat → It) (i k : Nat) : 1 ≤ rcTo f i k ∧ (∀ j, j < k → touB (f i) (f j) = true → colF f j + 1 ≤ rcTo f i k) ∧ (rcTo f i k = 1 ∨ ∃ j, j < k ∧ touB (f i) (f j) = true ∧ rcTo f i k = colF f j + 1) := by
  induction k with
  | zero => exact ⟨Int.le_refl _, fun j h => by omega, .inl rfl⟩
  | succ k ih =>
    obtain ⟨i1, i2, i3⟩ := ih
    simp only [rcTo]
    by_cases e : touB (f i) (f k) = true
    · rw [if_pos e]
      by_cases e2 : rcTo f i k < colF f k + 1
      · rw [if_pos e2]
        refine ⟨by omega, fun j hj ht => ?_, .inr ⟨k, by omega, e, rfl⟩⟩
        by_cases ej : j = k
        · subst ej; exact Int.le_refl _
        · have := i2 j (by omega) ht; omega
      · rw [if_neg e2]
        refine ⟨i1, fun j hj ht => ?_, i3.imp_right fun ⟨j, h1, h2⟩ => ⟨j, by omega, h2⟩⟩
        by_cases ej : j = k
        · subst ej; omega
        · exact i2 j (by omega) ht
    · rw [if_neg e]
      refine ⟨i1, fun j hj ht => ?_, i3.imp_right fun ⟨j, h1, h2⟩ => ⟨j, by omega, h2⟩⟩
      by_cases ej : j = k
      · subst ej; exact absurd ht e
      · exact i2 j (by omega) ht
theorem rcTo_col {f : Nat → It} {i : Nat} (h1 : 1 ≤ itN (f i)) (h6 : itA (f i) + itN (f i) ≤ 6) : rcTo f i i = colF f i := by
  obtain ⟨a1, a2, a3⟩ := rcTo_max f i i
  apply Int.le_antisymm
  · rcases a3 with e | ⟨j, hj, ht, e⟩
    · rw [e]; exact (colF_bd f i).1
    · obtain ⟨g, c1, c2⟩ := (touB_iff h6).1 ht
      have := (lstF_max f i g).1 j hj c2
      have := colF_gt (f := f) (k := i) (g := g) c1
      omega
  · obtain ⟨q, hq, e⟩ := mxTo_ex (fun i' => lstF f i (itA (f i) + i')) (itN (f i) - 1)
    have ec : colF f i = lstF f i (itA (f i) + q) + 1 := by unfold colF; rw [e]
    have hcov : cov (f i) (itA (f i) + q) := ⟨by omega, by omega⟩
    rcases (lstF_max f i (itA (f i) + q)).2 with e0 | ⟨j, hj, hc, e0⟩
    · rw [ec, e0]; exact a1
    · rw [ec, e0]
      exact a2 j hj ((touB_iff h6).2 ⟨_, hcov, hc⟩)
theorem rcTo_bd (f : Nat → It) (i k : Nat) : 1 ≤ rcTo f i k ∧ rcTo f i k ≤ (k : Int) + 1 := by
  obtain ⟨a1, _, a3⟩ := rcTo_max f i k
  refine ⟨a1, ?_⟩
  rcases a3 with e | ⟨j, hj, _, e⟩
  · omega
  · have := (colF_bd f j).2; omega
end Prm
namespace Go.Proofs.Ytjodjfllgofkaaa
open Go.RowKit Prm Amp

set_option maxRecDepth 100000 in
set_option maxHeartbeats 2000000 in
theorem on_any (kd m : Int) (a n g : Nat) (nm : ByteArray) (w : World) (hr : itR ⟨kd, (a : Int) + 1, m, nm⟩ = (n : Int)) (ha : a ≤ 5) (hn : n ≤ 2) (hg : g ≤ 6) :
    Calls Try.prog 98 #[.agg #[.int .i64 kd, .int .i64 ((a : Int) + 1), .int .i64 m, .string nm], .int .i64 g] w fun e w' => e = .returned (.bool (onB a n g)) ∧ Below w.heap.size w w' := by
  have HR := Lib.hid hr
  have ha' : (a : Int) ≤ 5 := by omega
  have hn' : (n : Int) ≤ 2 := by omega
  clear hr
  by_cases h1 : a + 1 ≤ g
  · have h1' : (a : Int) + 1 ≤ (g : Int) := by omega
    have hw2 : IntKind.i64.wrap ((a : Int) + 1 + (n : Int)) = (a : Int) + 1 + n := IntWalk.i64_in _ (by omega)
    have HW2 := Lib.hid hw2
    have G0 : Hid (∀ w', Below (w.heap.size + 1) (w.alloc (.cells #[.int .i64 kd, .int .i64 ((a : Int) + 1), .int .i64 m, .string nm] 68)) w' → w'.cell? ⟨w.heap.size, 0, none⟩ = some (.int .i64 kd) ∧ w'.cell? ⟨w.heap.size, 1, none⟩ = some (.int .i64 ((a : Int) + 1)) ∧ w'.cell? ⟨w.heap.size, 2, none⟩ = some (.int .i64 m) ∧ w'.cell? ⟨w.heap.size, 3, none⟩ = some (.string nm)) := Lib.hid (fun w' hb => by
      have e := fun j => hb.cell (p := ⟨w.heap.size, j, none⟩) (Nat.lt_succ_self _)
      rw [e, e, e, e]
      exact ⟨by go_cell, by go_cell, by go_cell, by go_cell⟩)
    clear hw2
    by_cases h2 : g < a + 1 + n
    · have h2' : (g : Int) < (a : Int) + 1 + (n : Int) := by omega
      have hd2 : decide ((g : Int) < (a : Int) + 1 + (n : Int)) = true := decide_eq_true h2'
      have HE : Hid (onB a n g = true) := Lib.hid (decide_eq_true ⟨h1, h2⟩)
      have HD2 := Lib.hid hd2
      clear hd2 h2'
      go_enter Try.func98, Try.ntmps98
      go_wp2_with fail
      have hw2 := HW2.out
      have hd2 := HD2.out
      go_region_held3 (fun w' => w'.cell? ⟨w.heap.size, 0, none⟩ = some (.int .i64 kd) ∧ w'.cell? ⟨w.heap.size, 1, none⟩ = some (.int .i64 ((a : Int) + 1)) ∧ w'.cell? ⟨w.heap.size, 2, none⟩ = some (.int .i64 m) ∧ w'.cell? ⟨w.heap.size, 3, none⟩ = some (.string nm))
        ((first | ((try clear hw2 hd2); refine G0.out _ ?_; go_grown; done) | go_keep))
        ((go_at_call 89; clear hw2 hd2; refine (wide_any kd ((a : Int) + 1) m nm _).mono ?_; rintro e wA ⟨rfl, hb⟩; rw [HR.out]; have HD : Below (w.heap.size + 1) (w.alloc (.cells #[.int .i64 kd, .int .i64 ((a : Int) + 1), .int .i64 m, .string nm] 68)) wA := (Below.trans (by first | exact Below.refl _ _ | go_grown) (hb.mono (by simp))); have HD0 : Below w.heap.size w wA := ((Below.refl _ w).alloc (Nat.le_refl _) _).trans (HD.mono (by omega)); have HG := G0.out _ HD; obtain ⟨q0, q1, q2, q3⟩ := HG; have hw2 := HW2.out; have hd2 := HD2.out))
      all_goals
        go_wp2_with fail
        go_returns
        exact ⟨by rw [HE.out] <;> rfl, HD0⟩
    · have h2' : (a : Int) + 1 + (n : Int) ≤ (g : Int) := by omega
      have hd2 : decide ((g : Int) < (a : Int) + 1 + (n : Int)) = false := decide_eq_false (by omega)
      have HE : Hid (onB a n g = false) := Lib.hid (decide_eq_false (fun h => h2 h.2))
      have HD2 := Lib.hid hd2
      clear hd2 h2'
      go_enter Try.func98, Try.ntmps98
      go_wp2_with fail
      have hw2 := HW2.out
      have hd2 := HD2.out
      go_region_held3 (fun w' => w'.cell? ⟨w.heap.size, 0, none⟩ = some (.int .i64 kd) ∧ w'.cell? ⟨w.heap.size, 1, none⟩ = some (.int .i64 ((a : Int) + 1)) ∧ w'.cell? ⟨w.heap.size, 2, none⟩ = some (.int .i64 m) ∧ w'.cell? ⟨w.heap.size, 3, none⟩ = some (.string nm))
        ((first | ((try clear hw2 hd2); refine G0.out _ ?_; go_grown; done) | go_keep))
        ((go_at_call 89; clear hw2 hd2; refine (wide_any kd ((a : Int) + 1) m nm _).mono ?_; rintro e wA ⟨rfl, hb⟩; rw [HR.out]; have HD : Below (w.heap.size + 1) (w.alloc (.cells #[.int .i64 kd, .int .i64 ((a : Int) + 1), .int .i64 m, .string nm] 68)) wA := (Below.trans (by first | exact Below.refl _ _ | go_grown) (hb.mono (by simp))); have HD0 : Below w.heap.size w wA := ((Below.refl _ w).alloc (Nat.le_refl _) _).trans (HD.mono (by omega)); have HG := G0.out _ HD; obtain ⟨q0, q1, q2, q3⟩ := HG; have hw2 := HW2.out; have hd2 := HD2.out))
      all_goals
        go_wp2_with fail
        go_returns
        exact ⟨by rw [HE.out] <;> rfl, HD0⟩
  · have h1' : (g : Int) < (a : Int) + 1 := by omega
    have hd1 : decide ((a : Int) + 1 ≤ (g : Int)) = false := decide_eq_false (by omega)
    have HE : Hid (onB a n g = false) := Lib.hid (decide_eq_false (fun h => h1 h.1))
    go_enter Try.func98, Try.ntmps98
    go_wp2_with fail
    go_quiet (fail)
    go_wp2_with fail
    go_returns
    exact ⟨by rw [HE.out] <;> rfl, drewN_below (by go_grown)⟩
end Go.Proofs.Ytjodjfllgofkaaa
