import Derived.Test.YtkcbkcgampoclaaNum
namespace Amp

/-- A number: a sum and the exponent of its divisor. -/
structure Nm where
  v : C4
  k : Int
deriving DecidableEq

theorem Nm.ext' {x y : Nm} (h1 : x.v = y.v) (h2 : x.k = y.k) : x = y := by
  cases x; cases y; simp at h1 h2; simp [h1, h2]

def N0 : Nm := ⟨C0, 0⟩
def smI (n : Int) : Bool := decide (-1000000000 ≤ n) && decide (n ≤ 1000000000)
def sm (x : C4) : Bool := smI x.a && smI x.b && smI x.c && smI x.d
def vld (z : Nm) : Bool := sm z.v && (z.k == 0 || (decide (0 < z.k) && decide (z.k ≤ 40) && !dvb z.v))
def bg (B n : Int) : Prop := -B ≤ n ∧ n ≤ B
def big (B : Int) (x : C4) : Prop := bg B x.a ∧ bg B x.b ∧ bg B x.c ∧ bg B x.d
instance (B n : Int) : Decidable (bg B n) := by unfold bg; infer_instance
instance (B : Int) (x : C4) : Decidable (big B x) := by unfold big; infer_instance

/-- The form of x / r^k, or ErrLimit. -/
def made (x : C4) (k : Nat) : Nm × Int :=
  if vld ⟨(red x k).1, (red x k).2⟩ = true then (⟨(red x k).1, (red x k).2⟩, 0) else (N0, 4)
/-- P1.2 -/
def makeS (x : C4) (k : Int) : Nm × Int :=
  if big 1152921504606846976 x then (if 0 ≤ k ∧ k ≤ 1000 then made x k.toNat else (N0, 2)) else (N0, 2)

theorem smI_iff (n : Int) : smI n = true ↔ -1000000000 ≤ n ∧ n ≤ 1000000000 := by simp [smI]
theorem sm_iff (x : C4) : sm x = true ↔ big 1000000000 x := by
  simp [sm, smI_iff, big, bg, and_assoc]
theorem half_big {B : Int} {x : C4} (h : big B x) : big B (half (tr x)) := by
  obtain ⟨⟨a1, a2⟩, ⟨b1, b2⟩, ⟨c1, c2⟩, ⟨d1, d2⟩⟩ := h
  have t : ∀ n : Int, -(2 * B) ≤ n → n ≤ 2 * B → bg B (n.tdiv 2) := by
    intro n h1 h2
    unfold bg
    rw [Int.tdiv_eq_ediv]
    split
    · omega
    · have : Int.sign 2 = 1 := rfl
      rw [this]; omega
  refine ⟨t _ ?_ ?_, t _ ?_ ?_, t _ ?_ ?_, t _ ?_ ?_⟩ <;> simp only [tr] <;> omega
theorem red_step {x : C4} {k : Nat} (h : dvb x = true) : red x (k + 1) = red (half (tr x)) k := by
  rw [red, if_pos h]
theorem red_stop {x : C4} {k : Nat} (h : dvb x = false) : red x k = (x, k) := red_of_form x k (Or.inr h)
theorem red_big {B : Int} (k : Nat) : ∀ {x : C4}, big B x → big B (red x k).1 := by
  induction k with
  | zero => intro x h; exact h
  | succ k ih =>
    intro x h
    unfold red; split
    · exact ih (half_big h)
    · exact h
theorem made_ok {x y : C4} {j k : Nat} (h1 : red y j = (y, j)) (h2 : red y j = red x k) (h3 : vld ⟨y, j⟩ = true) : made x k = (⟨y, j⟩, 0) := by
  unfold made; rw [← h2, h1]; simp only [h3, if_true]
theorem made_bad {x y : C4} {j k : Nat} (h1 : red y j = (y, j)) (h2 : red y j = red x k) (h3 : vld ⟨y, j⟩ = false) : made x k = (N0, 4) := by
  unfold made; rw [← h2, h1]; simp only [h3]; rfl
theorem makeS_ok {x : C4} {k : Int} (h1 : big 1152921504606846976 x) (h2 : 0 ≤ k ∧ k ≤ 1000) : makeS x k = made x k.toNat := by
  unfold makeS; rw [if_pos h1, if_pos h2]
theorem makeS_bad {x : C4} {k : Int} (h : ¬ (big 1152921504606846976 x ∧ 0 ≤ k ∧ k ≤ 1000)) : makeS x k = (N0, 2) := by
  unfold makeS
  split
  · next h1 => rw [if_neg (fun h2 => h ⟨h1, h2⟩)]
  · rfl
/-- Are the first n numbers valid? -/
def okTo (f : Nat → Nm) : Nat → Bool
  | 0 => true
  | n + 1 => okTo f n && vld (f n)
theorem okTo_stop {f : Nat → Nm} {k : Nat} (h : vld (f k) = false) : ∀ n, k < n → okTo f n = false := by
  intro n
  induction n with
  | zero => intro h; omega
  | succ n ih =>
    intro hk
    simp only [okTo]
    by_cases e : k = n
    · subst e; rw [h]; simp
    · rw [ih (by omega)]; rfl
end Amp
