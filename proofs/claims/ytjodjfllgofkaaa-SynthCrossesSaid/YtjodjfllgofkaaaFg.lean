import Derived.Test.YtjodjfllgofkaaaTs
namespace Amp
/-- The first error of the first k. -/
def fstE (g : Nat → Int) : Nat → Int
  | 0 => 0
  | k + 1 => if fstE g k = 0 then g k else fstE g k
theorem fstE_stay {g : Nat → Int} {a b : Nat} (h : fstE g a ≠ 0) (hab : a ≤ b) : fstE g b = fstE g a := by
  induction b with
  | zero => obtain rfl : a = 0 := by omega
            rfl
  | succ b ih =>
    by_cases e : a = b + 1
    · rw [e]
    · have := ih (by omega)
      rw [fstE, this, if_neg h]
theorem fstE_step {g : Nat → Int} {k : Nat} (h : fstE g k = 0) : fstE g (k + 1) = g k := by rw [fstE, if_pos h]
end Amp
namespace Go.Proofs.Ytjodjfllgofkaaa
open Go.RowKit Amp
attribute [local go_sem] ix0 ix1 ix2 ix3 jx0 jx1 jx2 jx3
attribute [local go_sem high] run_eqNum run_neNum
/-- A matrix, or the error and no matrix. -/
def MatOr (B : Nat) (w : World) (e : Ending) (n : Nat) (F : Nat → Nm) (er : Int) : Prop :=
  (er = 0 ∧ MatIs B w e n (n * n) F 0) ∨ (er ≠ 0 ∧ e = .returned (.tuple #[.agg #[.int .i64 0, .slice none 0 0], .int .i64 er]))

end Go.Proofs.Ytjodjfllgofkaaa
