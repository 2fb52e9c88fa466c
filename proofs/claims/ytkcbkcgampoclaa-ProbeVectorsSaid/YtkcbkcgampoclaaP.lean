import Derived.Test.YtkcbkcgampoclaaJ
namespace Go.Proofs.Ytkcbkcgampoclaa
open Go.RowKit Amp
attribute [local go_sem] ix0 ix1 ix2 ix3
/-- A product of two of the elements of valid numbers. -/
def pb (n : Int) : Prop := -1000000000000000000 ≤ n ∧ n ≤ 1000000000000000000
/-- What the rounds have added up. -/
def psum (x y : C4) : Nat → C4
  | 0 => ⟨0, 0, 0, 0⟩
  | 1 => ⟨x.a * y.a, x.a * y.b, x.a * y.c, x.a * y.d⟩
  | 2 => ⟨x.a * y.a - x.b * y.d, x.a * y.b + x.b * y.a, x.a * y.c + x.b * y.b, x.a * y.d + x.b * y.c⟩
  | 3 => ⟨x.a * y.a - x.b * y.d - x.c * y.c, x.a * y.b + x.b * y.a - x.c * y.d, x.a * y.c + x.b * y.b + x.c * y.a, x.a * y.d + x.b * y.c + x.c * y.b⟩
  | _ => ⟨x.a * y.a - x.b * y.d - x.c * y.c - x.d * y.b, x.a * y.b + x.b * y.a - x.c * y.d - x.d * y.c, x.a * y.c + x.b * y.b + x.c * y.a - x.d * y.d, x.a * y.d + x.b * y.c + x.c * y.b + x.d * y.a⟩

end Go.Proofs.Ytkcbkcgampoclaa
