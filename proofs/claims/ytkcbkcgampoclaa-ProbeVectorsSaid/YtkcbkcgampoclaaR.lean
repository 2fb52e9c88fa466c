import Derived.Test.YtkcbkcgampoclaaQ
import Derived.Deep.RegionHeld3
namespace Amp
theorem mul_pb {x y : Int} (h : bg 1000000000 x) (g : bg 1000000000 y) : Go.Proofs.Ytkcbkcgampoclaa.pb (x * y) := by
  have h1 : x * y ≤ 1000000000 * 1000000000 ∧ -(1000000000 * 1000000000) ≤ x * y := by
    obtain ⟨h1, h2⟩ := h
    obtain ⟨g1, g2⟩ := g
    have e : (x * y).natAbs ≤ 1000000000 * 1000000000 := by
      rw [Int.natAbs_mul]
      exact Nat.mul_le_mul (by omega) (by omega)
    omega
  unfold Go.Proofs.Ytkcbkcgampoclaa.pb
  omega
theorem mul_pbs {x y : C4} (h : big 1000000000 x) (g : big 1000000000 y) :
    Go.Proofs.Ytkcbkcgampoclaa.pb (x.a * y.a) ∧ Go.Proofs.Ytkcbkcgampoclaa.pb (x.a * y.b) ∧ Go.Proofs.Ytkcbkcgampoclaa.pb (x.a * y.c) ∧ Go.Proofs.Ytkcbkcgampoclaa.pb (x.a * y.d) ∧ Go.Proofs.Ytkcbkcgampoclaa.pb (x.b * y.a) ∧ Go.Proofs.Ytkcbkcgampoclaa.pb (x.b * y.b) ∧ Go.Proofs.Ytkcbkcgampoclaa.pb (x.b * y.c) ∧ Go.Proofs.Ytkcbkcgampoclaa.pb (x.b * y.d) ∧
    Go.Proofs.Ytkcbkcgampoclaa.pb (x.c * y.a) ∧ Go.Proofs.Ytkcbkcgampoclaa.pb (x.c * y.b) ∧ Go.Proofs.Ytkcbkcgampoclaa.pb (x.c * y.c) ∧ Go.Proofs.Ytkcbkcgampoclaa.pb (x.c * y.d) ∧ Go.Proofs.Ytkcbkcgampoclaa.pb (x.d * y.a) ∧ Go.Proofs.Ytkcbkcgampoclaa.pb (x.d * y.b) ∧ Go.Proofs.Ytkcbkcgampoclaa.pb (x.d * y.c) ∧ Go.Proofs.Ytkcbkcgampoclaa.pb (x.d * y.d) := by
  obtain ⟨h0, h1, h2, h3⟩ := h
  obtain ⟨g0, g1, g2, g3⟩ := g
  exact ⟨mul_pb h0 g0, mul_pb h0 g1, mul_pb h0 g2, mul_pb h0 g3, mul_pb h1 g0, mul_pb h1 g1, mul_pb h1 g2, mul_pb h1 g3, mul_pb h2 g0, mul_pb h2 g1, mul_pb h2 g2, mul_pb h2 g3, mul_pb h3 g0, mul_pb h3 g1, mul_pb h3 g2, mul_pb h3 g3⟩
theorem mul_bdd {x y : C4} (h : big 1000000000 x) (g : big 1000000000 y) : big 4611686018427387903 (mul x y) := by
  obtain ⟨m0, m1, m2, m3, m4, m5, m6, m7, m8, m9, m10, m11, m12, m13, m14, m15⟩ := mul_pbs h g
  unfold Go.Proofs.Ytkcbkcgampoclaa.pb at *
  refine ⟨⟨?_, ?_⟩, ⟨?_, ?_⟩, ⟨?_, ?_⟩, ⟨?_, ?_⟩⟩ <;> simp only [mul] <;> omega
def mulS (x y : Nm) : Nm × Int := if (vld x && vld y) = true then made (mul x.v y.v) (x.k + y.k).toNat else (N0, 10)
end Amp
namespace Go.Proofs.Ytkcbkcgampoclaa
open Go.RowKit Amp
attribute [local go_sem] ix0 ix1 ix2 ix3

end Go.Proofs.Ytkcbkcgampoclaa
