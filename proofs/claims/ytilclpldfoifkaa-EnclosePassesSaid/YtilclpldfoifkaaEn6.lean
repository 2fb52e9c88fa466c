import Derived.Test.YtilclpldfoifkaaEn4
namespace Encl
/-- The bits of n from b - 1 down, multiplied together. -/
def unitGo (n : Int) : Nat → Rc → Out Rc
  | 0, z => .ok z
  | b + 1, z => if n / 2 ^ b % 2 = 1 then (mulR z (pt b)).bind (unitGo n b) else unitGo n b z
def unitS (n : Int) : Out Rc := unitGo n 10 ⟨⟨1073741824, 1073741824⟩, ⟨0, 0⟩⟩
theorem unit256 : unitS 256 = .ok ⟨⟨0, 0⟩, ⟨1073741824, 1073741824⟩⟩ := by decide +kernel
theorem pt_ok : ∀ b : Fin 10, okR (pt b.val) = true := by decide +kernel
end Encl
namespace Go.Proofs.Ytilclpldfoifkaa
open Go.RowKit Encl
theorem and1 (x : Int) : bits .and .i64 x 1 = x % 2 := by
  have h : (BitVec.ofInt 64 x &&& BitVec.ofInt 64 1).toNat = (x % 18446744073709551616).toNat % 2 := by
    rw [BitVec.toNat_and]
    have e1 : (BitVec.ofInt 64 1).toNat = 1 := by decide
    rw [e1, Nat.and_one_is_mod, BitVec.toNat_ofInt]
    rfl
  have e : bits .and .i64 x 1 = IntKind.i64.wrap ((BitVec.ofInt 64 x &&& BitVec.ofInt 64 1).toNat : Int) := rfl
  rw [e, h, IntKind.wrap_i64]
  omega
end Go.Proofs.Ytilclpldfoifkaa
