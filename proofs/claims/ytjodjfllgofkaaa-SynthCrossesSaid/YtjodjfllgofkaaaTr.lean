import Derived.Test.YtjodjfllgofkaaaFi
import Derived.Deep.RegionWith
namespace Go.Proofs.Ytjodjfllgofkaaa
open Go.RowKit Amp
attribute [local go_sem] ix0 ix1 ix2 ix3 jx0 jx1 jx2 jx3
attribute [local go_sem high] run_eqNum run_neNum

theorem at_any (n i j : Nat) (w : World) (hn : n ≤ 6) (hi : i ≤ n) (hj : j ≤ n) :
    Calls Try.prog 115 #[.agg #[.int .i64 n], .int .i64 i, .int .i64 j] w fun e w' => e = .returned (.int .i64 ((i * n + j : Nat) : Int)) ∧ Below w.heap.size w w' := by
  have h36 : i * n ≤ 36 := Nat.mul_le_mul (show i ≤ 6 by omega) hn
  obtain ⟨p, hp⟩ : ∃ p, Hid (i * n = p) := ⟨_, rfl⟩
  have hpi : (i : Int) * (n : Int) = (p : Int) := by rw [← Int.natCast_mul, hp.out]
  have hp36 : (p : Int) ≤ 36 := by have := hp.out; omega
  have hj6 : (j : Int) ≤ 6 := by omega
  clear h36
  go_enter Try.func115, Try.ntmps115
  go_wp2_with fail
  go_returns
  exact ⟨by rw [hp.out]; rfl, by go_grown⟩

end Go.Proofs.Ytjodjfllgofkaaa
