import Derived.Test.YtfilofnkiocbeaaCf8
import Derived.Test.YtfilofnkiocbeaaCa8
namespace Go.Proofs.Ytfilofnkiocbeaa
open Go.RowKit Ben
theorem xor_pt : ∀ x : Fin 16, bits .xor .i64 ((x.val : Nat) : Int) 1 = ((pt x.val : Nat) : Int) := by decide
theorem xor_pt' {x : Nat} (hx : x < 16) : bits .xor .i64 (x : Int) 1 = ((pt x : Nat) : Int) := xor_pt ⟨x, hx⟩
set_option maxRecDepth 100000 in
theorem partner_any {x : Nat} (hx : x < 16) (w : World) : Calls Try.prog 89 #[.int .i64 (x : Int)] w fun e w' => e = .returned (.int .i64 ((pt x : Nat) : Int)) ∧ w = w' := by
  have hp := xor_pt' hx
  go_enter Try.func89, Try.ntmps89
  go_wp2_with fail
  go_ret
  exact ⟨by rw [← hp] <;> rfl, rfl⟩
end Go.Proofs.Ytfilofnkiocbeaa
