/-
  ProbeTurns, proved: for all four readings, the Go function photonmeshlaw09.ProbeTurns returns true: the visibility of their fringe is from 0 to 1, readings that begin one later turn the octant back by a quarter, and the opposite vector is half a turn further; nothing that came in is changed. No conditions beside the row's own.
-/
import Derived.Test.YtkcbkcgampoclaaRk9
import Derived.Test.YtkcbkcgampoclaaFt9
namespace Go.Proofs.Ytkcbkcgampoclaa
open Go.ChangeShapes Go.WideShapes Go.ChangeAt Go.RowKit Go.Joins

set_option maxRecDepth 100000 in
theorem probeTurns_lifted (os : Os) (started : os.Started) (H : Type) (enc : TypeId × Value → H) :
    ReturnsInHanded {} Try.checked os 6 .any (Rows.probeTurnsSpec.pre6 enc Try.checked.prog Try.f6 [] false) (Rows.probeTurnsSpec.post enc Try.checked.prog Try.f6 false true false false) := by
  refine law_lifted started Try.func6 (by kernel_rfl)
    (ChangeSpec.witness6 (enc := enc) (C := Try.checked) false ⟨#[], #[.agg #[.int .i64 0, .int .i64 0, .int .i64 0, .int .i64 0]], []⟩ 8 (by kernel_rfl) (by kernel_rfl) (by kernel_rfl) (by kernel_rfl))
    rfl rfl (by rw [Try.params6]; decide +kernel) ?_ ?_
  · intro ds hd
    rw [Try.params6] at hd
    obtain ⟨d0, rfl⟩ := len_one hd
    rfl
  · intro W base args ds ps hA hval
    rw [Try.params6] at hA hval
    obtain ⟨v0, r0, _, _, _, _, rfl, h0, hA⟩ := ta_cons hA
    obtain rfl := ta_nil hA
    obtain ⟨a0, b0, c0, d0, rfl, hr0⟩ := open_arr (hval 0 22 _ rfl rfl) h0
    exact ProbeTurns_any a0 b0 c0 d0 W

theorem probeTurns_holds : Rows.ProbeTurnsSaid :=
  OpenClaim.holds_of_wide 6 Try.f6 rfl rfl rfl rfl rfl rfl rfl ⟨rfl, rfl, rfl, rfl, rfl⟩ rfl rfl rfl rfl rfl (by kernel_rfl) Try.func6 (by kernel_rfl)
    (of_decide_eq_true (by kernel_rfl)) (by unfold Func.isWrapper; rw [if_neg (of_decide_eq_false (by kernel_rfl))]; exact ⟨rfl, rfl⟩)
    (fun os started H enc _ => probeTurns_lifted os started H enc)
#print axioms probeTurns_holds
end Go.Proofs.Ytkcbkcgampoclaa
