/-
  ProbeVectors, proved: for every fringe and all fringes that can be read as data, the Go function photonmeshlaw09.ProbeVectors returns true: the visibility and the octant of a fringe, and what fringes make together, or the error, are the document's; nothing that came in is changed. No conditions beside the row's own.
-/
import Derived.Test.YtkcbkcgampoclaaRk9
import Derived.Test.YtkcbkcgampoclaaRm9
import Derived.Test.YtkcbkcgampoclaaFw9
namespace Go.Proofs.Ytkcbkcgampoclaa
open Go.ChangeShapes Go.WideShapes Go.ChangeAt Go.RowKit Go.Joins

set_option maxRecDepth 100000 in
theorem probeVectors_lifted (os : Os) (started : os.Started) (H : Type) (enc : TypeId × Value → H) :
    ReturnsInHanded {} Try.checked os 4 .any (Rows.probeVectorsSpec.pre6 enc Try.checked.prog Try.f4 [] false) (Rows.probeVectorsSpec.post enc Try.checked.prog Try.f4 false true false false) := by
  refine law_lifted started Try.func4 (by kernel_rfl)
    (ChangeSpec.witness6 (enc := enc) (C := Try.checked) false ⟨#[], #[.agg #[.int .i64 0, .int .i64 0, .int .i64 0], .slice none 0 0], []⟩ 8 (by kernel_rfl) (by kernel_rfl) (by kernel_rfl) (by kernel_rfl))
    rfl rfl (by rw [Try.params4]; decide +kernel) ?_ ?_
  · intro ds hd
    rw [Try.params4] at hd
    obtain ⟨d0, d1, rfl⟩ := len_two hd
    rfl
  · intro W base args ds ps hA hval
    rw [Try.params4] at hA hval
    obtain ⟨v0, r0, _, _, _, _, rfl, h0, hA⟩ := ta_cons hA
    obtain ⟨v1, r1, _, _, _, _, rfl, h1, hA⟩ := ta_cons hA
    obtain rfl := ta_nil hA
    obtain ⟨x0, y0, z0, rfl, hr0⟩ := open_fr (hval 0 24 _ rfl rfl) h0
    obtain ⟨ao1, n1, cap1, A1, X1, Y1, rfl, hn1, hc1⟩ := open_frs (hval 1 33 _ rfl rfl) h1
    exact ProbeVectors_any x0 y0 z0 n1 cap1 ao1 A1 X1 Y1 W hn1 hc1

theorem probeVectors_holds : Rows.ProbeVectorsSaid :=
  OpenClaim.holds_of_wide 4 Try.f4 rfl rfl rfl rfl rfl rfl rfl ⟨rfl, rfl, rfl, rfl, rfl⟩ rfl rfl rfl rfl rfl (by kernel_rfl) Try.func4 (by kernel_rfl)
    (of_decide_eq_true (by kernel_rfl)) (by unfold Func.isWrapper; rw [if_neg (of_decide_eq_false (by kernel_rfl))]; exact ⟨rfl, rfl⟩)
    (fun os started H enc _ => probeVectors_lifted os started H enc)
#print axioms probeVectors_holds
end Go.Proofs.Ytkcbkcgampoclaa
