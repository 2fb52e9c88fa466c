/-
  HeatSteps, proved: for all lists of powers and every budget that can be read as data, the Go function photonmeshlaw06.HeatSteps returns true: the single changes from some powers to others, or the error, are the document's; nothing that came in is changed. No conditions beside the row's own.
-/
import Derived.Test.YtldepffpafccpaaRh
import Derived.Test.YtldepffpafccpaaSl6
namespace Go.Proofs.Ytldepffpafccpaa
open Go.ChangeShapes Go.WideShapes Go.ChangeAt Go.RowKit Go.Joins

set_option maxRecDepth 100000 in
theorem heatSteps_lifted (os : Os) (started : os.Started) (H : Type) (enc : TypeId × Value → H) :
    ReturnsInHanded {} Try.checked os 4 .any (Rows.heatStepsSpec.pre6 enc Try.checked.prog Try.f4 [] false) (Rows.heatStepsSpec.post enc Try.checked.prog Try.f4 false true false false) := by
  refine law_lifted started Try.func4 (by kernel_rfl)
    (ChangeSpec.witness6 (enc := enc) (C := Try.checked) false ⟨#[], #[.slice none 0 0, .slice none 0 0, .int .i64 0], []⟩ 8 (by kernel_rfl) (by kernel_rfl) (by kernel_rfl) (by kernel_rfl))
    rfl rfl (by rw [Try.params4]; decide +kernel) ?_ ?_
  · intro ds hd
    rw [Try.params4] at hd
    obtain ⟨d0, d1, d2, rfl⟩ := len_three hd
    rfl
  · intro W base args ds ps hA hval
    rw [Try.params4] at hA hval
    obtain ⟨v0, r0, _, _, _, _, rfl, h0, hA⟩ := ta_cons hA
    obtain ⟨v1, r1, _, _, _, _, rfl, h1, hA⟩ := ta_cons hA
    obtain ⟨v2, r2, _, _, _, _, rfl, h2, hA⟩ := ta_cons hA
    obtain rfl := ta_nil hA
    obtain ⟨ao0, n0, cap0, f0, rfl, hn0, hc0⟩ := open_is h0 (slice_wide (hval 0 24 _ rfl rfl))
    obtain ⟨ao1, n1, cap1, f1, rfl, hn1, hc1⟩ := open_is h1 (slice_wide (hval 1 24 _ rfl rfl))
    obtain ⟨x2, rfl, hx2⟩ := open_i64 (hval 2 3 _ rfl rfl) h2
    exact HeatSteps_any n0 cap0 ao0 f0 n1 cap1 ao1 f1 x2 W hn0 hc0 hn1 hc1

theorem heatSteps_holds : Rows.HeatStepsSaid :=
  OpenClaim.holds_of_wide 4 Try.f4 rfl rfl rfl rfl rfl rfl rfl ⟨rfl, rfl, rfl, rfl, rfl⟩ rfl rfl rfl rfl rfl (by kernel_rfl) Try.func4 (by kernel_rfl)
    (of_decide_eq_true (by kernel_rfl)) (by unfold Func.isWrapper; rw [if_neg (of_decide_eq_false (by kernel_rfl))]; exact ⟨rfl, rfl⟩)
    (fun os started H enc _ => heatSteps_lifted os started H enc)
#print axioms heatSteps_holds
end Go.Proofs.Ytldepffpafccpaa
