/-
  HeatPaths, proved: for all lists of powers that can be read as data, the Go function photonmeshlaw06.HeatPaths returns true: the changes lead to the powers that were asked for, and no sum on the way is greater than at the beginning and at the end; nothing that came in is changed. No conditions beside the row's own.
-/
import Derived.Test.YtldepffpafccpaaRh
import Derived.Test.YtldepffpafccpaaHp6
namespace Go.Proofs.Ytldepffpafccpaa
open Go.ChangeShapes Go.WideShapes Go.ChangeAt Go.RowKit Go.Joins

set_option maxRecDepth 100000 in
theorem heatPaths_lifted (os : Os) (started : os.Started) (H : Type) (enc : TypeId × Value → H) :
    ReturnsInHanded {} Try.checked os 11 .any (Rows.heatPathsSpec.pre6 enc Try.checked.prog Try.f11 [] false) (Rows.heatPathsSpec.post enc Try.checked.prog Try.f11 false true false false) := by
  refine law_lifted started Try.func11 (by kernel_rfl)
    (ChangeSpec.witness6 (enc := enc) (C := Try.checked) false ⟨#[], #[.slice none 0 0, .slice none 0 0], []⟩ 8 (by kernel_rfl) (by kernel_rfl) (by kernel_rfl) (by kernel_rfl))
    rfl rfl (by rw [Try.params11]; decide +kernel) ?_ ?_
  · intro ds hd
    rw [Try.params11] at hd
    obtain ⟨d0, d1, rfl⟩ := len_two hd
    rfl
  · intro W base args ds ps hA hval
    rw [Try.params11] at hA hval
    obtain ⟨v0, r0, _, _, _, _, rfl, h0, hA⟩ := ta_cons hA
    obtain ⟨v1, r1, _, _, _, _, rfl, h1, hA⟩ := ta_cons hA
    obtain rfl := ta_nil hA
    obtain ⟨ao0, n0, cap0, f0, rfl, hn0, hc0⟩ := open_is h0 (slice_wide (hval 0 24 _ rfl rfl))
    obtain ⟨ao1, n1, cap1, f1, rfl, hn1, hc1⟩ := open_is h1 (slice_wide (hval 1 24 _ rfl rfl))
    exact HeatPaths_any n0 cap0 ao0 f0 n1 cap1 ao1 f1 W hn0 hc0 hn1 hc1

theorem heatPaths_holds : Rows.HeatPathsSaid :=
  OpenClaim.holds_of_wide 11 Try.f11 rfl rfl rfl rfl rfl rfl rfl ⟨rfl, rfl, rfl, rfl, rfl⟩ rfl rfl rfl rfl rfl (by kernel_rfl) Try.func11 (by kernel_rfl)
    (of_decide_eq_true (by kernel_rfl)) (by unfold Func.isWrapper; rw [if_neg (of_decide_eq_false (by kernel_rfl))]; exact ⟨rfl, rfl⟩)
    (fun os started H enc _ => heatPaths_lifted os started H enc)
#print axioms heatPaths_holds
end Go.Proofs.Ytldepffpafccpaa
