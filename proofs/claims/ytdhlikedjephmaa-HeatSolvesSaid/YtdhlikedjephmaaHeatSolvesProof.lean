/-
  HeatSolves, proved: for every bank and every list of phases that can be read as data, the Go function photonmeshlaw06.HeatSolves returns true: the determinant of the bank, the powers that just make the phases, and its inverse, errors and all, are the document's; nothing that came in is changed. No conditions beside the row's own.
-/
import Derived.Test.YtdhlikedjephmaaRh
import Derived.Test.YtdhlikedjephmaaLv6
namespace Go.Proofs.Ytdhlikedjephmaa
open Go.ChangeShapes Go.WideShapes Go.ChangeAt Go.RowKit Go.Joins

set_option maxRecDepth 100000 in
theorem heatSolves_lifted (os : Os) (started : os.Started) (H : Type) (enc : TypeId × Value → H) :
    ReturnsInHanded {} Try.checked os 9 .any (Rows.heatSolvesSpec.pre6 enc Try.checked.prog Try.f9 [] false) (Rows.heatSolvesSpec.post enc Try.checked.prog Try.f9 false true false false) := by
  refine law_lifted started Try.func9 (by kernel_rfl)
    (ChangeSpec.witness6 (enc := enc) (C := Try.checked) false ⟨#[], #[.agg #[.slice none 0 0], .slice none 0 0], []⟩ 8 (by kernel_rfl) (by kernel_rfl) (by kernel_rfl) (by kernel_rfl))
    rfl rfl (by rw [Try.params9]; decide +kernel) ?_ ?_
  · intro ds hd
    rw [Try.params9] at hd
    obtain ⟨d0, d1, rfl⟩ := len_two hd
    rfl
  · intro W base args ds ps hA hval
    rw [Try.params9] at hA hval
    obtain ⟨v0, r0, _, _, _, _, rfl, h0, hA⟩ := ta_cons hA
    obtain ⟨v1, r1, _, _, _, _, rfl, h1, hA⟩ := ta_cons hA
    obtain rfl := ta_nil hA
    obtain ⟨ao0, N0, cap0, A0, l0, c0, F0, rfl, hn0, hc0⟩ := open_bank (hval 0 40 _ rfl rfl) h0
    obtain ⟨ao1, n1, cap1, f1, rfl, hn1, hc1⟩ := open_is h1 (slice_wide (hval 1 24 _ rfl rfl))
    exact HeatSolves_any N0 cap0 ao0 A0 l0 c0 F0 n1 cap1 ao1 f1 W hn0 hc0 hn1 hc1

theorem heatSolves_holds : Rows.HeatSolvesSaid :=
  OpenClaim.holds_of_wide 9 Try.f9 rfl rfl rfl rfl rfl rfl rfl ⟨rfl, rfl, rfl, rfl, rfl⟩ rfl rfl rfl rfl rfl (by kernel_rfl) Try.func9 (by kernel_rfl)
    (of_decide_eq_true (by kernel_rfl)) (by unfold Func.isWrapper; rw [if_neg (of_decide_eq_false (by kernel_rfl))]; exact ⟨rfl, rfl⟩)
    (fun os started H enc _ => heatSolves_lifted os started H enc)
#print axioms heatSolves_holds
end Go.Proofs.Ytdhlikedjephmaa
