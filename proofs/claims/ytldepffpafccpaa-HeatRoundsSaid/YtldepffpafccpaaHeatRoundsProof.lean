/-
  HeatRounds, proved: for every list of ratios that can be read as data, the Go function photonmeshlaw06.HeatRounds returns true: the nearest whole powers, or the error, are the document's; nothing that came in is changed. No conditions beside the row's own.
-/
import Derived.Test.YtldepffpafccpaaRh
import Derived.Test.YtldepffpafccpaaKl
namespace Go.Proofs.Ytldepffpafccpaa
open Go.ChangeShapes Go.WideShapes Go.ChangeAt Go.RowKit Go.Joins

set_option maxRecDepth 100000 in
theorem heatRounds_lifted (os : Os) (started : os.Started) (H : Type) (enc : TypeId × Value → H) :
    ReturnsInHanded {} Try.checked os 3 .any (Rows.heatRoundsSpec.pre6 enc Try.checked.prog Try.f3 [] false) (Rows.heatRoundsSpec.post enc Try.checked.prog Try.f3 false true false false) := by
  refine law_lifted started Try.func3 (by kernel_rfl)
    (ChangeSpec.witness6 (enc := enc) (C := Try.checked) false ⟨#[], #[.slice none 0 0], []⟩ 8 (by kernel_rfl) (by kernel_rfl) (by kernel_rfl) (by kernel_rfl))
    rfl rfl (by rw [Try.params3]; decide +kernel) ?_ ?_
  · intro ds hd
    rw [Try.params3] at hd
    obtain ⟨d0, rfl⟩ := len_one hd
    rfl
  · intro W base args ds ps hA hval
    rw [Try.params3] at hA hval
    obtain ⟨v0, r0, _, _, _, _, rfl, h0, hA⟩ := ta_cons hA
    obtain rfl := ta_nil hA
    obtain ⟨ao0, n0, cap0, P0, Q0, rfl, hn0, hc0⟩ := open_rats (hval 0 22 _ rfl rfl) h0
    exact HeatRounds_any n0 cap0 ao0 P0 Q0 W hn0 hc0

theorem heatRounds_holds : Rows.HeatRoundsSaid :=
  OpenClaim.holds_of_wide 3 Try.f3 rfl rfl rfl rfl rfl rfl rfl ⟨rfl, rfl, rfl, rfl, rfl⟩ rfl rfl rfl rfl rfl (by kernel_rfl) Try.func3 (by kernel_rfl)
    (of_decide_eq_true (by kernel_rfl)) (by unfold Func.isWrapper; rw [if_neg (of_decide_eq_false (by kernel_rfl))]; exact ⟨rfl, rfl⟩)
    (fun os started H enc _ => heatRounds_lifted os started H enc)
#print axioms heatRounds_holds
end Go.Proofs.Ytldepffpafccpaa
