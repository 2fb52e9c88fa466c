/-
  HeatPhases, proved: for every bank, every list of phases and every list of powers that can be read as data, the Go function photonmeshlaw06.HeatPhases returns true: the phases that powers make, and by how much they are off, errors and all, are the document's; nothing that came in is changed. No conditions beside the row's own.
-/
import Derived.Test.YtldepffpafccpaaRh
import Derived.Test.YtldepffpafccpaaAl6
namespace Go.Proofs.Ytldepffpafccpaa
open Go.ChangeShapes Go.WideShapes Go.ChangeAt Go.RowKit Go.Joins

set_option maxRecDepth 100000 in
theorem heatPhases_lifted (os : Os) (started : os.Started) (H : Type) (enc : TypeId × Value → H) :
    ReturnsInHanded {} Try.checked os 8 .any (Rows.heatPhasesSpec.pre6 enc Try.checked.prog Try.f8 [] false) (Rows.heatPhasesSpec.post enc Try.checked.prog Try.f8 false true false false) := by
  refine law_lifted started Try.func8 (by kernel_rfl)
    (ChangeSpec.witness6 (enc := enc) (C := Try.checked) false ⟨#[], #[.agg #[.slice none 0 0, .slice none 0 0, .slice none 0 0]], []⟩ 8 (by kernel_rfl) (by kernel_rfl) (by kernel_rfl) (by kernel_rfl))
    rfl rfl (by rw [Try.params8]; decide +kernel) ?_ ?_
  · intro ds hd
    rw [Try.params8] at hd
    obtain ⟨d0, rfl⟩ := len_one hd
    rfl
  · intro W base args ds ps hA hval
    rw [Try.params8] at hA hval
    obtain ⟨v0, r0, _, _, _, _, rfl, h0, hA⟩ := ta_cons hA
    obtain rfl := ta_nil hA
    obtain ⟨ao0, N0, cap0, A0, l0, c0, F0, bo0, m0, dap0, B0, co0, k0, fap0, C0, rfl, hn0, hm0, hk0, hC0⟩ := open_powers (hval 0 50 _ rfl rfl) h0
    exact HeatPhases_any N0 cap0 ao0 A0 l0 c0 F0 bo0 m0 dap0 B0 co0 k0 fap0 C0 W hn0.1 hn0.2 hm0.1 hm0.2 hk0 hC0

theorem heatPhases_holds : Rows.HeatPhasesSaid :=
  OpenClaim.holds_of_wide 8 Try.f8 rfl rfl rfl rfl rfl rfl rfl ⟨rfl, rfl, rfl, rfl, rfl⟩ rfl rfl rfl rfl rfl (by kernel_rfl) Try.func8 (by kernel_rfl)
    (of_decide_eq_true (by kernel_rfl)) (by unfold Func.isWrapper; rw [if_neg (of_decide_eq_false (by kernel_rfl))]; exact ⟨rfl, rfl⟩)
    (fun os started H enc _ => heatPhases_lifted os started H enc)
#print axioms heatPhases_holds
end Go.Proofs.Ytldepffpafccpaa
