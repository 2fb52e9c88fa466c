import Derived.Test.YtjodjfllgofkaaaSo
import Derived.Test.YtjodjfllgofkaaaLk
/-
  SynthCrosses, proved: for every list of whole numbers that can be read as data, the Go function photonmeshlaw04.SynthCrosses returns true: Crossings and PermMatrix answer as the document asks, errors and all, the crossings make that matrix and give the permutation back, and they are as many as its inversions; nothing that came in is changed. No conditions beside the row's own.
-/
namespace Go.Proofs.Ytjodjfllgofkaaa
open Go.ChangeShapes Go.WideShapes Go.ChangeAt Go.RowKit Go.Joins

set_option maxRecDepth 100000 in
theorem synthCrosses_lifted (os : Os) (started : os.Started) (H : Type) (enc : TypeId × Value → H) :
    ReturnsInHanded {} Try.checked os 7 .any (Rows.synthCrossesSpec.pre6 enc Try.checked.prog Try.f7 [] false) (Rows.synthCrossesSpec.post enc Try.checked.prog Try.f7 false true false false) := by
  refine law_lifted started Try.func7 (by kernel_rfl)
    (ChangeSpec.witness6 (enc := enc) (C := Try.checked) false ⟨#[], #[.slice none 0 0], []⟩ 8 (by kernel_rfl) (by kernel_rfl) (by kernel_rfl) (by kernel_rfl))
    rfl rfl (by rw [Try.params7]; decide +kernel) ?_ ?_
  · intro ds hd
    rw [Try.params7] at hd
    obtain ⟨d0, rfl⟩ := len_one hd
    rfl
  · intro W base args ds ps hA hval
    rw [Try.params7] at hA hval
    obtain ⟨v0, r0, _, _, _, _, rfl, h0, hA⟩ := ta_cons hA
    obtain rfl := ta_nil hA
    obtain ⟨ao, n, cap, f, rfl, hn, hc⟩ := open_is (hval 0 36 _ rfl rfl) h0
    exact SynthCrosses_any n cap ao f W hn hc

theorem synthCrosses_holds : Rows.SynthCrossesSaid :=
  OpenClaim.holds_of_wide 7 Try.f7 rfl rfl rfl rfl rfl rfl rfl ⟨rfl, rfl, rfl, rfl, rfl⟩ rfl rfl rfl rfl rfl (by kernel_rfl) Try.func7 (by kernel_rfl)
    (of_decide_eq_true (by kernel_rfl)) (by unfold Func.isWrapper; rw [if_neg (of_decide_eq_false (by kernel_rfl))]; exact ⟨rfl, rfl⟩)
    (fun os started H enc _ => synthCrosses_lifted os started H enc)
#print axioms synthCrosses_holds
end Go.Proofs.Ytjodjfllgofkaaa
