/-
  EncloseUnits, proved: for every whole number of 64 bits, the Go function photonmeshlaw05.EncloseUnits returns true: the rectangle of the point of the unit circle at so many parts of 1024 of a turn is what the document's answer is, error and all; nothing that came in is changed. No conditions beside the row's own.
-/
import Derived.Test.YtilclpldfoifkaaRow5
import Derived.Test.YtilclpldfoifkaaLu5
namespace Go.Proofs.Ytilclpldfoifkaa
open Go.ChangeShapes Go.WideShapes Go.ChangeAt Go.RowKit Go.Joins

set_option maxRecDepth 100000 in
theorem encloseUnits_lifted (os : Os) (started : os.Started) (H : Type) (enc : TypeId × Value → H) :
    ReturnsInHanded {} Try.checked os 7 .any (Rows.encloseUnitsSpec.pre6 enc Try.checked.prog Try.f7 [] false) (Rows.encloseUnitsSpec.post enc Try.checked.prog Try.f7 false true false false) := by
  refine law_lifted started Try.func7 (by kernel_rfl)
    (ChangeSpec.witness6 (enc := enc) (C := Try.checked) false ⟨#[], #[.int .i64 0], []⟩ 8 (by kernel_rfl) (by kernel_rfl) (by kernel_rfl) (by kernel_rfl))
    rfl rfl (by rw [Try.params7]; decide +kernel) ?_ ?_
  · intro ds hd
    rw [Try.params7] at hd
    obtain ⟨d0, rfl⟩ := len_one hd
    rfl
  · intro W base args ds ps hA hval
    rw [Try.params7] at hA hval
    obtain ⟨v0, r0, _, _, _, _, rfl, h0, hA⟩ := ta_cons hA
    obtain rfl := ta_nil hA
    obtain ⟨n, rfl, hn⟩ := open_i64 (hval 0 3 _ rfl rfl) h0
    exact EncloseUnits_any n W hn.1 hn.2

theorem encloseUnits_holds : Rows.EncloseUnitsSaid :=
  OpenClaim.holds_of_wide 7 Try.f7 rfl rfl rfl rfl rfl rfl rfl ⟨rfl, rfl, rfl, rfl, rfl⟩ rfl rfl rfl rfl rfl (by kernel_rfl) Try.func7 (by kernel_rfl)
    (of_decide_eq_true (by kernel_rfl)) (by unfold Func.isWrapper; rw [if_neg (of_decide_eq_false (by kernel_rfl))]; exact ⟨rfl, rfl⟩)
    (fun os started H enc _ => encloseUnits_lifted os started H enc)
#print axioms encloseUnits_holds
end Go.Proofs.Ytilclpldfoifkaa
