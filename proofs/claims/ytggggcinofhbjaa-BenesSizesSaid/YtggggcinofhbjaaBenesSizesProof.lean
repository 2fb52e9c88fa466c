/-
  BenesSizes, proved: for every whole number, the Go function photonmeshlaw08.BenesSizes returns true: how many switches a network has, and how many of them light meets, or the error, are the document's; nothing that came in is changed. No conditions beside the row's own.
-/
import Derived.Test.YtggggcinofhbjaaRk8
import Derived.Test.YtggggcinofhbjaaLz8
namespace Go.Proofs.Ytggggcinofhbjaa
open Go.ChangeShapes Go.WideShapes Go.ChangeAt Go.RowKit Go.Joins

set_option maxRecDepth 100000 in
theorem benesSizes_lifted (os : Os) (started : os.Started) (H : Type) (enc : TypeId × Value → H) :
    ReturnsInHanded {} Try.checked os 3 .any (Rows.benesSizesSpec.pre6 enc Try.checked.prog Try.f3 [] false) (Rows.benesSizesSpec.post enc Try.checked.prog Try.f3 false true false false) := by
  refine law_lifted started Try.func3 (by kernel_rfl)
    (ChangeSpec.witness6 (enc := enc) (C := Try.checked) false ⟨#[], #[.int .i64 0], []⟩ 8 (by kernel_rfl) (by kernel_rfl) (by kernel_rfl) (by kernel_rfl))
    rfl rfl (by rw [Try.params3]; decide +kernel) ?_ ?_
  · intro ds hd
    rw [Try.params3] at hd
    obtain ⟨d0, rfl⟩ := len_one hd
    rfl
  · intro W base args ds ps hA hval
    rw [Try.params3] at hA hval
    obtain ⟨v0, r0, _, _, _, _, rfl, h0, hA⟩ := ta_cons hA
    obtain rfl := ta_nil hA
    obtain ⟨x0, rfl, hx0⟩ := open_i64 (hval 0 3 _ rfl rfl) h0
    exact BenesSizes_any x0 W

theorem benesSizes_holds : Rows.BenesSizesSaid :=
  OpenClaim.holds_of_wide 3 Try.f3 rfl rfl rfl rfl rfl rfl rfl ⟨rfl, rfl, rfl, rfl, rfl⟩ rfl rfl rfl rfl rfl (by kernel_rfl) Try.func3 (by kernel_rfl)
    (of_decide_eq_true (by kernel_rfl)) (by unfold Func.isWrapper; rw [if_neg (of_decide_eq_false (by kernel_rfl))]; exact ⟨rfl, rfl⟩)
    (fun os started H enc _ => benesSizes_lifted os started H enc)
#print axioms benesSizes_holds
end Go.Proofs.Ytggggcinofhbjaa
