/-
  AmpBounds, proved: for every number and every whole number of bits that can be read as data, the Go function photonmeshlaw01.AmpBounds returns true: Bounds answers as the document's own Bounds does, errors included, and nothing that came in is changed. No conditions beside the row's own.
-/
import Derived.Test.YtedfienfamplcaaRow
import Derived.Test.YtedfienfamplcaaBl
namespace Go.Proofs.Ytedfienfamplcaa
open Go.ChangeShapes Go.WideShapes Go.ChangeAt Go.RowKit Go.Joins

set_option maxRecDepth 100000 in
theorem ampBounds_lifted (os : Os) (started : os.Started) (H : Type) (enc : TypeId × Value → H) :
    ReturnsInHanded {} Try.checked os 3 .any (Rows.ampBoundsSpec.pre6 enc Try.checked.prog Try.f3 [] false) (Rows.ampBoundsSpec.post enc Try.checked.prog Try.f3 false true false false) := by
  refine law_lifted started Try.func3 (by kernel_rfl)
    (ChangeSpec.witness6 (enc := enc) (C := Try.checked) false ⟨#[], #[.agg #[.int .i64 0, .int .i64 0, .int .i64 0, .int .i64 0, .int .i64 0], .int .i64 0], []⟩ 8 (by kernel_rfl) (by kernel_rfl) (by kernel_rfl) (by kernel_rfl))
    rfl rfl (by rw [Try.params3]; decide +kernel) ?_ ?_
  · intro ds hd
    rw [Try.params3] at hd
    obtain ⟨d0, d1, rfl⟩ := len_two hd
    rfl
  · intro W base args ds ps hA hval
    rw [Try.params3] at hA hval
    obtain ⟨v0, r0, _, _, _, _, rfl, h0, hA⟩ := ta_cons hA
    obtain ⟨v1, r1, _, _, _, _, rfl, h1, hA⟩ := ta_cons hA
    obtain rfl := ta_nil hA
    obtain ⟨a0, b0, c0, d0, k0, rfl, ra0, rb0, rc0, rd0, rk0⟩ := open_num (hval 0 24 _ rfl rfl) h0
    obtain ⟨n1, rfl, rn1⟩ := open_i64 (hval 1 3 _ rfl rfl) h1
    exact AmpBounds_any a0 b0 c0 d0 k0 n1 W

theorem ampBounds_holds : Rows.AmpBoundsSaid :=
  OpenClaim.holds_of_wide 3 Try.f3 rfl rfl rfl rfl rfl rfl rfl ⟨rfl, rfl, rfl, rfl, rfl⟩ rfl rfl rfl rfl rfl (by kernel_rfl) Try.func3 (by kernel_rfl)
    (of_decide_eq_true (by kernel_rfl)) (by unfold Func.isWrapper; rw [if_neg (of_decide_eq_false (by kernel_rfl))]; exact ⟨rfl, rfl⟩)
    (fun os started H enc _ => ampBounds_lifted os started H enc)
#print axioms ampBounds_holds
end Go.Proofs.Ytedfienfamplcaa
