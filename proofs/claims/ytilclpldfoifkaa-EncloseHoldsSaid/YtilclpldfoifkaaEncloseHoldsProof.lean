/-
  EncloseHolds, proved: for every rectangle, every span and every four numbers of 16 bits that can be read as data, the Go function photonmeshlaw05.EncloseHolds returns true: where both lie in wider ones, the power of the rectangle lies in that of the wider one, and the root of the span in that of the wider one, where there is no error; nothing that came in is changed. No conditions beside the row's own.
-/
import Derived.Test.YtilclpldfoifkaaRow6
import Derived.Test.YtilclpldfoifkaaRow7
import Derived.Test.YtilclpldfoifkaaHl5
namespace Go.Proofs.Ytilclpldfoifkaa
open Go.ChangeShapes Go.WideShapes Go.ChangeAt Go.RowKit Go.Joins

set_option maxRecDepth 100000 in
theorem encloseHolds_lifted (os : Os) (started : os.Started) (H : Type) (enc : TypeId × Value → H) :
    ReturnsInHanded {} Try.checked os 12 .any (Rows.encloseHoldsSpec.pre6 enc Try.checked.prog Try.f12 [] false) (Rows.encloseHoldsSpec.post enc Try.checked.prog Try.f12 false true false false) := by
  refine law_lifted started Try.func12 (by kernel_rfl)
    (ChangeSpec.witness6 (enc := enc) (C := Try.checked) false ⟨#[], #[.agg #[.int .i64 0, .int .i64 0, .int .i64 0, .int .i64 0], .agg #[.int .i64 0, .int .i64 0], .agg #[.int .u16 0, .int .u16 0, .int .u16 0, .int .u16 0]], []⟩ 8 (by kernel_rfl) (by kernel_rfl) (by kernel_rfl) (by kernel_rfl))
    rfl rfl (by rw [Try.params12]; decide +kernel) ?_ ?_
  · intro ds hd
    rw [Try.params12] at hd
    obtain ⟨d0, d1, d2, rfl⟩ := len_three hd
    rfl
  · intro W base args ds ps hA hval
    rw [Try.params12] at hA hval
    obtain ⟨v0, r0, _, _, _, _, rfl, h0, hA⟩ := ta_cons hA
    obtain ⟨v1, r1, _, _, _, _, rfl, h1, hA⟩ := ta_cons hA
    obtain ⟨v2, r2, _, _, _, _, rfl, h2, hA⟩ := ta_cons hA
    obtain rfl := ta_nil hA
    obtain ⟨a, b, c, d, rfl, _⟩ := open_rect (hval 0 25 _ rfl rfl) h0
    obtain ⟨s, t, rfl, _⟩ := open_span (hval 1 23 _ rfl rfl) h1
    obtain ⟨k0, k1, k2, k3, rfl, g0, g1, g2, g3⟩ := open_u4 (hval 2 58 _ rfl rfl) h2
    exact EncloseHolds_any a b c d s t k0 k1 k2 k3 W g0 g1 g2 g3

theorem encloseHolds_holds : Rows.EncloseHoldsSaid :=
  OpenClaim.holds_of_wide 12 Try.f12 rfl rfl rfl rfl rfl rfl rfl ⟨rfl, rfl, rfl, rfl, rfl⟩ rfl rfl rfl rfl rfl (by kernel_rfl) Try.func12 (by kernel_rfl)
    (of_decide_eq_true (by kernel_rfl)) (by unfold Func.isWrapper; rw [if_neg (of_decide_eq_false (by kernel_rfl))]; exact ⟨rfl, rfl⟩)
    (fun os started H enc _ => encloseHolds_lifted os started H enc)
#print axioms encloseHolds_holds
end Go.Proofs.Ytilclpldfoifkaa
