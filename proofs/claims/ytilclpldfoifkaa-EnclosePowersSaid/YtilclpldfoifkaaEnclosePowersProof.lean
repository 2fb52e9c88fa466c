/-
  EnclosePowers, proved: for every rectangle and every span that can be read as data, the Go function photonmeshlaw05.EnclosePowers returns true: the power of the rectangle and the root of the span are what the document's answers are, errors and all; nothing that came in is changed. No conditions beside the row's own.
-/
import Derived.Test.YtilclpldfoifkaaRow6
import Derived.Test.YtilclpldfoifkaaLw5
namespace Go.Proofs.Ytilclpldfoifkaa
open Go.ChangeShapes Go.WideShapes Go.ChangeAt Go.RowKit Go.Joins

set_option maxRecDepth 100000 in
theorem enclosePowers_lifted (os : Os) (started : os.Started) (H : Type) (enc : TypeId × Value → H) :
    ReturnsInHanded {} Try.checked os 6 .any (Rows.enclosePowersSpec.pre6 enc Try.checked.prog Try.f6 [] false) (Rows.enclosePowersSpec.post enc Try.checked.prog Try.f6 false true false false) := by
  refine law_lifted started Try.func6 (by kernel_rfl)
    (ChangeSpec.witness6 (enc := enc) (C := Try.checked) false ⟨#[], #[.agg #[.int .i64 0, .int .i64 0, .int .i64 0, .int .i64 0], .agg #[.int .i64 0, .int .i64 0]], []⟩ 8 (by kernel_rfl) (by kernel_rfl) (by kernel_rfl) (by kernel_rfl))
    rfl rfl (by rw [Try.params6]; decide +kernel) ?_ ?_
  · intro ds hd
    rw [Try.params6] at hd
    obtain ⟨d0, d1, rfl⟩ := len_two hd
    rfl
  · intro W base args ds ps hA hval
    rw [Try.params6] at hA hval
    obtain ⟨v0, r0, _, _, _, _, rfl, h0, hA⟩ := ta_cons hA
    obtain ⟨v1, r1, _, _, _, _, rfl, h1, hA⟩ := ta_cons hA
    obtain rfl := ta_nil hA
    obtain ⟨a, b, c, d, rfl, _⟩ := open_rect (hval 0 25 _ rfl rfl) h0
    obtain ⟨s, t, rfl, _⟩ := open_span (hval 1 23 _ rfl rfl) h1
    exact EnclosePowers_any a b c d s t W

theorem enclosePowers_holds : Rows.EnclosePowersSaid :=
  OpenClaim.holds_of_wide 6 Try.f6 rfl rfl rfl rfl rfl rfl rfl ⟨rfl, rfl, rfl, rfl, rfl⟩ rfl rfl rfl rfl rfl (by kernel_rfl) Try.func6 (by kernel_rfl)
    (of_decide_eq_true (by kernel_rfl)) (by unfold Func.isWrapper; rw [if_neg (of_decide_eq_false (by kernel_rfl))]; exact ⟨rfl, rfl⟩)
    (fun os started H enc _ => enclosePowers_lifted os started H enc)
#print axioms enclosePowers_holds
end Go.Proofs.Ytilclpldfoifkaa
