/-
  EncloseGrows, proved: for every two rectangles and every eight numbers of 16 bits that can be read as data, the Go function photonmeshlaw05.EncloseGrows returns true: where both rectangles lie in wider ones, their sum, difference, product and quotient lie in those of the wider ones, and have no error where these have none; nothing that came in is changed. No conditions beside the row's own.
-/
import Derived.Test.YtilclpldfoifkaaRow7
import Derived.Test.YtilclpldfoifkaaGl5
namespace Go.Proofs.Ytilclpldfoifkaa
open Go.ChangeShapes Go.WideShapes Go.ChangeAt Go.RowKit Go.Joins

set_option maxRecDepth 100000 in
theorem encloseGrows_lifted (os : Os) (started : os.Started) (H : Type) (enc : TypeId × Value → H) :
    ReturnsInHanded {} Try.checked os 11 .any (Rows.encloseGrowsSpec.pre6 enc Try.checked.prog Try.f11 [] false) (Rows.encloseGrowsSpec.post enc Try.checked.prog Try.f11 false true false false) := by
  refine law_lifted started Try.func11 (by kernel_rfl)
    (ChangeSpec.witness6 (enc := enc) (C := Try.checked) false ⟨#[], #[.agg #[.int .i64 0, .int .i64 0, .int .i64 0, .int .i64 0], .agg #[.int .i64 0, .int .i64 0, .int .i64 0, .int .i64 0], .agg #[.int .u16 0, .int .u16 0, .int .u16 0, .int .u16 0], .agg #[.int .u16 0, .int .u16 0, .int .u16 0, .int .u16 0]], []⟩ 8 (by kernel_rfl) (by kernel_rfl) (by kernel_rfl) (by kernel_rfl))
    rfl rfl (by rw [Try.params11]; decide +kernel) ?_ ?_
  · intro ds hd
    rw [Try.params11] at hd
    obtain ⟨d0, d1, d2, d3, rfl⟩ := len_four hd
    rfl
  · intro W base args ds ps hA hval
    rw [Try.params11] at hA hval
    obtain ⟨v0, r0, _, _, _, _, rfl, h0, hA⟩ := ta_cons hA
    obtain ⟨v1, r1, _, _, _, _, rfl, h1, hA⟩ := ta_cons hA
    obtain ⟨v2, r2, _, _, _, _, rfl, h2, hA⟩ := ta_cons hA
    obtain ⟨v3, r3, _, _, _, _, rfl, h3, hA⟩ := ta_cons hA
    obtain rfl := ta_nil hA
    obtain ⟨a, b, c, d, rfl, _⟩ := open_rect (hval 0 25 _ rfl rfl) h0
    obtain ⟨s, t, u, v, rfl, _⟩ := open_rect (hval 1 25 _ rfl rfl) h1
    obtain ⟨k0, k1, k2, k3, rfl, g0, g1, g2, g3⟩ := open_u4 (hval 2 58 _ rfl rfl) h2
    obtain ⟨m0, m1, m2, m3, rfl, g4, g5, g6, g7⟩ := open_u4 (hval 3 58 _ rfl rfl) h3
    exact EncloseGrows_any a b c d s t u v k0 k1 k2 k3 m0 m1 m2 m3 W g0 g1 g2 g3 g4 g5 g6 g7

theorem encloseGrows_holds : Rows.EncloseGrowsSaid :=
  OpenClaim.holds_of_wide 11 Try.f11 rfl rfl rfl rfl rfl rfl rfl ⟨rfl, rfl, rfl, rfl, rfl⟩ rfl rfl rfl rfl rfl (by kernel_rfl) Try.func11 (by kernel_rfl)
    (of_decide_eq_true (by kernel_rfl)) (by unfold Func.isWrapper; rw [if_neg (of_decide_eq_false (by kernel_rfl))]; exact ⟨rfl, rfl⟩)
    (fun os started H enc _ => encloseGrows_lifted os started H enc)
#print axioms encloseGrows_holds
end Go.Proofs.Ytilclpldfoifkaa
