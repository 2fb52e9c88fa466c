/-
  EncloseRings, proved: for every three whole numbers of 64 bits, the Go function photonmeshlaw05.EncloseRings returns true: what a ring of such a coupling, such a loss and such a turn lets through is what the document's answer is, errors and all; nothing that came in is changed. No conditions beside the row's own.
-/
import Derived.Test.YtilclpldfoifkaaRow5
import Derived.Test.YtilclpldfoifkaaLg5
namespace Go.Proofs.Ytilclpldfoifkaa
open Go.ChangeShapes Go.WideShapes Go.ChangeAt Go.RowKit Go.Joins

set_option maxRecDepth 100000 in
theorem encloseRings_lifted (os : Os) (started : os.Started) (H : Type) (enc : TypeId × Value → H) :
    ReturnsInHanded {} Try.checked os 8 .any (Rows.encloseRingsSpec.pre6 enc Try.checked.prog Try.f8 [] false) (Rows.encloseRingsSpec.post enc Try.checked.prog Try.f8 false true false false) := by
  refine law_lifted started Try.func8 (by kernel_rfl)
    (ChangeSpec.witness6 (enc := enc) (C := Try.checked) false ⟨#[], #[.int .i64 0, .int .i64 0, .int .i64 0], []⟩ 8 (by kernel_rfl) (by kernel_rfl) (by kernel_rfl) (by kernel_rfl))
    rfl rfl (by rw [Try.params8]; decide +kernel) ?_ ?_
  · intro ds hd
    rw [Try.params8] at hd
    obtain ⟨d0, d1, d2, rfl⟩ := len_three hd
    rfl
  · intro W base args ds ps hA hval
    rw [Try.params8] at hA hval
    obtain ⟨v0, r0, _, _, _, _, rfl, h0, hA⟩ := ta_cons hA
    obtain ⟨v1, r1, _, _, _, _, rfl, h1, hA⟩ := ta_cons hA
    obtain ⟨v2, r2, _, _, _, _, rfl, h2, hA⟩ := ta_cons hA
    obtain rfl := ta_nil hA
    obtain ⟨t, rfl, _⟩ := open_i64 (hval 0 3 _ rfl rfl) h0
    obtain ⟨a, rfl, _⟩ := open_i64 (hval 1 3 _ rfl rfl) h1
    obtain ⟨n, rfl, hn⟩ := open_i64 (hval 2 3 _ rfl rfl) h2
    exact EncloseRings_any t a n W hn.1 hn.2

theorem encloseRings_holds : Rows.EncloseRingsSaid :=
  OpenClaim.holds_of_wide 8 Try.f8 rfl rfl rfl rfl rfl rfl rfl ⟨rfl, rfl, rfl, rfl, rfl⟩ rfl rfl rfl rfl rfl (by kernel_rfl) Try.func8 (by kernel_rfl)
    (of_decide_eq_true (by kernel_rfl)) (by unfold Func.isWrapper; rw [if_neg (of_decide_eq_false (by kernel_rfl))]; exact ⟨rfl, rfl⟩)
    (fun os started H enc _ => encloseRings_lifted os started H enc)
#print axioms encloseRings_holds
end Go.Proofs.Ytilclpldfoifkaa
