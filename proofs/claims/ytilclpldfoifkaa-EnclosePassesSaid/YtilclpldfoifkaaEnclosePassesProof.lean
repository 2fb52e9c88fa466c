/-
  EnclosePasses, proved: for every two-port that can be read as data, the Go function photonmeshlaw05.EnclosePasses returns true: the sums of the powers of what comes out of it are what the document's answers are, errors and all; nothing that came in is changed. No conditions beside the row's own.
-/
import Derived.Test.YtilclpldfoifkaaRow8
import Derived.Test.YtilclpldfoifkaaLq5
namespace Go.Proofs.Ytilclpldfoifkaa
open Go.ChangeShapes Go.WideShapes Go.ChangeAt Go.RowKit Go.Joins

set_option maxRecDepth 100000 in
theorem enclosePasses_lifted (os : Os) (started : os.Started) (H : Type) (enc : TypeId × Value → H) :
    ReturnsInHanded {} Try.checked os 10 .any (Rows.enclosePassesSpec.pre6 enc Try.checked.prog Try.f10 [] false) (Rows.enclosePassesSpec.post enc Try.checked.prog Try.f10 false true false false) := by
  refine law_lifted started Try.func10 (by kernel_rfl)
    (ChangeSpec.witness6 (enc := enc) (C := Try.checked) false ⟨#[], #[.agg #[.int .i64 0, .int .i64 0, .int .i64 0, .int .i64 0, .int .i64 0, .int .i64 0, .int .i64 0, .int .i64 0, .int .i64 0, .int .i64 0, .int .i64 0, .int .i64 0, .int .i64 0, .int .i64 0, .int .i64 0, .int .i64 0]], []⟩ 8 (by kernel_rfl) (by kernel_rfl) (by kernel_rfl) (by kernel_rfl))
    rfl rfl (by rw [Try.params10]; decide +kernel) ?_ ?_
  · intro ds hd
    rw [Try.params10] at hd
    obtain ⟨d0, rfl⟩ := len_one hd
    rfl
  · intro W base args ds ps hA hval
    rw [Try.params10] at hA hval
    obtain ⟨v0, r0, _, _, _, _, rfl, h0, hA⟩ := ta_cons hA
    obtain rfl := ta_nil hA
    obtain ⟨a0, b0, c0, d0, a1, b1, c1, d1, a2, b2, c2, d2, a3, b3, c3, d3, rfl⟩ := open_port (hval 0 49 _ rfl rfl) h0
    exact EnclosePasses_any a0 b0 c0 d0 a1 b1 c1 d1 a2 b2 c2 d2 a3 b3 c3 d3 W

theorem enclosePasses_holds : Rows.EnclosePassesSaid :=
  OpenClaim.holds_of_wide 10 Try.f10 rfl rfl rfl rfl rfl rfl rfl ⟨rfl, rfl, rfl, rfl, rfl⟩ rfl rfl rfl rfl rfl (by kernel_rfl) Try.func10 (by kernel_rfl)
    (of_decide_eq_true (by kernel_rfl)) (by unfold Func.isWrapper; rw [if_neg (of_decide_eq_false (by kernel_rfl))]; exact ⟨rfl, rfl⟩)
    (fun os started H enc _ => enclosePasses_lifted os started H enc)
#print axioms enclosePasses_holds
end Go.Proofs.Ytilclpldfoifkaa
