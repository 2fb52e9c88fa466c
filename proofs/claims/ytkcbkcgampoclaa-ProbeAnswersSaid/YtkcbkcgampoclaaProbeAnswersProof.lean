/-
  ProbeAnswers, proved: for every number of ports, every state and every test that can be read as data, the Go function photonmeshlaw09.ProbeAnswers returns true: how many states there are, where light comes out, and whether a state agrees with a test, or the error, are the document's; nothing that came in is changed. No conditions beside the row's own.
-/
import Derived.Test.YtkcbkcgampoclaaRk9
import Derived.Test.YtkcbkcgampoclaaRn9
import Derived.Test.YtkcbkcgampoclaaFn9
namespace Go.Proofs.Ytkcbkcgampoclaa
open Go.ChangeShapes Go.WideShapes Go.ChangeAt Go.RowKit Go.Joins

set_option maxRecDepth 100000 in
theorem probeAnswers_lifted (os : Os) (started : os.Started) (H : Type) (enc : TypeId × Value → H) :
    ReturnsInHanded {} Try.checked os 5 .any (Rows.probeAnswersSpec.pre6 enc Try.checked.prog Try.f5 [] false) (Rows.probeAnswersSpec.post enc Try.checked.prog Try.f5 false true false false) := by
  refine law_lifted started Try.func5 (by kernel_rfl)
    (ChangeSpec.witness6 (enc := enc) (C := Try.checked) false ⟨#[], #[.int .i64 0, .int .i64 0, .agg #[.slice none 0 0, .int .i64 0, .int .i64 0]], []⟩ 8 (by kernel_rfl) (by kernel_rfl) (by kernel_rfl) (by kernel_rfl))
    rfl rfl (by rw [Try.params5]; decide +kernel) ?_ ?_
  · intro ds hd
    rw [Try.params5] at hd
    obtain ⟨d0, d1, d2, rfl⟩ := len_three hd
    rfl
  · intro W base args ds ps hA hval
    rw [Try.params5] at hA hval
    obtain ⟨v0, r0, _, _, _, _, rfl, h0, hA⟩ := ta_cons hA
    obtain ⟨v1, r1, _, _, _, _, rfl, h1, hA⟩ := ta_cons hA
    obtain ⟨v2, r2, _, _, _, _, rfl, h2, hA⟩ := ta_cons hA
    obtain rfl := ta_nil hA
    obtain ⟨x0, rfl, hx0⟩ := open_i64 (hval 0 3 _ rfl rfl) h0
    obtain ⟨x1, rfl, hx1⟩ := open_i64 (hval 1 3 _ rfl rfl) h1
    obtain ⟨ao2, n2, cap2, f2, p2, q2, rfl, hn2, hc2, hp2, hq2⟩ := open_test (hval 2 44 _ rfl rfl) h2
    exact ProbeAnswers_any x0 x1 n2 cap2 ao2 f2 p2 q2 W hn2 hc2

theorem probeAnswers_holds : Rows.ProbeAnswersSaid :=
  OpenClaim.holds_of_wide 5 Try.f5 rfl rfl rfl rfl rfl rfl rfl ⟨rfl, rfl, rfl, rfl, rfl⟩ rfl rfl rfl rfl rfl (by kernel_rfl) Try.func5 (by kernel_rfl)
    (of_decide_eq_true (by kernel_rfl)) (by unfold Func.isWrapper; rw [if_neg (of_decide_eq_false (by kernel_rfl))]; exact ⟨rfl, rfl⟩)
    (fun os started H enc _ => probeAnswers_lifted os started H enc)
#print axioms probeAnswers_holds
end Go.Proofs.Ytkcbkcgampoclaa
