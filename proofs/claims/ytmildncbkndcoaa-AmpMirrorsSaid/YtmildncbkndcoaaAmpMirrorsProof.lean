/-
  AmpMirrors, proved: for every two numbers and every whole number that can be read as data, the Go function photonmeshlaw01.AmpMirrors returns true: Neg, Conj and Flip undo themselves, eight eighths of a turn change nothing and four negate, a turn back undoes a turn, Conj and Flip of a product are the products of theirs, and nothing that came in is changed. No conditions beside the row's own.
-/
import Derived.Test.YtmildncbkndcoaaRow
import Derived.Test.YtmildncbkndcoaaMir
namespace Go.Proofs.Ytmildncbkndcoaa
open Go.ChangeShapes Go.WideShapes Go.ChangeAt Go.RowKit Go.Joins

set_option maxRecDepth 100000 in
theorem ampMirrors_lifted (os : Os) (started : os.Started) (H : Type) (enc : TypeId × Value → H) :
    ReturnsInHanded {} Try.checked os 11 .any (Rows.ampMirrorsSpec.pre6 enc Try.checked.prog Try.f11 [] false) (Rows.ampMirrorsSpec.post enc Try.checked.prog Try.f11 false true false false) := by
  refine law_lifted started Try.func11 (by kernel_rfl)
    (ChangeSpec.witness6 (enc := enc) (C := Try.checked) false ⟨#[], #[.agg #[.int .i64 0, .int .i64 0, .int .i64 0, .int .i64 0, .int .i64 0], .agg #[.int .i64 0, .int .i64 0, .int .i64 0, .int .i64 0, .int .i64 0], .int .i64 0], []⟩ 8 (by kernel_rfl) (by kernel_rfl) (by kernel_rfl) (by kernel_rfl))
    rfl rfl (by rw [Try.params11]; decide +kernel) ?_ ?_
  · intro ds hd
    rw [Try.params11] at hd
    obtain ⟨d0, d1, d2, rfl⟩ := len_three hd
    rfl
  · intro W base args ds ps hA hval
    rw [Try.params11] at hA hval
    obtain ⟨v0, r0, _, _, _, _, rfl, h0, hA⟩ := ta_cons hA
    obtain ⟨v1, r1, _, _, _, _, rfl, h1, hA⟩ := ta_cons hA
    obtain ⟨v2, r2, _, _, _, _, rfl, h2, hA⟩ := ta_cons hA
    obtain rfl := ta_nil hA
    obtain ⟨a0, b0, c0, d0, k0, rfl, ra0, rb0, rc0, rd0, rk0⟩ := open_num (hval 0 24 _ rfl rfl) h0
    obtain ⟨a1, b1, c1, d1, k1, rfl, ra1, rb1, rc1, rd1, rk1⟩ := open_num (hval 1 24 _ rfl rfl) h1
    obtain ⟨n2, rfl, rn2⟩ := open_i64 (hval 2 3 _ rfl rfl) h2
    exact AmpMirrors_any a0 b0 c0 d0 k0 a1 b1 c1 d1 k1 n2 W

theorem ampMirrors_holds : Rows.AmpMirrorsSaid :=
  OpenClaim.holds_of_wide 11 Try.f11 rfl rfl rfl rfl rfl rfl rfl ⟨rfl, rfl, rfl, rfl, rfl⟩ rfl rfl rfl rfl rfl (by kernel_rfl) Try.func11 (by kernel_rfl)
    (of_decide_eq_true (by kernel_rfl)) (by unfold Func.isWrapper; rw [if_neg (of_decide_eq_false (by kernel_rfl))]; exact ⟨rfl, rfl⟩)
    (fun os started H enc _ => ampMirrors_lifted os started H enc)
#print axioms ampMirrors_holds
end Go.Proofs.Ytmildncbkndcoaa
