import Derived.Test.YtgbnpnenejgnnaaRow
import Derived.Test.YtgbnpnenejgnnaaLe6
/-
  EncloseExact, proved: for every two numbers that can be read as data, the Go function photonmeshlaw05.EncloseExact returns true: where nothing has an error, the sum, the difference and the product of the exact numbers, and the power of the first, lie in what Add, Sub, Mul and Power make of the rectangles that enclose them; nothing that came in is changed. No conditions beside the row's own.
-/
namespace Go.Proofs.Ytgbnpnenejgnnaa
open Go.ChangeShapes Go.WideShapes Go.ChangeAt Go.RowKit Go.Joins

set_option maxRecDepth 100000 in
theorem encloseExact_lifted (os : Os) (started : os.Started) (H : Type) (enc : TypeId × Value → H) :
    ReturnsInHanded {} Try.checked os 16 .any (Rows.encloseExactSpec.pre6 enc Try.checked.prog Try.f16 [] false) (Rows.encloseExactSpec.post enc Try.checked.prog Try.f16 false true false false) := by
  refine law_lifted started Try.func16 (by kernel_rfl)
    (ChangeSpec.witness6 (enc := enc) (C := Try.checked) false ⟨#[], #[.agg #[.int .i64 0, .int .i64 0, .int .i64 0, .int .i64 0, .int .i64 0], .agg #[.int .i64 0, .int .i64 0, .int .i64 0, .int .i64 0, .int .i64 0]], []⟩ 8 (by kernel_rfl) (by kernel_rfl) (by kernel_rfl) (by kernel_rfl))
    rfl rfl (by rw [Try.params16]; decide +kernel) ?_ ?_
  · intro ds hd
    rw [Try.params16] at hd
    obtain ⟨d0, d1, rfl⟩ := len_two hd
    rfl
  · intro W base args ds ps hA hval
    rw [Try.params16] at hA hval
    obtain ⟨v0, r0, _, _, _, _, rfl, h0, hA⟩ := ta_cons hA
    obtain ⟨v1, r1, _, _, _, _, rfl, h1, hA⟩ := ta_cons hA
    obtain rfl := ta_nil hA
    obtain ⟨a0, b0, c0, d0, k0, rfl, ra0, rb0, rc0, rd0, rk0⟩ := open_num (hval 0 69 _ rfl rfl) h0
    obtain ⟨a1, b1, c1, d1, k1, rfl, ra1, rb1, rc1, rd1, rk1⟩ := open_num (hval 1 69 _ rfl rfl) h1
    exact EncloseExact_any a0 b0 c0 d0 k0 a1 b1 c1 d1 k1 W

end Go.Proofs.Ytgbnpnenejgnnaa
