import Derived.Test.YtgbnpnenejgnnaaRow
import Derived.Test.YtgbnpnenejgnnaaLz5
/-
  EncloseParts, proved: for every two whole numbers and every number that can be read as data, the Go function photonmeshlaw05.EncloseParts returns true: the least span for the fraction and the rectangle of the exact number are what the document's answers are, errors and all; nothing that came in is changed. No conditions beside the row's own.
-/
namespace Go.Proofs.Ytgbnpnenejgnnaa
open Go.ChangeShapes Go.WideShapes Go.ChangeAt Go.RowKit Go.Joins

set_option maxRecDepth 100000 in
theorem encloseParts_lifted (os : Os) (started : os.Started) (H : Type) (enc : TypeId × Value → H) :
    ReturnsInHanded {} Try.checked os 15 .any (Rows.enclosePartsSpec.pre6 enc Try.checked.prog Try.f15 [] false) (Rows.enclosePartsSpec.post enc Try.checked.prog Try.f15 false true false false) := by
  refine law_lifted started Try.func15 (by kernel_rfl)
    (ChangeSpec.witness6 (enc := enc) (C := Try.checked) false ⟨#[], #[.int .i64 0, .int .i64 0, .agg #[.int .i64 0, .int .i64 0, .int .i64 0, .int .i64 0, .int .i64 0]], []⟩ 8 (by kernel_rfl) (by kernel_rfl) (by kernel_rfl) (by kernel_rfl))
    rfl rfl (by rw [Try.params15]; decide +kernel) ?_ ?_
  · intro ds hd
    rw [Try.params15] at hd
    obtain ⟨d0, d1, d2, rfl⟩ := len_three hd
    rfl
  · intro W base args ds ps hA hval
    rw [Try.params15] at hA hval
    obtain ⟨v0, r0, _, _, _, _, rfl, h0, hA⟩ := ta_cons hA
    obtain ⟨v1, r1, _, _, _, _, rfl, h1, hA⟩ := ta_cons hA
    obtain ⟨v2, r2, _, _, _, _, rfl, h2, hA⟩ := ta_cons hA
    obtain rfl := ta_nil hA
    obtain ⟨n0, rfl, rn0⟩ := open_i64 (hval 0 3 _ rfl rfl) h0
    obtain ⟨n1, rfl, rn1⟩ := open_i64 (hval 1 3 _ rfl rfl) h1
    obtain ⟨a0, b0, c0, d0, k0, rfl, ra0, rb0, rc0, rd0, rk0⟩ := open_num (hval 2 69 _ rfl rfl) h2
    exact EncloseParts_any n0 n1 a0 b0 c0 d0 k0 W

end Go.Proofs.Ytgbnpnenejgnnaa
