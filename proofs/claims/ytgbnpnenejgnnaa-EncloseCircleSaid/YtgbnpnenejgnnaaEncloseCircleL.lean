import Derived.Test.YtgbnpnenejgnnaaRow
import Derived.Test.YtgbnpnenejgnnaaLu6
/-
  EncloseCircle, proved: for every whole number that can be read as data, the Go function photonmeshlaw05.EncloseCircle returns true: the power of a point of the unit circle encloses 1, eighths of a turn enclose the powers of w, and a whole turn changes nothing. No conditions beside the row's own.
-/
namespace Go.Proofs.Ytgbnpnenejgnnaa
open Go.ChangeShapes Go.WideShapes Go.ChangeAt Go.RowKit Go.Joins

set_option maxRecDepth 100000 in
theorem encloseCircle_lifted (os : Os) (started : os.Started) (H : Type) (enc : TypeId × Value → H) :
    ReturnsInHanded {} Try.checked os 17 .any (Rows.encloseCircleSpec.pre6 enc Try.checked.prog Try.f17 [] false) (Rows.encloseCircleSpec.post enc Try.checked.prog Try.f17 false true false false) := by
  refine law_lifted started Try.func17 (by kernel_rfl)
    (ChangeSpec.witness6 (enc := enc) (C := Try.checked) false ⟨#[], #[.int .i64 0], []⟩ 8 (by kernel_rfl) (by kernel_rfl) (by kernel_rfl) (by kernel_rfl))
    rfl rfl (by rw [Try.params17]; decide +kernel) ?_ ?_
  · intro ds hd
    rw [Try.params17] at hd
    obtain ⟨d0, rfl⟩ := len_one hd
    rfl
  · intro W base args ds ps hA hval
    rw [Try.params17] at hA hval
    obtain ⟨v0, r0, _, _, _, _, rfl, h0, hA⟩ := ta_cons hA
    obtain rfl := ta_nil hA
    obtain ⟨n, rfl, hn⟩ := open_i64 (hval 0 3 _ rfl rfl) h0
    exact EncloseCircle_any n W

end Go.Proofs.Ytgbnpnenejgnnaa
