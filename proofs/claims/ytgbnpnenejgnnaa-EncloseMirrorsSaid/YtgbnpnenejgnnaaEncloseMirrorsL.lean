import Derived.Test.YtgbnpnenejgnnaaRow8
import Derived.Test.YtgbnpnenejgnnaaLy5
/-
  EncloseMirrors, proved: for every two two-ports that can be read as data, the Go function photonmeshlaw05.EncloseMirrors returns true: exchanging the ports twice changes nothing, joining the mirrors in the other order meets the mirror of what was joined, and a two-port that lets all through changes nothing but what rounding widens; nothing that came in is changed. No conditions beside the row's own.
-/
namespace Go.Proofs.Ytgbnpnenejgnnaa
open Go.ChangeShapes Go.WideShapes Go.ChangeAt Go.RowKit Go.Joins

set_option maxRecDepth 100000 in
set_option maxHeartbeats 4000000 in
theorem encloseMirrors_lifted (os : Os) (started : os.Started) (H : Type) (enc : TypeId × Value → H) :
    ReturnsInHanded {} Try.checked os 14 .any (Rows.encloseMirrorsSpec.pre6 enc Try.checked.prog Try.f14 [] false) (Rows.encloseMirrorsSpec.post enc Try.checked.prog Try.f14 false true false false) := by
  refine law_lifted started Try.func14 (by kernel_rfl)
    (ChangeSpec.witness6 (enc := enc) (C := Try.checked) false ⟨#[], #[.agg #[.int .i64 0, .int .i64 0, .int .i64 0, .int .i64 0, .int .i64 0, .int .i64 0, .int .i64 0, .int .i64 0, .int .i64 0, .int .i64 0, .int .i64 0, .int .i64 0, .int .i64 0, .int .i64 0, .int .i64 0, .int .i64 0], .agg #[.int .i64 0, .int .i64 0, .int .i64 0, .int .i64 0, .int .i64 0, .int .i64 0, .int .i64 0, .int .i64 0, .int .i64 0, .int .i64 0, .int .i64 0, .int .i64 0, .int .i64 0, .int .i64 0, .int .i64 0, .int .i64 0]], []⟩ 8 (by kernel_rfl) (by kernel_rfl) (by kernel_rfl) (by kernel_rfl))
    rfl rfl (by rw [Try.params14]; decide +kernel) ?_ ?_
  · intro ds hd
    rw [Try.params14] at hd
    obtain ⟨d0, d1, rfl⟩ := len_two hd
    rfl
  · intro W base args ds ps hA hval
    rw [Try.params14] at hA hval
    obtain ⟨v0, r0, _, _, _, _, rfl, hv0, hA⟩ := ta_cons hA
    obtain ⟨v1, r1, _, _, _, _, rfl, hv1, hA⟩ := ta_cons hA
    obtain rfl := ta_nil hA
    obtain ⟨a0, b0, c0, d0, a1, b1, c1, d1, a2, b2, c2, d2, a3, b3, c3, d3, rfl⟩ := open_port (hval 0 49 _ rfl rfl) hv0
    obtain ⟨e0, f0, g0, h0, e1, f1, g1, h1, e2, f2, g2, h2, e3, f3, g3, h3, rfl⟩ := open_port (hval 1 49 _ rfl rfl) hv1
    exact EncloseMirrors_any a0 b0 c0 d0 a1 b1 c1 d1 a2 b2 c2 d2 a3 b3 c3 d3 e0 f0 g0 h0 e1 f1 g1 h1 e2 f2 g2 h2 e3 f3 g3 h3 W

end Go.Proofs.Ytgbnpnenejgnnaa
