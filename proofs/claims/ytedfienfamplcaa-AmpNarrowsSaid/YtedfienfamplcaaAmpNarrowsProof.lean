/-
  AmpNarrows, proved: for every number, every uint8 and every whole number that can be read as data, the Go function photonmeshlaw01.AmpNarrows returns true: bounds are equal or next to each other, those with one bit more lie between twice these, whole numbers have equal ones, and nothing that came in is changed. No conditions beside the row's own.
-/
import Derived.Test.YtedfienfamplcaaRow
import Derived.Test.YtedfienfamplcaaNar
namespace Go.Proofs.Ytedfienfamplcaa
open Go.ChangeShapes Go.WideShapes Go.ChangeAt Go.RowKit Go.Joins

set_option maxRecDepth 100000 in
theorem ampNarrows_lifted (os : Os) (started : os.Started) (H : Type) (enc : TypeId × Value → H) :
    ReturnsInHanded {} Try.checked os 4 .any (Rows.ampNarrowsSpec.pre6 enc Try.checked.prog Try.f4 [] false) (Rows.ampNarrowsSpec.post enc Try.checked.prog Try.f4 false true false false) := by
  refine law_lifted started Try.func4 (by kernel_rfl)
    (ChangeSpec.witness6 (enc := enc) (C := Try.checked) false ⟨#[], #[.agg #[.int .i64 0, .int .i64 0, .int .i64 0, .int .i64 0, .int .i64 0], .int .u8 0, .int .i64 0], []⟩ 8 (by kernel_rfl) (by kernel_rfl) (by kernel_rfl) (by kernel_rfl))
    rfl rfl (by rw [Try.params4]; decide +kernel) ?_ ?_
  · intro ds hd
    rw [Try.params4] at hd
    obtain ⟨d0, d1, d2, rfl⟩ := len_three hd
    rfl
  · intro W base args ds ps hA hval
    rw [Try.params4] at hA hval
    obtain ⟨v0, r0, _, _, _, _, rfl, h0, hA⟩ := ta_cons hA
    obtain ⟨v1, r1, _, _, _, _, rfl, h1, hA⟩ := ta_cons hA
    obtain ⟨v2, r2, _, _, _, _, rfl, h2, hA⟩ := ta_cons hA
    obtain rfl := ta_nil hA
    obtain ⟨a0, b0, c0, d0, k0, rfl, ra0, rb0, rc0, rd0, rk0⟩ := open_num (hval 0 24 _ rfl rfl) h0
    obtain ⟨n1, rfl, rn1⟩ := open_u8 (hval 1 5 _ rfl rfl) h1
    obtain ⟨n2, rfl, rn2⟩ := open_i64 (hval 2 3 _ rfl rfl) h2
    exact AmpNarrows_any a0 b0 c0 d0 k0 n1 n2 W rn1.1 rn1.2 rn2

theorem ampNarrows_holds : Rows.AmpNarrowsSaid :=
  OpenClaim.holds_of_wide 4 Try.f4 rfl rfl rfl rfl rfl rfl rfl ⟨rfl, rfl, rfl, rfl, rfl⟩ rfl rfl rfl rfl rfl (by kernel_rfl) Try.func4 (by kernel_rfl)
    (of_decide_eq_true (by kernel_rfl)) (by unfold Func.isWrapper; rw [if_neg (of_decide_eq_false (by kernel_rfl))]; exact ⟨rfl, rfl⟩)
    (fun os started H enc _ => ampNarrows_lifted os started H enc)
#print axioms ampNarrows_holds
end Go.Proofs.Ytedfienfamplcaa
