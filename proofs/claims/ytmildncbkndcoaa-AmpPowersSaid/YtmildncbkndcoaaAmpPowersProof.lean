/-
  AmpPowers, proved: for every two numbers that can be read as data, the Go function photonmeshlaw01.AmpPowers returns true: a power is real, above 0 but for 0, its Flip is not negative, the power of a product is the product of the powers, and nothing that came in is changed. No conditions beside the row's own.
-/
import Derived.Test.YtmildncbkndcoaaRow
import Derived.Test.YtmildncbkndcoaaPow
namespace Go.Proofs.Ytmildncbkndcoaa
open Go.ChangeShapes Go.WideShapes Go.ChangeAt Go.RowKit Go.Joins

set_option maxRecDepth 100000 in
theorem ampPowers_lifted (os : Os) (started : os.Started) (H : Type) (enc : TypeId × Value → H) :
    ReturnsInHanded {} Try.checked os 12 .any (Rows.ampPowersSpec.pre6 enc Try.checked.prog Try.f12 [] false) (Rows.ampPowersSpec.post enc Try.checked.prog Try.f12 false true false false) := by
  refine law_lifted started Try.func12 (by kernel_rfl)
    (ChangeSpec.witness6 (enc := enc) (C := Try.checked) false ⟨#[], #[.agg #[.int .i64 0, .int .i64 0, .int .i64 0, .int .i64 0, .int .i64 0], .agg #[.int .i64 0, .int .i64 0, .int .i64 0, .int .i64 0, .int .i64 0]], []⟩ 8 (by kernel_rfl) (by kernel_rfl) (by kernel_rfl) (by kernel_rfl))
    rfl rfl (by rw [Try.params12]; decide +kernel) ?_ ?_
  · intro ds hd
    rw [Try.params12] at hd
    obtain ⟨d0, d1, rfl⟩ := len_two hd
    rfl
  · intro W base args ds ps hA hval
    rw [Try.params12] at hA hval
    obtain ⟨v0, r0, _, _, _, _, rfl, h0, hA⟩ := ta_cons hA
    obtain ⟨v1, r1, _, _, _, _, rfl, h1, hA⟩ := ta_cons hA
    obtain rfl := ta_nil hA
    obtain ⟨a0, b0, c0, d0, k0, rfl, ra0, rb0, rc0, rd0, rk0⟩ := open_num (hval 0 24 _ rfl rfl) h0
    obtain ⟨a1, b1, c1, d1, k1, rfl, ra1, rb1, rc1, rd1, rk1⟩ := open_num (hval 1 24 _ rfl rfl) h1
    exact AmpPowers_any a0 b0 c0 d0 k0 a1 b1 c1 d1 k1 W

theorem ampPowers_holds : Rows.AmpPowersSaid :=
  OpenClaim.holds_of_wide 12 Try.f12 rfl rfl rfl rfl rfl rfl rfl ⟨rfl, rfl, rfl, rfl, rfl⟩ rfl rfl rfl rfl rfl (by kernel_rfl) Try.func12 (by kernel_rfl)
    (of_decide_eq_true (by kernel_rfl)) (by unfold Func.isWrapper; rw [if_neg (of_decide_eq_false (by kernel_rfl))]; exact ⟨rfl, rfl⟩)
    (fun os started H enc _ => ampPowers_lifted os started H enc)
#print axioms ampPowers_holds
end Go.Proofs.Ytmildncbkndcoaa
