/-
  AmpOrders, proved: for every two numbers that can be read as data, the Go function photonmeshlaw01.AmpOrders returns true: Sign and Cmp answer as the document's own Sign and Cmp do, errors included, and nothing that came in is changed. No conditions beside the row's own.
-/
import Derived.Test.YtmildncbkndcoaaRow
import Derived.Test.YtmildncbkndcoaaOrds
namespace Go.Proofs.Ytmildncbkndcoaa
open Go.ChangeShapes Go.WideShapes Go.ChangeAt Go.RowKit Go.Joins

set_option maxRecDepth 100000 in
theorem ampOrders_lifted (os : Os) (started : os.Started) (H : Type) (enc : TypeId × Value → H) :
    ReturnsInHanded {} Try.checked os 8 .any (Rows.ampOrdersSpec.pre6 enc Try.checked.prog Try.f8 [] false) (Rows.ampOrdersSpec.post enc Try.checked.prog Try.f8 false true false false) := by
  refine law_lifted started Try.func8 (by kernel_rfl)
    (ChangeSpec.witness6 (enc := enc) (C := Try.checked) false ⟨#[], #[.agg #[.int .i64 0, .int .i64 0, .int .i64 0, .int .i64 0, .int .i64 0], .agg #[.int .i64 0, .int .i64 0, .int .i64 0, .int .i64 0, .int .i64 0]], []⟩ 8 (by kernel_rfl) (by kernel_rfl) (by kernel_rfl) (by kernel_rfl))
    rfl rfl (by rw [Try.params8]; decide +kernel) ?_ ?_
  · intro ds hd
    rw [Try.params8] at hd
    obtain ⟨d0, d1, rfl⟩ := len_two hd
    rfl
  · intro W base args ds ps hA hval
    rw [Try.params8] at hA hval
    obtain ⟨v0, r0, _, _, _, _, rfl, h0, hA⟩ := ta_cons hA
    obtain ⟨v1, r1, _, _, _, _, rfl, h1, hA⟩ := ta_cons hA
    obtain rfl := ta_nil hA
    obtain ⟨a0, b0, c0, d0, k0, rfl, ra0, rb0, rc0, rd0, rk0⟩ := open_num (hval 0 24 _ rfl rfl) h0
    obtain ⟨a1, b1, c1, d1, k1, rfl, ra1, rb1, rc1, rd1, rk1⟩ := open_num (hval 1 24 _ rfl rfl) h1
    exact AmpOrders_any a0 b0 c0 d0 k0 a1 b1 c1 d1 k1 W

theorem ampOrders_holds : Rows.AmpOrdersSaid :=
  OpenClaim.holds_of_wide 8 Try.f8 rfl rfl rfl rfl rfl rfl rfl ⟨rfl, rfl, rfl, rfl, rfl⟩ rfl rfl rfl rfl rfl (by kernel_rfl) Try.func8 (by kernel_rfl)
    (of_decide_eq_true (by kernel_rfl)) (by unfold Func.isWrapper; rw [if_neg (of_decide_eq_false (by kernel_rfl))]; exact ⟨rfl, rfl⟩)
    (fun os started H enc _ => ampOrders_lifted os started H enc)
#print axioms ampOrders_holds
end Go.Proofs.Ytmildncbkndcoaa
