/-
  HeatSpreads, proved: for every bank, every list of powers and every loss that can be read as data, the Go function photonmeshlaw06.HeatSpreads returns true: the numbers within which a sum lies if drivers are off, or the error, are the document's; nothing that came in is changed. No conditions beside the row's own.
-/
import Derived.Test.YtldepffpafccpaaRh
import Derived.Test.YtldepffpafccpaaWl6
namespace Go.Proofs.Ytldepffpafccpaa
open Go.ChangeShapes Go.WideShapes Go.ChangeAt Go.RowKit Go.Joins

set_option maxRecDepth 100000 in
theorem heatSpreads_lifted (os : Os) (started : os.Started) (H : Type) (enc : TypeId × Value → H) :
    ReturnsInHanded {} Try.checked os 6 .any (Rows.heatSpreadsSpec.pre6 enc Try.checked.prog Try.f6 [] false) (Rows.heatSpreadsSpec.post enc Try.checked.prog Try.f6 false true false false) := by
  refine law_lifted started Try.func6 (by kernel_rfl)
    (ChangeSpec.witness6 (enc := enc) (C := Try.checked) false ⟨#[], #[.agg #[.slice none 0 0], .slice none 0 0, .int .i64 0], []⟩ 8 (by kernel_rfl) (by kernel_rfl) (by kernel_rfl) (by kernel_rfl))
    rfl rfl (by rw [Try.params6]; decide +kernel) ?_ ?_
  · intro ds hd
    rw [Try.params6] at hd
    obtain ⟨d0, d1, d2, rfl⟩ := len_three hd
    rfl
  · intro W base args ds ps hA hval
    rw [Try.params6] at hA hval
    obtain ⟨v0, r0, _, _, _, _, rfl, h0, hA⟩ := ta_cons hA
    obtain ⟨v1, r1, _, _, _, _, rfl, h1, hA⟩ := ta_cons hA
    obtain ⟨v2, r2, _, _, _, _, rfl, h2, hA⟩ := ta_cons hA
    obtain rfl := ta_nil hA
    obtain ⟨ao0, N0, cap0, A0, l0, c0, F0, rfl, hn0, hc0⟩ := open_bank (hval 0 40 _ rfl rfl) h0
    obtain ⟨ao1, n1, cap1, f1, rfl, hn1, hc1⟩ := open_is h1 (slice_wide (hval 1 24 _ rfl rfl))
    obtain ⟨x2, rfl, hx2⟩ := open_i64 (hval 2 3 _ rfl rfl) h2
    exact HeatSpreads_any N0 cap0 ao0 A0 l0 c0 F0 n1 cap1 ao1 f1 x2 W hn0 hc0 hn1 hc1

theorem heatSpreads_holds : Rows.HeatSpreadsSaid :=
  OpenClaim.holds_of_wide 6 Try.f6 rfl rfl rfl rfl rfl rfl rfl ⟨rfl, rfl, rfl, rfl, rfl⟩ rfl rfl rfl rfl rfl (by kernel_rfl) Try.func6 (by kernel_rfl)
    (of_decide_eq_true (by kernel_rfl)) (by unfold Func.isWrapper; rw [if_neg (of_decide_eq_false (by kernel_rfl))]; exact ⟨rfl, rfl⟩)
    (fun os started H enc _ => heatSpreads_lifted os started H enc)
#print axioms heatSpreads_holds
end Go.Proofs.Ytldepffpafccpaa
