/-
  HeatRows, proved: for every bank and every two small numbers that can be read as data, the Go function photonmeshlaw06.HeatRows returns true: two rows that are exchanged change the sign of the determinant, and one that is there twice makes it 0; nothing that came in is changed. No conditions beside the row's own.
-/
import Derived.Test.YtdhlikedjephmaaRh
import Derived.Test.YtdhlikedjephmaaLr6
import Derived.Test.YtdhlikedjephmaaRh4
namespace Go.Proofs.Ytdhlikedjephmaa
open Go.ChangeShapes Go.WideShapes Go.ChangeAt Go.RowKit Go.Joins

set_option maxRecDepth 100000 in
theorem heatRows_lifted (os : Os) (started : os.Started) (H : Type) (enc : TypeId × Value → H) :
    ReturnsInHanded {} Try.checked os 10 .any (Rows.heatRowsSpec.pre6 enc Try.checked.prog Try.f10 [] false) (Rows.heatRowsSpec.post enc Try.checked.prog Try.f10 false true false false) := by
  refine law_lifted started Try.func10 (by kernel_rfl)
    (ChangeSpec.witness6 (enc := enc) (C := Try.checked) false ⟨#[], #[.agg #[.slice none 0 0], .agg #[.int .u8 0, .int .u8 0]], []⟩ 8 (by kernel_rfl) (by kernel_rfl) (by kernel_rfl) (by kernel_rfl))
    rfl rfl (by rw [Try.params10]; decide +kernel) ?_ ?_
  · intro ds hd
    rw [Try.params10] at hd
    obtain ⟨d0, d1, rfl⟩ := len_two hd
    rfl
  · intro W base args ds ps hA hval
    rw [Try.params10] at hA hval
    obtain ⟨v0, r0, _, _, _, _, rfl, h0, hA⟩ := ta_cons hA
    obtain ⟨v1, r1, _, _, _, _, rfl, h1, hA⟩ := ta_cons hA
    obtain rfl := ta_nil hA
    obtain ⟨ao0, N0, cap0, A0, l0, c0, F0, rfl, hn0, hc0⟩ := open_bank (hval 0 40 _ rfl rfl) h0
    obtain ⟨x1, y1, rfl, hx1, hy1⟩ := open_u2 (hval 1 60 _ rfl rfl) h1
    exact HeatRows_any N0 cap0 ao0 A0 l0 c0 F0 x1 y1 W hn0 hc0 hx1 hy1

theorem heatRows_holds : Rows.HeatRowsSaid :=
  OpenClaim.holds_of_wide 10 Try.f10 rfl rfl rfl rfl rfl rfl rfl ⟨rfl, rfl, rfl, rfl, rfl⟩ rfl rfl rfl rfl rfl (by kernel_rfl) Try.func10 (by kernel_rfl)
    (of_decide_eq_true (by kernel_rfl)) (by unfold Func.isWrapper; rw [if_neg (of_decide_eq_false (by kernel_rfl))]; exact ⟨rfl, rfl⟩)
    (fun os started H enc _ => heatRows_lifted os started H enc)
#print axioms heatRows_holds
end Go.Proofs.Ytdhlikedjephmaa
