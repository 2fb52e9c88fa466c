/-
  LayoutParity, proved: for every argument that can be read as data, the Go function photonmeshlaw07.LayoutParity returns true: two paths that go together and whose four ends are different cells of the rim cross an odd number of times exactly if they must; nothing that came in is changed. No conditions beside the row's own.
-/
import Derived.Test.YtkkcnhhfdicppaaRk7
import Derived.Test.YtkkcnhhfdicppaaRp7
import Derived.Test.YtkkcnhhfdicppaaLt7
namespace Go.Proofs.Ytkkcnhhfdicppaa
open Go.ChangeShapes Go.WideShapes Go.ChangeAt Go.RowKit Go.Joins

set_option maxRecDepth 100000 in
theorem len_3 {α : Type} {l : List α} (h : l.length = 3) : ∃ a0 a1 a2, l = [a0, a1, a2] := by
  match l, h with
  | [a0, a1, a2], _ => exact ⟨_, _, _, rfl⟩
set_option maxRecDepth 100000 in
set_option maxHeartbeats 4000000 in
theorem layoutParity_lifted (os : Os) (started : os.Started) (H : Type) (enc : TypeId × Value → H) :
    ReturnsInHanded {} Try.checked os 6 .any (Rows.layoutParitySpec.pre6 enc Try.checked.prog Try.f6 [] false) (Rows.layoutParitySpec.post enc Try.checked.prog Try.f6 false true false false) := by
  refine law_lifted started Try.func6 (by kernel_rfl)
    (ChangeSpec.witness6 (enc := enc) (C := Try.checked) false ⟨#[], #[.agg #[.int .i64 0, .int .i64 0, .int .i64 0, .int .i64 0, .slice none 0 0], .slice none 0 0, .slice none 0 0], []⟩ 8 (by kernel_rfl) (by kernel_rfl) (by kernel_rfl) (by kernel_rfl))
    rfl rfl (by rw [Try.params6]; decide +kernel) ?_ ?_
  · intro ds hd
    rw [Try.params6] at hd
    obtain ⟨d0, d1, d2, rfl⟩ := len_3 hd
    rfl
  · intro W_ base args ds ps hA hval
    rw [Try.params6] at hA hval
    obtain ⟨v0, r0, _, _, _, _, rfl, hv0, hA⟩ := ta_cons hA
    obtain ⟨v1, r1, _, _, _, _, rfl, hv1, hA⟩ := ta_cons hA
    obtain ⟨v2, r2, _, _, _, _, rfl, hv2, hA⟩ := ta_cons hA
    obtain rfl := ta_nil hA
    obtain ⟨W, H, M, B, ao, n, cp, X, Y, rfl, hn, hX⟩ := open_grid (hval 0 24 _ rfl rfl) hv0
    obtain ⟨ap, np, cpp, XP, YP, rfl, hnp, hp, hr⟩ := open_path hv1 (slice_wide_xy (hval 1 22 _ rfl rfl))
    obtain ⟨aq, nq, cpq, XQ, YQ, rfl, _, hq, hrq⟩ := open_path hv2 (slice_wide_xy (hval 2 22 _ rfl rfl))
    exact LayoutParity_any W H M B n cp np cpp nq cpq ao ap aq X Y XP YP XQ YQ W_ hn hX hp hq hr hrq

theorem layoutParity_holds : Rows.LayoutParitySaid :=
  OpenClaim.holds_of_wide 6 Try.f6 rfl rfl rfl rfl rfl rfl rfl ⟨rfl, rfl, rfl, rfl, rfl⟩ rfl rfl rfl rfl rfl (by kernel_rfl) Try.func6 (by kernel_rfl)
    (of_decide_eq_true (by kernel_rfl)) (by unfold Func.isWrapper; rw [if_neg (of_decide_eq_false (by kernel_rfl))]; exact ⟨rfl, rfl⟩)
    (fun os started H enc _ => layoutParity_lifted os started H enc)
#print axioms layoutParity_holds
end Go.Proofs.Ytkkcnhhfdicppaa
