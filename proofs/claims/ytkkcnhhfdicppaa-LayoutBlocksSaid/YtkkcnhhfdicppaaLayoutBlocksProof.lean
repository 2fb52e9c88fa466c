/-
  LayoutBlocks, proved: for every argument that can be read as data, the Go function photonmeshlaw07.LayoutBlocks returns true: one more blocked cell never makes a place cheaper to reach; nothing that came in is changed. No conditions beside the row's own.
-/
import Derived.Test.YtkkcnhhfdicppaaRl7
import Derived.Test.YtkkcnhhfdicppaaLk7
namespace Go.Proofs.Ytkkcnhhfdicppaa
open Go.ChangeShapes Go.WideShapes Go.ChangeAt Go.RowKit Go.Joins

set_option maxRecDepth 100000 in
theorem len_3 {α : Type} {l : List α} (h : l.length = 3) : ∃ a0 a1 a2, l = [a0, a1, a2] := by
  match l, h with
  | [a0, a1, a2], _ => exact ⟨_, _, _, rfl⟩
set_option maxRecDepth 100000 in
set_option maxHeartbeats 4000000 in
theorem layoutBlocks_lifted (os : Os) (started : os.Started) (H : Type) (enc : TypeId × Value → H) :
    ReturnsInHanded {} Try.checked os 9 .any (Rows.layoutBlocksSpec.pre6 enc Try.checked.prog Try.f9 [] false) (Rows.layoutBlocksSpec.post enc Try.checked.prog Try.f9 false true false false) := by
  refine law_lifted_sized started Try.func9 (by kernel_rfl)
    (ChangeSpec.witness6 (enc := enc) (C := Try.checked) false ⟨#[], #[.agg #[.int .i64 0, .int .i64 0, .int .i64 0, .int .i64 0, .slice none 0 0], .agg #[.int .i64 0, .int .i64 0], .agg #[.int .i64 0, .int .i64 0]], []⟩ 8 (by kernel_rfl) (by kernel_rfl) (by kernel_rfl) (by kernel_rfl))
    rfl rfl (by rw [Try.params9]; decide +kernel) ?_ ?_
  · intro ds hd
    rw [Try.params9] at hd
    obtain ⟨d0, d1, d2, rfl⟩ := len_3 hd
    rfl
  · intro W_ base args ds ps hA hval hrch
    obtain ⟨vt, gs, hrch⟩ := hrch
    rw [Try.params9] at hA hval hrch
    obtain ⟨v0, r0, _, _, _, _, rfl, rfl, hv0, hA⟩ := ta_cons_w hA
    obtain ⟨v1, r1, _, _, _, _, rfl, hv1, hA⟩ := ta_cons hA
    obtain ⟨v2, r2, _, _, _, _, rfl, hv2, hA⟩ := ta_cons hA
    obtain rfl := ta_nil hA
    obtain ⟨W, H, M, B, ao, n, cp, X, Y, rfl, hn, hX, h16, hnil⟩ := open_grid_w (hval 0 24 _ rfl rfl) hv0 hrch rfl rfl
    obtain ⟨tx, ty, rfl⟩ := open_xy (hval 1 26 _ rfl rfl) hv1
    obtain ⟨ux, uy, rfl⟩ := open_xy (hval 2 26 _ rfl rfl) hv2
    exact LayoutBlocks_any W H M B tx ty ux uy n cp ao X Y W_ hn hX h16 hnil

theorem layoutBlocks_holds : Rows.LayoutBlocksSaid :=
  OpenClaim.holds_of_wide 9 Try.f9 rfl rfl rfl rfl rfl rfl rfl ⟨rfl, rfl, rfl, rfl, rfl⟩ rfl rfl rfl rfl rfl (by kernel_rfl) Try.func9 (by kernel_rfl)
    (of_decide_eq_true (by kernel_rfl)) (by unfold Func.isWrapper; rw [if_neg (of_decide_eq_false (by kernel_rfl))]; exact ⟨rfl, rfl⟩)
    (fun os started H enc _ => layoutBlocks_lifted os started H enc)
#print axioms layoutBlocks_holds
end Go.Proofs.Ytkkcnhhfdicppaa
