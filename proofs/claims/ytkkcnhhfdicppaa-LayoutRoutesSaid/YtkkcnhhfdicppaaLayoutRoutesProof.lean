/-
  LayoutRoutes, proved: for every argument that can be read as data, the Go function photonmeshlaw07.LayoutRoutes returns true: the least costs from all cells to a place, and the route of the least cost that comes first, are what the document's answers are, errors and all; nothing that came in is changed. No conditions beside the row's own.
-/
import Derived.Test.YtkkcnhhfdicppaaRk7
import Derived.Test.YtkkcnhhfdicppaaLo7
namespace Go.Proofs.Ytkkcnhhfdicppaa
open Go.ChangeShapes Go.WideShapes Go.ChangeAt Go.RowKit Go.Joins

set_option maxRecDepth 100000 in
theorem len_3 {α : Type} {l : List α} (h : l.length = 3) : ∃ a0 a1 a2, l = [a0, a1, a2] := by
  match l, h with
  | [a0, a1, a2], _ => exact ⟨_, _, _, rfl⟩
set_option maxRecDepth 100000 in
set_option maxHeartbeats 4000000 in
theorem layoutRoutes_lifted (os : Os) (started : os.Started) (H : Type) (enc : TypeId × Value → H) :
    ReturnsInHanded {} Try.checked os 7 .any (Rows.layoutRoutesSpec.pre6 enc Try.checked.prog Try.f7 [] false) (Rows.layoutRoutesSpec.post enc Try.checked.prog Try.f7 false true false false) := by
  refine law_lifted started Try.func7 (by kernel_rfl)
    (ChangeSpec.witness6 (enc := enc) (C := Try.checked) false ⟨#[], #[.agg #[.int .i64 0, .int .i64 0, .int .i64 0, .int .i64 0, .slice none 0 0], .agg #[.int .i64 0, .int .i64 0], .agg #[.int .i64 0, .int .i64 0]], []⟩ 8 (by kernel_rfl) (by kernel_rfl) (by kernel_rfl) (by kernel_rfl))
    rfl rfl (by rw [Try.params7]; decide +kernel) ?_ ?_
  · intro ds hd
    rw [Try.params7] at hd
    obtain ⟨d0, d1, d2, rfl⟩ := len_3 hd
    rfl
  · intro W_ base args ds ps hA hval
    rw [Try.params7] at hA hval
    obtain ⟨v0, r0, _, _, _, _, rfl, hv0, hA⟩ := ta_cons hA
    obtain ⟨v1, r1, _, _, _, _, rfl, hv1, hA⟩ := ta_cons hA
    obtain ⟨v2, r2, _, _, _, _, rfl, hv2, hA⟩ := ta_cons hA
    obtain rfl := ta_nil hA
    obtain ⟨W, H, M, B, ao, n, cp, X, Y, rfl, hn, hX⟩ := open_grid (hval 0 24 _ rfl rfl) hv0
    obtain ⟨fx, fy, rfl⟩ := open_xy (hval 1 26 _ rfl rfl) hv1
    obtain ⟨tx, ty, rfl⟩ := open_xy (hval 2 26 _ rfl rfl) hv2
    exact LayoutRoutes_any W H M B fx fy tx ty n cp ao X Y W_ hn hX

theorem layoutRoutes_holds : Rows.LayoutRoutesSaid :=
  OpenClaim.holds_of_wide 7 Try.f7 rfl rfl rfl rfl rfl rfl rfl ⟨rfl, rfl, rfl, rfl, rfl⟩ rfl rfl rfl rfl rfl (by kernel_rfl) Try.func7 (by kernel_rfl)
    (of_decide_eq_true (by kernel_rfl)) (by unfold Func.isWrapper; rw [if_neg (of_decide_eq_false (by kernel_rfl))]; exact ⟨rfl, rfl⟩)
    (fun os started H enc _ => layoutRoutes_lifted os started H enc)
#print axioms layoutRoutes_holds
end Go.Proofs.Ytkkcnhhfdicppaa
