/-
  LayoutBounds, proved: for every argument that can be read as data, the Go function photonmeshlaw07.LayoutBounds returns true: distances are a proof, and no path from a cell costs less than the number that a proof has for it; nothing that came in is changed. No conditions beside the row's own.
-/
import Derived.Test.YtkkcnhhfdicppaaRk7
import Derived.Test.YtkkcnhhfdicppaaLb8
namespace Go.Proofs.Ytkkcnhhfdicppaa
open Go.ChangeShapes Go.WideShapes Go.ChangeAt Go.RowKit Go.Joins

set_option maxRecDepth 100000 in
theorem len_3 {α : Type} {l : List α} (h : l.length = 3) : ∃ a0 a1 a2, l = [a0, a1, a2] := by
  match l, h with
  | [a0, a1, a2], _ => exact ⟨_, _, _, rfl⟩
set_option maxRecDepth 100000 in
set_option maxHeartbeats 4000000 in
theorem layoutBounds_lifted (os : Os) (started : os.Started) (H : Type) (enc : TypeId × Value → H) :
    ReturnsInHanded {} Try.checked os 10 .any (Rows.layoutBoundsSpec.pre6 enc Try.checked.prog Try.f10 [] false) (Rows.layoutBoundsSpec.post enc Try.checked.prog Try.f10 false true false false) := by
  refine law_lifted started Try.func10 (by kernel_rfl)
    (ChangeSpec.witness6 (enc := enc) (C := Try.checked) false ⟨#[], #[.agg #[.int .i64 0, .int .i64 0, .int .i64 0, .int .i64 0, .slice none 0 0], .agg #[.int .i64 0, .int .i64 0], .slice none 0 0], []⟩ 8 (by kernel_rfl) (by kernel_rfl) (by kernel_rfl) (by kernel_rfl))
    rfl rfl (by rw [Try.params10]; decide +kernel) ?_ ?_
  · intro ds hd
    rw [Try.params10] at hd
    obtain ⟨d0, d1, d2, rfl⟩ := len_3 hd
    rfl
  · intro W_ base args ds ps hA hval
    rw [Try.params10] at hA hval
    obtain ⟨v0, r0, _, _, _, _, rfl, hv0, hA⟩ := ta_cons hA
    obtain ⟨v1, r1, _, _, _, _, rfl, hv1, hA⟩ := ta_cons hA
    obtain ⟨v2, r2, _, _, _, _, rfl, hv2, hA⟩ := ta_cons hA
    obtain rfl := ta_nil hA
    obtain ⟨W, H, M, B, ao, n, cp, X, Y, rfl, hn, hX⟩ := open_grid (hval 0 24 _ rfl rfl) hv0
    obtain ⟨tx, ty, rfl⟩ := open_xy (hval 1 26 _ rfl rfl) hv1
    obtain ⟨af, nf, cf, f, rfl, hnf, hf⟩ := open_is hv2 (slice_wide (hval 2 34 _ rfl rfl))
    exact LayoutBounds_any W H M B tx ty n cp nf cf ao af X Y f W_ hn hnf hX hf

theorem layoutBounds_holds : Rows.LayoutBoundsSaid :=
  OpenClaim.holds_of_wide 10 Try.f10 rfl rfl rfl rfl rfl rfl rfl ⟨rfl, rfl, rfl, rfl, rfl⟩ rfl rfl rfl rfl rfl (by kernel_rfl) Try.func10 (by kernel_rfl)
    (of_decide_eq_true (by kernel_rfl)) (by unfold Func.isWrapper; rw [if_neg (of_decide_eq_false (by kernel_rfl))]; exact ⟨rfl, rfl⟩)
    (fun os started H enc _ => layoutBounds_lifted os started H enc)
#print axioms layoutBounds_holds
end Go.Proofs.Ytkkcnhhfdicppaa
