/-
  LayoutRims, proved: for every argument that can be read as data, the Go function photonmeshlaw07.LayoutRims returns true: the places of cells on the rim, and which paths between them must cross, are what the document's answers are, errors and all; nothing that came in is changed. No conditions beside the row's own.
-/
import Derived.Test.YtkkcnhhfdicppaaRk7
import Derived.Test.YtkkcnhhfdicppaaLr7
namespace Go.Proofs.Ytkkcnhhfdicppaa
open Go.ChangeShapes Go.WideShapes Go.ChangeAt Go.RowKit Go.Joins

set_option maxRecDepth 100000 in
theorem len_5 {α : Type} {l : List α} (h : l.length = 5) : ∃ a0 a1 a2 a3 a4, l = [a0, a1, a2, a3, a4] := by
  match l, h with
  | [a0, a1, a2, a3, a4], _ => exact ⟨_, _, _, _, _, rfl⟩
set_option maxRecDepth 100000 in
set_option maxHeartbeats 4000000 in
theorem layoutRims_lifted (os : Os) (started : os.Started) (H : Type) (enc : TypeId × Value → H) :
    ReturnsInHanded {} Try.checked os 3 .any (Rows.layoutRimsSpec.pre6 enc Try.checked.prog Try.f3 [] false) (Rows.layoutRimsSpec.post enc Try.checked.prog Try.f3 false true false false) := by
  refine law_lifted started Try.func3 (by kernel_rfl)
    (ChangeSpec.witness6 (enc := enc) (C := Try.checked) false ⟨#[], #[.agg #[.int .i64 0, .int .i64 0, .int .i64 0, .int .i64 0, .slice none 0 0], .agg #[.int .i64 0, .int .i64 0], .agg #[.int .i64 0, .int .i64 0], .agg #[.int .i64 0, .int .i64 0], .agg #[.int .i64 0, .int .i64 0]], []⟩ 8 (by kernel_rfl) (by kernel_rfl) (by kernel_rfl) (by kernel_rfl))
    rfl rfl (by rw [Try.params3]; decide +kernel) ?_ ?_
  · intro ds hd
    rw [Try.params3] at hd
    obtain ⟨d0, d1, d2, d3, d4, rfl⟩ := len_5 hd
    rfl
  · intro W_ base args ds ps hA hval
    rw [Try.params3] at hA hval
    obtain ⟨v0, r0, _, _, _, _, rfl, hv0, hA⟩ := ta_cons hA
    obtain ⟨v1, r1, _, _, _, _, rfl, hv1, hA⟩ := ta_cons hA
    obtain ⟨v2, r2, _, _, _, _, rfl, hv2, hA⟩ := ta_cons hA
    obtain ⟨v3, r3, _, _, _, _, rfl, hv3, hA⟩ := ta_cons hA
    obtain ⟨v4, r4, _, _, _, _, rfl, hv4, hA⟩ := ta_cons hA
    obtain rfl := ta_nil hA
    obtain ⟨W, H, M, B, ao, n, cp, X, Y, rfl, hn, hX⟩ := open_grid (hval 0 24 _ rfl rfl) hv0
    obtain ⟨ax, ay, rfl⟩ := open_xy (hval 1 26 _ rfl rfl) hv1
    obtain ⟨bx, by_, rfl⟩ := open_xy (hval 2 26 _ rfl rfl) hv2
    obtain ⟨cx, cy, rfl⟩ := open_xy (hval 3 26 _ rfl rfl) hv3
    obtain ⟨dx, dy, rfl⟩ := open_xy (hval 4 26 _ rfl rfl) hv4
    exact LayoutRims_any W H M B ax ay bx by_ cx cy dx dy n cp ao X Y W_ hn hX

theorem layoutRims_holds : Rows.LayoutRimsSaid :=
  OpenClaim.holds_of_wide 3 Try.f3 rfl rfl rfl rfl rfl rfl rfl ⟨rfl, rfl, rfl, rfl, rfl⟩ rfl rfl rfl rfl rfl (by kernel_rfl) Try.func3 (by kernel_rfl)
    (of_decide_eq_true (by kernel_rfl)) (by unfold Func.isWrapper; rw [if_neg (of_decide_eq_false (by kernel_rfl))]; exact ⟨rfl, rfl⟩)
    (fun os started H enc _ => layoutRims_lifted os started H enc)
#print axioms layoutRims_holds
end Go.Proofs.Ytkkcnhhfdicppaa
