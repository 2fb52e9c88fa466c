/-
  LayoutCheapest, proved: for every argument that can be read as data, the Go function photonmeshlaw07.LayoutCheapest returns true: a route is right and costs what it says, no path between its ends costs less, and the least cost is the same both ways; nothing that came in is changed. No conditions beside the row's own.
-/
import Derived.Test.YtkkcnhhfdicppaaRk7
import Derived.Test.YtkkcnhhfdicppaaRs7
import Derived.Test.YtkkcnhhfdicppaaLc9
namespace Go.Proofs.Ytkkcnhhfdicppaa
open Go.ChangeShapes Go.WideShapes Go.ChangeAt Go.RowKit Go.Joins

set_option maxRecDepth 100000 in
theorem len_2 {α : Type} {l : List α} (h : l.length = 2) : ∃ a0 a1, l = [a0, a1] := by
  match l, h with
  | [a0, a1], _ => exact ⟨_, _, rfl⟩
set_option maxRecDepth 100000 in
set_option maxHeartbeats 4000000 in
theorem layoutCheapest_lifted (os : Os) (started : os.Started) (H : Type) (enc : TypeId × Value → H) :
    ReturnsInHanded {} Try.checked os 8 .any (Rows.layoutCheapestSpec.pre6 enc Try.checked.prog Try.f8 [] false) (Rows.layoutCheapestSpec.post enc Try.checked.prog Try.f8 false true false false) := by
  refine law_lifted started Try.func8 (by kernel_rfl)
    (ChangeSpec.witness6 (enc := enc) (C := Try.checked) false ⟨#[], #[.agg #[.int .i64 0, .int .i64 0, .int .i64 0, .int .i64 0, .slice none 0 0], .slice none 0 0], []⟩ 8 (by kernel_rfl) (by kernel_rfl) (by kernel_rfl) (by kernel_rfl))
    rfl rfl (by rw [Try.params8]; decide +kernel) ?_ ?_
  · intro ds hd
    rw [Try.params8] at hd
    obtain ⟨d0, d1, rfl⟩ := len_2 hd
    rfl
  · intro W_ base args ds ps hA hval
    rw [Try.params8] at hA hval
    obtain ⟨v0, r0, _, _, _, _, rfl, hv0, hA⟩ := ta_cons hA
    obtain ⟨v1, r1, _, _, _, _, rfl, hv1, hA⟩ := ta_cons hA
    obtain rfl := ta_nil hA
    obtain ⟨W, H, M, B, ao, n, cp, X, Y, rfl, hn, hX⟩ := open_grid (hval 0 24 _ rfl rfl) hv0
    obtain ⟨ap, np, cpp, XP, YP, rfl, hnp, hp, hr, hcp⟩ := open_pathc hv1 (slice_wide_xyc (hval 1 22 _ rfl rfl))
    exact LayoutCheapest_any W H M B n cp np cpp ao ap X Y XP YP W_ hn hX hp hr hcp

theorem layoutCheapest_holds : Rows.LayoutCheapestSaid :=
  OpenClaim.holds_of_wide 8 Try.f8 rfl rfl rfl rfl rfl rfl rfl ⟨rfl, rfl, rfl, rfl, rfl⟩ rfl rfl rfl rfl rfl (by kernel_rfl) Try.func8 (by kernel_rfl)
    (of_decide_eq_true (by kernel_rfl)) (by unfold Func.isWrapper; rw [if_neg (of_decide_eq_false (by kernel_rfl))]; exact ⟨rfl, rfl⟩)
    (fun os started H enc _ => layoutCheapest_lifted os started H enc)
#print axioms layoutCheapest_holds
end Go.Proofs.Ytkkcnhhfdicppaa
