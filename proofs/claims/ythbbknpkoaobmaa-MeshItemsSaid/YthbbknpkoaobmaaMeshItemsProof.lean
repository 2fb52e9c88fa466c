import Derived.Test.YthbbknpkoaobmaaOi
import Derived.Test.YthbbknpkoaobmaaMl
/-
  MeshItems, proved: for every number of guides, every list of items and every list of numbers that can be read as data, the Go function photonmeshlaw03.MeshItems returns true: the program's matrix of flat items, which flat items are valid, and what becomes of light, are those of the document's answers, and nothing that came in is changed. No conditions beside the row's own.
-/
namespace Go.Proofs.Ythbbknpkoaobmaa
open Go.ChangeShapes Go.WideShapes Go.ChangeAt Go.RowKit Go.Joins Amp

set_option maxRecDepth 100000 in
theorem meshItems_lifted (os : Os) (started : os.Started) (H : Type) (enc : TypeId × Value → H) :
    ReturnsInHanded {} Try.checked os 3 .any (Rows.meshItemsSpec.pre6 enc Try.checked.prog Try.f3 [] false) (Rows.meshItemsSpec.post enc Try.checked.prog Try.f3 false true false false) := by
  refine law_lifted started Try.func3 (by kernel_rfl)
    (ChangeSpec.witness6 (enc := enc) (C := Try.checked) false ⟨#[], #[.int .i64 0, .slice none 0 0, .slice none 0 0], []⟩ 8 (by kernel_rfl) (by kernel_rfl) (by kernel_rfl) (by kernel_rfl))
    rfl rfl (by rw [Try.params3]; decide +kernel) ?_ ?_
  · intro ds hd
    rw [Try.params3] at hd
    obtain ⟨d0, d1, d2, rfl⟩ := len_three hd
    rfl
  · intro W base args ds ps hA hval
    rw [Try.params3] at hA hval
    obtain ⟨v0, r0, _, _, _, _, rfl, h0, hA⟩ := ta_cons hA
    obtain ⟨v1, r1, _, _, _, _, rfl, h1, hA⟩ := ta_cons hA
    obtain ⟨v2, r2, _, _, _, _, rfl, h2, hA⟩ := ta_cons hA
    obtain rfl := ta_nil hA
    obtain ⟨n0, rfl, _⟩ := open_i64 (hval 0 3 _ rfl rfl) h0
    obtain ⟨ao, len, lap, f, rfl, hlen, hc⟩ := open_items (hval 1 22 _ rfl rfl) h1
    rcases open_nums (hval 2 23 _ rfl rfl) h2 with ⟨vo, cap, rfl⟩ | ⟨b, o, m, cap, y, rfl, hm, hy⟩
    · exact MeshItems_any n0 len lap 0 cap ao vo f (fun _ => N0) W hlen (by omega) hc (fun h => absurd h (by omega))
    · exact MeshItems_any n0 len lap m cap ao (some ⟨b, o, none⟩) f y W hlen hm hc (fun _ => ⟨b, o, rfl, hy⟩)

theorem meshItems_holds : Rows.MeshItemsSaid :=
  OpenClaim.holds_of_wide 3 Try.f3 rfl rfl rfl rfl rfl rfl rfl ⟨rfl, rfl, rfl, rfl, rfl⟩ rfl rfl rfl rfl rfl (by kernel_rfl) Try.func3 (by kernel_rfl)
    (of_decide_eq_true (by kernel_rfl)) (by unfold Func.isWrapper; rw [if_neg (of_decide_eq_false (by kernel_rfl))]; exact ⟨rfl, rfl⟩)
    (fun os started H enc _ => meshItems_lifted os started H enc)
#print axioms meshItems_holds
end Go.Proofs.Ythbbknpkoaobmaa
