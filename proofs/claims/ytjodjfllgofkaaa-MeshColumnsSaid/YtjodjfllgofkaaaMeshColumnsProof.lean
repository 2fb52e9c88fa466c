import Derived.Test.YtjodjfllgofkaaaOi
import Derived.Test.YtjodjfllgofkaaaLm
/-
  MeshColumns, proved: for every number of guides and every list of items that can be read as data, the Go function photonmeshlaw03.MeshColumns returns true: the columns of flat items and how many there are of each kind are what the document's answers are, errors and all; nothing that came in is changed. No conditions beside the row's own.
-/
namespace Go.Proofs.Ytjodjfllgofkaaa
open Go.ChangeShapes Go.WideShapes Go.ChangeAt Go.RowKit Go.Joins

set_option maxRecDepth 100000 in
theorem meshColumns_lifted (os : Os) (started : os.Started) (H : Type) (enc : TypeId × Value → H) :
    ReturnsInHanded {} Try.checked os 4 .any (Rows.meshColumnsSpec.pre6 enc Try.checked.prog Try.f4 [] false) (Rows.meshColumnsSpec.post enc Try.checked.prog Try.f4 false true false false) := by
  refine law_lifted started Try.func4 (by kernel_rfl)
    (ChangeSpec.witness6 (enc := enc) (C := Try.checked) false ⟨#[], #[.int .i64 0, .slice none 0 0], []⟩ 8 (by kernel_rfl) (by kernel_rfl) (by kernel_rfl) (by kernel_rfl))
    rfl rfl (by rw [Try.params4]; decide +kernel) ?_ ?_
  · intro ds hd
    rw [Try.params4] at hd
    obtain ⟨d0, d1, rfl⟩ := len_two hd
    rfl
  · intro W base args ds ps hA hval
    rw [Try.params4] at hA hval
    obtain ⟨v0, r0, _, _, _, _, rfl, h0, hA⟩ := ta_cons hA
    obtain ⟨v1, r1, _, _, _, _, rfl, h1, hA⟩ := ta_cons hA
    obtain rfl := ta_nil hA
    obtain ⟨n0, rfl, _⟩ := open_i64 (hval 0 3 _ rfl rfl) h0
    obtain ⟨ao, len, lap, f, rfl, hlen, hlc, hc⟩ := open_items_cap (hval 1 22 _ rfl rfl) h1
    exact MeshColumns_any n0 len lap ao f W hlen hlc hc

theorem meshColumns_holds : Rows.MeshColumnsSaid :=
  OpenClaim.holds_of_wide 4 Try.f4 rfl rfl rfl rfl rfl rfl rfl ⟨rfl, rfl, rfl, rfl, rfl⟩ rfl rfl rfl rfl rfl (by kernel_rfl) Try.func4 (by kernel_rfl)
    (of_decide_eq_true (by kernel_rfl)) (by unfold Func.isWrapper; rw [if_neg (of_decide_eq_false (by kernel_rfl))]; exact ⟨rfl, rfl⟩)
    (fun os started H enc _ => meshColumns_lifted os started H enc)
#print axioms meshColumns_holds
end Go.Proofs.Ytjodjfllgofkaaa
