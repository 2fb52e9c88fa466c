/-
  SynthPermsOf, proved: for every number of guides and every list of items that can be read as data, the Go function photonmeshlaw04.SynthPermsOf returns true: PermOf is what the document's answer is, errors and all, and crossings that make a permutation are no fewer than its inversions, and as odd; nothing that came in is changed. No conditions beside the row's own.
-/
import Derived.Test.YtpjfpkhcadombaaSOi
import Derived.Test.YtpjfpkhcadombaaLp2
namespace Go.Proofs.Ytpjfpkhcadombaa
open Go.ChangeShapes Go.WideShapes Go.ChangeAt Go.RowKit Go.Joins

set_option maxRecDepth 100000 in
theorem synthPermsOf_lifted (os : Os) (started : os.Started) (H : Type) (enc : TypeId × Value → H) :
    ReturnsInHanded {} Try.checked os 5 .any (Rows.synthPermsOfSpec.pre6 enc Try.checked.prog Try.f5 [] false) (Rows.synthPermsOfSpec.post enc Try.checked.prog Try.f5 false true false false) := by
  refine law_lifted started Try.func5 (by kernel_rfl)
    (ChangeSpec.witness6 (enc := enc) (C := Try.checked) false ⟨#[], #[.int .i64 0, .slice none 0 0], []⟩ 8 (by kernel_rfl) (by kernel_rfl) (by kernel_rfl) (by kernel_rfl))
    rfl rfl (by rw [Try.params5]; decide +kernel) ?_ ?_
  · intro ds hd
    rw [Try.params5] at hd
    obtain ⟨d0, d1, rfl⟩ := len_two hd
    rfl
  · intro W base args ds ps hA hval
    rw [Try.params5] at hA hval
    obtain ⟨v0, r0, _, _, _, _, rfl, h0, hA⟩ := ta_cons hA
    obtain ⟨v1, r1, _, _, _, _, rfl, h1, hA⟩ := ta_cons hA
    obtain rfl := ta_nil hA
    obtain ⟨n0, rfl, _⟩ := open_i64 (hval 0 3 _ rfl rfl) h0
    obtain ⟨ao, len, lap, f, rfl, hlen, hc⟩ := open_items (hval 1 32 _ rfl rfl) h1
    exact SynthPermsOf_any n0 len lap ao f W hlen hc

theorem synthPermsOf_holds : Rows.SynthPermsOfSaid :=
  OpenClaim.holds_of_wide 5 Try.f5 rfl rfl rfl rfl rfl rfl rfl ⟨rfl, rfl, rfl, rfl, rfl⟩ rfl rfl rfl rfl rfl (by kernel_rfl) Try.func5 (by kernel_rfl)
    (of_decide_eq_true (by kernel_rfl)) (by unfold Func.isWrapper; rw [if_neg (of_decide_eq_false (by kernel_rfl))]; exact ⟨rfl, rfl⟩)
    (fun os started H enc _ => synthPermsOf_lifted os started H enc)
#print axioms synthPermsOf_holds
end Go.Proofs.Ytpjfpkhcadombaa
