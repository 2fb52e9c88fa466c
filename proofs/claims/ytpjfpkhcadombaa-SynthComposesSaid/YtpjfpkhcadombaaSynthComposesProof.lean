/-
  SynthComposes, proved: for every two lists of whole numbers that can be read as data, the Go function photonmeshlaw04.SynthComposes returns true: Compose is what the document's answer is, errors and all, and a permutation behind its inverse, which has as many inversions, changes nothing; nothing that came in is changed. No conditions beside the row's own.
-/
import Derived.Test.YtpjfpkhcadombaaSo
import Derived.Test.YtpjfpkhcadombaaLc
namespace Go.Proofs.Ytpjfpkhcadombaa
open Go.ChangeShapes Go.WideShapes Go.ChangeAt Go.RowKit Go.Joins

set_option maxRecDepth 100000 in
theorem synthComposes_lifted (os : Os) (started : os.Started) (H : Type) (enc : TypeId × Value → H) :
    ReturnsInHanded {} Try.checked os 4 .any (Rows.synthComposesSpec.pre6 enc Try.checked.prog Try.f4 [] false) (Rows.synthComposesSpec.post enc Try.checked.prog Try.f4 false true false false) := by
  refine law_lifted started Try.func4 (by kernel_rfl)
    (ChangeSpec.witness6 (enc := enc) (C := Try.checked) false ⟨#[], #[.slice none 0 0, .slice none 0 0], []⟩ 8 (by kernel_rfl) (by kernel_rfl) (by kernel_rfl) (by kernel_rfl))
    rfl rfl (by rw [Try.params4]; decide +kernel) ?_ ?_
  · intro ds hd
    rw [Try.params4] at hd
    obtain ⟨d0, d1, rfl⟩ := len_two hd
    rfl
  · intro W base args ds ps hA hval
    rw [Try.params4] at hA hval
    obtain ⟨v0, r0, _, _, _, _, rfl, h0, hA⟩ := ta_cons hA
    obtain ⟨v1, r1, _, _, _, _, rfl, h1, hA⟩ := ta_cons hA
    obtain rfl := ta_nil hA
    obtain ⟨ao, n, cap, f, rfl, hn, hc⟩ := open_is (hval 0 22 _ rfl rfl) h0
    obtain ⟨bo, m, dap, g, rfl, hm, hd⟩ := open_is (hval 1 22 _ rfl rfl) h1
    exact SynthComposes_any n m cap dap ao bo f g W hn hm hc hd

theorem synthComposes_holds : Rows.SynthComposesSaid :=
  OpenClaim.holds_of_wide 4 Try.f4 rfl rfl rfl rfl rfl rfl rfl ⟨rfl, rfl, rfl, rfl, rfl⟩ rfl rfl rfl rfl rfl (by kernel_rfl) Try.func4 (by kernel_rfl)
    (of_decide_eq_true (by kernel_rfl)) (by unfold Func.isWrapper; rw [if_neg (of_decide_eq_false (by kernel_rfl))]; exact ⟨rfl, rfl⟩)
    (fun os started H enc _ => synthComposes_lifted os started H enc)
#print axioms synthComposes_holds
end Go.Proofs.Ytpjfpkhcadombaa
