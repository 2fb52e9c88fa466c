/-
  SynthPerms, proved: for every list of whole numbers that can be read as data, the Go function photonmeshlaw04.SynthPerms returns true: ValidPerm, Inversions, Invert and Cycles answer as the document's answers do, errors and all; nothing that came in is changed. No conditions beside the row's own.
-/
import Derived.Test.YtpjfpkhcadombaaSo
import Derived.Test.YtpjfpkhcadombaaLa
namespace Go.Proofs.Ytpjfpkhcadombaa
open Go.ChangeShapes Go.WideShapes Go.ChangeAt Go.RowKit Go.Joins

set_option maxRecDepth 100000 in
theorem synthPerms_lifted (os : Os) (started : os.Started) (H : Type) (enc : TypeId × Value → H) :
    ReturnsInHanded {} Try.checked os 3 .any (Rows.synthPermsSpec.pre6 enc Try.checked.prog Try.f3 [] false) (Rows.synthPermsSpec.post enc Try.checked.prog Try.f3 false true false false) := by
  refine law_lifted started Try.func3 (by kernel_rfl)
    (ChangeSpec.witness6 (enc := enc) (C := Try.checked) false ⟨#[], #[.slice none 0 0], []⟩ 8 (by kernel_rfl) (by kernel_rfl) (by kernel_rfl) (by kernel_rfl))
    rfl rfl (by rw [Try.params3]; decide +kernel) ?_ ?_
  · intro ds hd
    rw [Try.params3] at hd
    obtain ⟨d0, rfl⟩ := len_one hd
    rfl
  · intro W base args ds ps hA hval
    rw [Try.params3] at hA hval
    obtain ⟨v0, r0, _, _, _, _, rfl, h0, hA⟩ := ta_cons hA
    obtain rfl := ta_nil hA
    obtain ⟨ao, n, cap, f, rfl, hn, hc⟩ := open_is (hval 0 22 _ rfl rfl) h0
    exact SynthPerms_any n cap ao f W hn hc

theorem synthPerms_holds : Rows.SynthPermsSaid :=
  OpenClaim.holds_of_wide 3 Try.f3 rfl rfl rfl rfl rfl rfl rfl ⟨rfl, rfl, rfl, rfl, rfl⟩ rfl rfl rfl rfl rfl (by kernel_rfl) Try.func3 (by kernel_rfl)
    (of_decide_eq_true (by kernel_rfl)) (by unfold Func.isWrapper; rw [if_neg (of_decide_eq_false (by kernel_rfl))]; exact ⟨rfl, rfl⟩)
    (fun os started H enc _ => synthPerms_lifted os started H enc)
#print axioms synthPerms_holds
end Go.Proofs.Ytpjfpkhcadombaa
