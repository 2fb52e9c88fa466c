/-
  BenesSets, proved: for every list that can be read as data, the Go function photonmeshlaw08.BenesSets returns true: there are settings for every permutation of a number of ports; nothing that came in is changed. No conditions beside the row's own.
-/
import Derived.Test.YtfilofnkiocbeaaRk8
import Derived.Test.YtfilofnkiocbeaaLg8
namespace Go.Proofs.Ytfilofnkiocbeaa
open Go.ChangeShapes Go.WideShapes Go.ChangeAt Go.RowKit Go.Joins

set_option maxRecDepth 100000 in
theorem benesSets_lifted (os : Os) (started : os.Started) (H : Type) (enc : TypeId × Value → H) :
    ReturnsInHanded {} Try.checked os 6 .any (Rows.benesSetsSpec.pre6 enc Try.checked.prog Try.f6 [] false) (Rows.benesSetsSpec.post enc Try.checked.prog Try.f6 false true false false) := by
  refine law_lifted started Try.func6 (by kernel_rfl)
    (ChangeSpec.witness6 (enc := enc) (C := Try.checked) false ⟨#[], #[.slice none 0 0], []⟩ 8 (by kernel_rfl) (by kernel_rfl) (by kernel_rfl) (by kernel_rfl))
    rfl rfl (by rw [Try.params6]; decide +kernel) ?_ ?_
  · intro ds hd
    rw [Try.params6] at hd
    obtain ⟨d0, rfl⟩ := len_one hd
    rfl
  · intro W base args ds ps hA hval
    rw [Try.params6] at hA hval
    obtain ⟨v0, r0, _, _, _, _, rfl, h0, hA⟩ := ta_cons hA
    obtain rfl := ta_nil hA
    obtain ⟨ao0, n0, cap0, f0, rfl, ⟨hp0, hq0⟩, hc0⟩ := open_is h0 (slice_wide (hval 0 28 _ rfl rfl))
    have hn0 := Nat.le_trans hp0 hq0
    exact BenesSets_any n0 cap0 ao0 f0 W hn0 hc0

theorem benesSets_holds : Rows.BenesSetsSaid :=
  OpenClaim.holds_of_wide 6 Try.f6 rfl rfl rfl rfl rfl rfl rfl ⟨rfl, rfl, rfl, rfl, rfl⟩ rfl rfl rfl rfl rfl (by kernel_rfl) Try.func6 (by kernel_rfl)
    (of_decide_eq_true (by kernel_rfl)) (by unfold Func.isWrapper; rw [if_neg (of_decide_eq_false (by kernel_rfl))]; exact ⟨rfl, rfl⟩)
    (fun os started H enc _ => benesSets_lifted os started H enc)
#print axioms benesSets_holds
end Go.Proofs.Ytfilofnkiocbeaa
