/-
  BenesAround, proved: for every permutation and all stuck switches that can be read as data, the Go function photonmeshlaw08.BenesAround returns true: there are settings with stuck switches exactly if there are some ways, and these agree with the stuck ones; nothing that came in is changed. No conditions beside the row's own.
-/
import Derived.Test.YtfilofnkiocbeaaRk8
import Derived.Test.YtfilofnkiocbeaaLg8
namespace Go.Proofs.Ytfilofnkiocbeaa
open Go.ChangeShapes Go.WideShapes Go.ChangeAt Go.RowKit Go.Joins

set_option maxRecDepth 100000 in
theorem benesAround_lifted (os : Os) (started : os.Started) (H : Type) (enc : TypeId × Value → H) :
    ReturnsInHanded {} Try.checked os 7 .any (Rows.benesAroundSpec.pre6 enc Try.checked.prog Try.f7 [] false) (Rows.benesAroundSpec.post enc Try.checked.prog Try.f7 false true false false) := by
  refine law_lifted started Try.func7 (by kernel_rfl)
    (ChangeSpec.witness6 (enc := enc) (C := Try.checked) false ⟨#[], #[.slice none 0 0, .slice none 0 0], []⟩ 8 (by kernel_rfl) (by kernel_rfl) (by kernel_rfl) (by kernel_rfl))
    rfl rfl (by rw [Try.params7]; decide +kernel) ?_ ?_
  · intro ds hd
    rw [Try.params7] at hd
    obtain ⟨d0, d1, rfl⟩ := len_two hd
    rfl
  · intro W base args ds ps hA hval
    rw [Try.params7] at hA hval
    obtain ⟨v0, r0, _, _, _, _, rfl, h0, hA⟩ := ta_cons hA
    obtain ⟨v1, r1, _, _, _, _, rfl, h1, hA⟩ := ta_cons hA
    obtain rfl := ta_nil hA
    obtain ⟨ao0, n0, cap0, f0, rfl, ⟨hp0, hq0⟩, hc0⟩ := open_is h0 (slice_wide (hval 0 28 _ rfl rfl))
    have hn0 := Nat.le_trans hp0 hq0
    obtain ⟨ao1, n1, cap1, f1, rfl, ⟨hp1, hq1⟩, hc1⟩ := open_is h1 (slice_wide (hval 1 28 _ rfl rfl))
    have hn1 := Nat.le_trans hp1 hq1
    exact BenesAround_any n0 cap0 ao0 f0 n1 cap1 ao1 f1 W hn0 hp1 hq1 hc0 hc1

theorem benesAround_holds : Rows.BenesAroundSaid :=
  OpenClaim.holds_of_wide 7 Try.f7 rfl rfl rfl rfl rfl rfl rfl ⟨rfl, rfl, rfl, rfl, rfl⟩ rfl rfl rfl rfl rfl (by kernel_rfl) Try.func7 (by kernel_rfl)
    (of_decide_eq_true (by kernel_rfl)) (by unfold Func.isWrapper; rw [if_neg (of_decide_eq_false (by kernel_rfl))]; exact ⟨rfl, rfl⟩)
    (fun os started H enc _ => benesAround_lifted os started H enc)
#print axioms benesAround_holds
end Go.Proofs.Ytfilofnkiocbeaa
