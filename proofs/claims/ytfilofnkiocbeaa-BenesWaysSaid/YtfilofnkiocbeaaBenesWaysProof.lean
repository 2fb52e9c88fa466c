/-
  BenesWays, proved: for every permutation and all stuck switches that can be read as data, the Go function photonmeshlaw08.BenesWays returns true: how many settings make a permutation with stuck switches, or the error, is the document's; nothing that came in is changed. No conditions beside the row's own.
-/
import Derived.Test.YtfilofnkiocbeaaRk8
import Derived.Test.YtfilofnkiocbeaaLw8
namespace Go.Proofs.Ytfilofnkiocbeaa
open Go.ChangeShapes Go.WideShapes Go.ChangeAt Go.RowKit Go.Joins

set_option maxRecDepth 100000 in
theorem benesWays_lifted (os : Os) (started : os.Started) (H : Type) (enc : TypeId × Value → H) :
    ReturnsInHanded {} Try.checked os 8 .any (Rows.benesWaysSpec.pre6 enc Try.checked.prog Try.f8 [] false) (Rows.benesWaysSpec.post enc Try.checked.prog Try.f8 false true false false) := by
  refine law_lifted started Try.func8 (by kernel_rfl)
    (ChangeSpec.witness6 (enc := enc) (C := Try.checked) false ⟨#[], #[.slice none 0 0, .slice none 0 0], []⟩ 8 (by kernel_rfl) (by kernel_rfl) (by kernel_rfl) (by kernel_rfl))
    rfl rfl (by rw [Try.params8]; decide +kernel) ?_ ?_
  · intro ds hd
    rw [Try.params8] at hd
    obtain ⟨d0, d1, rfl⟩ := len_two hd
    rfl
  · intro W base args ds ps hA hval
    rw [Try.params8] at hA hval
    obtain ⟨v0, r0, _, _, _, _, rfl, h0, hA⟩ := ta_cons hA
    obtain ⟨v1, r1, _, _, _, _, rfl, h1, hA⟩ := ta_cons hA
    obtain rfl := ta_nil hA
    obtain ⟨ao0, n0, cap0, f0, rfl, ⟨hp0, hq0⟩, hc0⟩ := open_is h0 (slice_wide (hval 0 28 _ rfl rfl))
    have hn0 := Nat.le_trans hp0 hq0
    obtain ⟨ao1, n1, cap1, f1, rfl, ⟨hp1, hq1⟩, hc1⟩ := open_is h1 (slice_wide (hval 1 28 _ rfl rfl))
    have hn1 := Nat.le_trans hp1 hq1
    exact BenesWays_any n0 cap0 ao0 f0 n1 cap1 ao1 f1 W hn0 hp1 hq1 hc0 hc1

theorem benesWays_holds : Rows.BenesWaysSaid :=
  OpenClaim.holds_of_wide 8 Try.f8 rfl rfl rfl rfl rfl rfl rfl ⟨rfl, rfl, rfl, rfl, rfl⟩ rfl rfl rfl rfl rfl (by kernel_rfl) Try.func8 (by kernel_rfl)
    (of_decide_eq_true (by kernel_rfl)) (by unfold Func.isWrapper; rw [if_neg (of_decide_eq_false (by kernel_rfl))]; exact ⟨rfl, rfl⟩)
    (fun os started H enc _ => benesWays_lifted os started H enc)
#print axioms benesWays_holds
end Go.Proofs.Ytfilofnkiocbeaa
