/-
  BenesLost, proved: for every number of ports and all stuck switches that can be read as data, the Go function photonmeshlaw08.BenesLost returns true: how many permutations no settings make with stuck switches, or the error, is the document's; nothing that came in is changed. No conditions beside the row's own.
-/
import Derived.Test.YtfilofnkiocbeaaRk8
import Derived.Test.YtfilofnkiocbeaaLk8
namespace Go.Proofs.Ytfilofnkiocbeaa
open Go.ChangeShapes Go.WideShapes Go.ChangeAt Go.RowKit Go.Joins

set_option maxRecDepth 100000 in
theorem benesLost_lifted (os : Os) (started : os.Started) (H : Type) (enc : TypeId × Value → H) :
    ReturnsInHanded {} Try.checked os 9 .any (Rows.benesLostSpec.pre6 enc Try.checked.prog Try.f9 [] false) (Rows.benesLostSpec.post enc Try.checked.prog Try.f9 false true false false) := by
  refine law_lifted started Try.func9 (by kernel_rfl)
    (ChangeSpec.witness6 (enc := enc) (C := Try.checked) false ⟨#[], #[.int .i64 0, .slice none 0 0], []⟩ 8 (by kernel_rfl) (by kernel_rfl) (by kernel_rfl) (by kernel_rfl))
    rfl rfl (by rw [Try.params9]; decide +kernel) ?_ ?_
  · intro ds hd
    rw [Try.params9] at hd
    obtain ⟨d0, d1, rfl⟩ := len_two hd
    rfl
  · intro W base args ds ps hA hval
    rw [Try.params9] at hA hval
    obtain ⟨v0, r0, _, _, _, _, rfl, h0, hA⟩ := ta_cons hA
    obtain ⟨v1, r1, _, _, _, _, rfl, h1, hA⟩ := ta_cons hA
    obtain rfl := ta_nil hA
    obtain ⟨x0, rfl, hx0⟩ := open_i64 (hval 0 3 _ rfl rfl) h0
    obtain ⟨ao1, n1, cap1, f1, rfl, ⟨hp1, hq1⟩, hc1⟩ := open_is h1 (slice_wide (hval 1 28 _ rfl rfl))
    have hn1 := Nat.le_trans hp1 hq1
    exact BenesLost_any x0 n1 cap1 ao1 f1 W hp1 hq1 hc1

theorem benesLost_holds : Rows.BenesLostSaid :=
  OpenClaim.holds_of_wide 9 Try.f9 rfl rfl rfl rfl rfl rfl rfl ⟨rfl, rfl, rfl, rfl, rfl⟩ rfl rfl rfl rfl rfl (by kernel_rfl) Try.func9 (by kernel_rfl)
    (of_decide_eq_true (by kernel_rfl)) (by unfold Func.isWrapper; rw [if_neg (of_decide_eq_false (by kernel_rfl))]; exact ⟨rfl, rfl⟩)
    (fun os started H enc _ => benesLost_lifted os started H enc)
#print axioms benesLost_holds
end Go.Proofs.Ytfilofnkiocbeaa
