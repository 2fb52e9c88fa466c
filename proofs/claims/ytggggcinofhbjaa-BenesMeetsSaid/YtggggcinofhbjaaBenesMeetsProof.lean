/-
  BenesMeets, proved: for every number of ports and all settings that can be read as data, the Go function photonmeshlaw08.BenesMeets returns true: light of every input meets as many switches as the network is deep, each switch the light of just two inputs; nothing that came in is changed. No conditions beside the row's own.
-/
import Derived.Test.YtggggcinofhbjaaRk8
import Derived.Test.YtggggcinofhbjaaLe8
namespace Go.Proofs.Ytggggcinofhbjaa
open Go.ChangeShapes Go.WideShapes Go.ChangeAt Go.RowKit Go.Joins

set_option maxRecDepth 100000 in
theorem benesMeets_lifted (os : Os) (started : os.Started) (H : Type) (enc : TypeId × Value → H) :
    ReturnsInHanded {} Try.checked os 14 .any (Rows.benesMeetsSpec.pre6 enc Try.checked.prog Try.f14 [] false) (Rows.benesMeetsSpec.post enc Try.checked.prog Try.f14 false true false false) := by
  refine law_lifted started Try.func14 (by kernel_rfl)
    (ChangeSpec.witness6 (enc := enc) (C := Try.checked) false ⟨#[], #[.int .i64 0, .slice none 0 0], []⟩ 8 (by kernel_rfl) (by kernel_rfl) (by kernel_rfl) (by kernel_rfl))
    rfl rfl (by rw [Try.params14]; decide +kernel) ?_ ?_
  · intro ds hd
    rw [Try.params14] at hd
    obtain ⟨d0, d1, rfl⟩ := len_two hd
    rfl
  · intro W base args ds ps hA hval
    rw [Try.params14] at hA hval
    obtain ⟨v0, r0, _, _, _, _, rfl, h0, hA⟩ := ta_cons hA
    obtain ⟨v1, r1, _, _, _, _, rfl, h1, hA⟩ := ta_cons hA
    obtain rfl := ta_nil hA
    obtain ⟨x0, rfl, hx0⟩ := open_i64 (hval 0 3 _ rfl rfl) h0
    obtain ⟨ao1, n1, cap1, f1, rfl, ⟨hp1, hq1⟩, hc1⟩ := open_bs h1 (bslice_wide (hval 1 27 _ rfl rfl))
    have hn1 := Nat.le_trans hp1 hq1
    exact BenesMeets_any x0 n1 cap1 ao1 f1 W hn1 hc1

theorem benesMeets_holds : Rows.BenesMeetsSaid :=
  OpenClaim.holds_of_wide 14 Try.f14 rfl rfl rfl rfl rfl rfl rfl ⟨rfl, rfl, rfl, rfl, rfl⟩ rfl rfl rfl rfl rfl (by kernel_rfl) Try.func14 (by kernel_rfl)
    (of_decide_eq_true (by kernel_rfl)) (by unfold Func.isWrapper; rw [if_neg (of_decide_eq_false (by kernel_rfl))]; exact ⟨rfl, rfl⟩)
    (fun os started H enc _ => benesMeets_lifted os started H enc)
#print axioms benesMeets_holds
end Go.Proofs.Ytggggcinofhbjaa
