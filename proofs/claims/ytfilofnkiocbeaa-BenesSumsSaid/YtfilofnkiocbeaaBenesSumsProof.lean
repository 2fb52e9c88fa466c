/-
  BenesSums, proved: for every permutation, all stuck switches and every small number that can be read as data, the Go function photonmeshlaw08.BenesSums returns true: a switch that works adds the ways of its being stuck in both ways; nothing that came in is changed. No conditions beside the row's own.
-/
import Derived.Test.YtfilofnkiocbeaaRk8
import Derived.Test.YtfilofnkiocbeaaLu8
namespace Go.Proofs.Ytfilofnkiocbeaa
open Go.ChangeShapes Go.WideShapes Go.ChangeAt Go.RowKit Go.Joins

set_option maxRecDepth 100000 in
theorem benesSums_lifted (os : Os) (started : os.Started) (H : Type) (enc : TypeId × Value → H) :
    ReturnsInHanded {} Try.checked os 15 .any (Rows.benesSumsSpec.pre6 enc Try.checked.prog Try.f15 [] false) (Rows.benesSumsSpec.post enc Try.checked.prog Try.f15 false true false false) := by
  refine law_lifted started Try.func15 (by kernel_rfl)
    (ChangeSpec.witness6 (enc := enc) (C := Try.checked) false ⟨#[], #[.slice none 0 0, .slice none 0 0, .int .u8 0], []⟩ 8 (by kernel_rfl) (by kernel_rfl) (by kernel_rfl) (by kernel_rfl))
    rfl rfl (by rw [Try.params15]; decide +kernel) ?_ ?_
  · intro ds hd
    rw [Try.params15] at hd
    obtain ⟨d0, d1, d2, rfl⟩ := len_three hd
    rfl
  · intro W base args ds ps hA hval
    rw [Try.params15] at hA hval
    obtain ⟨v0, r0, _, _, _, _, rfl, h0, hA⟩ := ta_cons hA
    obtain ⟨v1, r1, _, _, _, _, rfl, h1, hA⟩ := ta_cons hA
    obtain ⟨v2, r2, _, _, _, _, rfl, h2, hA⟩ := ta_cons hA
    obtain rfl := ta_nil hA
    obtain ⟨ao0, n0, cap0, f0, rfl, ⟨hp0, hq0⟩, hc0⟩ := open_is h0 (slice_wide (hval 0 28 _ rfl rfl))
    have hn0 := Nat.le_trans hp0 hq0
    obtain ⟨ao1, n1, cap1, f1, rfl, ⟨hp1, hq1⟩, hc1⟩ := open_is h1 (slice_wide (hval 1 28 _ rfl rfl))
    have hn1 := Nat.le_trans hp1 hq1
    obtain ⟨x2, rfl, hx2⟩ := open_u8 (hval 2 5 _ rfl rfl) h2
    exact BenesSums_any n0 cap0 ao0 f0 n1 cap1 ao1 f1 x2 W hn0 hp1 hq1 hc0 hc1 hx2

theorem benesSums_holds : Rows.BenesSumsSaid :=
  OpenClaim.holds_of_wide 15 Try.f15 rfl rfl rfl rfl rfl rfl rfl ⟨rfl, rfl, rfl, rfl, rfl⟩ rfl rfl rfl rfl rfl (by kernel_rfl) Try.func15 (by kernel_rfl)
    (of_decide_eq_true (by kernel_rfl)) (by unfold Func.isWrapper; rw [if_neg (of_decide_eq_false (by kernel_rfl))]; exact ⟨rfl, rfl⟩)
    (fun os started H enc _ => benesSums_lifted os started H enc)
#print axioms benesSums_holds
end Go.Proofs.Ytfilofnkiocbeaa
