/-
  HeatCheapest, proved: for every bank, every list of phases and every slack and top that can be read as data, the Go function photonmeshlaw06.HeatCheapest returns true: the cheapest powers within the slack, or the error, are the document's; nothing that came in is changed. No conditions beside the row's own.
-/
import Derived.Test.YtldepffpafccpaaRh
import Derived.Test.YtldepffpafccpaaLc6
import Derived.Test.YtldepffpafccpaaRh2
namespace Go.Proofs.Ytldepffpafccpaa
open Go.ChangeShapes Go.WideShapes Go.ChangeAt Go.RowKit Go.Joins

set_option maxRecDepth 100000 in
theorem heatCheapest_lifted (os : Os) (started : os.Started) (H : Type) (enc : TypeId × Value → H) :
    ReturnsInHanded {} Try.checked os 13 .any (Rows.heatCheapestSpec.pre6 enc Try.checked.prog Try.f13 [] false) (Rows.heatCheapestSpec.post enc Try.checked.prog Try.f13 false true false false) := by
  refine law_lifted started Try.func13 (by kernel_rfl)
    (ChangeSpec.witness6 (enc := enc) (C := Try.checked) false ⟨#[], #[.agg #[.slice none 0 0], .slice none 0 0, .agg #[.int .i64 0, .int .i64 0]], []⟩ 8 (by kernel_rfl) (by kernel_rfl) (by kernel_rfl) (by kernel_rfl))
    rfl rfl (by rw [Try.params13]; decide +kernel) ?_ ?_
  · intro ds hd
    rw [Try.params13] at hd
    obtain ⟨d0, d1, d2, rfl⟩ := len_three hd
    rfl
  · intro W base args ds ps hA hval
    rw [Try.params13] at hA hval
    obtain ⟨v0, r0, _, _, _, _, rfl, h0, hA⟩ := ta_cons hA
    obtain ⟨v1, r1, _, _, _, _, rfl, h1, hA⟩ := ta_cons hA
    obtain ⟨v2, r2, _, _, _, _, rfl, h2, hA⟩ := ta_cons hA
    obtain rfl := ta_nil hA
    obtain ⟨ao0, N0, cap0, A0, l0, c0, F0, rfl, hn0, hc0⟩ := open_bank (hval 0 40 _ rfl rfl) h0
    obtain ⟨ao1, n1, cap1, f1, rfl, hn1, hc1⟩ := open_is h1 (slice_wide (hval 1 24 _ rfl rfl))
    obtain ⟨x2, y2, rfl⟩ := open_pair (hval 2 33 _ rfl rfl) h2
    exact HeatCheapest_any N0 cap0 ao0 A0 l0 c0 F0 n1 cap1 ao1 f1 x2 y2 W hn0 hc0 hn1 hc1

theorem heatCheapest_holds : Rows.HeatCheapestSaid :=
  OpenClaim.holds_of_wide 13 Try.f13 rfl rfl rfl rfl rfl rfl rfl ⟨rfl, rfl, rfl, rfl, rfl⟩ rfl rfl rfl rfl rfl (by kernel_rfl) Try.func13 (by kernel_rfl)
    (of_decide_eq_true (by kernel_rfl)) (by unfold Func.isWrapper; rw [if_neg (of_decide_eq_false (by kernel_rfl))]; exact ⟨rfl, rfl⟩)
    (fun os started H enc _ => heatCheapest_lifted os started H enc)
#print axioms heatCheapest_holds
end Go.Proofs.Ytldepffpafccpaa
