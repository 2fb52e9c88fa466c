/-
  BenesTraces, proved: for every number of ports, all settings and every input that can be read as data, the Go function photonmeshlaw08.BenesTraces returns true: the switches that light meets, or the error, are the document's; nothing that came in is changed. No conditions beside the row's own.
-/
import Derived.Test.YtggggcinofhbjaaRk8
import Derived.Test.YtggggcinofhbjaaLr8
namespace Go.Proofs.Ytggggcinofhbjaa
open Go.ChangeShapes Go.WideShapes Go.ChangeAt Go.RowKit Go.Joins

set_option maxRecDepth 100000 in
theorem benesTraces_lifted (os : Os) (started : os.Started) (H : Type) (enc : TypeId × Value → H) :
    ReturnsInHanded {} Try.checked os 11 .any (Rows.benesTracesSpec.pre6 enc Try.checked.prog Try.f11 [] false) (Rows.benesTracesSpec.post enc Try.checked.prog Try.f11 false true false false) := by
  refine law_lifted started Try.func11 (by kernel_rfl)
    (ChangeSpec.witness6 (enc := enc) (C := Try.checked) false ⟨#[], #[.int .i64 0, .slice none 0 0, .int .i64 0], []⟩ 8 (by kernel_rfl) (by kernel_rfl) (by kernel_rfl) (by kernel_rfl))
    rfl rfl (by rw [Try.params11]; decide +kernel) ?_ ?_
  · intro ds hd
    rw [Try.params11] at hd
    obtain ⟨d0, d1, d2, rfl⟩ := len_three hd
    rfl
  · intro W base args ds ps hA hval
    rw [Try.params11] at hA hval
    obtain ⟨v0, r0, _, _, _, _, rfl, h0, hA⟩ := ta_cons hA
    obtain ⟨v1, r1, _, _, _, _, rfl, h1, hA⟩ := ta_cons hA
    obtain ⟨v2, r2, _, _, _, _, rfl, h2, hA⟩ := ta_cons hA
    obtain rfl := ta_nil hA
    obtain ⟨x0, rfl, hx0⟩ := open_i64 (hval 0 3 _ rfl rfl) h0
    obtain ⟨ao1, n1, cap1, f1, rfl, ⟨hp1, hq1⟩, hc1⟩ := open_bs h1 (bslice_wide (hval 1 27 _ rfl rfl))
    have hn1 := Nat.le_trans hp1 hq1
    obtain ⟨x2, rfl, hx2⟩ := open_i64 (hval 2 3 _ rfl rfl) h2
    exact BenesTraces_any x0 n1 cap1 ao1 f1 x2 W hn1 hc1

theorem benesTraces_holds : Rows.BenesTracesSaid :=
  OpenClaim.holds_of_wide 11 Try.f11 rfl rfl rfl rfl rfl rfl rfl ⟨rfl, rfl, rfl, rfl, rfl⟩ rfl rfl rfl rfl rfl (by kernel_rfl) Try.func11 (by kernel_rfl)
    (of_decide_eq_true (by kernel_rfl)) (by unfold Func.isWrapper; rw [if_neg (of_decide_eq_false (by kernel_rfl))]; exact ⟨rfl, rfl⟩)
    (fun os started H enc _ => benesTraces_lifted os started H enc)
#print axioms benesTraces_holds
end Go.Proofs.Ytggggcinofhbjaa
