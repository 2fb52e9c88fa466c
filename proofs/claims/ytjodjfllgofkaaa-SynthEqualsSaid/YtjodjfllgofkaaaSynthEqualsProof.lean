import Derived.Test.YtjodjfllgofkaaaOi
import Derived.Test.YtjodjfllgofkaaaLe
/-
  SynthEquals, proved: for every number of guides and every two lists of items that can be read as data, the Go function photonmeshlaw04.SynthEquals returns true: which lists of items make the same matrix is what the document's answer is, errors and all; nothing that came in is changed. No conditions beside the row's own.
-/
namespace Go.Proofs.Ytjodjfllgofkaaa
open Go.ChangeShapes Go.WideShapes Go.ChangeAt Go.RowKit Go.Joins

set_option maxRecDepth 100000 in
theorem synthEquals_lifted (os : Os) (started : os.Started) (H : Type) (enc : TypeId × Value → H) :
    ReturnsInHanded {} Try.checked os 6 .any (Rows.synthEqualsSpec.pre6 enc Try.checked.prog Try.f6 [] false) (Rows.synthEqualsSpec.post enc Try.checked.prog Try.f6 false true false false) := by
  refine law_lifted started Try.func6 (by kernel_rfl)
    (ChangeSpec.witness6 (enc := enc) (C := Try.checked) false ⟨#[], #[.int .i64 0, .slice none 0 0, .slice none 0 0], []⟩ 8 (by kernel_rfl) (by kernel_rfl) (by kernel_rfl) (by kernel_rfl))
    rfl rfl (by rw [Try.params6]; decide +kernel) ?_ ?_
  · intro ds hd
    rw [Try.params6] at hd
    obtain ⟨d0, d1, d2, rfl⟩ := len_three hd
    rfl
  · intro W base args ds ps hA hval
    rw [Try.params6] at hA hval
    obtain ⟨v0, r0, _, _, _, _, rfl, h0, hA⟩ := ta_cons hA
    obtain ⟨v1, r1, _, _, _, _, rfl, h1, hA⟩ := ta_cons hA
    obtain ⟨v2, r2, _, _, _, _, rfl, h2, hA⟩ := ta_cons hA
    obtain rfl := ta_nil hA
    obtain ⟨n0, rfl, _⟩ := open_i64 (hval 0 3 _ rfl rfl) h0
    obtain ⟨ao, len, lap, f, rfl, hlen, hc⟩ := open_items (hval 1 22 _ rfl rfl) h1
    obtain ⟨bo, len', lap', f', rfl, hlen', hd⟩ := open_items (hval 2 22 _ rfl rfl) h2
    exact SynthEquals_any n0 len lap len' lap' ao bo f f' W hlen hlen' hc hd

theorem synthEquals_holds : Rows.SynthEqualsSaid :=
  OpenClaim.holds_of_wide 6 Try.f6 rfl rfl rfl rfl rfl rfl rfl ⟨rfl, rfl, rfl, rfl, rfl⟩ rfl rfl rfl rfl rfl (by kernel_rfl) Try.func6 (by kernel_rfl)
    (of_decide_eq_true (by kernel_rfl)) (by unfold Func.isWrapper; rw [if_neg (of_decide_eq_false (by kernel_rfl))]; exact ⟨rfl, rfl⟩)
    (fun os started H enc _ => synthEquals_lifted os started H enc)
#print axioms synthEquals_holds
end Go.Proofs.Ytjodjfllgofkaaa
