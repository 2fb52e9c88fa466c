/-
  AmpForms, proved: for every number z, four whole numbers a and whole number k that can be read as data, the Go function photonmeshlaw01.AmpForms returns true: Valid answers as the document's own Valid does, Make as the document's own Make does, and nothing that came in is changed. No conditions beside the row's own.
-/
import Derived.Test.YtmildncbkndcoaaRow
import Derived.Test.YtmildncbkndcoaaF
namespace Go.Proofs.Ytmildncbkndcoaa
open Go.ChangeShapes Go.WideShapes Go.ChangeAt Go.RowKit Go.Joins

set_option maxRecDepth 100000 in
theorem ampForms_lifted (os : Os) (started : os.Started) (H : Type) (enc : TypeId × Value → H) :
    ReturnsInHanded {} Try.checked os 3 .any (Rows.ampFormsSpec.pre6 enc Try.checked.prog Try.f3 [] false) (Rows.ampFormsSpec.post enc Try.checked.prog Try.f3 false true false false) := by
  refine law_lifted started Try.func3 (by kernel_rfl)
    (ChangeSpec.witness6 (enc := enc) (C := Try.checked) false ⟨#[], #[.agg #[.int .i64 0, .int .i64 0, .int .i64 0, .int .i64 0, .int .i64 0], .agg #[.int .i64 0, .int .i64 0, .int .i64 0, .int .i64 0], .int .i64 0], []⟩ 8 (by kernel_rfl) (by kernel_rfl) (by kernel_rfl) (by kernel_rfl))
    rfl rfl (by rw [Try.params3]; decide +kernel) ?_ ?_
  · intro ds hd
    rw [Try.params3] at hd
    obtain ⟨d1, d2, d3, rfl⟩ := len_three hd
    rfl
  · intro W base args ds ps hA hval
    rw [Try.params3] at hA hval
    obtain ⟨v0, r0, _, _, _, _, rfl, h0, hA⟩ := ta_cons hA
    obtain ⟨v1, r1, _, _, _, _, rfl, h1, hA⟩ := ta_cons hA
    obtain ⟨v2, r2, _, _, _, _, rfl, h2, hA⟩ := ta_cons hA
    obtain rfl := ta_nil hA
    obtain ⟨a, b, c, d, k, rfl, _⟩ := open_num (hval 0 24 _ rfl rfl) h0
    obtain ⟨p, q, r, s, rfl, _⟩ := open_arr (hval 1 22 _ rfl rfl) h1
    obtain ⟨n, rfl, _⟩ := open_i64 (hval 2 3 _ rfl rfl) h2
    exact AmpForms_any a b c d k p q r s n W

theorem ampForms_holds : Rows.AmpFormsSaid :=
  OpenClaim.holds_of_wide 3 Try.f3 rfl rfl rfl rfl rfl rfl rfl ⟨rfl, rfl, rfl, rfl, rfl⟩ rfl rfl rfl rfl rfl (by kernel_rfl) Try.func3 (by kernel_rfl)
    (of_decide_eq_true (by kernel_rfl)) (by unfold Func.isWrapper; rw [if_neg (of_decide_eq_false (by kernel_rfl))]; exact ⟨rfl, rfl⟩)
    (fun os started H enc _ => ampForms_lifted os started H enc)
#print axioms ampForms_holds
end Go.Proofs.Ytmildncbkndcoaa
