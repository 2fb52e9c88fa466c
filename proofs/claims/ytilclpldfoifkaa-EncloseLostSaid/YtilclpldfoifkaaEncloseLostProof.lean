/-
  EncloseLost, proved: for all x, y and r that can be read as data, the Go function photonmeshlaw05.EncloseLost returns true: with a loss of 0 a ring lets its coupling through exactly, and a ring whose coupling or loss is at most 900000 millionths has no ErrZero and no ErrArg; nothing that came in is changed. No conditions beside the row's own.
-/
import Derived.Test.YtilclpldfoifkaaRow5
import Derived.Test.YtilclpldfoifkaaLo
namespace Go.Proofs.Ytilclpldfoifkaa
open Go.ChangeShapes Go.WideShapes Go.ChangeAt Go.RowKit Go.Joins

set_option maxRecDepth 100000 in
theorem open_u32 {H : Type} {enc : TypeId × Value → H} {w : World} {r : Reach} {base b0 : Nat} {spare : Nat → Bool} {held : Bool} {v : Value} {d : DataW H} {p : List MemPlace}
    (hv : Value.okWide Try.prog w r b0 64 v) (h : DataW.Trod enc Try.prog w base spare held 64 v d p) : ∃ n : Int, v = .int .u32 n ∧ 0 ≤ n ∧ n < 4294967296 := by
  obtain ⟨x, rfl, _, _, wx⟩ := open_int Try.underlying64 hv h
  refine ⟨x, rfl, ?_⟩
  first
    | (have := bounds_u32 wx; omega)
    | (simp [Lit.wf, IntKind.inRange, IntKind.min, IntKind.max] at wx; omega)
    | (simp [Lit.wf] at wx; trace_state; omega)
set_option maxRecDepth 100000 in
theorem encloseLost_lifted (os : Os) (started : os.Started) (H : Type) (enc : TypeId × Value → H) :
    ReturnsInHanded {} Try.checked os 13 .any (Rows.encloseLostSpec.pre6 enc Try.checked.prog Try.f13 [] false) (Rows.encloseLostSpec.post enc Try.checked.prog Try.f13 false true false false) := by
  refine law_lifted started Try.func13 (by kernel_rfl)
    (ChangeSpec.witness6 (enc := enc) (C := Try.checked) false ⟨#[], #[.int .u32 0, .int .u32 0, .int .i64 0], []⟩ 8 (by kernel_rfl) (by kernel_rfl) (by kernel_rfl) (by kernel_rfl))
    rfl rfl (by rw [Try.params13]; decide +kernel) ?_ ?_
  · intro ds hd
    rw [Try.params13] at hd
    obtain ⟨d0, d1, d2, rfl⟩ := len_three hd
    rfl
  · intro W base args ds ps hA hval
    rw [Try.params13] at hA hval
    obtain ⟨v0, r0, _, _, _, _, rfl, h0, hA⟩ := ta_cons hA
    obtain ⟨v1, r1, _, _, _, _, rfl, h1, hA⟩ := ta_cons hA
    obtain ⟨v2, r2, _, _, _, _, rfl, h2, hA⟩ := ta_cons hA
    obtain rfl := ta_nil hA
    obtain ⟨x, rfl, x0, x1⟩ := open_u32 (hval 0 64 _ rfl rfl) h0
    obtain ⟨y, rfl, y0, y1⟩ := open_u32 (hval 1 64 _ rfl rfl) h1
    obtain ⟨n, rfl, _⟩ := open_i64 (hval 2 3 _ rfl rfl) h2
    exact EncloseLost_any x y n W x0 y0 x1 y1

theorem encloseLost_holds : Rows.EncloseLostSaid :=
  OpenClaim.holds_of_wide 13 Try.f13 rfl rfl rfl rfl rfl rfl rfl ⟨rfl, rfl, rfl, rfl, rfl⟩ rfl rfl rfl rfl rfl (by kernel_rfl) Try.func13 (by kernel_rfl)
    (of_decide_eq_true (by kernel_rfl)) (by unfold Func.isWrapper; rw [if_neg (of_decide_eq_false (by kernel_rfl))]; exact ⟨rfl, rfl⟩)
    (fun os started H enc _ => encloseLost_lifted os started H enc)
#print axioms encloseLost_holds
end Go.Proofs.Ytilclpldfoifkaa
