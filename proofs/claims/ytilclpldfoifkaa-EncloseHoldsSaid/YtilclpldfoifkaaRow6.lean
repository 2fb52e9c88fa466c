import Derived.Test.YtilclpldfoifkaaRow5
namespace Go.Proofs.Ytilclpldfoifkaa
open Go.ChangeShapes Go.WideShapes Go.ChangeAt Go.RowKit Go.Joins
theorem arr2 {α : Type} {cs : Array α} (h : cs.size = 2) : ∃ c0 c1, cs = #[c0, c1] := by
  obtain ⟨l⟩ := cs
  match l, h with
  | [c0, c1], _ => exact ⟨c0, c1, rfl⟩
set_option maxRecDepth 100000 in
theorem open_span {H : Type} {enc : TypeId × Value → H} {w : World} {r : Reach} {base b0 : Nat} {spare : Nat → Bool} {held : Bool} {v : Value} {d : DataW H} {p : List MemPlace}
    (hv : Value.okWide Try.prog w r b0 23 v) (h : DataW.Trod enc Try.prog w base spare held 23 v d p) :
    ∃ a b : Int, v = .agg #[.int .i64 a, .int .i64 b] ∧ rng a ∧ rng b := by
  obtain ⟨f, g, hu, _⟩ := spanDesc
  obtain ⟨cs, rfl, hsz⟩ := okWide_str hu hv
  obtain ⟨c0, c1, rfl⟩ := arr2 (hsz.trans (show Try.prog.cellsOf 23 = 2 by kernel_rfl))
  obtain ⟨fuel, hf⟩ := h
  obtain ⟨a, b, rfl, rfl, hr⟩ := trodSpan (show DataW.trod enc Try.prog w base spare held fuel 23 [c0, c1] = _ from hf)
  exact ⟨a, b, rfl, hr⟩
end Go.Proofs.Ytilclpldfoifkaa
