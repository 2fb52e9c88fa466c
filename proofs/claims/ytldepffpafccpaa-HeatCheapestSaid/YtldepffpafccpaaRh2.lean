import Derived.Test.YtldepffpafccpaaRh
namespace Go.Proofs.Ytldepffpafccpaa
open Go.ChangeShapes Go.WideShapes Go.ChangeAt Go.RowKit Go.Joins
set_option maxRecDepth 100000 in
/-- An argument [2]int as data. -/
theorem open_pair {H : Type} {enc : TypeId × Value → H} {w : World} {r : Reach} {base b0 : Nat} {spare : Nat → Bool} {held : Bool} {v : Value} {d : DataW H} {p : List MemPlace}
    (hv : Value.okWide Try.prog w r b0 33 v) (h : DataW.Trod enc Try.prog w base spare held 33 v d p) : ∃ a b : Int, v = .agg #[.int .i64 a, .int .i64 b] := by
  obtain ⟨cs, rfl, hsz⟩ := okWide_array Try.underlying33 hv
  obtain ⟨c0, c1, rfl⟩ := arr2 (hsz.trans (show Try.prog.cellsOf 33 = 2 by kernel_rfl))
  obtain ⟨fuel, hf⟩ := h
  obtain ⟨a, b, rfl, rfl⟩ := trodPair (show DataW.trod enc Try.prog w base spare held fuel 33 [c0, c1] = some (d, p) from hf)
  exact ⟨a, b, rfl⟩
end Go.Proofs.Ytldepffpafccpaa
