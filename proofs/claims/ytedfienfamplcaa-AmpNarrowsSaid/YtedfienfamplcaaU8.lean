import Derived.Test.YtedfienfamplcaaRow
namespace Go.Proofs.Ytedfienfamplcaa
open Go.ChangeShapes Go.WideShapes Go.ChangeAt Go.RowKit Go.Joins
set_option maxRecDepth 100000 in
theorem open_u8 {H : Type} {enc : TypeId × Value → H} {w : World} {r : Reach} {base b0 : Nat} {spare : Nat → Bool} {held : Bool} {v : Value} {d : DataW H} {p : List MemPlace}
    (hv : Value.okWide Try.prog w r b0 5 v) (h : DataW.Trod enc Try.prog w base spare held 5 v d p) : ∃ n : Int, v = .int .u8 n ∧ (0 ≤ n ∧ n ≤ 255) := by
  obtain ⟨x, rfl, _, _, wx⟩ := open_int Try.underlying5 hv h
  exact ⟨x, rfl, bounds_u8 wx⟩
end Go.Proofs.Ytedfienfamplcaa
