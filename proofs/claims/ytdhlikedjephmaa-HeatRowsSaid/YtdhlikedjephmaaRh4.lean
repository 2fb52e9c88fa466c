import Derived.Test.YtdhlikedjephmaaRh
namespace Go.Proofs.Ytdhlikedjephmaa
open Go.ChangeShapes Go.WideShapes Go.ChangeAt Go.RowKit Go.Joins
set_option maxRecDepth 100000 in
theorem trodU2 {H : Type} {enc : TypeId × Value → H} {w : World} {base fuel : Nat} {spare : Nat → Bool} {held : Bool} {c0 c1 : Value} {x : DataW H × List MemPlace}
    (h : DataW.trod enc Try.prog w base spare held fuel 60 [c0, c1] = some x) :
    ∃ a b : Int, c0 = .int .u8 a ∧ c1 = .int .u8 b ∧ (0 ≤ a ∧ a ≤ 255) ∧ (0 ≤ b ∧ b ≤ 255) := by
  obtain ⟨xs, m, _, _, _, hl, hel⟩ := DataW.trod_array Try.underlying60 h
  have c3' : Try.prog.cellsOf 5 = 1 := by kernel_rfl
  rw [c3'] at hel
  match xs, hl with
  | [x0, x1], _ =>
    obtain ⟨a, h0, _, w0⟩ := DataW.trod_int Try.underlying5 (show DataW.trod enc Try.prog w base spare held m 5 [c0] = some x0 from hel 0 (by decide))
    obtain ⟨b, h1, _, w1⟩ := DataW.trod_int Try.underlying5 (show DataW.trod enc Try.prog w base spare held m 5 [c1] = some x1 from hel 1 (by decide))
    simp only [List.cons.injEq, and_true] at h0 h1
    exact ⟨a, b, h0, h1, bounds_u8 w0, bounds_u8 w1⟩
set_option maxRecDepth 100000 in
/-- An argument [2]uint8 as data. -/
theorem open_u2 {H : Type} {enc : TypeId × Value → H} {w : World} {r : Reach} {base b0 : Nat} {spare : Nat → Bool} {held : Bool} {v : Value} {d : DataW H} {p : List MemPlace}
    (hv : Value.okWide Try.prog w r b0 60 v) (h : DataW.Trod enc Try.prog w base spare held 60 v d p) :
    ∃ a b : Int, v = .agg #[.int .u8 a, .int .u8 b] ∧ (0 ≤ a ∧ a ≤ 255) ∧ (0 ≤ b ∧ b ≤ 255) := by
  obtain ⟨cs, rfl, hsz⟩ := okWide_array Try.underlying60 hv
  obtain ⟨c0, c1, rfl⟩ := arr2 (hsz.trans (show Try.prog.cellsOf 60 = 2 by kernel_rfl))
  obtain ⟨fuel, hf⟩ := h
  obtain ⟨a, b, rfl, rfl, h1, h2⟩ := trodU2 (show DataW.trod enc Try.prog w base spare held fuel 60 [c0, c1] = some (d, p) from hf)
  exact ⟨a, b, rfl, h1, h2⟩
end Go.Proofs.Ytdhlikedjephmaa
