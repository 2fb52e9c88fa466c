import Derived.Test.YtldepffpafccpaaRh
namespace Go.Proofs.Ytldepffpafccpaa
open Go.ChangeShapes Go.WideShapes Go.ChangeAt Go.RowKit Go.Joins
set_option maxRecDepth 100000 in
theorem trodU3 {H : Type} {enc : TypeId × Value → H} {w : World} {base fuel : Nat} {spare : Nat → Bool} {held : Bool} {c0 c1 c2 : Value} {x : DataW H × List MemPlace}
    (h : DataW.trod enc Try.prog w base spare held fuel 62 [c0, c1, c2] = some x) :
    ∃ a b c : Int, c0 = .int .u8 a ∧ c1 = .int .u8 b ∧ c2 = .int .u8 c ∧ (0 ≤ a ∧ a ≤ 255) ∧ (0 ≤ b ∧ b ≤ 255) ∧ (0 ≤ c ∧ c ≤ 255) := by
  obtain ⟨xs, m, _, _, _, hl, hel⟩ := DataW.trod_array Try.underlying62 h
  have c3' : Try.prog.cellsOf 5 = 1 := by kernel_rfl
  rw [c3'] at hel
  match xs, hl with
  | [x0, x1, x2], _ =>
    obtain ⟨a, h0, _, w0⟩ := DataW.trod_int Try.underlying5 (show DataW.trod enc Try.prog w base spare held m 5 [c0] = some x0 from hel 0 (by decide))
    obtain ⟨b, h1, _, w1⟩ := DataW.trod_int Try.underlying5 (show DataW.trod enc Try.prog w base spare held m 5 [c1] = some x1 from hel 1 (by decide))
    obtain ⟨c, h2, _, w2⟩ := DataW.trod_int Try.underlying5 (show DataW.trod enc Try.prog w base spare held m 5 [c2] = some x2 from hel 2 (by decide))
    simp only [List.cons.injEq, and_true] at h0 h1 h2
    exact ⟨a, b, c, h0, h1, h2, bounds_u8 w0, bounds_u8 w1, bounds_u8 w2⟩
set_option maxRecDepth 100000 in
/-- An argument [3]uint8 as data. -/
theorem open_u3 {H : Type} {enc : TypeId × Value → H} {w : World} {r : Reach} {base b0 : Nat} {spare : Nat → Bool} {held : Bool} {v : Value} {d : DataW H} {p : List MemPlace}
    (hv : Value.okWide Try.prog w r b0 62 v) (h : DataW.Trod enc Try.prog w base spare held 62 v d p) :
    ∃ a b c : Int, v = .agg #[.int .u8 a, .int .u8 b, .int .u8 c] ∧ (0 ≤ a ∧ a ≤ 255) ∧ (0 ≤ b ∧ b ≤ 255) ∧ (0 ≤ c ∧ c ≤ 255) := by
  obtain ⟨cs, rfl, hsz⟩ := okWide_array Try.underlying62 hv
  obtain ⟨c0, c1, c2, rfl⟩ := arr3 (hsz.trans (show Try.prog.cellsOf 62 = 3 by kernel_rfl))
  obtain ⟨fuel, hf⟩ := h
  obtain ⟨a, b, c, rfl, rfl, rfl, h1, h2, h3⟩ := trodU3 (show DataW.trod enc Try.prog w base spare held fuel 62 [c0, c1, c2] = some (d, p) from hf)
  exact ⟨a, b, c, rfl, h1, h2, h3⟩
end Go.Proofs.Ytldepffpafccpaa
