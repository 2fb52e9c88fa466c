import Derived.Test.YtilclpldfoifkaaRow5
namespace Go.Proofs.Ytilclpldfoifkaa
open Go.ChangeShapes Go.WideShapes Go.ChangeAt Go.RowKit Go.Joins
def rng16 (n : Int) : Prop := 0 ≤ n ∧ n ≤ 65535
theorem len_four {α : Type} {l : List α} (h : l.length = 4) : ∃ a b c d, l = [a, b, c, d] := by
  match l, h with
  | [a, b, c, d], _ => exact ⟨a, b, c, d, rfl⟩
set_option maxRecDepth 100000 in
theorem trodU4 {H : Type} {enc : TypeId × Value → H} {w : World} {base fuel : Nat} {spare : Nat → Bool} {held : Bool} {c0 c1 c2 c3 : Value} {x : DataW H × List MemPlace}
    (h : DataW.trod enc Try.prog w base spare held fuel 58 [c0, c1, c2, c3] = some x) :
    ∃ a b c d : Int, c0 = .int .u16 a ∧ c1 = .int .u16 b ∧ c2 = .int .u16 c ∧ c3 = .int .u16 d ∧ rng16 a ∧ rng16 b ∧ rng16 c ∧ rng16 d := by
  obtain ⟨xs, m, _, _, _, hl, hel⟩ := DataW.trod_array Try.underlying58 h
  have c3' : Try.prog.cellsOf 57 = 1 := by kernel_rfl
  rw [c3'] at hel
  match xs, hl with
  | [x0, x1, x2, x3], _ =>
    obtain ⟨a, h0, _, w0⟩ := DataW.trod_int Try.underlying57 (show DataW.trod enc Try.prog w base spare held m 57 [c0] = some x0 from hel 0 (by decide))
    obtain ⟨b, h1, _, w1⟩ := DataW.trod_int Try.underlying57 (show DataW.trod enc Try.prog w base spare held m 57 [c1] = some x1 from hel 1 (by decide))
    obtain ⟨c, h2, _, w2⟩ := DataW.trod_int Try.underlying57 (show DataW.trod enc Try.prog w base spare held m 57 [c2] = some x2 from hel 2 (by decide))
    obtain ⟨d, h3, _, w3⟩ := DataW.trod_int Try.underlying57 (show DataW.trod enc Try.prog w base spare held m 57 [c3] = some x3 from hel 3 (by decide))
    simp only [List.cons.injEq, and_true] at h0 h1 h2 h3
    exact ⟨a, b, c, d, h0, h1, h2, h3, bounds_u16 w0, bounds_u16 w1, bounds_u16 w2, bounds_u16 w3⟩
set_option maxRecDepth 100000 in
theorem open_u4 {H : Type} {enc : TypeId × Value → H} {w : World} {r : Reach} {base b0 : Nat} {spare : Nat → Bool} {held : Bool} {v : Value} {d : DataW H} {p : List MemPlace}
    (hv : Value.okWide Try.prog w r b0 58 v) (h : DataW.Trod enc Try.prog w base spare held 58 v d p) :
    ∃ a b c d : Int, v = .agg #[.int .u16 a, .int .u16 b, .int .u16 c, .int .u16 d] ∧ rng16 a ∧ rng16 b ∧ rng16 c ∧ rng16 d := by
  obtain ⟨cs, rfl, hsz⟩ := okWide_array Try.underlying58 hv
  obtain ⟨c0, c1, c2, c3, rfl⟩ := arr4 (hsz.trans (show Try.prog.cellsOf 58 = 4 by kernel_rfl))
  obtain ⟨fuel, hf⟩ := h
  obtain ⟨a, b, c, d, rfl, rfl, rfl, rfl, hr⟩ := trodU4 (show DataW.trod enc Try.prog w base spare held fuel 58 [c0, c1, c2, c3] = _ from hf)
  exact ⟨a, b, c, d, rfl, hr⟩
end Go.Proofs.Ytilclpldfoifkaa
