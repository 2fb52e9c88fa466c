import Derived.Test.YtkcbkcgampoclaaRk9
import Derived.Test.YtkcbkcgampoclaaBc8
import Derived.ChangeSlices
import Derived.Deep.Slices
import Derived.Deep.Grids
namespace Go.Proofs.Ytkcbkcgampoclaa
open Go.ChangeShapes Go.WideShapes Go.ChangeAt Go.RowKit Go.Joins Go Ben
set_option maxRecDepth 100000 in
theorem trod_bs {H : Type} {enc : TypeId × Value → H} {w : World} {base fuel : Nat} {spare : Nat → Bool} {held : Bool} {v : Value} {x : DataW H × List MemPlace}
    (hf : DataW.trod enc Try.prog w base spare held fuel 42 [v] = some x) :
    ∃ (ao : Option Addr) (n cap : Nat) (f : Nat → Bool), v = .slice ao n cap ∧ (n ≤ cap ∧ cap ≤ 9223372036854775807) ∧ Bools w ao n f := by
  rcases Go.Deep.open_slice1 Try.underlying42 (by kernel_rfl) hf with ⟨h0, _⟩ | ⟨a, len, cap, m, n, V, D, Pl, h0, _, hl, hm, hmm, _, hx⟩
  · simp only [List.cons.injEq, and_true] at h0
    exact ⟨none, 0, 0, fun _ => false, h0, by omega, fun h => absurd h (by omega)⟩
  · simp only [List.cons.injEq, and_true] at h0
    have hm' : len ≤ cap ∧ cap ≤ 9223372036854775807 := by unfold maxLen at hm; omega
    have hlm : len ≤ m := by rw [hmm]; split <;> omega
    have hcell : ∀ i, i < len → ∃ z : Bool, w.cell? (a.add i) = some (.bool z) := by
      intro i hi
      obtain ⟨h1, h2⟩ := hx i (by omega)
      obtain ⟨z, h3, _⟩ := DataW.trod_bool Try.underlying4 h2
      simp only [List.cons.injEq, and_true] at h3
      exact ⟨z, by rw [h1, h3]⟩
    obtain ⟨f, hf⟩ := Go.Deep.choose_lt hcell
    refine ⟨some a, len, cap, f, h0, hm', fun hn => ?_⟩
    obtain ⟨b, o, spot⟩ := a
    have hs : spot = none := by simpa [Addr.add] using World.cell?_spot (hf 0 (by omega))
    subst hs
    exact ⟨b, o, rfl, fun i hi => by have := hf i hi; rwa [Addr.add_lit] at this⟩
set_option maxRecDepth 100000 in
theorem testDesc : ∃ f g i : Field, Try.prog.underlying 44 = some (.struct #[f, g, i]) ∧ f.type = 42 ∧ f.offset = 0 ∧ g.type = 3 ∧ g.offset = 1 ∧ i.type = 3 ∧ i.offset = 2 := ⟨_, _, _, Try.underlying44, rfl, rfl, rfl, rfl, rfl, rfl⟩
set_option maxRecDepth 100000 in
theorem trodTest {H : Type} {enc : TypeId × Value → H} {w : World} {base fuel : Nat} {spare : Nat → Bool} {held : Bool} {c0 c1 c2 : Value} {x : DataW H × List MemPlace}
    (h : DataW.trod enc Try.prog w base spare held fuel 44 [c0, c1, c2] = some x) :
    ∃ (ao : Option Addr) (n cap : Nat) (f : Nat → Bool) (p q : Int), c0 = .slice ao n cap ∧ c1 = .int .i64 p ∧ c2 = .int .i64 q ∧ (n ≤ cap ∧ cap ≤ 9223372036854775807) ∧ Bools w ao n f ∧ rng p ∧ rng q := by
  obtain ⟨f, g, i, hu, f1, f2, g1, g2, i1, i2⟩ := testDesc
  obtain ⟨xs, n, _, _, _, hlen, hf⟩ := DataW.trod_struct hu h
  have e1 : Try.prog.cellsOf 3 = 1 := by kernel_rfl
  have e2 : Try.prog.cellsOf 42 = 1 := by kernel_rfl
  match xs, hlen with
  | [y0, y1, y2], _ =>
    have h0 := hf 0 f rfl
    have h1 := hf 1 g rfl
    have h2 := hf 2 i rfl
    rw [f1, f2, e2] at h0
    rw [g1, g2, e1] at h1
    rw [i1, i2, e1] at h2
    obtain ⟨ao, m, cap, s, q0, hb, hs⟩ := trod_bs (show DataW.trod enc Try.prog w base spare held n 42 [c0] = some y0 from h0)
    obtain ⟨p, q1, _, w1⟩ := DataW.trod_int Try.underlying3 (show DataW.trod enc Try.prog w base spare held n 3 [c1] = some y1 from h1)
    obtain ⟨q, q2, _, w2⟩ := DataW.trod_int Try.underlying3 (show DataW.trod enc Try.prog w base spare held n 3 [c2] = some y2 from h2)
    simp only [List.cons.injEq, and_true] at q1 q2
    exact ⟨ao, m, cap, s, p, q, q0, q1, q2, hb, hs, rng_of w1, rng_of w2⟩
set_option maxRecDepth 100000 in
/-- An argument api.Test as data. -/
theorem open_test {H : Type} {enc : TypeId × Value → H} {w : World} {r : Reach} {base b0 : Nat} {spare : Nat → Bool} {held : Bool} {v : Value} {d : DataW H} {p : List MemPlace}
    (hv : Value.okWide Try.prog w r b0 44 v) (h : DataW.Trod enc Try.prog w base spare held 44 v d p) :
    ∃ (ao : Option Addr) (n cap : Nat) (f : Nat → Bool) (p q : Int), v = .agg #[.slice ao n cap, .int .i64 p, .int .i64 q] ∧ n ≤ 9223372036854775807 ∧ Bools w ao n f ∧ rng p ∧ rng q := by
  obtain ⟨f, g, i, hu, _⟩ := testDesc
  obtain ⟨cs, rfl, hsz⟩ := okWide_str hu hv
  obtain ⟨c0, c1, c2, rfl⟩ := arr3 (hsz.trans (show Try.prog.cellsOf 44 = 3 by kernel_rfl))
  obtain ⟨fuel, hf⟩ := h
  obtain ⟨ao, n, cap, s, p, q, rfl, rfl, rfl, hb, hs, h1, h2⟩ := trodTest (show DataW.trod enc Try.prog w base spare held fuel 44 [c0, c1, c2] = _ from hf)
  exact ⟨ao, n, cap, s, p, q, rfl, Nat.le_trans hb.1 hb.2, hs, h1, h2⟩
end Go.Proofs.Ytkcbkcgampoclaa
