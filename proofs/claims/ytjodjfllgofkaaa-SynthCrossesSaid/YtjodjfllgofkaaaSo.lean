import Derived.Test.YtjodjfllgofkaaaRow
import Derived.Test.YtjodjfllgofkaaaIb
import Derived.ChangeSlices


namespace Go.Proofs.Ytjodjfllgofkaaa
open Go.RowKit Go.ChangeShapes
set_option maxRecDepth 100000 in
/-- An argument []int as data. -/
theorem open_is {H : Type} {enc : TypeId × Value → H} {w : World} {r : Reach} {base b0 : Nat} {spare : Nat → Bool} {held : Bool} {v : Value} {d : DataW H} {p : List MemPlace}
    (hv : Value.okWide Try.prog w r b0 36 v) (h : DataW.Trod enc Try.prog w base spare held 36 v d p) :
    ∃ (ao : Option Addr) (n cap : Nat) (f : Nat → Int), v = .slice ao n cap ∧ n ≤ 9223372036854775807 ∧ Ints w ao n f := by
  obtain ⟨ao, l0, c0, rfl⟩ := Go.WideShapes.okWide_slice Try.underlying36 hv
  obtain ⟨fuel, hf⟩ := h
  rcases open_ints (k := .i64) Try.underlying36 Try.underlying3 (by kernel_rfl) (show DataW.trod enc Try.prog w base spare held fuel 36 [.slice ao l0 c0] = some (d, p) from hf) with ⟨h0, _⟩ | ⟨a, len, cap, zs, h0, _, hlc, hcm, hzl, _, hc, _⟩
  · simp only [List.cons.injEq, and_true] at h0
    exact ⟨none, 0, 0, fun _ => 0, h0, by omega, fun h => absurd h (by omega)⟩
  · simp only [List.cons.injEq, and_true] at h0
    have hm : len ≤ 9223372036854775807 := by unfold maxLen at hcm; omega
    have hz : len ≤ zs.length := by rw [hzl]; split <;> omega
    refine ⟨some a, len, cap, fun i => zs.getD i 0, h0, hm, fun hn => ?_⟩
    obtain ⟨b, o, spot⟩ := a
    have hs : spot = none := by simpa [Addr.add] using World.cell?_spot (hc 0 (by omega))
    subst hs
    exact ⟨b, o, rfl, fun i hi => by have := hc i (by omega); rwa [Addr.add_lit] at this⟩
end Go.Proofs.Ytjodjfllgofkaaa
