import Derived.Test.YtkcbkcgampoclaaRk9
import Derived.Test.YtkcbkcgampoclaaMx9
import Derived.ChangeSlices
import Derived.Deep.Slices
namespace Go.Proofs.Ytkcbkcgampoclaa
open Go.ChangeShapes Go.WideShapes Go.ChangeAt Go.RowKit Go.Joins
set_option maxRecDepth 100000 in
/-- An argument []api.Fringe as data. -/
theorem open_frs {H : Type} {enc : TypeId × Value → H} {w : World} {r : Reach} {base b0 : Nat} {spare : Nat → Bool} {held : Bool} {v : Value} {d : DataW H} {p : List MemPlace}
    (hv : Value.okWide Try.prog w r b0 33 v) (h : DataW.Trod enc Try.prog w base spare held 33 v d p) :
    ∃ (ao : Option Addr) (n cap : Nat) (M X Y : Nat → Int), v = .slice ao n cap ∧ n ≤ 9223372036854775807 ∧ Frs w ao n M X Y := by
  obtain ⟨ao, len, cap, rfl⟩ := Go.WideShapes.okWide_slice Try.underlying33 hv
  obtain ⟨fuel, hf⟩ := h
  have c5 : Try.prog.cellsOf 24 = 3 := by kernel_rfl
  rcases Go.Deep.open_slice Try.underlying33 (show DataW.trod enc Try.prog w base spare held fuel 33 [.slice ao len cap] = some (d, p) from hf) with ⟨h0, _⟩ | ⟨a, len', cap', m, k, D, Pl, hcs, _, hl, hm, hmm, _, hx⟩
  · simp only [List.cons.injEq, Value.slice.injEq, and_true] at h0
    exact ⟨ao, 0, cap, fun _ => 0, fun _ => 0, fun _ => 0, by rw [h0.2.1], by omega, fun h => absurd h (by omega)⟩
  · simp only [List.cons.injEq, Value.slice.injEq, and_true] at hcs
    obtain ⟨rfl, rfl, rfl⟩ := hcs
    by_cases h0 : len = 0
    · subst h0
      exact ⟨_, 0, cap, fun _ => 0, fun _ => 0, fun _ => 0, rfl, by omega, fun h => absurd h (by omega)⟩
    have hlm : len ≤ m := by rw [hmm]; split <;> omega
    obtain ⟨b, o, spot⟩ := a
    have cells : ∀ i, i < len → ∃ z : Int × Int × Int, w.cell? ((⟨b, o, spot⟩ : Addr).add (i * 3)) = some (.int .i64 z.1) ∧ w.cell? (((⟨b, o, spot⟩ : Addr).add (i * 3)).add 1) = some (.int .i64 z.2.1) ∧ w.cell? (((⟨b, o, spot⟩ : Addr).add (i * 3)).add 2) = some (.int .i64 z.2.2) := by
      intro i hi
      obtain ⟨cs', h1, h2⟩ := hx i (by omega)
      rw [c5] at h1
      obtain ⟨_, hlen, hcell⟩ := World.cells?_some h1
      match cs', hlen with
      | [v0, v1, v2], _ =>
        obtain ⟨x, y, z, rfl, rfl, rfl, _⟩ := trodFr h2
        have e0 := hcell 0 (by omega)
        rw [show ∀ x : Addr, x.add 0 = x from fun x => by simp [Addr.add]] at e0
        exact ⟨⟨x, y, z⟩, e0, hcell 1 (by omega), hcell 2 (by omega)⟩
    have hspot : spot = none := by
      obtain ⟨z, hz, _⟩ := cells 0 (by omega)
      simpa [Addr.add] using World.cell?_spot hz
    subst hspot
    obtain ⟨f, hf⟩ := Go.Deep.choose_lt cells
    refine ⟨_, len, cap, fun i => (f i).1, fun i => (f i).2.1, fun i => (f i).2.2, rfl, by unfold maxLen at hm; omega, fun _ => ⟨b, o, rfl, ?_⟩⟩
    intro i hi
    have := hf i hi
    simp only [Addr.add_lit] at this
    exact this
end Go.Proofs.Ytkcbkcgampoclaa
