import Derived.Test.YtkkcnhhfdicppaaRk7
import Derived.Test.YtkkcnhhfdicppaaPa7
namespace Go.Proofs.Ytkkcnhhfdicppaa
open Go.ChangeShapes Go.WideShapes Go.ChangeAt Go.RowKit Go.Joins Lay
set_option maxRecDepth 100000 in
theorem trodXY_r {H : Type} {enc : TypeId × Value → H} {w : World} {base fuel : Nat} {spare : Nat → Bool} {held : Bool} {c0 c1 : Value} {x : DataW H × List MemPlace}
    (h : DataW.trod enc Try.prog w base spare held fuel 26 [c0, c1] = some x) : ∃ a b : Int, c0 = .int .i64 a ∧ c1 = .int .i64 b ∧ rng a ∧ rng b := by
  obtain ⟨f, g, hu, f1, f2, g1, g2⟩ := xyDesc
  obtain ⟨xs, n, _, _, _, hlen, hf⟩ := DataW.trod_struct hu h
  have e1 : Try.prog.cellsOf 3 = 1 := by kernel_rfl
  match xs, hlen with
  | [y0, y1], _ =>
    have h0 := hf 0 f rfl
    have h1 := hf 1 g rfl
    rw [f1, f2, e1] at h0
    rw [g1, g2, e1] at h1
    obtain ⟨a, q0, _, w0⟩ := DataW.trod_int Try.underlying3 (show DataW.trod enc Try.prog w base spare held n 3 [c0] = some y0 from h0)
    obtain ⟨b, q1, _, w1⟩ := DataW.trod_int Try.underlying3 (show DataW.trod enc Try.prog w base spare held n 3 [c1] = some y1 from h1)
    simp only [List.cons.injEq, and_true] at q0 q1
    exact ⟨a, b, q0, q1, rng_of w0, rng_of w1⟩
set_option maxRecDepth 100000 in
theorem trod_path {H : Type} {enc : TypeId × Value → H} {w : World} {base fuel : Nat} {spare : Nat → Bool} {held : Bool} {v : Value} {x : DataW H × List MemPlace}
    (hf : DataW.trod enc Try.prog w base spare held fuel 22 [v] = some x) : ∃ (ao : Option Addr) (n cap : Nat) (X Y : Nat → Int), v = .slice ao n cap ∧ n ≤ 9223372036854775807 ∧ XYs w ao n X Y ∧ R2 X Y n := by
  have c5 : Try.prog.cellsOf 26 = 2 := by kernel_rfl
  rcases Go.Deep.open_slice Try.underlying22 hf with ⟨h0, _⟩ | ⟨a, len, cap, m, k, D, Pl, hcs, _, hl, hm, hmm, _, hx⟩
  · simp only [List.cons.injEq, and_true] at h0
    exact ⟨none, 0, 0, fun _ => 0, fun _ => 0, h0, by omega, fun h => absurd h (by omega), fun k hk => absurd hk (by omega)⟩
  · simp only [List.cons.injEq, and_true] at hcs
    by_cases h0 : len = 0
    · subst h0
      exact ⟨_, 0, cap, fun _ => 0, fun _ => 0, hcs, by omega, fun h => absurd h (by omega), fun k hk => absurd hk (by omega)⟩
    have hlm : len ≤ m := by rw [hmm]; split <;> omega
    obtain ⟨b, o, spot⟩ := a
    have cells : ∀ i, i < len → ∃ z : Int × Int, w.cell? ((⟨b, o, spot⟩ : Addr).add (i * 2)) = some (.int .i64 z.1) ∧ w.cell? (((⟨b, o, spot⟩ : Addr).add (i * 2)).add 1) = some (.int .i64 z.2) ∧ rng z.1 ∧ rng z.2 := by
      intro i hi
      obtain ⟨cs', h1, h2⟩ := hx i (by omega)
      rw [c5] at h1
      obtain ⟨_, hlen, hcell⟩ := World.cells?_some h1
      match cs', hlen with
      | [v0, v1], _ =>
        obtain ⟨x, y, rfl, rfl, rx, ry⟩ := trodXY_r h2
        have e0 := hcell 0 (by omega)
        rw [show ∀ x : Addr, x.add 0 = x from fun x => by simp [Addr.add]] at e0
        exact ⟨⟨x, y⟩, e0, hcell 1 (by omega), rx, ry⟩
    have hspot : spot = none := by
      obtain ⟨z, hz, _⟩ := cells 0 (by omega)
      simpa [Addr.add] using World.cell?_spot hz
    subst hspot
    obtain ⟨f, hf⟩ := Go.Deep.choose_lt cells
    refine ⟨_, len, cap, fun i => (f i).1, fun i => (f i).2, hcs, by unfold maxLen at hm; omega, fun _ => ⟨b, o, rfl, ?_⟩, fun k hk => ⟨(hf k hk).2.2.1, (hf k hk).2.2.2⟩⟩
    intro i hi
    have := hf i hi
    simp only [Addr.add_lit] at this
    exact ⟨this.1, this.2.1⟩
set_option maxRecDepth 100000 in
theorem slice_wide_xy {w : World} {r : Reach} {b0 : Nat} {v : Value} (hv : Value.okWide Try.prog w r b0 22 v) : ∃ ao n cap, v = .slice ao n cap := by
  obtain ⟨ao, l0, c0, rfl⟩ := Go.WideShapes.okWide_slice Try.underlying22 hv
  exact ⟨_, _, _, rfl⟩
/-- An argument []api.XY as data. -/
theorem open_path {H : Type} {enc : TypeId × Value → H} {w : World} {base : Nat} {spare : Nat → Bool} {held : Bool} {v : Value} {d : DataW H} {p : List MemPlace}
    (h : DataW.Trod enc Try.prog w base spare held 22 v d p) (hv : ∃ ao n cap, v = .slice ao n cap) :
    ∃ (ao : Option Addr) (n cap : Nat) (X Y : Nat → Int), v = .slice ao n cap ∧ n ≤ 9223372036854775807 ∧ XYs w ao n X Y ∧ R2 X Y n := by
  obtain ⟨_, _, _, rfl⟩ := hv
  obtain ⟨fuel, hf⟩ := h
  exact trod_path (show DataW.trod enc Try.prog w base spare held fuel 22 [_] = some (d, p) from hf)
end Go.Proofs.Ytkkcnhhfdicppaa
