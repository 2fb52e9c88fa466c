import Derived.Test.YtjodjfllgofkaaaCk
import Derived.Test.YtjodjfllgofkaaaRow
import Derived.Deep.Slices
namespace Go.Proofs.Ytjodjfllgofkaaa
open Go.RowKit Amp Go.ChangeShapes
set_option maxRecDepth 100000 in
theorem structItem : ∃ f g h k : Field, Try.prog.underlying 68 = some (.struct #[f, g, h, k]) ∧ f.type = 3 ∧ f.offset = 0 ∧ g.type = 3 ∧ g.offset = 1 ∧ h.type = 3 ∧ h.offset = 2 ∧ k.type = 9 ∧ k.offset = 3 := ⟨_, _, _, _, Try.underlying68, rfl, rfl, rfl, rfl, rfl, rfl, rfl, rfl⟩
set_option maxRecDepth 100000 in
theorem trodItem {H : Type} {enc : TypeId × Value → H} {w : World} {base fuel : Nat} {spare : Nat → Bool} {held : Bool} {c0 c1 c2 c3 : Value} {x : DataW H × List MemPlace}
    (h : DataW.trod enc Try.prog w base spare held fuel 68 [c0, c1, c2, c3] = some x) :
    ∃ z : It, c0 = .int .i64 z.kind ∧ c1 = .int .i64 z.at' ∧ c2 = .int .i64 z.n ∧ c3 = .string z.name ∧ z.name.size ≤ maxLen ∧ rng z.kind ∧ rng z.at' ∧ rng z.n := by
  obtain ⟨f, g, hh, k, hu, f1, f2, g1, g2, h1, h2, k1, k2⟩ := structItem
  obtain ⟨xs, n, _, _, _, hlen, hf⟩ := DataW.trod_struct hu h
  have e1 : Try.prog.cellsOf 3 = 1 := by kernel_rfl
  have e2 : Try.prog.cellsOf 9 = 1 := by kernel_rfl
  match xs, hlen with
  | [y0, y1, y2, y3], _ =>
    have q0 := hf 0 f rfl
    have q1 := hf 1 g rfl
    have q2 := hf 2 hh rfl
    have q3 := hf 3 k rfl
    rw [f1, f2, e1] at q0
    rw [g1, g2, e1] at q1
    rw [h1, h2, e1] at q2
    rw [k1, k2, e2] at q3
    obtain ⟨a, p0, _, w0⟩ := DataW.trod_int Try.underlying3 (show DataW.trod enc Try.prog w base spare held n 3 [c0] = some y0 from q0)
    obtain ⟨b, p1, _, w1⟩ := DataW.trod_int Try.underlying3 (show DataW.trod enc Try.prog w base spare held n 3 [c1] = some y1 from q1)
    obtain ⟨c, p2, _, w2⟩ := DataW.trod_int Try.underlying3 (show DataW.trod enc Try.prog w base spare held n 3 [c2] = some y2 from q2)
    obtain ⟨d, p3, _, w3⟩ := DataW.trod_string Try.underlying9 (show DataW.trod enc Try.prog w base spare held n 9 [c3] = some y3 from q3)
    simp only [List.cons.injEq, and_true] at p0 p1 p2 p3
    exact ⟨⟨a, b, c, d⟩, p0, p1, p2, p3, w3, rng_of w0, rng_of w1, rng_of w2⟩
set_option maxRecDepth 100000 in
theorem open_items {H : Type} {enc : TypeId × Value → H} {w : World} {r : Reach} {base b0 : Nat} {spare : Nat → Bool} {held : Bool} {v : Value} {d : DataW H} {p : List MemPlace}
    (hv : Value.okWide Try.prog w r b0 22 v) (h : DataW.Trod enc Try.prog w base spare held 22 v d p) :
    ∃ (ao : Option Addr) (n cap : Nat) (f : Nat → It), v = .slice ao n cap ∧ n ≤ 9223372036854775807 ∧ Its w ao n f := by
  obtain ⟨ao, len, cap, rfl⟩ := Go.WideShapes.okWide_slice Try.underlying22 hv
  obtain ⟨fuel, hf⟩ := h
  have c5 : Try.prog.cellsOf 68 = 4 := by kernel_rfl
  rcases Go.Deep.open_slice Try.underlying22 (show DataW.trod enc Try.prog w base spare held fuel 22 [.slice ao len cap] = some (d, p) from hf) with ⟨h0, _⟩ | ⟨a, len', cap', m, k, D, Pl, hcs, _, hl, hm, hmm, _, hx⟩
  · simp only [List.cons.injEq, Value.slice.injEq, and_true] at h0
    exact ⟨ao, 0, cap, fun _ => ⟨0, 0, 0, ⟨#[]⟩⟩, by rw [h0.2.1], by omega, fun h => absurd h (by omega)⟩
  · simp only [List.cons.injEq, Value.slice.injEq, and_true] at hcs
    obtain ⟨rfl, rfl, rfl⟩ := hcs
    by_cases h0 : len = 0
    · subst h0
      exact ⟨_, 0, cap, fun _ => ⟨0, 0, 0, ⟨#[]⟩⟩, rfl, by omega, fun h => absurd h (by omega)⟩
    have hlm : len ≤ m := by rw [hmm]; split <;> omega
    obtain ⟨b, o, spot⟩ := a
    have cells : ∀ i, i < len → ∃ z : It, w.cell? ((⟨b, o, spot⟩ : Addr).add (i * 4)) = some (.int .i64 z.kind) ∧ w.cell? (((⟨b, o, spot⟩ : Addr).add (i * 4)).add 1) = some (.int .i64 z.at') ∧ w.cell? (((⟨b, o, spot⟩ : Addr).add (i * 4)).add 2) = some (.int .i64 z.n) ∧ w.cell? (((⟨b, o, spot⟩ : Addr).add (i * 4)).add 3) = some (.string z.name) ∧ z.name.size ≤ maxLen := by
      intro i hi
      obtain ⟨cs', h1, h2⟩ := hx i (by omega)
      rw [c5] at h1
      obtain ⟨_, hlen, hcell⟩ := World.cells?_some h1
      match cs', hlen with
      | [v0, v1, v2, v3], _ =>
        obtain ⟨z, rfl, rfl, rfl, rfl, hz, _⟩ := trodItem h2
        have e0 := hcell 0 (by omega)
        rw [show ∀ x : Addr, x.add 0 = x from fun x => by simp [Addr.add]] at e0
        exact ⟨z, e0, hcell 1 (by omega), hcell 2 (by omega), hcell 3 (by omega), hz⟩
    have hspot : spot = none := by
      obtain ⟨z, hz, _⟩ := cells 0 (by omega)
      simpa [Addr.add] using World.cell?_spot hz
    subst hspot
    haveI : Inhabited It := ⟨⟨0, 0, 0, ⟨#[]⟩⟩⟩
    obtain ⟨f, hf⟩ := Go.Deep.choose_lt cells
    refine ⟨_, len, cap, f, rfl, by unfold maxLen at hm; omega, fun _ => ⟨b, o, rfl, ?_⟩⟩
    intro i hi
    have := hf i hi
    simp only [Addr.add_lit] at this
    exact this
end Go.Proofs.Ytjodjfllgofkaaa
