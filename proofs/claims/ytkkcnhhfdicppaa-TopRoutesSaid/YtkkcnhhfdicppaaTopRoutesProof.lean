import Derived.Test.YtkkcnhhfdicppaaRp7
import Derived.Test.YtkkcnhhfdicppaaLtT
import Derived.Test.YtkkcnhhfdicppaaRk7
namespace Go.Proofs.Ytkkcnhhfdicppaa
open Go.ChangeShapes Go.WideShapes Go.ChangeAt Go.RowKit Go.Joins Lay
set_option maxRecDepth 100000 in
theorem trodPP {H : Type} {enc : TypeId × Value → H} {w : World} {base fuel : Nat} {spare : Nat → Bool} {held : Bool} {c0 c1 c2 c3 : Value} {x : DataW H × List MemPlace}
    (h : DataW.trod enc Try.prog w base spare held fuel 61 [c0, c1, c2, c3] = some x) : ∃ a b c d : Int, c0 = .int .i64 a ∧ c1 = .int .i64 b ∧ c2 = .int .i64 c ∧ c3 = .int .i64 d := by
  obtain ⟨xs, m, _, _, _, hl, hel⟩ := DataW.trod_array Try.underlying61 h
  have e2 : Try.prog.cellsOf 26 = 2 := by kernel_rfl
  rw [e2] at hel
  match xs, hl with
  | [x0, x1], _ =>
    obtain ⟨a, b, q0, q1, _⟩ := trodXY_r (show DataW.trod enc Try.prog w base spare held m 26 [c0, c1] = some x0 from hel 0 (by decide))
    obtain ⟨c, d, q2, q3, _⟩ := trodXY_r (show DataW.trod enc Try.prog w base spare held m 26 [c2, c3] = some x1 from hel 1 (by decide))
    exact ⟨a, b, c, d, q0, q1, q2, q3⟩
set_option maxRecDepth 100000 in
/-- An argument [][2]api.XY as data. -/
theorem open_pp {H : Type} {enc : TypeId × Value → H} {w : World} {base : Nat} {spare : Nat → Bool} {held : Bool} {v : Value} {d : DataW H} {p : List MemPlace}
    (h : DataW.Trod enc Try.prog w base spare held 60 v d p) (hv : ∃ ao n cap, v = .slice ao n cap) :
    ∃ (ao : Option Addr) (n cap : Nat) (FX FY TX_ TY : Nat → Int), v = .slice ao n cap ∧ PrS w ao n FX FY TX_ TY := by
  obtain ⟨ao, n0, cap, rfl⟩ := hv
  obtain ⟨fuel, hf⟩ := h
  have c5 : Try.prog.cellsOf 61 = 4 := by kernel_rfl
  rcases Go.Deep.open_slice Try.underlying60 (show DataW.trod enc Try.prog w base spare held fuel 60 [.slice ao n0 cap] = some (d, p) from hf) with ⟨h0, _⟩ | ⟨a, len, cap', m, k, D, Pl, hcs, _, hl, hm, hmm, _, hx⟩
  · simp only [List.cons.injEq, Value.slice.injEq, and_true] at h0
    exact ⟨ao, 0, cap, fun _ => 0, fun _ => 0, fun _ => 0, fun _ => 0, by rw [h0.2.1], fun h => absurd h (by omega)⟩
  · simp only [List.cons.injEq, Value.slice.injEq, and_true] at hcs
    obtain ⟨rfl, rfl, rfl⟩ := hcs
    by_cases h0 : n0 = 0
    · subst h0
      exact ⟨_, 0, cap, fun _ => 0, fun _ => 0, fun _ => 0, fun _ => 0, rfl, fun h => absurd h (by omega)⟩
    have hlm : n0 ≤ m := by rw [hmm]; split <;> omega
    obtain ⟨b, o, spot⟩ := a
    have cells : ∀ i, i < n0 → ∃ z : (Int × Int) × Int × Int, w.cell? ((⟨b, o, spot⟩ : Addr).add (i * 4)) = some (.int .i64 z.1.1) ∧ w.cell? (((⟨b, o, spot⟩ : Addr).add (i * 4)).add 1) = some (.int .i64 z.1.2) ∧ w.cell? (((⟨b, o, spot⟩ : Addr).add (i * 4)).add 2) = some (.int .i64 z.2.1) ∧ w.cell? (((⟨b, o, spot⟩ : Addr).add (i * 4)).add 3) = some (.int .i64 z.2.2) := by
      intro i hi
      obtain ⟨cs', h1, h2⟩ := hx i (by omega)
      rw [c5] at h1
      obtain ⟨_, hlen, hcell⟩ := World.cells?_some h1
      match cs', hlen with
      | [v0, v1, v2, v3], _ =>
        obtain ⟨x, y, z, u, rfl, rfl, rfl, rfl⟩ := trodPP h2
        have e0 := hcell 0 (by omega)
        rw [show ∀ x : Addr, x.add 0 = x from fun x => by simp [Addr.add]] at e0
        exact ⟨⟨⟨x, y⟩, z, u⟩, e0, hcell 1 (by omega), hcell 2 (by omega), hcell 3 (by omega)⟩
    have hspot : spot = none := by
      obtain ⟨z, hz, _⟩ := cells 0 (by omega)
      simpa [Addr.add] using World.cell?_spot hz
    subst hspot
    obtain ⟨f, hf⟩ := Go.Deep.choose_lt cells
    refine ⟨_, n0, cap, fun i => (f i).1.1, fun i => (f i).1.2, fun i => (f i).2.1, fun i => (f i).2.2, rfl, fun _ => ⟨b, o, rfl, ?_⟩⟩
    intro i hi
    have := hf i hi
    simp only [Addr.add_lit] at this
    exact ⟨⟨this.1, this.2.1⟩, this.2.2.1, this.2.2.2⟩
set_option maxRecDepth 100000 in
theorem slice_wide_pp {w : World} {r : Reach} {b0 : Nat} {v : Value} (hv : Value.okWide Try.prog w r b0 60 v) : ∃ ao n cap, v = .slice ao n cap := by
  obtain ⟨ao, l0, c0, rfl⟩ := Go.WideShapes.okWide_slice Try.underlying60 hv
  exact ⟨_, _, _, rfl⟩
end Go.Proofs.Ytkkcnhhfdicppaa

/-
  TopRoutes, proved: for every argument that can be read as data, the Go function photonmeshtop.TopRoutes returns true: routes between pairs of places are right, cost what the table of least costs says, turned round as well, and no proof says more; those that go together cross as often as their ends on the rim say; and they can be made equally long without changing their ends; nothing that came in is changed. No conditions beside the row's own.
-/
namespace Go.Proofs.Ytkkcnhhfdicppaa
open Go.ChangeShapes Go.WideShapes Go.ChangeAt Go.RowKit Go.Joins

set_option maxRecDepth 100000 in
theorem len_3 {α : Type} {l : List α} (h : l.length = 3) : ∃ a0 a1 a2, l = [a0, a1, a2] := by
  match l, h with
  | [a0, a1, a2], _ => exact ⟨_, _, _, rfl⟩
set_option maxRecDepth 100000 in
set_option maxHeartbeats 4000000 in
theorem topRoutes_lifted (os : Os) (started : os.Started) (H : Type) (enc : TypeId × Value → H) :
    ReturnsInHanded {} Try.checked os 11 .any (Rows.topRoutesSpec.pre6 enc Try.checked.prog Try.f11 [] false) (Rows.topRoutesSpec.post enc Try.checked.prog Try.f11 false true false false) := by
  refine law_lifted started Try.func11 (by kernel_rfl)
    (ChangeSpec.witness6 (enc := enc) (C := Try.checked) false ⟨#[], #[.agg #[.int .i64 0, .int .i64 0, .int .i64 0, .int .i64 0, .slice none 0 0], .slice none 0 0, .slice none 0 0], []⟩ 8 (by kernel_rfl) (by kernel_rfl) (by kernel_rfl) (by kernel_rfl))
    rfl rfl (by rw [Try.params11]; decide +kernel) ?_ ?_
  · intro ds hd
    rw [Try.params11] at hd
    obtain ⟨d0, d1, d2, rfl⟩ := len_3 hd
    rfl
  · intro W_ base args ds ps hA hval
    rw [Try.params11] at hA hval
    obtain ⟨v0, r0, _, _, _, _, rfl, hv0, hA⟩ := ta_cons hA
    obtain ⟨v1, r1, _, _, _, _, rfl, hv1, hA⟩ := ta_cons hA
    obtain ⟨v2, r2, _, _, _, _, rfl, hv2, hA⟩ := ta_cons hA
    obtain rfl := ta_nil hA
    obtain ⟨W, H, M, B, ao, n, cp, X, Y, rfl, hn, hX⟩ := open_grid (hval 0 24 _ rfl rfl) hv0
    obtain ⟨ap, np, cpp, FX, FY, TX_, TY, rfl, hp⟩ := open_pp hv1 (slice_wide_pp (hval 1 60 _ rfl rfl))
    obtain ⟨af, nf, cf, f, rfl, hnf, hf⟩ := open_is hv2 (slice_wide (hval 2 34 _ rfl rfl))
    exact TopRoutes_any W H M B n cp np cpp nf cf ao ap af X Y FX FY TX_ TY f W_ hn hX hp hnf hf

theorem topRoutes_holds : Rows.TopRoutesSaid :=
  OpenClaim.holds_of_wide 11 Try.f11 rfl rfl rfl rfl rfl rfl rfl ⟨rfl, rfl, rfl, rfl, rfl⟩ rfl rfl rfl rfl rfl (by kernel_rfl) Try.func11 (by kernel_rfl)
    (of_decide_eq_true (by kernel_rfl)) (by unfold Func.isWrapper; rw [if_neg (of_decide_eq_false (by kernel_rfl))]; exact ⟨rfl, rfl⟩)
    (fun os started H enc _ => topRoutes_lifted os started H enc)
#print axioms topRoutes_holds
end Go.Proofs.Ytkkcnhhfdicppaa
