import Derived.Test.YtpjfpkhcadombaaCr
namespace Go.Proofs.Ytpjfpkhcadombaa
open Go.RowKit Prm Amp
def f201 (i : Nat) : Int := if i = 0 then 2 else if i = 1 then 0 else 1
theorem f201_cells {w : World} {b : Nat} (h0 : w.cell? ⟨b, 0, none⟩ = some (.int .i64 2)) (h1 : w.cell? ⟨b, 1, none⟩ = some (.int .i64 0)) (h2 : w.cell? ⟨b, 2, none⟩ = some (.int .i64 1)) : ∀ i, i < 3 → w.cell? ⟨b, 0 + i, none⟩ = some (.int .i64 (f201 i)) := by
  intro i hi
  rw [Nat.zero_add]
  rcases (show i = 0 ∨ i = 1 ∨ i = 2 by omega) with rfl | rfl | rfl
  · exact h0
  · exact h1
  · exact h2
set_option maxRecDepth 100000 in
set_option maxHeartbeats 4000000 in
theorem sane_any (w : World) : Calls Try.prog 6 #[] w fun e w' => e = .returned (.bool true) ∧ Below w.heap.size w w' := by
  have HP : Hid (permB 3 f201 = true) := Lib.hid (by decide)
  have HV : Hid (inv 3 f201 = 2) := Lib.hid (by decide)
  have HX : Hid (exs 3 2 f201 = [0, 1]) := Lib.hid (by decide)
  go_enter Try.func6, Try.ntmps6
  go_wp2_with fail
  refine (inversions_ok 3 3 w.heap.size 0 f201 _ (f201_cells (by go_cell) (by go_cell) (by go_cell)) HP.out).mono ?_
  rw [HV.out]
  rintro e w1 ⟨rfl, hb⟩
  have D1 : Below w.heap.size w w1 := Below.trans (by go_grown) (hb.mono (by first | omega | (simp; done) | (simp; omega)))
  have HD1 := Lib.hid D1
  clear D1 hb
  go_wp2_with fail
  refine (crossings_ok 3 3 w1.heap.size 0 f201 _ (f201_cells (by go_cell) (by go_cell) (by go_cell)) HP.out (by omega)).mono ?_
  rw [HV.out, HX.out]
  rintro e w2 ⟨⟨ao, cap, rfl, hit⟩, hb⟩
  have D2 : Below w.heap.size w w2 := (HD1.out.alloc HD1.out.size _).trans (hb.mono (by have := HD1.out.size; simp; omega))
  obtain ⟨g, o, rfl, hc⟩ := hit (by simp)
  have c0 : w2.cell? ⟨g, o + 1, none⟩ = some (.int .i64 1) := (hc 0 (by simp)).2.1
  have c1 : w2.cell? ⟨g, o + 4 + 1, none⟩ = some (.int .i64 2) := (hc 1 (by simp)).2.1
  clear hit hc hb
  go_wp2_with fail
  go_returns
  exact ⟨rfl, D2⟩
end Go.Proofs.Ytpjfpkhcadombaa
