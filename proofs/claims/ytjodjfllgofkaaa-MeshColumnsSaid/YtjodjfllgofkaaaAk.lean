import Derived.Test.YtjodjfllgofkaaaMo
namespace Go.Proofs.Ytjodjfllgofkaaa
open Go.RowKit Amp
attribute [local go_sem] ix0 ix1 ix2 ix3 jx0 jx1 jx2 jx3
attribute [local go_sem high] run_eqNum run_neNum

/-- The items of the sanity check. -/
def akF (_ : Nat) : It := ⟨2, 1, 0, ⟨#[]⟩⟩
theorem ak_ask : askS ((2 : Nat) : Int) 2 akF = 0 := by
  have h1 : itF 2 (akF 0) = true := by
    unfold itF itB itW akF
    simp
  have h2 : fitTo 2 akF 2 = true := by
    simp only [fitTo]
    rw [show itF 2 (akF 1) = true from h1, h1]; rfl
  unfold askS
  rw [if_pos (by omega), if_pos ⟨by omega, by simpa using h2⟩]
theorem ak_e : (prodS 2 akF 2).2 = 0 := by decide +kernel
theorem ak_0 : (prodS 2 akF 2).1 0 = ⟨⟨0, 0, 0, 0⟩, 0⟩ := by decide +kernel
theorem ak_1 : (prodS 2 akF 2).1 1 = ⟨⟨0, 0, 1, 0⟩, 0⟩ := by decide +kernel
set_option maxRecDepth 100000 in
set_option maxHeartbeats 2000000 in
theorem mawake_any (w : World) :
    Calls Try.prog 9 #[] w fun e w' => e = .returned (.bool true) ∧ Below w.heap.size w w' := by
  go_enter Try.func9, Try.ntmps9
  go_wp2_with fail
  refine (matrixOf_ok 2 2 2 (some ⟨w.heap.size, 0, none⟩) akF _ (by omega) (fun _ => ⟨w.heap.size, 0, rfl, fun i hi => by
    rcases (show i = 0 ∨ i = 1 by omega) with rfl | rfl
    · refine ⟨?_, ?_, ?_, ?_, by unfold maxLen; decide⟩ <;> (unfold akF; go_cell)
    · refine ⟨?_, ?_, ?_, ?_, by unfold maxLen; decide⟩ <;> (unfold akF; go_cell)⟩) (Lib.hid ak_ask)).mono ?_
  rintro e w1 ⟨hm, hb⟩
  rcases hm with ⟨_, g, cap, rfl, hnu, hg1, hg2, hg3⟩ | ⟨h0, _⟩
  · have e0 := (hnu 0 (by omega)).1
    have e1 := (hnu 1 (by omega)).1
    rw [ak_0] at e0
    rw [ak_1] at e1
    obtain ⟨c0, c1, c2, c3, c4⟩ := e0
    obtain ⟨d0, d1, d2, d3, d4⟩ := e1
    simp only [Nat.zero_mul, Nat.one_mul, Nat.zero_add] at c0 c1 c2 c3 c4 d0 d1 d2 d3 d4
    have D1 : Below w.heap.size w w1 := Below.trans (by go_grown) (hb.mono (by simp))
    have hsz := D1.size
    have hgl : g < w1.heap.size := World.block_lt_of_cell? w1 _ c0
    clear hnu hb hg1 hg2 hg3
    go_wp2_with fail
    go_returns
    exact ⟨rfl, by go_grown⟩
  · exact absurd ak_e h0
end Go.Proofs.Ytjodjfllgofkaaa
