import Derived.Test.YtkkcnhhfdicppaaRu7
namespace Lay
theorem op_0 (X Y : Nat → Int) : opB 4 3 (blkN X Y 0) = op0 := by
  funext x y
  unfold opB onB op0 blkN
  simp
theorem F0_high {x y d v : Int} (h : F0 x y d = some v) : v ≤ 8000000 := by
  obtain ⟨hx, hy, hd⟩ := F0_dom h
  have := all0_at (P := fun x y d => match F0 x y d with | none => true | some v => decide (v ≤ 8000000)) (by decide +kernel) hx hy hd
  simp only [h] at this
  simpa using this
theorem costs0 (X Y : Nat → Int) : Costs 4 3 (blkN X Y 0) 10 5 3 2 F0 := ⟨by rw [op_0]; exact fin0, fun _ _ _ _ h => F0_high h⟩
end Lay
namespace Go.Proofs.Ytkkcnhhfdicppaa
open Go.RowKit Lay
set_option maxRecDepth 100000 in
set_option maxHeartbeats 4000000 in
/-- The sanity check of the laws. -/
theorem lawake_any (w : World) :
    Calls Try.prog 16 #[] w fun e w' => e = .returned (.bool true) ∧ Below w.heap.size w w' := by
  obtain ⟨l, hl⟩ := rt0
  have HL := Lib.hid hl
  clear hl
  go_enter Try.func16, Try.ntmps16
  go_wp2_with fail
  refine (pRoute_ok 4 3 10 5 0 0 3 2 55 0 0 55 none (fun _ => 0) (fun _ => 0) F0 l _ (fun h => absurd h (by omega)) (by decide) (by decide) (by decide) (costs0 _ _) HL.out (by decide)).mono ?_
  rintro e w1 ⟨v, rfl, hv, hb⟩
  have HB := Lib.hid hb
  clear hb hv HL
  go_wp2_with fail
  refine bodyPost_ret (v := .bool true) (by simp [results, Try.results16, go_sem]) rfl ⟨rfl, HB.out⟩
end Go.Proofs.Ytkkcnhhfdicppaa
