import Derived.Test.YtkcbkcgampoclaaFg9
namespace Go.Proofs.Ytkcbkcgampoclaa
open Go.RowKit Prb
attribute [local go_sem high] run_sameA4 run_sameA4n run_sameFr run_sameFrn run_sameRt run_sameRtn
set_option maxRecDepth 100000 in
set_option maxHeartbeats 2000000 in
theorem awake_any (w : World) : Calls Try.prog 13 #[] w fun e w' => e = .returned (.bool true) ∧ Below w.heap.size w w' := by
  have HE : Hid (viS 12 8 2 = ((17, 36), 0)) := Lib.hid (by decide +kernel)
  go_enter Try.func13, Try.ntmps13
  go_wp2_with fail
  refine (pVisibility_any _ _ _ _).mono ?_
  rw [HE.out]
  unfold ViRet
  rintro e w1 ⟨rfl, hb⟩
  have hbl := hb
  have hb0 := hb
  clear hb
  go_wp2_with fail
  go_returns
  have hsz := hb0.size
  exact ⟨by first | rfl | (simp; done), by first | go_grown | exact (hb0.alloc hsz _)⟩
end Go.Proofs.Ytkcbkcgampoclaa
