import Derived.Test.YtdhlikedjephmaaHv
namespace Heat
def sF (i j : Nat) : Int := if i = j then 100 else if i = 0 then 10 else 20
theorem s_vals : (sF 0 0 = 100 ∧ sF 0 1 = 10 ∧ sF 1 0 = 20 ∧ sF 1 1 = 100) := by decide
theorem s_ok : okG 2 (fun _ => 2) sF = true := by decide +kernel
theorem s_det : detN 2 (gnL 2 2 sF) = 9800 := by decide +kernel
theorem s_det0 : detN 2 (wiL 0 2 (padI 2 (fun _ => 1000)) (gnL 2 2 sF)) = 90000 := by decide +kernel
theorem s_det1 : detN 2 (wiL 1 2 (padI 2 (fun _ => 1000)) (gnL 2 2 sF)) = 80000 := by decide +kernel
theorem s_bd : ∀ k, k < 2 → (detN 2 (wiL k 2 (padI 2 (fun _ => 1000)) (gnL 2 2 sF))).natAbs ≤ 1000000000000000000 := by
  intro k hk
  rcases (show k = 0 ∨ k = 1 by omega) with rfl | rfl
  · rw [s_det0]; decide
  · rw [s_det1]; decide
theorem s_rat : ratN 90000 9800 = 450 ∧ ratD 90000 9800 = 49 := by decide +kernel
theorem s_want : inB 2 (fun _ => 1000) 2 (-1000000) 1000000 = true := by decide +kernel
end Heat
namespace Go.Proofs.Ytdhlikedjephmaa
open Go.RowKit Heat
set_option maxRecDepth 100000 in
set_option maxHeartbeats 8000000 in
theorem sane_any (w : World) :
    Calls Try.prog 14 #[] w fun e w' => e = .returned (.bool true) ∧ Below w.heap.size w w' := by
  have hR : Rowsw ((((w.alloc (Obj.cells #[.int .i64 100, .int .i64 10] 3)).alloc (Obj.cells #[.int .i64 20, .int .i64 100] 3)).alloc (Obj.cells #[.slice (some ⟨w.heap.size, 0, none⟩) 2 2, .slice (some ⟨w.heap.size + 1, 0, none⟩) 2 2] 24)).alloc (Obj.cells #[.slice (some ⟨w.heap.size + 1 + 1, 0, none⟩) 2 2] 40)) (some ⟨w.heap.size + 1 + 1, 0, none⟩) 2 (fun i => if i = 0 then some ⟨w.heap.size, 0, none⟩ else some ⟨w.heap.size + 1, 0, none⟩) (fun _ => 2) (fun _ => 2) sF := by
    refine ⟨fun _ => ⟨_, _, rfl, fun i hi => ?_⟩, fun i hi => ⟨show 2 ≤ 9223372036854775807 by decide, fun _ => ?_⟩⟩
    · rcases (show i = 0 ∨ i = 1 by omega) with rfl | rfl <;> go_cell
    · rcases (show i = 0 ∨ i = 1 by omega) with rfl | rfl
      · exact ⟨_, _, rfl, fun j hj => by have hj' : j < 2 := hj; rcases (show j = 0 ∨ j = 1 by omega) with rfl | rfl <;> simp only [s_vals.1, s_vals.2.1] <;> go_cell⟩
      · exact ⟨_, _, rfl, fun j hj => by have hj' : j < 2 := hj; rcases (show j = 0 ∨ j = 1 by omega) with rfl | rfl <;> simp only [s_vals.2.2.1, s_vals.2.2.2] <;> go_cell⟩
  have hbx : ((((w.alloc (Obj.cells #[.int .i64 100, .int .i64 10] 3)).alloc (Obj.cells #[.int .i64 20, .int .i64 100] 3)).alloc (Obj.cells #[.slice (some ⟨w.heap.size, 0, none⟩) 2 2, .slice (some ⟨w.heap.size + 1, 0, none⟩) 2 2] 24)).alloc (Obj.cells #[.slice (some ⟨w.heap.size + 1 + 1, 0, none⟩) 2 2] 40)).cell? ⟨w.heap.size + 1 + 1 + 1, 0, none⟩ = some (.slice (some ⟨w.heap.size + 1 + 1, 0, none⟩) 2 2) := by go_cell
  have hb0 : Below w.heap.size w ((((w.alloc (Obj.cells #[.int .i64 100, .int .i64 10] 3)).alloc (Obj.cells #[.int .i64 20, .int .i64 100] 3)).alloc (Obj.cells #[.slice (some ⟨w.heap.size, 0, none⟩) 2 2, .slice (some ⟨w.heap.size + 1, 0, none⟩) 2 2] 24)).alloc (Obj.cells #[.slice (some ⟨w.heap.size + 1 + 1, 0, none⟩) 2 2] 40)) := by go_grown
  have hsz : w.heap.size + 1 + 1 + 1 < ((((w.alloc (Obj.cells #[.int .i64 100, .int .i64 10] 3)).alloc (Obj.cells #[.int .i64 20, .int .i64 100] 3)).alloc (Obj.cells #[.slice (some ⟨w.heap.size, 0, none⟩) 2 2, .slice (some ⟨w.heap.size + 1, 0, none⟩) 2 2] 24)).alloc (Obj.cells #[.slice (some ⟨w.heap.size + 1 + 1, 0, none⟩) 2 2] 40)).heap.size := by simp
  go_enter Try.func14, Try.ntmps14
  go_upto_region 2 with fail
  generalize ((((w.alloc (Obj.cells #[.int .i64 100, .int .i64 10] 3)).alloc (Obj.cells #[.int .i64 20, .int .i64 100] 3)).alloc (Obj.cells #[.slice (some ⟨w.heap.size, 0, none⟩) 2 2, .slice (some ⟨w.heap.size + 1, 0, none⟩) 2 2] 24)).alloc (Obj.cells #[.slice (some ⟨w.heap.size + 1 + 1, 0, none⟩) 2 2] 40)) = W at *
  have HB0 := Lib.hid hb0
  have HR := Lib.hid hR
  clear hb0 hR
  go_wp2_with fail
  refine (hDet_ok 2 2 _ _ _ _ sF _ (by omega) HR.out s_ok).mono ?_
  rw [s_det]
  rintro e w1 ⟨rfl, hb⟩
  have HR1 := Lib.hid (HR.out.keep hb)
  have HB1 := Lib.hid (HB0.out.trans (hb.mono HB0.out.size))
  have hs1 : w.heap.size + 1 + 1 + 1 < w1.heap.size := by have := hb.size; omega
  have hbx1 := (hb.cell (p := ⟨w.heap.size + 1 + 1 + 1, 0, none⟩) (by simp only; omega)).trans hbx
  clear hb HR HB0 hsz hbx
  have hI : Ints (w1.alloc (Obj.cells #[.int .i64 1000, .int .i64 1000] 3)) (some ⟨w1.heap.size, 0, none⟩) 2 (fun _ => 1000) := fun _ => ⟨_, _, rfl, fun j hj => by rcases (show j = 0 ∨ j = 1 by omega) with rfl | rfl <;> go_cell⟩
  have hb2 : Below w1.heap.size w1 (w1.alloc (Obj.cells #[.int .i64 1000, .int .i64 1000] 3)) := (Below.refl _ _).alloc (Nat.le_refl _) _
  have HR2 := Lib.hid (HR1.out.keep hb2)
  have HB2 := Lib.hid (HB1.out.trans (hb2.mono HB1.out.size))
  have HI2 := Lib.hid hI
  clear hb2 hI HR1
  go_wp2_with fail
  refine (hSolve_ok 2 2 _ _ _ _ sF 2 2 _ (fun _ => 1000) _ (by omega) HR2.out s_ok HI2.out s_want (by rw [s_det]; decide) (by rw [s_det]; decide) s_bd).mono ?_
  rintro e w3 ⟨g, cap', rfl, hr, hg, hl, hc, hm, hb⟩
  have HB3 := HB2.out.trans (hb.mono HB2.out.size)
  obtain ⟨⟨c0, c1⟩, _⟩ := hr 0 (by omega)
  simp only [s_det, s_det0, s_rat.1, s_rat.2] at c0 c1
  clear hr hb HR2 HB2 HI2 hbx1 HB1
  go_wp2_with fail
  go_returns
  exact ⟨rfl, HB3⟩
end Go.Proofs.Ytdhlikedjephmaa
