import Derived.Test.YtilclpldfoifkaaPs5
import Derived.Test.YtilclpldfoifkaaAw5
import Derived.Deep.DeepCutAuto
namespace Go.Proofs.Ytilclpldfoifkaa
open Go.RowKit Encl

theorem OutP_form (o : Out Rc) : ∃ p q p' q' er : Int, OutP o = .returned (.tuple #[.agg #[.int .i64 p, .int .i64 q], .agg #[.int .i64 p', .int .i64 q'], .int .i64 er]) := by
  cases o with
  | ok x => exact ⟨_, _, _, _, _, rfl⟩
  | bad k => exact ⟨_, _, _, _, _, rfl⟩
set_option maxRecDepth 100000 in
set_option maxHeartbeats 8000000 in
theorem EnclosePasses_any (a0 b0 c0 d0 a1 b1 c1 d1 a2 b2 c2 d2 a3 b3 c3 d3 : Int) (w : World) :
    Calls Try.prog 10 #[.agg #[.int .i64 a0, .int .i64 b0, .int .i64 c0, .int .i64 d0, .int .i64 a1, .int .i64 b1, .int .i64 c1, .int .i64 d1, .int .i64 a2, .int .i64 b2, .int .i64 c2, .int .i64 d2, .int .i64 a3, .int .i64 b3, .int .i64 c3, .int .i64 d3]] w fun e w' => e = .returned (.bool true) ∧ Below w.heap.size w w' := by
  obtain ⟨z1, z2, z3, z4, ze, ha⟩ := OutP_form (pasO ⟨⟨a0, b0⟩, ⟨c0, d0⟩⟩ ⟨⟨a1, b1⟩, ⟨c1, d1⟩⟩ ⟨⟨a2, b2⟩, ⟨c2, d2⟩⟩ ⟨⟨a3, b3⟩, ⟨c3, d3⟩⟩)
  have HA := Lib.hid ha
  clear ha
  go_enter Try.func10, Try.ntmps10
  go_wp2_with fail
  refine (ePasses_any a0 b0 c0 d0 a1 b1 c1 d1 a2 b2 c2 d2 a3 b3 c3 d3 _).mono ?_
  rw [HA.out]
  rintro e w1 ⟨rfl, hb⟩
  (try simp only)
  have D1 : Below w.heap.size w w1 := Below.trans (by go_grown) (hb.mono (by first | omega | (simp; done) | (simp; omega)))
  obtain ⟨k1, k2⟩ := bcl hb
  have c1_0_0 := (k1 (w.heap.size) 0 (by first | omega | (simp; done) | (simp; omega))).trans (by go_cell : _ = some (.int .i64 a0))
  have c1_0_1 := (k1 (w.heap.size) 1 (by first | omega | (simp; done) | (simp; omega))).trans (by go_cell : _ = some (.int .i64 b0))
  have c1_0_2 := (k1 (w.heap.size) 2 (by first | omega | (simp; done) | (simp; omega))).trans (by go_cell : _ = some (.int .i64 c0))
  have c1_0_3 := (k1 (w.heap.size) 3 (by first | omega | (simp; done) | (simp; omega))).trans (by go_cell : _ = some (.int .i64 d0))
  have c1_0_4 := (k1 (w.heap.size) 4 (by first | omega | (simp; done) | (simp; omega))).trans (by go_cell : _ = some (.int .i64 a1))
  have c1_0_5 := (k1 (w.heap.size) 5 (by first | omega | (simp; done) | (simp; omega))).trans (by go_cell : _ = some (.int .i64 b1))
  have c1_0_6 := (k1 (w.heap.size) 6 (by first | omega | (simp; done) | (simp; omega))).trans (by go_cell : _ = some (.int .i64 c1))
  have c1_0_7 := (k1 (w.heap.size) 7 (by first | omega | (simp; done) | (simp; omega))).trans (by go_cell : _ = some (.int .i64 d1))
  have c1_0_8 := (k1 (w.heap.size) 8 (by first | omega | (simp; done) | (simp; omega))).trans (by go_cell : _ = some (.int .i64 a2))
  have c1_0_9 := (k1 (w.heap.size) 9 (by first | omega | (simp; done) | (simp; omega))).trans (by go_cell : _ = some (.int .i64 b2))
  have c1_0_10 := (k1 (w.heap.size) 10 (by first | omega | (simp; done) | (simp; omega))).trans (by go_cell : _ = some (.int .i64 c2))
  have c1_0_11 := (k1 (w.heap.size) 11 (by first | omega | (simp; done) | (simp; omega))).trans (by go_cell : _ = some (.int .i64 d2))
  have c1_0_12 := (k1 (w.heap.size) 12 (by first | omega | (simp; done) | (simp; omega))).trans (by go_cell : _ = some (.int .i64 a3))
  have c1_0_13 := (k1 (w.heap.size) 13 (by first | omega | (simp; done) | (simp; omega))).trans (by go_cell : _ = some (.int .i64 b3))
  have c1_0_14 := (k1 (w.heap.size) 14 (by first | omega | (simp; done) | (simp; omega))).trans (by go_cell : _ = some (.int .i64 c3))
  have c1_0_15 := (k1 (w.heap.size) 15 (by first | omega | (simp; done) | (simp; omega))).trans (by go_cell : _ = some (.int .i64 d3))
  have l1_0 : w.heap.size < w1.heap.size := by have hs := hb.size; (try simp at hs); omega
  clear hb k1 k2
  go_wp2_with fail
  refine (rPasses_any a0 b0 c0 d0 a1 b1 c1 d1 a2 b2 c2 d2 a3 b3 c3 d3 _).mono ?_
  rw [HA.out]
  rintro e w2 ⟨rfl, hb⟩
  (try simp only)
  have D2 : Below w.heap.size w w2 := Below.trans (by go_grown) (hb.mono (by have := D1.size; first | omega | (simp; done) | (simp; omega)))
  obtain ⟨k1, k2⟩ := bcl hb
  have c2_1_0 := (k1 (w1.heap.size) 0 (by first | omega | (simp; done) | (simp; omega))).trans (by go_cell : _ = some (.int .i64 z1))
  have c2_1_1 := (k1 (w1.heap.size) 1 (by first | omega | (simp; done) | (simp; omega))).trans (by go_cell : _ = some (.int .i64 z2))
  have c2_2_0 := (k1 (w1.heap.size + 1) 0 (by first | omega | (simp; done) | (simp; omega))).trans (by go_cell : _ = some (.int .i64 z3))
  have c2_2_1 := (k1 (w1.heap.size + 1) 1 (by first | omega | (simp; done) | (simp; omega))).trans (by go_cell : _ = some (.int .i64 z4))
  have l2_0 : w.heap.size < w2.heap.size := by have hs := hb.size; (try simp at hs); omega
  have l2_1 : w1.heap.size < w2.heap.size := by have hs := hb.size; (try simp at hs); omega
  have l2_2 : w1.heap.size + 1 < w2.heap.size := by have hs := hb.size; (try simp at hs); omega
  clear hb k1 k2 D1 c1_0_0 c1_0_1 c1_0_2 c1_0_3 c1_0_4 c1_0_5 c1_0_6 c1_0_7 c1_0_8 c1_0_9 c1_0_10 c1_0_11 c1_0_12 c1_0_13 c1_0_14 c1_0_15
  go_wp2_with fail
  refine (eawake_any _).mono ?_
  rintro e w3 ⟨rfl, hb⟩
  (try simp only)
  have D3 : Below w.heap.size w w3 := Below.trans (by go_grown) (hb.mono (by have := D2.size; first | omega | (simp; done) | (simp; omega)))
  obtain ⟨k1, k2⟩ := bcl hb
  have l3_0 : w1.heap.size < w3.heap.size := by have hs := hb.size; (try simp at hs); omega
  have l3_1 : w1.heap.size + 1 < w3.heap.size := by have hs := hb.size; (try simp at hs); omega
  have l3_2 : w2.heap.size < w3.heap.size := by have hs := hb.size; (try simp at hs); omega
  have l3_3 : w2.heap.size + 1 < w3.heap.size := by have hs := hb.size; (try simp at hs); omega
  clear hb k1 k2 D2 c2_1_0 c2_1_1 c2_2_0 c2_2_1
  go_wp2_with fail
  go_returns
  exact ⟨rfl, D3⟩
end Go.Proofs.Ytilclpldfoifkaa
