import Derived.Test.YtilclpldfoifkaaR5u
import Derived.Test.YtilclpldfoifkaaAw5
import Derived.Deep.DeepCutAuto
namespace Go.Proofs.Ytilclpldfoifkaa
open Go.RowKit Encl

theorem OutS_form (o : Out Sp) : ∃ p q er : Int, OutS o = .returned (.tuple #[.agg #[.int .i64 p, .int .i64 q], .int .i64 er]) := by
  cases o with
  | ok x => exact ⟨_, _, _, rfl⟩
  | bad k => exact ⟨_, _, _, rfl⟩
set_option maxRecDepth 100000 in
set_option maxHeartbeats 8000000 in
theorem EnclosePowers_any (a b c d s t : Int) (w : World) :
    Calls Try.prog 6 #[.agg #[.int .i64 a, .int .i64 b, .int .i64 c, .int .i64 d], .agg #[.int .i64 s, .int .i64 t]] w fun e w' => e = .returned (.bool true) ∧ Below w.heap.size w w' := by
  obtain ⟨p1, q1, e1, ha⟩ := OutS_form (powO ⟨⟨a, b⟩, ⟨c, d⟩⟩)
  obtain ⟨p3, q3, e2, hs⟩ := OutS_form (rootO ⟨s, t⟩)
  have HA := Lib.hid ha
  have HS := Lib.hid hs
  clear ha hs
  go_enter Try.func6, Try.ntmps6
  go_wp2_with fail
  refine (ePower_any a b c d _).mono ?_
  rw [HA.out]
  rintro e w1 ⟨rfl, hb⟩
  (try simp only)
  have D1 : Below w.heap.size w w1 := Below.trans (by go_grown) (hb.mono (by first | omega | (simp; done) | (simp; omega)))
  obtain ⟨k1, k2⟩ := bcl hb
  have c1_0_0 := (k1 (w.heap.size) 0 (by first | omega | (simp; done) | (simp; omega))).trans (by go_cell : _ = some (.int .i64 a))
  have c1_0_1 := (k1 (w.heap.size) 1 (by first | omega | (simp; done) | (simp; omega))).trans (by go_cell : _ = some (.int .i64 b))
  have c1_0_2 := (k1 (w.heap.size) 2 (by first | omega | (simp; done) | (simp; omega))).trans (by go_cell : _ = some (.int .i64 c))
  have c1_0_3 := (k1 (w.heap.size) 3 (by first | omega | (simp; done) | (simp; omega))).trans (by go_cell : _ = some (.int .i64 d))
  have c1_1_0 := (k1 (w.heap.size + 1) 0 (by first | omega | (simp; done) | (simp; omega))).trans (by go_cell : _ = some (.int .i64 s))
  have c1_1_1 := (k1 (w.heap.size + 1) 1 (by first | omega | (simp; done) | (simp; omega))).trans (by go_cell : _ = some (.int .i64 t))
  have l1_0 : w.heap.size < w1.heap.size := by have hs := hb.size; (try simp at hs); omega
  have l1_1 : w.heap.size + 1 < w1.heap.size := by have hs := hb.size; (try simp at hs); omega
  clear hb k1 k2
  go_wp2_with fail
  refine (rPower_any a b c d _).mono ?_
  rw [HA.out]
  rintro e w2 ⟨rfl, hb⟩
  (try simp only)
  have D2 : Below w.heap.size w w2 := Below.trans (by go_grown) (hb.mono (by have := D1.size; first | omega | (simp; done) | (simp; omega)))
  obtain ⟨k1, k2⟩ := bcl hb
  have c2_0_0 := (k1 (w.heap.size) 0 (by first | omega | (simp; done) | (simp; omega))).trans (by go_cell : _ = some (.int .i64 a))
  have c2_0_1 := (k1 (w.heap.size) 1 (by first | omega | (simp; done) | (simp; omega))).trans (by go_cell : _ = some (.int .i64 b))
  have c2_0_2 := (k1 (w.heap.size) 2 (by first | omega | (simp; done) | (simp; omega))).trans (by go_cell : _ = some (.int .i64 c))
  have c2_0_3 := (k1 (w.heap.size) 3 (by first | omega | (simp; done) | (simp; omega))).trans (by go_cell : _ = some (.int .i64 d))
  have c2_1_0 := (k1 (w.heap.size + 1) 0 (by first | omega | (simp; done) | (simp; omega))).trans (by go_cell : _ = some (.int .i64 s))
  have c2_1_1 := (k1 (w.heap.size + 1) 1 (by first | omega | (simp; done) | (simp; omega))).trans (by go_cell : _ = some (.int .i64 t))
  have c2_2_0 := (k1 (w1.heap.size) 0 (by first | omega | (simp; done) | (simp; omega))).trans (by go_cell : _ = some (.int .i64 p1))
  have c2_2_1 := (k1 (w1.heap.size) 1 (by first | omega | (simp; done) | (simp; omega))).trans (by go_cell : _ = some (.int .i64 q1))
  have l2_0 : w.heap.size < w2.heap.size := by have hs := hb.size; (try simp at hs); omega
  have l2_1 : w.heap.size + 1 < w2.heap.size := by have hs := hb.size; (try simp at hs); omega
  have l2_2 : w1.heap.size < w2.heap.size := by have hs := hb.size; (try simp at hs); omega
  clear hb k1 k2 D1 c1_0_0 c1_0_1 c1_0_2 c1_0_3 c1_1_0 c1_1_1
  go_wp2_with fail
  refine (eRoot_any s t _).mono ?_
  rw [HS.out]
  rintro e w3 ⟨rfl, hb⟩
  (try simp only)
  have D3 : Below w.heap.size w w3 := Below.trans (by go_grown) (hb.mono (by have := D2.size; first | omega | (simp; done) | (simp; omega)))
  obtain ⟨k1, k2⟩ := bcl hb
  have c3_0_0 := (k1 (w.heap.size) 0 (by first | omega | (simp; done) | (simp; omega))).trans (by go_cell : _ = some (.int .i64 a))
  have c3_0_1 := (k1 (w.heap.size) 1 (by first | omega | (simp; done) | (simp; omega))).trans (by go_cell : _ = some (.int .i64 b))
  have c3_0_2 := (k1 (w.heap.size) 2 (by first | omega | (simp; done) | (simp; omega))).trans (by go_cell : _ = some (.int .i64 c))
  have c3_0_3 := (k1 (w.heap.size) 3 (by first | omega | (simp; done) | (simp; omega))).trans (by go_cell : _ = some (.int .i64 d))
  have c3_1_0 := (k1 (w.heap.size + 1) 0 (by first | omega | (simp; done) | (simp; omega))).trans (by go_cell : _ = some (.int .i64 s))
  have c3_1_1 := (k1 (w.heap.size + 1) 1 (by first | omega | (simp; done) | (simp; omega))).trans (by go_cell : _ = some (.int .i64 t))
  have c3_2_0 := (k1 (w1.heap.size) 0 (by first | omega | (simp; done) | (simp; omega))).trans (by go_cell : _ = some (.int .i64 p1))
  have c3_2_1 := (k1 (w1.heap.size) 1 (by first | omega | (simp; done) | (simp; omega))).trans (by go_cell : _ = some (.int .i64 q1))
  have c3_3_0 := (k1 (w2.heap.size) 0 (by first | omega | (simp; done) | (simp; omega))).trans (by go_cell : _ = some (.int .i64 p1))
  have c3_3_1 := (k1 (w2.heap.size) 1 (by first | omega | (simp; done) | (simp; omega))).trans (by go_cell : _ = some (.int .i64 q1))
  have l3_0 : w.heap.size < w3.heap.size := by have hs := hb.size; (try simp at hs); omega
  have l3_1 : w.heap.size + 1 < w3.heap.size := by have hs := hb.size; (try simp at hs); omega
  have l3_2 : w1.heap.size < w3.heap.size := by have hs := hb.size; (try simp at hs); omega
  have l3_3 : w2.heap.size < w3.heap.size := by have hs := hb.size; (try simp at hs); omega
  clear hb k1 k2 D2 c2_0_0 c2_0_1 c2_0_2 c2_0_3 c2_1_0 c2_1_1 c2_2_0 c2_2_1
  go_wp2_with fail
  refine (rRoot_any s t _).mono ?_
  rw [HS.out]
  rintro e w4 ⟨rfl, hb⟩
  (try simp only)
  have D4 : Below w.heap.size w w4 := Below.trans (by go_grown) (hb.mono (by have := D3.size; first | omega | (simp; done) | (simp; omega)))
  obtain ⟨k1, k2⟩ := bcl hb
  have c4_0_0 := (k1 (w.heap.size) 0 (by first | omega | (simp; done) | (simp; omega))).trans (by go_cell : _ = some (.int .i64 a))
  have c4_0_1 := (k1 (w.heap.size) 1 (by first | omega | (simp; done) | (simp; omega))).trans (by go_cell : _ = some (.int .i64 b))
  have c4_0_2 := (k1 (w.heap.size) 2 (by first | omega | (simp; done) | (simp; omega))).trans (by go_cell : _ = some (.int .i64 c))
  have c4_0_3 := (k1 (w.heap.size) 3 (by first | omega | (simp; done) | (simp; omega))).trans (by go_cell : _ = some (.int .i64 d))
  have c4_1_0 := (k1 (w.heap.size + 1) 0 (by first | omega | (simp; done) | (simp; omega))).trans (by go_cell : _ = some (.int .i64 s))
  have c4_1_1 := (k1 (w.heap.size + 1) 1 (by first | omega | (simp; done) | (simp; omega))).trans (by go_cell : _ = some (.int .i64 t))
  have c4_2_0 := (k1 (w1.heap.size) 0 (by first | omega | (simp; done) | (simp; omega))).trans (by go_cell : _ = some (.int .i64 p1))
  have c4_2_1 := (k1 (w1.heap.size) 1 (by first | omega | (simp; done) | (simp; omega))).trans (by go_cell : _ = some (.int .i64 q1))
  have c4_3_0 := (k1 (w2.heap.size) 0 (by first | omega | (simp; done) | (simp; omega))).trans (by go_cell : _ = some (.int .i64 p1))
  have c4_3_1 := (k1 (w2.heap.size) 1 (by first | omega | (simp; done) | (simp; omega))).trans (by go_cell : _ = some (.int .i64 q1))
  have c4_4_0 := (k1 (w3.heap.size) 0 (by first | omega | (simp; done) | (simp; omega))).trans (by go_cell : _ = some (.int .i64 p3))
  have c4_4_1 := (k1 (w3.heap.size) 1 (by first | omega | (simp; done) | (simp; omega))).trans (by go_cell : _ = some (.int .i64 q3))
  have l4_0 : w.heap.size < w4.heap.size := by have hs := hb.size; (try simp at hs); omega
  have l4_1 : w.heap.size + 1 < w4.heap.size := by have hs := hb.size; (try simp at hs); omega
  have l4_2 : w1.heap.size < w4.heap.size := by have hs := hb.size; (try simp at hs); omega
  have l4_3 : w2.heap.size < w4.heap.size := by have hs := hb.size; (try simp at hs); omega
  have l4_4 : w3.heap.size < w4.heap.size := by have hs := hb.size; (try simp at hs); omega
  clear hb k1 k2 D3 c3_0_0 c3_0_1 c3_0_2 c3_0_3 c3_1_0 c3_1_1 c3_2_0 c3_2_1 c3_3_0 c3_3_1
  go_wp2_with fail
  refine (eawake_any _).mono ?_
  rintro e w5 ⟨rfl, hb⟩
  (try simp only)
  have D5 : Below w.heap.size w w5 := Below.trans (by go_grown) (hb.mono (by have := D4.size; first | omega | (simp; done) | (simp; omega)))
  obtain ⟨k1, k2⟩ := bcl hb
  have l5_0 : w.heap.size < w5.heap.size := by have hs := hb.size; (try simp at hs); omega
  have l5_1 : w.heap.size + 1 < w5.heap.size := by have hs := hb.size; (try simp at hs); omega
  have l5_2 : w1.heap.size < w5.heap.size := by have hs := hb.size; (try simp at hs); omega
  have l5_3 : w2.heap.size < w5.heap.size := by have hs := hb.size; (try simp at hs); omega
  have l5_4 : w3.heap.size < w5.heap.size := by have hs := hb.size; (try simp at hs); omega
  have l5_5 : w4.heap.size < w5.heap.size := by have hs := hb.size; (try simp at hs); omega
  clear hb k1 k2 D4 c4_0_0 c4_0_1 c4_0_2 c4_0_3 c4_1_0 c4_1_1 c4_2_0 c4_2_1 c4_3_0 c4_3_1 c4_4_0 c4_4_1
  go_wp2_with fail
  go_returns
  exact ⟨rfl, D5⟩
end Go.Proofs.Ytilclpldfoifkaa
