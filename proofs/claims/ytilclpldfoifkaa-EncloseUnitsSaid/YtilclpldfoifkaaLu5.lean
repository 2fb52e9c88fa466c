import Derived.Test.YtilclpldfoifkaaR5v
import Derived.Test.YtilclpldfoifkaaLs5
import Derived.Deep.DeepCutAuto
namespace Go.Proofs.Ytilclpldfoifkaa
open Go.RowKit Encl
set_option maxRecDepth 100000 in
set_option maxHeartbeats 8000000 in
theorem EncloseUnits_any (n : Int) (w : World) (hn0 : -9223372036854775808 ≤ n) (hn1 : n ≤ 9223372036854775807) :
    Calls Try.prog 7 #[.int .i64 n] w fun e w' => e = .returned (.bool true) ∧ Below w.heap.size w w' := by
  obtain ⟨p1, q1, p2, q2, e1, ha⟩ := OutR_form (unitS n)
  have HA := Lib.hid ha
  clear ha
  go_enter Try.func7, Try.ntmps7
  go_wp2_with fail
  refine (Unit_any n _).mono ?_
  rw [HA.out]
  rintro e w1 ⟨rfl, hb⟩
  (try simp only)
  have D1 : Below w.heap.size w w1 := Below.trans (by go_grown) (hb.mono (by first | omega | (simp; done) | (simp; omega)))
  obtain ⟨k1, k2⟩ := bcl hb
  clear hb k1 k2
  have lz1 := D1.size
  go_wp2_with fail
  refine (rUnit_any n _ hn0 hn1).mono ?_
  rw [HA.out]
  rintro e w2 ⟨rfl, hb⟩
  (try simp only)
  have D2 : Below w.heap.size w w2 := Below.trans (by go_grown) (hb.mono (by have := D1.size; first | omega | (simp; done) | (simp; omega)))
  obtain ⟨k1, k2⟩ := bcl hb
  have c2_0_0 := (k1 (w1.heap.size) 0 (by first | omega | (simp; done) | (simp; omega))).trans (by go_cell : _ = some (.int .i64 p1))
  have c2_0_1 := (k1 (w1.heap.size) 1 (by first | omega | (simp; done) | (simp; omega))).trans (by go_cell : _ = some (.int .i64 q1))
  have c2_0_2 := (k1 (w1.heap.size) 2 (by first | omega | (simp; done) | (simp; omega))).trans (by go_cell : _ = some (.int .i64 p2))
  have c2_0_3 := (k1 (w1.heap.size) 3 (by first | omega | (simp; done) | (simp; omega))).trans (by go_cell : _ = some (.int .i64 q2))
  have l2_0 : w1.heap.size < w2.heap.size := by have hs := hb.size; (try simp at hs); omega
  clear hb k1 k2 D1 
  have lz2 := D2.size
  go_wp2_with fail
  refine (eawake_any _).mono ?_
  rintro e w3 ⟨rfl, hb⟩
  (try simp only)
  have D3 : Below w.heap.size w w3 := Below.trans (by go_grown) (hb.mono (by have := D2.size; first | omega | (simp; done) | (simp; omega)))
  obtain ⟨k1, k2⟩ := bcl hb
  have l3_0 : w1.heap.size < w3.heap.size := by have hs := hb.size; (try simp at hs); omega
  have l3_1 : w2.heap.size < w3.heap.size := by have hs := hb.size; (try simp at hs); omega
  clear hb k1 k2 D2 c2_0_0 c2_0_1 c2_0_2 c2_0_3
  go_wp2_with fail
  go_returns
  exact ⟨rfl, D3⟩
end Go.Proofs.Ytilclpldfoifkaa
