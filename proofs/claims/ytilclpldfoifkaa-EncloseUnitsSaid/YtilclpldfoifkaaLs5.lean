import Derived.Test.YtilclpldfoifkaaRb
import Derived.Test.YtilclpldfoifkaaCbA
import Derived.Test.YtilclpldfoifkaaCbS
import Derived.Test.YtilclpldfoifkaaAw5
import Derived.Deep.DeepCutAuto
namespace Go.Proofs.Ytilclpldfoifkaa
open Go.RowKit Encl

theorem OutR_form (o : Out Rc) : ∃ p q p' q' er : Int, OutR o = .returned (.tuple #[.agg #[.int .i64 p, .int .i64 q, .int .i64 p', .int .i64 q'], .int .i64 er]) := by
  cases o with
  | ok x => exact ⟨_, _, _, _, _, rfl⟩
  | bad k => exact ⟨_, _, _, _, _, rfl⟩
set_option maxRecDepth 100000 in
set_option maxHeartbeats 8000000 in
theorem EncloseSums_any (a b c d s t u v : Int) (w : World) :
    Calls Try.prog 3 #[.agg #[.int .i64 a, .int .i64 b, .int .i64 c, .int .i64 d], .agg #[.int .i64 s, .int .i64 t, .int .i64 u, .int .i64 v]] w fun e w' => e = .returned (.bool true) ∧ Below w.heap.size w w' := by
  obtain ⟨p1, q1, p2, q2, e1, ha⟩ := OutR_form (onR2 addR ⟨⟨a, b⟩, ⟨c, d⟩⟩ ⟨⟨s, t⟩, ⟨u, v⟩⟩)
  obtain ⟨p3, q3, p4, q4, e2, hs⟩ := OutR_form (onR2 subR ⟨⟨a, b⟩, ⟨c, d⟩⟩ ⟨⟨s, t⟩, ⟨u, v⟩⟩)
  obtain ⟨bv, hbv⟩ : ∃ bv, okS ⟨a, b⟩ = bv := ⟨_, rfl⟩
  have HA := Lib.hid ha
  have HS := Lib.hid hs
  have HV := Lib.hid hbv
  clear ha hs hbv
  go_enter Try.func3, Try.ntmps3
  go_wp2_with fail
  refine (eAdd_any a b c d s t u v _).mono ?_
  rw [HA.out]
  rintro e w1 ⟨rfl, hb⟩
  (try simp only)
  have D1 : Below w.heap.size w w1 := Below.trans (by go_grown) (hb.mono (by first | omega | (simp; done) | (simp; omega)))
  obtain ⟨k1, k2⟩ := bcl hb
  have c1_0_0 := (k1 (w.heap.size) 0 (by first | omega | (simp; done) | (simp; omega))).trans (by go_cell : _ = some (.int .i64 a))
  have c1_0_1 := (k1 (w.heap.size) 1 (by first | omega | (simp; done) | (simp; omega))).trans (by go_cell : _ = some (.int .i64 b))
  have c1_0_2 := (k1 (w.heap.size) 2 (by first | omega | (simp; done) | (simp; omega))).trans (by go_cell : _ = some (.int .i64 c))
  have c1_0_3 := (k1 (w.heap.size) 3 (by first | omega | (simp; done) | (simp; omega))).trans (by go_cell : _ = some (.int .i64 d))
  have c1_1_0 := (k1 (w.heap.size + 1) 0 (by first | omega | (simp; done) | (simp; omega))).trans (by go_cell : _ = some (.int .i64 s))
  have c1_1_1 := (k1 (w.heap.size + 1) 1 (by first | omega | (simp; done) | (simp; omega))).trans (by go_cell : _ = some (.int .i64 t))
  have c1_1_2 := (k1 (w.heap.size + 1) 2 (by first | omega | (simp; done) | (simp; omega))).trans (by go_cell : _ = some (.int .i64 u))
  have c1_1_3 := (k1 (w.heap.size + 1) 3 (by first | omega | (simp; done) | (simp; omega))).trans (by go_cell : _ = some (.int .i64 v))
  have l1_0 : w.heap.size < w1.heap.size := by have hs := hb.size; (try simp at hs); omega
  have l1_1 : w.heap.size + 1 < w1.heap.size := by have hs := hb.size; (try simp at hs); omega
  clear hb k1 k2
  go_wp2_with fail
  refine (rAdd_any a b c d s t u v _).mono ?_
  rw [HA.out]
  rintro e w2 ⟨rfl, hb⟩
  (try simp only)
  have D2 : Below w.heap.size w w2 := Below.trans (by go_grown) (hb.mono (by have := D1.size; first | omega | (simp; done) | (simp; omega)))
  obtain ⟨k1, k2⟩ := bcl hb
  have c2_0_0 := (k1 (w.heap.size) 0 (by first | omega | (simp; done) | (simp; omega))).trans (by go_cell : _ = some (.int .i64 a))
  have c2_0_1 := (k1 (w.heap.size) 1 (by first | omega | (simp; done) | (simp; omega))).trans (by go_cell : _ = some (.int .i64 b))
  have c2_0_2 := (k1 (w.heap.size) 2 (by first | omega | (simp; done) | (simp; omega))).trans (by go_cell : _ = some (.int .i64 c))
  have c2_0_3 := (k1 (w.heap.size) 3 (by first | omega | (simp; done) | (simp; omega))).trans (by go_cell : _ = some (.int .i64 d))
  have c2_1_0 := (k1 (w.heap.size + 1) 0 (by first | omega | (simp; done) | (simp; omega))).trans (by go_cell : _ = some (.int .i64 s))
  have c2_1_1 := (k1 (w.heap.size + 1) 1 (by first | omega | (simp; done) | (simp; omega))).trans (by go_cell : _ = some (.int .i64 t))
  have c2_1_2 := (k1 (w.heap.size + 1) 2 (by first | omega | (simp; done) | (simp; omega))).trans (by go_cell : _ = some (.int .i64 u))
  have c2_1_3 := (k1 (w.heap.size + 1) 3 (by first | omega | (simp; done) | (simp; omega))).trans (by go_cell : _ = some (.int .i64 v))
  have c2_2_0 := (k1 (w1.heap.size) 0 (by first | omega | (simp; done) | (simp; omega))).trans (by go_cell : _ = some (.int .i64 p1))
  have c2_2_1 := (k1 (w1.heap.size) 1 (by first | omega | (simp; done) | (simp; omega))).trans (by go_cell : _ = some (.int .i64 q1))
  have c2_2_2 := (k1 (w1.heap.size) 2 (by first | omega | (simp; done) | (simp; omega))).trans (by go_cell : _ = some (.int .i64 p2))
  have c2_2_3 := (k1 (w1.heap.size) 3 (by first | omega | (simp; done) | (simp; omega))).trans (by go_cell : _ = some (.int .i64 q2))
  have l2_0 : w.heap.size < w2.heap.size := by have hs := hb.size; (try simp at hs); omega
  have l2_1 : w.heap.size + 1 < w2.heap.size := by have hs := hb.size; (try simp at hs); omega
  have l2_2 : w1.heap.size < w2.heap.size := by have hs := hb.size; (try simp at hs); omega
  clear hb k1 k2 D1 c1_0_0 c1_0_1 c1_0_2 c1_0_3 c1_1_0 c1_1_1 c1_1_2 c1_1_3
  go_wp2_with fail
  refine (eSub_any a b c d s t u v _).mono ?_
  rw [HS.out]
  rintro e w3 ⟨rfl, hb⟩
  (try simp only)
  have D3 : Below w.heap.size w w3 := Below.trans (by go_grown) (hb.mono (by have := D2.size; first | omega | (simp; done) | (simp; omega)))
  obtain ⟨k1, k2⟩ := bcl hb
  have c3_0_0 := (k1 (w.heap.size) 0 (by first | omega | (simp; done) | (simp; omega))).trans (by go_cell : _ = some (.int .i64 a))
  have c3_0_1 := (k1 (w.heap.size) 1 (by first | omega | (simp; done) | (simp; omega))).trans (by go_cell : _ = some (.int .i64 b))
  have c3_0_2 := (k1 (w.heap.size) 2 (by first | omega | (simp; done) | (simp; omega))).trans (by go_cell : _ = some (.int .i64 c))
  have c3_0_3 := (k1 (w.heap.size) 3 (by first | omega | (simp; done) | (simp; omega))).trans (by go_cell : _ = some (.int .i64 d))
  have c3_1_0 := (k1 (w.heap.size + 1) 0 (by first | omega | (simp; done) | (simp; omega))).trans (by go_cell : _ = some (.int .i64 s))
  have c3_1_1 := (k1 (w.heap.size + 1) 1 (by first | omega | (simp; done) | (simp; omega))).trans (by go_cell : _ = some (.int .i64 t))
  have c3_1_2 := (k1 (w.heap.size + 1) 2 (by first | omega | (simp; done) | (simp; omega))).trans (by go_cell : _ = some (.int .i64 u))
  have c3_1_3 := (k1 (w.heap.size + 1) 3 (by first | omega | (simp; done) | (simp; omega))).trans (by go_cell : _ = some (.int .i64 v))
  have c3_2_0 := (k1 (w1.heap.size) 0 (by first | omega | (simp; done) | (simp; omega))).trans (by go_cell : _ = some (.int .i64 p1))
  have c3_2_1 := (k1 (w1.heap.size) 1 (by first | omega | (simp; done) | (simp; omega))).trans (by go_cell : _ = some (.int .i64 q1))
  have c3_2_2 := (k1 (w1.heap.size) 2 (by first | omega | (simp; done) | (simp; omega))).trans (by go_cell : _ = some (.int .i64 p2))
  have c3_2_3 := (k1 (w1.heap.size) 3 (by first | omega | (simp; done) | (simp; omega))).trans (by go_cell : _ = some (.int .i64 q2))
  have c3_3_0 := (k1 (w2.heap.size) 0 (by first | omega | (simp; done) | (simp; omega))).trans (by go_cell : _ = some (.int .i64 p1))
  have c3_3_1 := (k1 (w2.heap.size) 1 (by first | omega | (simp; done) | (simp; omega))).trans (by go_cell : _ = some (.int .i64 q1))
  have c3_3_2 := (k1 (w2.heap.size) 2 (by first | omega | (simp; done) | (simp; omega))).trans (by go_cell : _ = some (.int .i64 p2))
  have c3_3_3 := (k1 (w2.heap.size) 3 (by first | omega | (simp; done) | (simp; omega))).trans (by go_cell : _ = some (.int .i64 q2))
  have l3_0 : w.heap.size < w3.heap.size := by have hs := hb.size; (try simp at hs); omega
  have l3_1 : w.heap.size + 1 < w3.heap.size := by have hs := hb.size; (try simp at hs); omega
  have l3_2 : w1.heap.size < w3.heap.size := by have hs := hb.size; (try simp at hs); omega
  have l3_3 : w2.heap.size < w3.heap.size := by have hs := hb.size; (try simp at hs); omega
  clear hb k1 k2 D2 c2_0_0 c2_0_1 c2_0_2 c2_0_3 c2_1_0 c2_1_1 c2_1_2 c2_1_3 c2_2_0 c2_2_1 c2_2_2 c2_2_3
  go_wp2_with fail
  refine (rSub_any a b c d s t u v _).mono ?_
  rw [HS.out]
  rintro e w4 ⟨rfl, hb⟩
  (try simp only)
  have D4 : Below w.heap.size w w4 := Below.trans (by go_grown) (hb.mono (by have := D3.size; first | omega | (simp; done) | (simp; omega)))
  obtain ⟨k1, k2⟩ := bcl hb
  have c4_0_0 := (k1 (w.heap.size) 0 (by first | omega | (simp; done) | (simp; omega))).trans (by go_cell : _ = some (.int .i64 a))
  have c4_0_1 := (k1 (w.heap.size) 1 (by first | omega | (simp; done) | (simp; omega))).trans (by go_cell : _ = some (.int .i64 b))
  have c4_0_2 := (k1 (w.heap.size) 2 (by first | omega | (simp; done) | (simp; omega))).trans (by go_cell : _ = some (.int .i64 c))
  have c4_0_3 := (k1 (w.heap.size) 3 (by first | omega | (simp; done) | (simp; omega))).trans (by go_cell : _ = some (.int .i64 d))
  have c4_1_0 := (k1 (w.heap.size + 1) 0 (by first | omega | (simp; done) | (simp; omega))).trans (by go_cell : _ = some (.int .i64 s))
  have c4_1_1 := (k1 (w.heap.size + 1) 1 (by first | omega | (simp; done) | (simp; omega))).trans (by go_cell : _ = some (.int .i64 t))
  have c4_1_2 := (k1 (w.heap.size + 1) 2 (by first | omega | (simp; done) | (simp; omega))).trans (by go_cell : _ = some (.int .i64 u))
  have c4_1_3 := (k1 (w.heap.size + 1) 3 (by first | omega | (simp; done) | (simp; omega))).trans (by go_cell : _ = some (.int .i64 v))
  have c4_2_0 := (k1 (w1.heap.size) 0 (by first | omega | (simp; done) | (simp; omega))).trans (by go_cell : _ = some (.int .i64 p1))
  have c4_2_1 := (k1 (w1.heap.size) 1 (by first | omega | (simp; done) | (simp; omega))).trans (by go_cell : _ = some (.int .i64 q1))
  have c4_2_2 := (k1 (w1.heap.size) 2 (by first | omega | (simp; done) | (simp; omega))).trans (by go_cell : _ = some (.int .i64 p2))
  have c4_2_3 := (k1 (w1.heap.size) 3 (by first | omega | (simp; done) | (simp; omega))).trans (by go_cell : _ = some (.int .i64 q2))
  have c4_3_0 := (k1 (w2.heap.size) 0 (by first | omega | (simp; done) | (simp; omega))).trans (by go_cell : _ = some (.int .i64 p1))
  have c4_3_1 := (k1 (w2.heap.size) 1 (by first | omega | (simp; done) | (simp; omega))).trans (by go_cell : _ = some (.int .i64 q1))
  have c4_3_2 := (k1 (w2.heap.size) 2 (by first | omega | (simp; done) | (simp; omega))).trans (by go_cell : _ = some (.int .i64 p2))
  have c4_3_3 := (k1 (w2.heap.size) 3 (by first | omega | (simp; done) | (simp; omega))).trans (by go_cell : _ = some (.int .i64 q2))
  have c4_4_0 := (k1 (w3.heap.size) 0 (by first | omega | (simp; done) | (simp; omega))).trans (by go_cell : _ = some (.int .i64 p3))
  have c4_4_1 := (k1 (w3.heap.size) 1 (by first | omega | (simp; done) | (simp; omega))).trans (by go_cell : _ = some (.int .i64 q3))
  have c4_4_2 := (k1 (w3.heap.size) 2 (by first | omega | (simp; done) | (simp; omega))).trans (by go_cell : _ = some (.int .i64 p4))
  have c4_4_3 := (k1 (w3.heap.size) 3 (by first | omega | (simp; done) | (simp; omega))).trans (by go_cell : _ = some (.int .i64 q4))
  have l4_0 : w.heap.size < w4.heap.size := by have hs := hb.size; (try simp at hs); omega
  have l4_1 : w.heap.size + 1 < w4.heap.size := by have hs := hb.size; (try simp at hs); omega
  have l4_2 : w1.heap.size < w4.heap.size := by have hs := hb.size; (try simp at hs); omega
  have l4_3 : w2.heap.size < w4.heap.size := by have hs := hb.size; (try simp at hs); omega
  have l4_4 : w3.heap.size < w4.heap.size := by have hs := hb.size; (try simp at hs); omega
  clear hb k1 k2 D3 c3_0_0 c3_0_1 c3_0_2 c3_0_3 c3_1_0 c3_1_1 c3_1_2 c3_1_3 c3_2_0 c3_2_1 c3_2_2 c3_2_3 c3_3_0 c3_3_1 c3_3_2 c3_3_3
  go_upto_region 5 with fail
  have hb0 : Below w4.heap.size w4 (w4.alloc (Obj.cells #[.int .i64 p3, .int .i64 q3, .int .i64 p4, .int .i64 q4] 25)) := (Below.refl _ _).alloc (Nat.le_refl _) _
  have s_0_0 := (hb0.cell (p := ⟨w.heap.size, 0, none⟩) l4_0).trans c4_0_0
  have s_0_1 := (hb0.cell (p := ⟨w.heap.size, 1, none⟩) l4_0).trans c4_0_1
  have s_0_2 := (hb0.cell (p := ⟨w.heap.size, 2, none⟩) l4_0).trans c4_0_2
  have s_0_3 := (hb0.cell (p := ⟨w.heap.size, 3, none⟩) l4_0).trans c4_0_3
  have s_2_0 := (hb0.cell (p := ⟨w1.heap.size, 0, none⟩) l4_2).trans c4_2_0
  have s_2_1 := (hb0.cell (p := ⟨w1.heap.size, 1, none⟩) l4_2).trans c4_2_1
  have s_2_2 := (hb0.cell (p := ⟨w1.heap.size, 2, none⟩) l4_2).trans c4_2_2
  have s_2_3 := (hb0.cell (p := ⟨w1.heap.size, 3, none⟩) l4_2).trans c4_2_3
  have s_3_0 := (hb0.cell (p := ⟨w2.heap.size, 0, none⟩) l4_3).trans c4_3_0
  have s_3_1 := (hb0.cell (p := ⟨w2.heap.size, 1, none⟩) l4_3).trans c4_3_1
  have s_3_2 := (hb0.cell (p := ⟨w2.heap.size, 2, none⟩) l4_3).trans c4_3_2
  have s_3_3 := (hb0.cell (p := ⟨w2.heap.size, 3, none⟩) l4_3).trans c4_3_3
  have s_4_0 := (hb0.cell (p := ⟨w3.heap.size, 0, none⟩) l4_4).trans c4_4_0
  have s_4_1 := (hb0.cell (p := ⟨w3.heap.size, 1, none⟩) l4_4).trans c4_4_1
  have s_4_2 := (hb0.cell (p := ⟨w3.heap.size, 2, none⟩) l4_4).trans c4_4_2
  have s_4_3 := (hb0.cell (p := ⟨w3.heap.size, 3, none⟩) l4_4).trans c4_4_3
  have s_9_0 : (w4.alloc (Obj.cells #[.int .i64 p3, .int .i64 q3, .int .i64 p4, .int .i64 q4] 25)).cell? ⟨w4.heap.size, 0, none⟩ = some (.int .i64 p3) := by go_cell
  have s_9_1 : (w4.alloc (Obj.cells #[.int .i64 p3, .int .i64 q3, .int .i64 p4, .int .i64 q4] 25)).cell? ⟨w4.heap.size, 1, none⟩ = some (.int .i64 q3) := by go_cell
  have s_9_2 : (w4.alloc (Obj.cells #[.int .i64 p3, .int .i64 q3, .int .i64 p4, .int .i64 q4] 25)).cell? ⟨w4.heap.size, 2, none⟩ = some (.int .i64 p4) := by go_cell
  have s_9_3 : (w4.alloc (Obj.cells #[.int .i64 p3, .int .i64 q3, .int .i64 p4, .int .i64 q4] 25)).cell? ⟨w4.heap.size, 3, none⟩ = some (.int .i64 q4) := by go_cell
  have DW : Below w.heap.size w (w4.alloc (Obj.cells #[.int .i64 p3, .int .i64 q3, .int .i64 p4, .int .i64 q4] 25)) := D4.trans (hb0.mono D4.size)
  have zW : w4.heap.size < (w4.alloc (Obj.cells #[.int .i64 p3, .int .i64 q3, .int .i64 p4, .int .i64 q4] 25)).heap.size := by simp
  generalize (w4.alloc (Obj.cells #[.int .i64 p3, .int .i64 q3, .int .i64 p4, .int .i64 q4] 25)) = W at *
  have n_0 : w.heap.size < W.heap.size := by omega
  have n_2 : w1.heap.size < W.heap.size := by omega
  have n_3 : w2.heap.size < W.heap.size := by omega
  have n_4 : w3.heap.size < W.heap.size := by omega
  have HD : Below W.heap.size W W := Below.refl _ _
  have HB0 := Lib.hid DW
  have G0 : Hid (∀ w', Below W.heap.size W w' → w'.cell? ⟨w.heap.size, 0, none⟩ = some (.int .i64 a) ∧ w'.cell? ⟨w.heap.size, 1, none⟩ = some (.int .i64 b) ∧ w'.cell? ⟨w.heap.size, 2, none⟩ = some (.int .i64 c) ∧ w'.cell? ⟨w.heap.size, 3, none⟩ = some (.int .i64 d) ∧ w'.cell? ⟨w1.heap.size, 0, none⟩ = some (.int .i64 p1) ∧ w'.cell? ⟨w1.heap.size, 1, none⟩ = some (.int .i64 q1) ∧ w'.cell? ⟨w1.heap.size, 2, none⟩ = some (.int .i64 p2) ∧ w'.cell? ⟨w1.heap.size, 3, none⟩ = some (.int .i64 q2) ∧ w'.cell? ⟨w2.heap.size, 0, none⟩ = some (.int .i64 p1) ∧ w'.cell? ⟨w2.heap.size, 1, none⟩ = some (.int .i64 q1) ∧ w'.cell? ⟨w2.heap.size, 2, none⟩ = some (.int .i64 p2) ∧ w'.cell? ⟨w2.heap.size, 3, none⟩ = some (.int .i64 q2) ∧ w'.cell? ⟨w3.heap.size, 0, none⟩ = some (.int .i64 p3) ∧ w'.cell? ⟨w3.heap.size, 1, none⟩ = some (.int .i64 q3) ∧ w'.cell? ⟨w3.heap.size, 2, none⟩ = some (.int .i64 p4) ∧ w'.cell? ⟨w3.heap.size, 3, none⟩ = some (.int .i64 q4) ∧ w'.cell? ⟨w4.heap.size, 0, none⟩ = some (.int .i64 p3) ∧ w'.cell? ⟨w4.heap.size, 1, none⟩ = some (.int .i64 q3) ∧ w'.cell? ⟨w4.heap.size, 2, none⟩ = some (.int .i64 p4) ∧ w'.cell? ⟨w4.heap.size, 3, none⟩ = some (.int .i64 q4)) := Lib.hid (fun w' hb => by
    refine ⟨(hb.cell (p := ⟨w.heap.size, 0, none⟩) n_0).trans s_0_0, (hb.cell (p := ⟨w.heap.size, 1, none⟩) n_0).trans s_0_1, (hb.cell (p := ⟨w.heap.size, 2, none⟩) n_0).trans s_0_2, (hb.cell (p := ⟨w.heap.size, 3, none⟩) n_0).trans s_0_3, (hb.cell (p := ⟨w1.heap.size, 0, none⟩) n_2).trans s_2_0, (hb.cell (p := ⟨w1.heap.size, 1, none⟩) n_2).trans s_2_1, (hb.cell (p := ⟨w1.heap.size, 2, none⟩) n_2).trans s_2_2, (hb.cell (p := ⟨w1.heap.size, 3, none⟩) n_2).trans s_2_3, (hb.cell (p := ⟨w2.heap.size, 0, none⟩) n_3).trans s_3_0, (hb.cell (p := ⟨w2.heap.size, 1, none⟩) n_3).trans s_3_1, (hb.cell (p := ⟨w2.heap.size, 2, none⟩) n_3).trans s_3_2, (hb.cell (p := ⟨w2.heap.size, 3, none⟩) n_3).trans s_3_3, (hb.cell (p := ⟨w3.heap.size, 0, none⟩) n_4).trans s_4_0, (hb.cell (p := ⟨w3.heap.size, 1, none⟩) n_4).trans s_4_1, (hb.cell (p := ⟨w3.heap.size, 2, none⟩) n_4).trans s_4_2, (hb.cell (p := ⟨w3.heap.size, 3, none⟩) n_4).trans s_4_3, (hb.cell (p := ⟨w4.heap.size, 0, none⟩) zW).trans s_9_0, (hb.cell (p := ⟨w4.heap.size, 1, none⟩) zW).trans s_9_1, (hb.cell (p := ⟨w4.heap.size, 2, none⟩) zW).trans s_9_2, (hb.cell (p := ⟨w4.heap.size, 3, none⟩) zW).trans s_9_3⟩)
  clear hb0 DW D4 s_0_0 s_0_1 s_0_2 s_0_3 s_2_0 s_2_1 s_2_2 s_2_3 s_3_0 s_3_1 s_3_2 s_3_3 s_4_0 s_4_1 s_4_2 s_4_3 s_9_0 s_9_1 s_9_2 s_9_3 c4_0_0 c4_0_1 c4_0_2 c4_0_3 c4_1_0 c4_1_1 c4_1_2 c4_1_3 c4_2_0 c4_2_1 c4_2_2 c4_2_3 c4_3_0 c4_3_1 c4_3_2 c4_3_3 c4_4_0 c4_4_1 c4_4_2 c4_4_3
  have HDd : Below W.heap.size W W.drew := HD.drew
  refine wp_region_held_drew (S := fun w' => w'.cell? ⟨w.heap.size, 0, none⟩ = some (.int .i64 a) ∧ w'.cell? ⟨w.heap.size, 1, none⟩ = some (.int .i64 b) ∧ w'.cell? ⟨w.heap.size, 2, none⟩ = some (.int .i64 c) ∧ w'.cell? ⟨w.heap.size, 3, none⟩ = some (.int .i64 d) ∧ w'.cell? ⟨w1.heap.size, 0, none⟩ = some (.int .i64 p1) ∧ w'.cell? ⟨w1.heap.size, 1, none⟩ = some (.int .i64 q1) ∧ w'.cell? ⟨w1.heap.size, 2, none⟩ = some (.int .i64 p2) ∧ w'.cell? ⟨w1.heap.size, 3, none⟩ = some (.int .i64 q2) ∧ w'.cell? ⟨w2.heap.size, 0, none⟩ = some (.int .i64 p1) ∧ w'.cell? ⟨w2.heap.size, 1, none⟩ = some (.int .i64 q1) ∧ w'.cell? ⟨w2.heap.size, 2, none⟩ = some (.int .i64 p2) ∧ w'.cell? ⟨w2.heap.size, 3, none⟩ = some (.int .i64 q2) ∧ w'.cell? ⟨w3.heap.size, 0, none⟩ = some (.int .i64 p3) ∧ w'.cell? ⟨w3.heap.size, 1, none⟩ = some (.int .i64 q3) ∧ w'.cell? ⟨w3.heap.size, 2, none⟩ = some (.int .i64 p4) ∧ w'.cell? ⟨w3.heap.size, 3, none⟩ = some (.int .i64 q4) ∧ w'.cell? ⟨w4.heap.size, 0, none⟩ = some (.int .i64 p3) ∧ w'.cell? ⟨w4.heap.size, 1, none⟩ = some (.int .i64 q3) ∧ w'.cell? ⟨w4.heap.size, 2, none⟩ = some (.int .i64 p4) ∧ w'.cell? ⟨w4.heap.size, 3, none⟩ = some (.int .i64 q4)) (by kernel_rfl) (G0.out _ HDd) (fun hHeld => ?_)
  refine wpAnyH_take (i := 0) (oi := _) (v := ?_) rfl (by kernel_rfl) (by kernel_rfl) (by kernel_rfl) (fun _ _ _ h => h) (Or.inl ⟨by rfl, ?_⟩) (by assumption) ?_
  rotate_left
  · intro w hSw; obtain ⟨_, _, _, _, _, _, _, _, _, _, _, _, _, _, _, _, _, _, _, _⟩ := hSw; go_simp; (try with_reducible rfl)
  try change wpAnyH _ _ _ _ _ _ _ (Act.put _ (some 37) _) _
  try simp only [act_all]
  refine wpAnyH_take (i := 1) (oi := _) (v := ?_) rfl (by kernel_rfl) (by kernel_rfl) (by kernel_rfl) (fun _ _ _ h => h) (Or.inl ⟨by rfl, ?_⟩) (by assumption) ?_
  rotate_left
  · intro w hSw; obtain ⟨_, _, _, _, _, _, _, _, _, _, _, _, _, _, _, _, _, _, _, _⟩ := hSw; go_simp; (try with_reducible rfl)
  try change wpAnyH _ _ _ _ _ _ _ (Act.put _ (some 38) _) _
  try simp only [act_all]
  refine wpAnyH_take (i := 3) (oi := _) (v := ?_) rfl (by kernel_rfl) (by kernel_rfl) (by kernel_rfl) (fun _ _ _ h => h) (Or.inl ⟨by rfl, ?_⟩) (by assumption) ?_
  rotate_left
  · intro w hSw; obtain ⟨_, _, _, _, _, _, _, _, _, _, _, _, _, _, _, _, _, _, _, _⟩ := hSw; go_simp; (try with_reducible rfl)
  try change wpAnyH _ _ _ _ _ _ _ (Act.put _ (some 40) _) _
  try simp only [act_all]
  refine wpAnyH_take (i := 4) (oi := _) (v := ?_) rfl (by kernel_rfl) (by kernel_rfl) (by kernel_rfl) (fun _ _ _ h => h) (Or.inl ⟨by rfl, ?_⟩) (by assumption) ?_
  rotate_left
  · intro w hSw; obtain ⟨_, _, _, _, _, _, _, _, _, _, _, _, _, _, _, _, _, _, _, _⟩ := hSw; go_simp; (try with_reducible rfl)
  try change wpAnyH _ _ _ _ _ _ _ (Act.put _ (some 41) _) _
  try simp only [act_all]
  refine wpAnyH_ready (rs := [2]) (by kernel_rfl) (by simp) ?_
  refine AllReadyH.cons (o := _) rfl (fun K hK => ?_) AllReadyH.nil
  go_simp
  refine (eValid_any a b _).mono ?_
  rw [HV.out]
  rintro e wA0 ⟨rfl, hb⟩
  have HD0 : Below W.heap.size W wA0 := HDd.trans (hb.mono HDd.size)
  clear hb hHeld
  refine hK.out _ _ (G0.out _ HD0) (fun hHeld => ?_)
  clear hK K
  try simp only [act_all]
  refine wpAnyH_ready (rs := [5]) (by kernel_rfl) (by simp) ?_
  refine AllReadyH.cons (o := _) rfl (fun K hK => ?_) AllReadyH.nil
  go_simp
  refine (rValid_any a b _).mono ?_
  rw [HV.out]
  rintro e wA1 ⟨rfl, hb⟩
  have HD1 : Below W.heap.size W wA1 := HD0.trans (hb.mono HD0.size)
  clear hb hHeld
  refine hK.out _ _ (G0.out _ HD1) (fun hHeld => ?_)
  clear hK K
  try simp only [act_all]
  refine wpAnyH_take (i := 6) (oi := _) (v := ?_) rfl (by kernel_rfl) (by kernel_rfl) (by kernel_rfl) (fun _ _ _ h => h) (Or.inl ⟨by rfl, ?_⟩) (by assumption) ?_
  rotate_left
  · intro w hSw; obtain ⟨_, _, _, _, _, _, _, _, _, _, _, _, _, _, _, _, _, _, _, _⟩ := hSw; go_simp; (try with_reducible rfl)
  try change wpAnyH _ _ _ _ _ _ _ (Act.put _ (some 43) _) _
  try simp only [act_all]
  refine wpAnyH_take (i := 7) (oi := _) (v := ?_) rfl (by kernel_rfl) (by kernel_rfl) (by kernel_rfl) (fun _ _ _ h => h) (Or.inl ⟨by rfl, ?_⟩) (by assumption) ?_
  rotate_left
  · intro w hSw; obtain ⟨_, _, _, _, _, _, _, _, _, _, _, _, _, _, _, _, _, _, _, _⟩ := hSw; go_simp; (try with_reducible rfl)
  try change wpAnyH _ _ _ _ _ _ _ (Act.put _ (some 44) _) _
  try simp only [act_all]
  refine wpAnyH_take (i := 8) (oi := _) (v := ?_) rfl (by kernel_rfl) (by kernel_rfl) (by kernel_rfl) (fun _ _ _ h => h) (Or.inl ⟨by rfl, ?_⟩) (by assumption) ?_
  rotate_left
  · intro w hSw; obtain ⟨_, _, _, _, _, _, _, _, _, _, _, _, _, _, _, _, _, _, _, _⟩ := hSw; go_simp; (try with_reducible rfl)
  try change wpAnyH _ _ _ _ _ _ _ (Act.put _ (some 45) _) _
  try simp only [act_all]
  refine wpAnyH_take (i := 9) (oi := _) (v := ?_) rfl (by kernel_rfl) (by kernel_rfl) (by kernel_rfl) (fun _ _ _ h => h) (Or.inl ⟨by rfl, ?_⟩) (by assumption) ?_
  rotate_left
  · intro w hSw; obtain ⟨_, _, _, _, _, _, _, _, _, _, _, _, _, _, _, _, _, _, _, _⟩ := hSw; go_simp; (try with_reducible rfl)
  try change wpAnyH _ _ _ _ _ _ _ (Act.put _ (some 46) _) _
  try simp only [act_all]
  refine wpAnyH_take (i := 10) (oi := _) (v := ?_) rfl (by kernel_rfl) (by kernel_rfl) (by kernel_rfl) (fun _ _ _ h => h) (Or.inl ⟨by rfl, ?_⟩) (by assumption) ?_
  rotate_left
  · intro w hSw; obtain ⟨_, _, _, _, _, _, _, _, _, _, _, _, _, _, _, _, _, _, _, _⟩ := hSw; go_simp; (try with_reducible rfl)
  try change wpAnyH _ _ _ _ _ _ _ (Act.put _ (some 47) _) _
  try simp only [act_all]
  refine wpAnyH_take (i := 11) (oi := _) (v := ?_) rfl (by kernel_rfl) (by kernel_rfl) (by kernel_rfl) (fun _ _ _ h => h) (Or.inl ⟨by rfl, ?_⟩) (by assumption) ?_
  rotate_left
  · intro w hSw; obtain ⟨_, _, _, _, _, _, _, _, _, _, _, _, _, _, _, _, _, _, _, _⟩ := hSw; go_simp; (try with_reducible rfl)
  try change wpAnyH _ _ _ _ _ _ _ (Act.put _ (some 48) _) _
  try simp only [act_all]
  refine wpAnyH_take (i := 12) (oi := _) (v := ?_) rfl (by kernel_rfl) (by kernel_rfl) (by kernel_rfl) (fun _ _ _ h => h) (Or.inl ⟨by rfl, ?_⟩) (by assumption) ?_
  rotate_left
  · intro w hSw; obtain ⟨_, _, _, _, _, _, _, _, _, _, _, _, _, _, _, _, _, _, _, _⟩ := hSw; go_simp; (try with_reducible rfl)
  try change wpAnyH _ _ _ _ _ _ _ (Act.put _ (some 49) _) _
  try simp only [act_all]
  refine wpAnyH_take (i := 13) (oi := _) (v := ?_) rfl (by kernel_rfl) (by kernel_rfl) (by kernel_rfl) (fun _ _ _ h => h) (Or.inl ⟨by rfl, ?_⟩) (by assumption) ?_
  rotate_left
  · intro w hSw; obtain ⟨_, _, _, _, _, _, _, _, _, _, _, _, _, _, _, _, _, _, _, _⟩ := hSw; go_simp; (try with_reducible rfl)
  try change wpAnyH _ _ _ _ _ _ _ (Act.put _ (some 50) _) _
  try simp only [act_all]
  refine wpAnyH_take (i := 14) (oi := _) (v := ?_) rfl (by kernel_rfl) (by kernel_rfl) (by kernel_rfl) (fun _ _ _ h => h) (Or.inl ⟨by rfl, ?_⟩) (by assumption) ?_
  rotate_left
  · intro w hSw; obtain ⟨_, _, _, _, _, _, _, _, _, _, _, _, _, _, _, _, _, _, _, _⟩ := hSw; go_simp; (try with_reducible rfl)
  try change wpAnyH _ _ _ _ _ _ _ (Act.put _ (some 51) _) _
  try simp only [act_all]
  refine wpAnyH_take (i := 15) (oi := _) (v := ?_) rfl (by kernel_rfl) (by kernel_rfl) (by kernel_rfl) (fun _ _ _ h => h) (Or.inl ⟨by rfl, ?_⟩) (by assumption) ?_
  rotate_left
  · intro w hSw; obtain ⟨_, _, _, _, _, _, _, _, _, _, _, _, _, _, _, _, _, _, _, _⟩ := hSw; go_simp; (try with_reducible rfl)
  try change wpAnyH _ _ _ _ _ _ _ (Act.put _ (some 52) _) _
  try simp only [act_all]
  refine wpAnyH_take (i := 16) (oi := _) (v := ?_) rfl (by kernel_rfl) (by kernel_rfl) (by kernel_rfl) (fun _ _ _ h => h) (Or.inl ⟨by rfl, ?_⟩) (by assumption) ?_
  rotate_left
  · intro w hSw; obtain ⟨_, _, _, _, _, _, _, _, _, _, _, _, _, _, _, _, _, _, _, _⟩ := hSw; go_simp; (try with_reducible rfl)
  try change wpAnyH _ _ _ _ _ _ _ (Act.put _ (some 53) _) _
  try simp only [act_all]
  refine wpAnyH_take (i := 17) (oi := _) (v := ?_) rfl (by kernel_rfl) (by kernel_rfl) (by kernel_rfl) (fun _ _ _ h => h) (Or.inl ⟨by rfl, ?_⟩) (by assumption) ?_
  rotate_left
  · intro w hSw; obtain ⟨_, _, _, _, _, _, _, _, _, _, _, _, _, _, _, _, _, _, _, _⟩ := hSw; go_simp; (try with_reducible rfl)
  try change wpAnyH _ _ _ _ _ _ _ (Act.put _ (some 54) _) _
  try simp only [act_all]
  refine wpAnyH_take (i := 18) (oi := _) (v := ?_) rfl (by kernel_rfl) (by kernel_rfl) (by kernel_rfl) (fun _ _ _ h => h) (Or.inl ⟨by rfl, ?_⟩) (by assumption) ?_
  rotate_left
  · intro w hSw; obtain ⟨_, _, _, _, _, _, _, _, _, _, _, _, _, _, _, _, _, _, _, _⟩ := hSw; go_simp; (try with_reducible rfl)
  try change wpAnyH _ _ _ _ _ _ _ (Act.put _ (some 55) _) _
  try simp only [act_all]
  refine wpAnyH_take (i := 19) (oi := _) (v := ?_) rfl (by kernel_rfl) (by kernel_rfl) (by kernel_rfl) (fun _ _ _ h => h) (Or.inl ⟨by rfl, ?_⟩) (by assumption) ?_
  rotate_left
  · intro w hSw; obtain ⟨_, _, _, _, _, _, _, _, _, _, _, _, _, _, _, _, _, _, _, _⟩ := hSw; go_simp; (try with_reducible rfl)
  try change wpAnyH _ _ _ _ _ _ _ (Act.put _ (some 56) _) _
  try simp only [act_all]
  refine wpAnyH_take (i := 20) (oi := _) (v := ?_) rfl (by kernel_rfl) (by kernel_rfl) (by kernel_rfl) (fun _ _ _ h => h) (Or.inl ⟨by rfl, ?_⟩) (by assumption) ?_
  rotate_left
  · intro w hSw; obtain ⟨_, _, _, _, _, _, _, _, _, _, _, _, _, _, _, _, _, _, _, _⟩ := hSw; go_simp; (try with_reducible rfl)
  try change wpAnyH _ _ _ _ _ _ _ (Act.put _ (some 57) _) _
  try simp only [act_all]
  refine wpAnyH_take (i := 21) (oi := _) (v := ?_) rfl (by kernel_rfl) (by kernel_rfl) (by kernel_rfl) (fun _ _ _ h => h) (Or.inl ⟨by rfl, ?_⟩) (by assumption) ?_
  rotate_left
  · intro w hSw; obtain ⟨_, _, _, _, _, _, _, _, _, _, _, _, _, _, _, _, _, _, _, _⟩ := hSw; go_simp; (try with_reducible rfl)
  try change wpAnyH _ _ _ _ _ _ _ (Act.put _ (some 58) _) _
  try simp only [act_all]
  refine wpAnyH_take (i := 22) (oi := _) (v := ?_) rfl (by kernel_rfl) (by kernel_rfl) (by kernel_rfl) (fun _ _ _ h => h) (Or.inl ⟨by rfl, ?_⟩) (by assumption) ?_
  rotate_left
  · intro w hSw; obtain ⟨_, _, _, _, _, _, _, _, _, _, _, _, _, _, _, _, _, _, _, _⟩ := hSw; go_simp; (try with_reducible rfl)
  try change wpAnyH _ _ _ _ _ _ _ (Act.put _ (some 59) _) _
  try simp only [act_all]
  refine wpAnyH_take (i := 23) (oi := _) (v := ?_) rfl (by kernel_rfl) (by kernel_rfl) (by kernel_rfl) (fun _ _ _ h => h) (Or.inl ⟨by rfl, ?_⟩) (by assumption) ?_
  rotate_left
  · intro w hSw; obtain ⟨_, _, _, _, _, _, _, _, _, _, _, _, _, _, _, _, _, _, _, _⟩ := hSw; go_simp; (try with_reducible rfl)
  try change wpAnyH _ _ _ _ _ _ _ (Act.put _ (some 60) _) _
  try simp only [act_all]
  refine wpAnyH_take (i := 24) (oi := _) (v := ?_) rfl (by kernel_rfl) (by kernel_rfl) (by kernel_rfl) (fun _ _ _ h => h) (Or.inl ⟨by rfl, ?_⟩) (by assumption) ?_
  rotate_left
  · intro w hSw; obtain ⟨_, _, _, _, _, _, _, _, _, _, _, _, _, _, _, _, _, _, _, _⟩ := hSw; go_simp; (try with_reducible rfl)
  try change wpAnyH _ _ _ _ _ _ _ (Act.put _ (some 61) _) _
  try simp only [act_all]
  refine wpAnyH_take (i := 25) (oi := _) (v := ?_) rfl (by kernel_rfl) (by kernel_rfl) (by kernel_rfl) (fun _ _ _ h => h) (Or.inl ⟨by rfl, ?_⟩) (by assumption) ?_
  rotate_left
  · intro w hSw; obtain ⟨_, _, _, _, _, _, _, _, _, _, _, _, _, _, _, _, _, _, _, _⟩ := hSw; go_simp; (try with_reducible rfl)
  try change wpAnyH _ _ _ _ _ _ _ (Act.put _ (some 62) _) _
  try simp only [act_all]
  refine wpAnyH_take (i := 26) (oi := _) (v := ?_) rfl (by kernel_rfl) (by kernel_rfl) (by kernel_rfl) (fun _ _ _ h => h) (Or.inl ⟨by rfl, ?_⟩) (by assumption) ?_
  rotate_left
  · intro w hSw; obtain ⟨_, _, _, _, _, _, _, _, _, _, _, _, _, _, _, _, _, _, _, _⟩ := hSw; go_simp; (try with_reducible rfl)
  try change wpAnyH _ _ _ _ _ _ _ (Act.put _ (some 63) _) _
  try simp only [act_all]
  refine wpAnyH_take (i := 27) (oi := _) (v := ?_) rfl (by kernel_rfl) (by kernel_rfl) (by kernel_rfl) (fun _ _ _ h => h) (Or.inl ⟨by rfl, ?_⟩) (by assumption) ?_
  rotate_left
  · intro w hSw; obtain ⟨_, _, _, _, _, _, _, _, _, _, _, _, _, _, _, _, _, _, _, _⟩ := hSw; go_simp; (try with_reducible rfl)
  try change wpAnyH _ _ _ _ _ _ _ (Act.put _ (some 64) _) _
  try simp only [act_all]
  refine wpAnyH_ready (rs := [28]) (by kernel_rfl) (by simp) ?_
  refine AllReadyH.cons (o := _) rfl (fun K hK => ?_) AllReadyH.nil
  go_simp
  refine (eawake_any _).mono ?_
  rintro e wA2 ⟨rfl, hb⟩
  have HD2 : Below W.heap.size W wA2 := HD1.trans (hb.mono HD1.size)
  clear hb hHeld
  refine hK.out _ _ (G0.out _ HD2) (fun hHeld => ?_)
  clear hK K
  try simp only [act_all]
  refine wpAnyH_take (i := 29) (oi := _) (v := ?_) rfl (by kernel_rfl) (by kernel_rfl) (by kernel_rfl) (fun _ _ _ h => h) (Or.inl ⟨by rfl, ?_⟩) (by assumption) ?_
  rotate_left
  · intro w hSw; obtain ⟨_, _, _, _, _, _, _, _, _, _, _, _, _, _, _, _, _, _, _, _⟩ := hSw; go_simp; (try with_reducible rfl)
  try change wpAnyH _ _ _ _ _ _ _ (Act.put _ (some 66) _) _
  try simp only [act_all]
  refine wpAnyH_take (i := 30) (oi := _) (v := ?_) rfl (by kernel_rfl) (by kernel_rfl) (by kernel_rfl) (fun _ _ _ h => h) (Or.inl ⟨by rfl, ?_⟩) (by assumption) ?_
  rotate_left
  · intro w hSw; obtain ⟨_, _, _, _, _, _, _, _, _, _, _, _, _, _, _, _, _, _, _, _⟩ := hSw; go_simp; (try with_reducible rfl)
  try change wpAnyH _ _ _ _ _ _ _ (Act.put _ (some 4) _) _
  try simp only [act_all]
  refine wpAnyH_done (by kernel_rfl) ?_ _
  have DF := HB0.out.trans (HD2.mono HB0.out.size)
  go_wp2_with fail
  go_returns
  exact ⟨rfl, DF⟩
end Go.Proofs.Ytilclpldfoifkaa
