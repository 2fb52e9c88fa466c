import Derived.Test.YtmildncbkndcoaaPwm
import Derived.Test.YtmildncbkndcoaaAw
namespace Go.Proofs.Ytmildncbkndcoaa
open Go.RowKit Amp
attribute [local go_sem] ix0 ix1 ix2 ix3 jx0 jx1 jx2 jx3
attribute [local go_sem high] run_eqNum run_neNum

set_option maxRecDepth 100000 in
set_option maxHeartbeats 8000000 in
theorem AmpPowers_bad (a b c d k p q r s l pe : Int) (w : World)
    (HP : Hid (powS ⟨⟨a, b, c, d⟩, k⟩ = (⟨⟨0, 0, 0, 0⟩, 0⟩, pe)))
    (hpe : ¬ pe = 0) :
    Calls Try.prog 12 #[.agg #[.int .i64 a, .int .i64 b, .int .i64 c, .int .i64 d, .int .i64 k], .agg #[.int .i64 p, .int .i64 q, .int .i64 r, .int .i64 s, .int .i64 l]] w fun e w' => e = .returned (.bool true) ∧ Below w.heap.size w w' := by
  go_enter Try.func12, Try.ntmps12
  go_wp2_with fail
  refine (Power_any _ _ _ _ _ _).mono ?_
  rintro e w1 ⟨rfl, hb⟩
  rw [HP.out]
  unfold Ret5
  (try simp only)
  have K1_x : Has5 w1 (w.heap.size) a b c d k := Has5.keep (by refine ⟨⟨?_, ?_, ?_, ?_, ?_⟩, ?_, ?_, ?_, ?_, ?_⟩ <;> go_cell) hb (by first | omega | (simp; done) | (simp; omega))
  have K1_y : Has5 w1 (w.heap.size + 1) p q r s l := Has5.keep (by refine ⟨⟨?_, ?_, ?_, ?_, ?_⟩, ?_, ?_, ?_, ?_, ?_⟩ <;> go_cell) hb (by first | omega | (simp; done) | (simp; omega))
  have D1 : Below w.heap.size w w1 := Below.trans (by go_grown) (hb.mono (by first | omega | (simp; done) | (simp; omega)))
  have s1 : w.heap.size + 1 < w1.heap.size := by have := hb.size; (try simp at this); omega
  clear hb
  obtain ⟨⟨c1_x_0, c1_x_1, c1_x_2, c1_x_3, c1_x_4⟩, f1_x_0, f1_x_1, f1_x_2, f1_x_3, f1_x_4⟩ := K1_x
  obtain ⟨⟨c1_y_0, c1_y_1, c1_y_2, c1_y_3, c1_y_4⟩, f1_y_0, f1_y_1, f1_y_2, f1_y_3, f1_y_4⟩ := K1_y
  have l1_x : w.heap.size < w1.heap.size := by omega
  go_wp2_with fail
  refine (awake_any _).mono ?_
  rintro e w2 ⟨rfl, hb⟩
  have D2 : Below w.heap.size w w2 := Below.trans (by go_grown) (hb.mono (by first | omega | (simp; done) | (simp; omega)))
  clear hb
  go_wp2_with fail
  go_returns
  exact ⟨rfl, D2⟩

set_option maxRecDepth 100000 in
set_option maxHeartbeats 8000000 in
theorem AmpPowers_c0 (p q r s l x0 x1 x2 x3 x4 y0 y1 y2 y3 u0 u1 u2 u3 u4 re v0 v1 v2 v3 v4 ze i0 i1 i2 i3 i4 le t0 t1 t2 t3 t4 te m1 : Int) (w : World)
    (HP : Hid (powS ⟨⟨0, 0, 0, 0⟩, 0⟩ = (⟨⟨x0, x1, x2, x3⟩, x4⟩, 0)))
    (HN : Hid (cmpS ⟨⟨x0, x1, x2, x3⟩, x4⟩ N0 = (0, 0)))
    (HQ : Hid (chgS ⟨⟨x0, x1, x2, x3⟩, x4⟩ (fun x => flipV x x4) = (⟨⟨y0, y1, y2, y3⟩, x4⟩, 0)))
    (HM : Hid (cmpS ⟨⟨y0, y1, y2, y3⟩, x4⟩ N0 = (m1, 0)))
    (hm1 : 0 ≤ m1)
    (HR : Hid (powS ⟨⟨p, q, r, s⟩, l⟩ = (⟨⟨u0, u1, u2, u3⟩, u4⟩, re)))
    (HZ : Hid (mulS ⟨⟨0, 0, 0, 0⟩, 0⟩ ⟨⟨p, q, r, s⟩, l⟩ = (⟨⟨v0, v1, v2, v3⟩, v4⟩, ze)))
    (HL : Hid (powS ⟨⟨v0, v1, v2, v3⟩, v4⟩ = (⟨⟨i0, i1, i2, i3⟩, i4⟩, le)))
    (HT : Hid (mulS ⟨⟨x0, x1, x2, x3⟩, x4⟩ ⟨⟨u0, u1, u2, u3⟩, u4⟩ = (⟨⟨t0, t1, t2, t3⟩, t4⟩, te)))
    (HF : Hid (re = 0 → ze = 0 → le = 0 → te = 0 → i0 = t0 ∧ i1 = t1 ∧ i2 = t2 ∧ i3 = t3 ∧ i4 = t4)) :
    Calls Try.prog 12 #[.agg #[.int .i64 0, .int .i64 0, .int .i64 0, .int .i64 0, .int .i64 0], .agg #[.int .i64 p, .int .i64 q, .int .i64 r, .int .i64 s, .int .i64 l]] w fun e w' => e = .returned (.bool true) ∧ Below w.heap.size w w' := by
  go_enter Try.func12, Try.ntmps12
  go_wp2_with fail
  refine (Power_any _ _ _ _ _ _).mono ?_
  rintro e w1 ⟨rfl, hb⟩
  rw [HP.out]
  unfold Ret5
  (try simp only)
  have K1_x : Has5 w1 (w.heap.size) 0 0 0 0 0 := Has5.keep (by refine ⟨⟨?_, ?_, ?_, ?_, ?_⟩, ?_, ?_, ?_, ?_, ?_⟩ <;> go_cell) hb (by first | omega | (simp; done) | (simp; omega))
  have K1_y : Has5 w1 (w.heap.size + 1) p q r s l := Has5.keep (by refine ⟨⟨?_, ?_, ?_, ?_, ?_⟩, ?_, ?_, ?_, ?_, ?_⟩ <;> go_cell) hb (by first | omega | (simp; done) | (simp; omega))
  have D1 : Below w.heap.size w w1 := Below.trans (by go_grown) (hb.mono (by first | omega | (simp; done) | (simp; omega)))
  have s1 : w.heap.size + 1 < w1.heap.size := by have := hb.size; (try simp at this); omega
  clear hb
  obtain ⟨⟨c1_x_0, c1_x_1, c1_x_2, c1_x_3, c1_x_4⟩, f1_x_0, f1_x_1, f1_x_2, f1_x_3, f1_x_4⟩ := K1_x
  obtain ⟨⟨c1_y_0, c1_y_1, c1_y_2, c1_y_3, c1_y_4⟩, f1_y_0, f1_y_1, f1_y_2, f1_y_3, f1_y_4⟩ := K1_y
  have l1_x : w.heap.size < w1.heap.size := by omega
  have hm2 : ¬ m1 < 0 := by omega
  go_wp2_with fail
  refine (Sign_any _ _ _ _ _ _).mono ?_
  rintro e w2 ⟨rfl, hb⟩
  rw [HN.out]
  (try simp only)
  have K2_x : Has5 w2 (w.heap.size) 0 0 0 0 0 := Has5.keep (by refine ⟨⟨?_, ?_, ?_, ?_, ?_⟩, ?_, ?_, ?_, ?_, ?_⟩ <;> go_cell) hb (by first | omega | (simp; done) | (simp; omega))
  have K2_y : Has5 w2 (w.heap.size + 1) p q r s l := Has5.keep (by refine ⟨⟨?_, ?_, ?_, ?_, ?_⟩, ?_, ?_, ?_, ?_, ?_⟩ <;> go_cell) hb (by first | omega | (simp; done) | (simp; omega))
  have K2_p : Has5 w2 (w1.heap.size) x0 x1 x2 x3 x4 := Has5.keep (by refine ⟨⟨?_, ?_, ?_, ?_, ?_⟩, ?_, ?_, ?_, ?_, ?_⟩ <;> go_cell) hb (by first | omega | (simp; done) | (simp; omega))
  have D2 : Below w.heap.size w w2 := Below.trans (by go_grown) (hb.mono (by first | omega | (simp; done) | (simp; omega)))
  have s2 : w1.heap.size < w2.heap.size := by have := hb.size; (try simp at this); omega
  clear hb D1 c1_x_0 c1_x_1 c1_x_2 c1_x_3 c1_x_4 f1_x_0 f1_x_1 f1_x_2 f1_x_3 f1_x_4 c1_y_0 c1_y_1 c1_y_2 c1_y_3 c1_y_4 f1_y_0 f1_y_1 f1_y_2 f1_y_3 f1_y_4
  obtain ⟨⟨c2_x_0, c2_x_1, c2_x_2, c2_x_3, c2_x_4⟩, f2_x_0, f2_x_1, f2_x_2, f2_x_3, f2_x_4⟩ := K2_x
  obtain ⟨⟨c2_y_0, c2_y_1, c2_y_2, c2_y_3, c2_y_4⟩, f2_y_0, f2_y_1, f2_y_2, f2_y_3, f2_y_4⟩ := K2_y
  obtain ⟨⟨c2_p_0, c2_p_1, c2_p_2, c2_p_3, c2_p_4⟩, f2_p_0, f2_p_1, f2_p_2, f2_p_3, f2_p_4⟩ := K2_p
  have l2_x : w.heap.size < w2.heap.size := by omega
  have l2_y : w.heap.size + 1 < w2.heap.size := by omega
  go_wp2_with fail
  refine (Flip_any _ _ _ _ _ _).mono ?_
  rintro e w3 ⟨rfl, hb⟩
  rw [HQ.out]
  unfold Ret5
  (try simp only)
  have K3_x : Has5 w3 (w.heap.size) 0 0 0 0 0 := Has5.keep (by refine ⟨⟨?_, ?_, ?_, ?_, ?_⟩, ?_, ?_, ?_, ?_, ?_⟩ <;> go_cell) hb (by first | omega | (simp; done) | (simp; omega))
  have K3_y : Has5 w3 (w.heap.size + 1) p q r s l := Has5.keep (by refine ⟨⟨?_, ?_, ?_, ?_, ?_⟩, ?_, ?_, ?_, ?_, ?_⟩ <;> go_cell) hb (by first | omega | (simp; done) | (simp; omega))
  have K3_p : Has5 w3 (w1.heap.size) x0 x1 x2 x3 x4 := Has5.keep (by refine ⟨⟨?_, ?_, ?_, ?_, ?_⟩, ?_, ?_, ?_, ?_, ?_⟩ <;> go_cell) hb (by first | omega | (simp; done) | (simp; omega))
  have D3 : Below w.heap.size w w3 := Below.trans (by go_grown) (hb.mono (by first | omega | (simp; done) | (simp; omega)))
  have s3 : w1.heap.size < w3.heap.size := by have := hb.size; (try simp at this); omega
  clear hb D2 c2_x_0 c2_x_1 c2_x_2 c2_x_3 c2_x_4 f2_x_0 f2_x_1 f2_x_2 f2_x_3 f2_x_4 c2_y_0 c2_y_1 c2_y_2 c2_y_3 c2_y_4 f2_y_0 f2_y_1 f2_y_2 f2_y_3 f2_y_4 c2_p_0 c2_p_1 c2_p_2 c2_p_3 c2_p_4 f2_p_0 f2_p_1 f2_p_2 f2_p_3 f2_p_4
  obtain ⟨⟨c3_x_0, c3_x_1, c3_x_2, c3_x_3, c3_x_4⟩, f3_x_0, f3_x_1, f3_x_2, f3_x_3, f3_x_4⟩ := K3_x
  obtain ⟨⟨c3_y_0, c3_y_1, c3_y_2, c3_y_3, c3_y_4⟩, f3_y_0, f3_y_1, f3_y_2, f3_y_3, f3_y_4⟩ := K3_y
  obtain ⟨⟨c3_p_0, c3_p_1, c3_p_2, c3_p_3, c3_p_4⟩, f3_p_0, f3_p_1, f3_p_2, f3_p_3, f3_p_4⟩ := K3_p
  have l3_x : w.heap.size < w3.heap.size := by omega
  have l3_y : w.heap.size + 1 < w3.heap.size := by omega
  go_wp2_with fail
  refine (Sign_any _ _ _ _ _ _).mono ?_
  rintro e w4 ⟨rfl, hb⟩
  rw [HM.out]
  (try simp only)
  have K4_x : Has5 w4 (w.heap.size) 0 0 0 0 0 := Has5.keep (by refine ⟨⟨?_, ?_, ?_, ?_, ?_⟩, ?_, ?_, ?_, ?_, ?_⟩ <;> go_cell) hb (by first | omega | (simp; done) | (simp; omega))
  have K4_y : Has5 w4 (w.heap.size + 1) p q r s l := Has5.keep (by refine ⟨⟨?_, ?_, ?_, ?_, ?_⟩, ?_, ?_, ?_, ?_, ?_⟩ <;> go_cell) hb (by first | omega | (simp; done) | (simp; omega))
  have K4_p : Has5 w4 (w1.heap.size) x0 x1 x2 x3 x4 := Has5.keep (by refine ⟨⟨?_, ?_, ?_, ?_, ?_⟩, ?_, ?_, ?_, ?_, ?_⟩ <;> go_cell) hb (by first | omega | (simp; done) | (simp; omega))
  have K4_q : Has5 w4 (w3.heap.size) y0 y1 y2 y3 x4 := Has5.keep (by refine ⟨⟨?_, ?_, ?_, ?_, ?_⟩, ?_, ?_, ?_, ?_, ?_⟩ <;> go_cell) hb (by first | omega | (simp; done) | (simp; omega))
  have D4 : Below w.heap.size w w4 := Below.trans (by go_grown) (hb.mono (by first | omega | (simp; done) | (simp; omega)))
  have s4 : w3.heap.size < w4.heap.size := by have := hb.size; (try simp at this); omega
  clear hb D3 c3_x_0 c3_x_1 c3_x_2 c3_x_3 c3_x_4 f3_x_0 f3_x_1 f3_x_2 f3_x_3 f3_x_4 c3_y_0 c3_y_1 c3_y_2 c3_y_3 c3_y_4 f3_y_0 f3_y_1 f3_y_2 f3_y_3 f3_y_4 c3_p_0 c3_p_1 c3_p_2 c3_p_3 c3_p_4 f3_p_0 f3_p_1 f3_p_2 f3_p_3 f3_p_4
  obtain ⟨⟨c4_x_0, c4_x_1, c4_x_2, c4_x_3, c4_x_4⟩, f4_x_0, f4_x_1, f4_x_2, f4_x_3, f4_x_4⟩ := K4_x
  obtain ⟨⟨c4_y_0, c4_y_1, c4_y_2, c4_y_3, c4_y_4⟩, f4_y_0, f4_y_1, f4_y_2, f4_y_3, f4_y_4⟩ := K4_y
  obtain ⟨⟨c4_p_0, c4_p_1, c4_p_2, c4_p_3, c4_p_4⟩, f4_p_0, f4_p_1, f4_p_2, f4_p_3, f4_p_4⟩ := K4_p
  obtain ⟨⟨c4_q_0, c4_q_1, c4_q_2, c4_q_3, c4_q_4⟩, f4_q_0, f4_q_1, f4_q_2, f4_q_3, f4_q_4⟩ := K4_q
  have l4_x : w.heap.size < w4.heap.size := by omega
  have l4_y : w.heap.size + 1 < w4.heap.size := by omega
  have l4_p : w1.heap.size < w4.heap.size := by omega
  go_wp2_with fail
  refine (Power_any _ _ _ _ _ _).mono ?_
  rintro e w5 ⟨rfl, hb⟩
  rw [HR.out]
  unfold Ret5
  (try simp only)
  have K5_x : Has5 w5 (w.heap.size) 0 0 0 0 0 := Has5.keep (by refine ⟨⟨?_, ?_, ?_, ?_, ?_⟩, ?_, ?_, ?_, ?_, ?_⟩ <;> go_cell) hb (by first | omega | (simp; done) | (simp; omega))
  have K5_y : Has5 w5 (w.heap.size + 1) p q r s l := Has5.keep (by refine ⟨⟨?_, ?_, ?_, ?_, ?_⟩, ?_, ?_, ?_, ?_, ?_⟩ <;> go_cell) hb (by first | omega | (simp; done) | (simp; omega))
  have K5_p : Has5 w5 (w1.heap.size) x0 x1 x2 x3 x4 := Has5.keep (by refine ⟨⟨?_, ?_, ?_, ?_, ?_⟩, ?_, ?_, ?_, ?_, ?_⟩ <;> go_cell) hb (by first | omega | (simp; done) | (simp; omega))
  have D5 : Below w.heap.size w w5 := Below.trans (by go_grown) (hb.mono (by first | omega | (simp; done) | (simp; omega)))
  have s5 : w3.heap.size < w5.heap.size := by have := hb.size; (try simp at this); omega
  clear hb D4 c4_x_0 c4_x_1 c4_x_2 c4_x_3 c4_x_4 f4_x_0 f4_x_1 f4_x_2 f4_x_3 f4_x_4 c4_y_0 c4_y_1 c4_y_2 c4_y_3 c4_y_4 f4_y_0 f4_y_1 f4_y_2 f4_y_3 f4_y_4 c4_p_0 c4_p_1 c4_p_2 c4_p_3 c4_p_4 f4_p_0 f4_p_1 f4_p_2 f4_p_3 f4_p_4 c4_q_0 c4_q_1 c4_q_2 c4_q_3 c4_q_4 f4_q_0 f4_q_1 f4_q_2 f4_q_3 f4_q_4
  obtain ⟨⟨c5_x_0, c5_x_1, c5_x_2, c5_x_3, c5_x_4⟩, f5_x_0, f5_x_1, f5_x_2, f5_x_3, f5_x_4⟩ := K5_x
  obtain ⟨⟨c5_y_0, c5_y_1, c5_y_2, c5_y_3, c5_y_4⟩, f5_y_0, f5_y_1, f5_y_2, f5_y_3, f5_y_4⟩ := K5_y
  obtain ⟨⟨c5_p_0, c5_p_1, c5_p_2, c5_p_3, c5_p_4⟩, f5_p_0, f5_p_1, f5_p_2, f5_p_3, f5_p_4⟩ := K5_p
  have l5_x : w.heap.size < w5.heap.size := by omega
  have l5_y : w.heap.size + 1 < w5.heap.size := by omega
  have l5_p : w1.heap.size < w5.heap.size := by omega
  go_wp2_with fail
  refine (Mul_any _ _ _ _ _ _ _ _ _ _ _).mono ?_
  rintro e w6 ⟨rfl, hb⟩
  rw [HZ.out]
  unfold Ret5
  (try simp only)
  have K6_x : Has5 w6 (w.heap.size) 0 0 0 0 0 := Has5.keep (by refine ⟨⟨?_, ?_, ?_, ?_, ?_⟩, ?_, ?_, ?_, ?_, ?_⟩ <;> go_cell) hb (by first | omega | (simp; done) | (simp; omega))
  have K6_y : Has5 w6 (w.heap.size + 1) p q r s l := Has5.keep (by refine ⟨⟨?_, ?_, ?_, ?_, ?_⟩, ?_, ?_, ?_, ?_, ?_⟩ <;> go_cell) hb (by first | omega | (simp; done) | (simp; omega))
  have K6_p : Has5 w6 (w1.heap.size) x0 x1 x2 x3 x4 := Has5.keep (by refine ⟨⟨?_, ?_, ?_, ?_, ?_⟩, ?_, ?_, ?_, ?_, ?_⟩ <;> go_cell) hb (by first | omega | (simp; done) | (simp; omega))
  have K6_r : Has5 w6 (w5.heap.size) u0 u1 u2 u3 u4 := Has5.keep (by refine ⟨⟨?_, ?_, ?_, ?_, ?_⟩, ?_, ?_, ?_, ?_, ?_⟩ <;> go_cell) hb (by first | omega | (simp; done) | (simp; omega))
  have D6 : Below w.heap.size w w6 := Below.trans (by go_grown) (hb.mono (by first | omega | (simp; done) | (simp; omega)))
  have s6 : w5.heap.size < w6.heap.size := by have := hb.size; (try simp at this); omega
  clear hb D5 c5_x_0 c5_x_1 c5_x_2 c5_x_3 c5_x_4 f5_x_0 f5_x_1 f5_x_2 f5_x_3 f5_x_4 c5_y_0 c5_y_1 c5_y_2 c5_y_3 c5_y_4 f5_y_0 f5_y_1 f5_y_2 f5_y_3 f5_y_4 c5_p_0 c5_p_1 c5_p_2 c5_p_3 c5_p_4 f5_p_0 f5_p_1 f5_p_2 f5_p_3 f5_p_4
  obtain ⟨⟨c6_x_0, c6_x_1, c6_x_2, c6_x_3, c6_x_4⟩, f6_x_0, f6_x_1, f6_x_2, f6_x_3, f6_x_4⟩ := K6_x
  obtain ⟨⟨c6_y_0, c6_y_1, c6_y_2, c6_y_3, c6_y_4⟩, f6_y_0, f6_y_1, f6_y_2, f6_y_3, f6_y_4⟩ := K6_y
  obtain ⟨⟨c6_p_0, c6_p_1, c6_p_2, c6_p_3, c6_p_4⟩, f6_p_0, f6_p_1, f6_p_2, f6_p_3, f6_p_4⟩ := K6_p
  obtain ⟨⟨c6_r_0, c6_r_1, c6_r_2, c6_r_3, c6_r_4⟩, f6_r_0, f6_r_1, f6_r_2, f6_r_3, f6_r_4⟩ := K6_r
  have l6_x : w.heap.size < w6.heap.size := by omega
  have l6_y : w.heap.size + 1 < w6.heap.size := by omega
  have l6_p : w1.heap.size < w6.heap.size := by omega
  go_wp2_with fail
  refine (Power_any _ _ _ _ _ _).mono ?_
  rintro e w7 ⟨rfl, hb⟩
  rw [HL.out]
  unfold Ret5
  (try simp only)
  have K7_p : Has5 w7 (w1.heap.size) x0 x1 x2 x3 x4 := Has5.keep (by refine ⟨⟨?_, ?_, ?_, ?_, ?_⟩, ?_, ?_, ?_, ?_, ?_⟩ <;> go_cell) hb (by first | omega | (simp; done) | (simp; omega))
  have K7_r : Has5 w7 (w5.heap.size) u0 u1 u2 u3 u4 := Has5.keep (by refine ⟨⟨?_, ?_, ?_, ?_, ?_⟩, ?_, ?_, ?_, ?_, ?_⟩ <;> go_cell) hb (by first | omega | (simp; done) | (simp; omega))
  have K7_z : Has5 w7 (w6.heap.size) v0 v1 v2 v3 v4 := Has5.keep (by refine ⟨⟨?_, ?_, ?_, ?_, ?_⟩, ?_, ?_, ?_, ?_, ?_⟩ <;> go_cell) hb (by first | omega | (simp; done) | (simp; omega))
  have D7 : Below w.heap.size w w7 := Below.trans (by go_grown) (hb.mono (by first | omega | (simp; done) | (simp; omega)))
  have s7 : w6.heap.size < w7.heap.size := by have := hb.size; (try simp at this); omega
  clear hb D6 c6_x_0 c6_x_1 c6_x_2 c6_x_3 c6_x_4 f6_x_0 f6_x_1 f6_x_2 f6_x_3 f6_x_4 c6_y_0 c6_y_1 c6_y_2 c6_y_3 c6_y_4 f6_y_0 f6_y_1 f6_y_2 f6_y_3 f6_y_4 c6_p_0 c6_p_1 c6_p_2 c6_p_3 c6_p_4 f6_p_0 f6_p_1 f6_p_2 f6_p_3 f6_p_4 c6_r_0 c6_r_1 c6_r_2 c6_r_3 c6_r_4 f6_r_0 f6_r_1 f6_r_2 f6_r_3 f6_r_4
  obtain ⟨⟨c7_p_0, c7_p_1, c7_p_2, c7_p_3, c7_p_4⟩, f7_p_0, f7_p_1, f7_p_2, f7_p_3, f7_p_4⟩ := K7_p
  obtain ⟨⟨c7_r_0, c7_r_1, c7_r_2, c7_r_3, c7_r_4⟩, f7_r_0, f7_r_1, f7_r_2, f7_r_3, f7_r_4⟩ := K7_r
  obtain ⟨⟨c7_z_0, c7_z_1, c7_z_2, c7_z_3, c7_z_4⟩, f7_z_0, f7_z_1, f7_z_2, f7_z_3, f7_z_4⟩ := K7_z
  have l7_x : w.heap.size < w7.heap.size := by omega
  have l7_y : w.heap.size + 1 < w7.heap.size := by omega
  have l7_p : w1.heap.size < w7.heap.size := by omega
  have l7_r : w5.heap.size < w7.heap.size := by omega
  go_wp2_with fail
  refine (Mul_any _ _ _ _ _ _ _ _ _ _ _).mono ?_
  rintro e w8 ⟨rfl, hb⟩
  rw [HT.out]
  unfold Ret5
  (try simp only)
  have K8_lf : Has5 w8 (w7.heap.size) i0 i1 i2 i3 i4 := Has5.keep (by refine ⟨⟨?_, ?_, ?_, ?_, ?_⟩, ?_, ?_, ?_, ?_, ?_⟩ <;> go_cell) hb (by first | omega | (simp; done) | (simp; omega))
  have D8 : Below w.heap.size w w8 := Below.trans (by go_grown) (hb.mono (by first | omega | (simp; done) | (simp; omega)))
  have s8 : w7.heap.size < w8.heap.size := by have := hb.size; (try simp at this); omega
  clear hb D7 c7_p_0 c7_p_1 c7_p_2 c7_p_3 c7_p_4 f7_p_0 f7_p_1 f7_p_2 f7_p_3 f7_p_4 c7_r_0 c7_r_1 c7_r_2 c7_r_3 c7_r_4 f7_r_0 f7_r_1 f7_r_2 f7_r_3 f7_r_4 c7_z_0 c7_z_1 c7_z_2 c7_z_3 c7_z_4 f7_z_0 f7_z_1 f7_z_2 f7_z_3 f7_z_4
  obtain ⟨⟨c8_lf_0, c8_lf_1, c8_lf_2, c8_lf_3, c8_lf_4⟩, f8_lf_0, f8_lf_1, f8_lf_2, f8_lf_3, f8_lf_4⟩ := K8_lf
  have l8_p : w1.heap.size < w8.heap.size := by omega
  have l8_r : w5.heap.size < w8.heap.size := by omega
  have l8_z : w6.heap.size < w8.heap.size := by omega
  by_cases hre : re = 0
  · by_cases hze : ze = 0
    · by_cases hle : le = 0
      · by_cases hte : te = 0
        · obtain ⟨z0, z1, z2, z3, z4⟩ := HF.out hre hze hle hte
          subst hre hze hle hte z0 z1 z2 z3 z4
          go_wp2_with fail
          refine (awake_any _).mono ?_
          rintro e WN ⟨rfl, hb⟩
          have DN : Below w.heap.size w WN := Below.trans (by go_grown) (hb.mono (by first | omega | (simp; done) | (simp; omega)))
          clear hb
          go_wp2_with fail
          go_returns
          exact ⟨rfl, DN⟩
        · go_wp2_with fail
          refine (awake_any _).mono ?_
          rintro e WN ⟨rfl, hb⟩
          have DN : Below w.heap.size w WN := Below.trans (by go_grown) (hb.mono (by first | omega | (simp; done) | (simp; omega)))
          clear hb
          go_wp2_with fail
          go_returns
          exact ⟨rfl, DN⟩
      · go_wp2_with fail
        refine (awake_any _).mono ?_
        rintro e WN ⟨rfl, hb⟩
        have DN : Below w.heap.size w WN := Below.trans (by go_grown) (hb.mono (by first | omega | (simp; done) | (simp; omega)))
        clear hb
        go_wp2_with fail
        go_returns
        exact ⟨rfl, DN⟩
    · go_wp2_with fail
      refine (awake_any _).mono ?_
      rintro e WN ⟨rfl, hb⟩
      have DN : Below w.heap.size w WN := Below.trans (by go_grown) (hb.mono (by first | omega | (simp; done) | (simp; omega)))
      clear hb
      go_wp2_with fail
      go_returns
      exact ⟨rfl, DN⟩
  · go_wp2_with fail
    refine (awake_any _).mono ?_
    rintro e WN ⟨rfl, hb⟩
    have DN : Below w.heap.size w WN := Below.trans (by go_grown) (hb.mono (by first | omega | (simp; done) | (simp; omega)))
    clear hb
    go_wp2_with fail
    go_returns
    exact ⟨rfl, DN⟩

set_option maxRecDepth 100000 in
set_option maxHeartbeats 8000000 in
theorem AmpPowers_c1 (a b c d k p q r s l x0 x1 x2 x3 x4 y0 y1 y2 y3 u0 u1 u2 u3 u4 re v0 v1 v2 v3 v4 ze i0 i1 i2 i3 i4 le t0 t1 t2 t3 t4 te m1 : Int) (w : World) (n1 : Int)
    (HP : Hid (powS ⟨⟨a, b, c, d⟩, k⟩ = (⟨⟨x0, x1, x2, x3⟩, x4⟩, 0)))
    (HN : Hid (cmpS ⟨⟨x0, x1, x2, x3⟩, x4⟩ N0 = (n1, 0)))
    (HQ : Hid (chgS ⟨⟨x0, x1, x2, x3⟩, x4⟩ (fun x => flipV x x4) = (⟨⟨y0, y1, y2, y3⟩, x4⟩, 0)))
    (HM : Hid (cmpS ⟨⟨y0, y1, y2, y3⟩, x4⟩ N0 = (m1, 0)))
    (hm1 : 0 ≤ m1)
    (HR : Hid (powS ⟨⟨p, q, r, s⟩, l⟩ = (⟨⟨u0, u1, u2, u3⟩, u4⟩, re)))
    (HZ : Hid (mulS ⟨⟨a, b, c, d⟩, k⟩ ⟨⟨p, q, r, s⟩, l⟩ = (⟨⟨v0, v1, v2, v3⟩, v4⟩, ze)))
    (HL : Hid (powS ⟨⟨v0, v1, v2, v3⟩, v4⟩ = (⟨⟨i0, i1, i2, i3⟩, i4⟩, le)))
    (HT : Hid (mulS ⟨⟨x0, x1, x2, x3⟩, x4⟩ ⟨⟨u0, u1, u2, u3⟩, u4⟩ = (⟨⟨t0, t1, t2, t3⟩, t4⟩, te)))
    (HF : Hid (re = 0 → ze = 0 → le = 0 → te = 0 → i0 = t0 ∧ i1 = t1 ∧ i2 = t2 ∧ i3 = t3 ∧ i4 = t4))
    (hn1 : 0 ≤ n1)
    (hn0 : ¬ n1 = 0)
    (hb0 : (a == 0 && (b == 0 && (c == 0 && (d == 0 && k == 0)))) = false) :
    Calls Try.prog 12 #[.agg #[.int .i64 a, .int .i64 b, .int .i64 c, .int .i64 d, .int .i64 k], .agg #[.int .i64 p, .int .i64 q, .int .i64 r, .int .i64 s, .int .i64 l]] w fun e w' => e = .returned (.bool true) ∧ Below w.heap.size w w' := by
  go_enter Try.func12, Try.ntmps12
  go_wp2_with fail
  refine (Power_any _ _ _ _ _ _).mono ?_
  rintro e w1 ⟨rfl, hb⟩
  rw [HP.out]
  unfold Ret5
  (try simp only)
  have K1_x : Has5 w1 (w.heap.size) a b c d k := Has5.keep (by refine ⟨⟨?_, ?_, ?_, ?_, ?_⟩, ?_, ?_, ?_, ?_, ?_⟩ <;> go_cell) hb (by first | omega | (simp; done) | (simp; omega))
  have K1_y : Has5 w1 (w.heap.size + 1) p q r s l := Has5.keep (by refine ⟨⟨?_, ?_, ?_, ?_, ?_⟩, ?_, ?_, ?_, ?_, ?_⟩ <;> go_cell) hb (by first | omega | (simp; done) | (simp; omega))
  have D1 : Below w.heap.size w w1 := Below.trans (by go_grown) (hb.mono (by first | omega | (simp; done) | (simp; omega)))
  have s1 : w.heap.size + 1 < w1.heap.size := by have := hb.size; (try simp at this); omega
  clear hb
  obtain ⟨⟨c1_x_0, c1_x_1, c1_x_2, c1_x_3, c1_x_4⟩, f1_x_0, f1_x_1, f1_x_2, f1_x_3, f1_x_4⟩ := K1_x
  obtain ⟨⟨c1_y_0, c1_y_1, c1_y_2, c1_y_3, c1_y_4⟩, f1_y_0, f1_y_1, f1_y_2, f1_y_3, f1_y_4⟩ := K1_y
  have l1_x : w.heap.size < w1.heap.size := by omega
  have hm2 : ¬ m1 < 0 := by omega
  have hn2 : ¬ n1 < 0 := by omega
  go_wp2_with fail
  refine (Sign_any _ _ _ _ _ _).mono ?_
  rintro e w2 ⟨rfl, hb⟩
  rw [HN.out]
  (try simp only)
  have K2_x : Has5 w2 (w.heap.size) a b c d k := Has5.keep (by refine ⟨⟨?_, ?_, ?_, ?_, ?_⟩, ?_, ?_, ?_, ?_, ?_⟩ <;> go_cell) hb (by first | omega | (simp; done) | (simp; omega))
  have K2_y : Has5 w2 (w.heap.size + 1) p q r s l := Has5.keep (by refine ⟨⟨?_, ?_, ?_, ?_, ?_⟩, ?_, ?_, ?_, ?_, ?_⟩ <;> go_cell) hb (by first | omega | (simp; done) | (simp; omega))
  have K2_p : Has5 w2 (w1.heap.size) x0 x1 x2 x3 x4 := Has5.keep (by refine ⟨⟨?_, ?_, ?_, ?_, ?_⟩, ?_, ?_, ?_, ?_, ?_⟩ <;> go_cell) hb (by first | omega | (simp; done) | (simp; omega))
  have D2 : Below w.heap.size w w2 := Below.trans (by go_grown) (hb.mono (by first | omega | (simp; done) | (simp; omega)))
  have s2 : w1.heap.size < w2.heap.size := by have := hb.size; (try simp at this); omega
  clear hb D1 c1_x_0 c1_x_1 c1_x_2 c1_x_3 c1_x_4 f1_x_0 f1_x_1 f1_x_2 f1_x_3 f1_x_4 c1_y_0 c1_y_1 c1_y_2 c1_y_3 c1_y_4 f1_y_0 f1_y_1 f1_y_2 f1_y_3 f1_y_4
  obtain ⟨⟨c2_x_0, c2_x_1, c2_x_2, c2_x_3, c2_x_4⟩, f2_x_0, f2_x_1, f2_x_2, f2_x_3, f2_x_4⟩ := K2_x
  obtain ⟨⟨c2_y_0, c2_y_1, c2_y_2, c2_y_3, c2_y_4⟩, f2_y_0, f2_y_1, f2_y_2, f2_y_3, f2_y_4⟩ := K2_y
  obtain ⟨⟨c2_p_0, c2_p_1, c2_p_2, c2_p_3, c2_p_4⟩, f2_p_0, f2_p_1, f2_p_2, f2_p_3, f2_p_4⟩ := K2_p
  have l2_x : w.heap.size < w2.heap.size := by omega
  have l2_y : w.heap.size + 1 < w2.heap.size := by omega
  go_wp2_with fail
  refine (Flip_any _ _ _ _ _ _).mono ?_
  rintro e w3 ⟨rfl, hb⟩
  rw [HQ.out]
  unfold Ret5
  (try simp only)
  have K3_x : Has5 w3 (w.heap.size) a b c d k := Has5.keep (by refine ⟨⟨?_, ?_, ?_, ?_, ?_⟩, ?_, ?_, ?_, ?_, ?_⟩ <;> go_cell) hb (by first | omega | (simp; done) | (simp; omega))
  have K3_y : Has5 w3 (w.heap.size + 1) p q r s l := Has5.keep (by refine ⟨⟨?_, ?_, ?_, ?_, ?_⟩, ?_, ?_, ?_, ?_, ?_⟩ <;> go_cell) hb (by first | omega | (simp; done) | (simp; omega))
  have K3_p : Has5 w3 (w1.heap.size) x0 x1 x2 x3 x4 := Has5.keep (by refine ⟨⟨?_, ?_, ?_, ?_, ?_⟩, ?_, ?_, ?_, ?_, ?_⟩ <;> go_cell) hb (by first | omega | (simp; done) | (simp; omega))
  have D3 : Below w.heap.size w w3 := Below.trans (by go_grown) (hb.mono (by first | omega | (simp; done) | (simp; omega)))
  have s3 : w1.heap.size < w3.heap.size := by have := hb.size; (try simp at this); omega
  clear hb D2 c2_x_0 c2_x_1 c2_x_2 c2_x_3 c2_x_4 f2_x_0 f2_x_1 f2_x_2 f2_x_3 f2_x_4 c2_y_0 c2_y_1 c2_y_2 c2_y_3 c2_y_4 f2_y_0 f2_y_1 f2_y_2 f2_y_3 f2_y_4 c2_p_0 c2_p_1 c2_p_2 c2_p_3 c2_p_4 f2_p_0 f2_p_1 f2_p_2 f2_p_3 f2_p_4
  obtain ⟨⟨c3_x_0, c3_x_1, c3_x_2, c3_x_3, c3_x_4⟩, f3_x_0, f3_x_1, f3_x_2, f3_x_3, f3_x_4⟩ := K3_x
  obtain ⟨⟨c3_y_0, c3_y_1, c3_y_2, c3_y_3, c3_y_4⟩, f3_y_0, f3_y_1, f3_y_2, f3_y_3, f3_y_4⟩ := K3_y
  obtain ⟨⟨c3_p_0, c3_p_1, c3_p_2, c3_p_3, c3_p_4⟩, f3_p_0, f3_p_1, f3_p_2, f3_p_3, f3_p_4⟩ := K3_p
  have l3_x : w.heap.size < w3.heap.size := by omega
  have l3_y : w.heap.size + 1 < w3.heap.size := by omega
  go_wp2_with fail
  refine (Sign_any _ _ _ _ _ _).mono ?_
  rintro e w4 ⟨rfl, hb⟩
  rw [HM.out]
  (try simp only)
  have K4_x : Has5 w4 (w.heap.size) a b c d k := Has5.keep (by refine ⟨⟨?_, ?_, ?_, ?_, ?_⟩, ?_, ?_, ?_, ?_, ?_⟩ <;> go_cell) hb (by first | omega | (simp; done) | (simp; omega))
  have K4_y : Has5 w4 (w.heap.size + 1) p q r s l := Has5.keep (by refine ⟨⟨?_, ?_, ?_, ?_, ?_⟩, ?_, ?_, ?_, ?_, ?_⟩ <;> go_cell) hb (by first | omega | (simp; done) | (simp; omega))
  have K4_p : Has5 w4 (w1.heap.size) x0 x1 x2 x3 x4 := Has5.keep (by refine ⟨⟨?_, ?_, ?_, ?_, ?_⟩, ?_, ?_, ?_, ?_, ?_⟩ <;> go_cell) hb (by first | omega | (simp; done) | (simp; omega))
  have K4_q : Has5 w4 (w3.heap.size) y0 y1 y2 y3 x4 := Has5.keep (by refine ⟨⟨?_, ?_, ?_, ?_, ?_⟩, ?_, ?_, ?_, ?_, ?_⟩ <;> go_cell) hb (by first | omega | (simp; done) | (simp; omega))
  have D4 : Below w.heap.size w w4 := Below.trans (by go_grown) (hb.mono (by first | omega | (simp; done) | (simp; omega)))
  have s4 : w3.heap.size < w4.heap.size := by have := hb.size; (try simp at this); omega
  clear hb D3 c3_x_0 c3_x_1 c3_x_2 c3_x_3 c3_x_4 f3_x_0 f3_x_1 f3_x_2 f3_x_3 f3_x_4 c3_y_0 c3_y_1 c3_y_2 c3_y_3 c3_y_4 f3_y_0 f3_y_1 f3_y_2 f3_y_3 f3_y_4 c3_p_0 c3_p_1 c3_p_2 c3_p_3 c3_p_4 f3_p_0 f3_p_1 f3_p_2 f3_p_3 f3_p_4
  obtain ⟨⟨c4_x_0, c4_x_1, c4_x_2, c4_x_3, c4_x_4⟩, f4_x_0, f4_x_1, f4_x_2, f4_x_3, f4_x_4⟩ := K4_x
  obtain ⟨⟨c4_y_0, c4_y_1, c4_y_2, c4_y_3, c4_y_4⟩, f4_y_0, f4_y_1, f4_y_2, f4_y_3, f4_y_4⟩ := K4_y
  obtain ⟨⟨c4_p_0, c4_p_1, c4_p_2, c4_p_3, c4_p_4⟩, f4_p_0, f4_p_1, f4_p_2, f4_p_3, f4_p_4⟩ := K4_p
  obtain ⟨⟨c4_q_0, c4_q_1, c4_q_2, c4_q_3, c4_q_4⟩, f4_q_0, f4_q_1, f4_q_2, f4_q_3, f4_q_4⟩ := K4_q
  have l4_x : w.heap.size < w4.heap.size := by omega
  have l4_y : w.heap.size + 1 < w4.heap.size := by omega
  have l4_p : w1.heap.size < w4.heap.size := by omega
  go_wp2_with (first | simp only [hb0] | fail)
  · rename_i h
    exfalso
    rcases h with (h | h) | h
    · omega
    · omega
    · simp at h; exact hn0 h
  refine (Power_any _ _ _ _ _ _).mono ?_
  rintro e w5 ⟨rfl, hb⟩
  rw [HR.out]
  unfold Ret5
  (try simp only)
  have K5_x : Has5 w5 (w.heap.size) a b c d k := Has5.keep (by refine ⟨⟨?_, ?_, ?_, ?_, ?_⟩, ?_, ?_, ?_, ?_, ?_⟩ <;> go_cell) hb (by first | omega | (simp; done) | (simp; omega))
  have K5_y : Has5 w5 (w.heap.size + 1) p q r s l := Has5.keep (by refine ⟨⟨?_, ?_, ?_, ?_, ?_⟩, ?_, ?_, ?_, ?_, ?_⟩ <;> go_cell) hb (by first | omega | (simp; done) | (simp; omega))
  have K5_p : Has5 w5 (w1.heap.size) x0 x1 x2 x3 x4 := Has5.keep (by refine ⟨⟨?_, ?_, ?_, ?_, ?_⟩, ?_, ?_, ?_, ?_, ?_⟩ <;> go_cell) hb (by first | omega | (simp; done) | (simp; omega))
  have D5 : Below w.heap.size w w5 := Below.trans (by go_grown) (hb.mono (by first | omega | (simp; done) | (simp; omega)))
  have s5 : w3.heap.size < w5.heap.size := by have := hb.size; (try simp at this); omega
  clear hb D4 c4_x_0 c4_x_1 c4_x_2 c4_x_3 c4_x_4 f4_x_0 f4_x_1 f4_x_2 f4_x_3 f4_x_4 c4_y_0 c4_y_1 c4_y_2 c4_y_3 c4_y_4 f4_y_0 f4_y_1 f4_y_2 f4_y_3 f4_y_4 c4_p_0 c4_p_1 c4_p_2 c4_p_3 c4_p_4 f4_p_0 f4_p_1 f4_p_2 f4_p_3 f4_p_4 c4_q_0 c4_q_1 c4_q_2 c4_q_3 c4_q_4 f4_q_0 f4_q_1 f4_q_2 f4_q_3 f4_q_4
  obtain ⟨⟨c5_x_0, c5_x_1, c5_x_2, c5_x_3, c5_x_4⟩, f5_x_0, f5_x_1, f5_x_2, f5_x_3, f5_x_4⟩ := K5_x
  obtain ⟨⟨c5_y_0, c5_y_1, c5_y_2, c5_y_3, c5_y_4⟩, f5_y_0, f5_y_1, f5_y_2, f5_y_3, f5_y_4⟩ := K5_y
  obtain ⟨⟨c5_p_0, c5_p_1, c5_p_2, c5_p_3, c5_p_4⟩, f5_p_0, f5_p_1, f5_p_2, f5_p_3, f5_p_4⟩ := K5_p
  have l5_x : w.heap.size < w5.heap.size := by omega
  have l5_y : w.heap.size + 1 < w5.heap.size := by omega
  have l5_p : w1.heap.size < w5.heap.size := by omega
  go_wp2_with fail
  refine (Mul_any _ _ _ _ _ _ _ _ _ _ _).mono ?_
  rintro e w6 ⟨rfl, hb⟩
  rw [HZ.out]
  unfold Ret5
  (try simp only)
  have K6_x : Has5 w6 (w.heap.size) a b c d k := Has5.keep (by refine ⟨⟨?_, ?_, ?_, ?_, ?_⟩, ?_, ?_, ?_, ?_, ?_⟩ <;> go_cell) hb (by first | omega | (simp; done) | (simp; omega))
  have K6_y : Has5 w6 (w.heap.size + 1) p q r s l := Has5.keep (by refine ⟨⟨?_, ?_, ?_, ?_, ?_⟩, ?_, ?_, ?_, ?_, ?_⟩ <;> go_cell) hb (by first | omega | (simp; done) | (simp; omega))
  have K6_p : Has5 w6 (w1.heap.size) x0 x1 x2 x3 x4 := Has5.keep (by refine ⟨⟨?_, ?_, ?_, ?_, ?_⟩, ?_, ?_, ?_, ?_, ?_⟩ <;> go_cell) hb (by first | omega | (simp; done) | (simp; omega))
  have K6_r : Has5 w6 (w5.heap.size) u0 u1 u2 u3 u4 := Has5.keep (by refine ⟨⟨?_, ?_, ?_, ?_, ?_⟩, ?_, ?_, ?_, ?_, ?_⟩ <;> go_cell) hb (by first | omega | (simp; done) | (simp; omega))
  have D6 : Below w.heap.size w w6 := Below.trans (by go_grown) (hb.mono (by first | omega | (simp; done) | (simp; omega)))
  have s6 : w5.heap.size < w6.heap.size := by have := hb.size; (try simp at this); omega
  clear hb D5 c5_x_0 c5_x_1 c5_x_2 c5_x_3 c5_x_4 f5_x_0 f5_x_1 f5_x_2 f5_x_3 f5_x_4 c5_y_0 c5_y_1 c5_y_2 c5_y_3 c5_y_4 f5_y_0 f5_y_1 f5_y_2 f5_y_3 f5_y_4 c5_p_0 c5_p_1 c5_p_2 c5_p_3 c5_p_4 f5_p_0 f5_p_1 f5_p_2 f5_p_3 f5_p_4
  obtain ⟨⟨c6_x_0, c6_x_1, c6_x_2, c6_x_3, c6_x_4⟩, f6_x_0, f6_x_1, f6_x_2, f6_x_3, f6_x_4⟩ := K6_x
  obtain ⟨⟨c6_y_0, c6_y_1, c6_y_2, c6_y_3, c6_y_4⟩, f6_y_0, f6_y_1, f6_y_2, f6_y_3, f6_y_4⟩ := K6_y
  obtain ⟨⟨c6_p_0, c6_p_1, c6_p_2, c6_p_3, c6_p_4⟩, f6_p_0, f6_p_1, f6_p_2, f6_p_3, f6_p_4⟩ := K6_p
  obtain ⟨⟨c6_r_0, c6_r_1, c6_r_2, c6_r_3, c6_r_4⟩, f6_r_0, f6_r_1, f6_r_2, f6_r_3, f6_r_4⟩ := K6_r
  have l6_x : w.heap.size < w6.heap.size := by omega
  have l6_y : w.heap.size + 1 < w6.heap.size := by omega
  have l6_p : w1.heap.size < w6.heap.size := by omega
  go_wp2_with fail
  refine (Power_any _ _ _ _ _ _).mono ?_
  rintro e w7 ⟨rfl, hb⟩
  rw [HL.out]
  unfold Ret5
  (try simp only)
  have K7_p : Has5 w7 (w1.heap.size) x0 x1 x2 x3 x4 := Has5.keep (by refine ⟨⟨?_, ?_, ?_, ?_, ?_⟩, ?_, ?_, ?_, ?_, ?_⟩ <;> go_cell) hb (by first | omega | (simp; done) | (simp; omega))
  have K7_r : Has5 w7 (w5.heap.size) u0 u1 u2 u3 u4 := Has5.keep (by refine ⟨⟨?_, ?_, ?_, ?_, ?_⟩, ?_, ?_, ?_, ?_, ?_⟩ <;> go_cell) hb (by first | omega | (simp; done) | (simp; omega))
  have K7_z : Has5 w7 (w6.heap.size) v0 v1 v2 v3 v4 := Has5.keep (by refine ⟨⟨?_, ?_, ?_, ?_, ?_⟩, ?_, ?_, ?_, ?_, ?_⟩ <;> go_cell) hb (by first | omega | (simp; done) | (simp; omega))
  have D7 : Below w.heap.size w w7 := Below.trans (by go_grown) (hb.mono (by first | omega | (simp; done) | (simp; omega)))
  have s7 : w6.heap.size < w7.heap.size := by have := hb.size; (try simp at this); omega
  clear hb D6 c6_x_0 c6_x_1 c6_x_2 c6_x_3 c6_x_4 f6_x_0 f6_x_1 f6_x_2 f6_x_3 f6_x_4 c6_y_0 c6_y_1 c6_y_2 c6_y_3 c6_y_4 f6_y_0 f6_y_1 f6_y_2 f6_y_3 f6_y_4 c6_p_0 c6_p_1 c6_p_2 c6_p_3 c6_p_4 f6_p_0 f6_p_1 f6_p_2 f6_p_3 f6_p_4 c6_r_0 c6_r_1 c6_r_2 c6_r_3 c6_r_4 f6_r_0 f6_r_1 f6_r_2 f6_r_3 f6_r_4
  obtain ⟨⟨c7_p_0, c7_p_1, c7_p_2, c7_p_3, c7_p_4⟩, f7_p_0, f7_p_1, f7_p_2, f7_p_3, f7_p_4⟩ := K7_p
  obtain ⟨⟨c7_r_0, c7_r_1, c7_r_2, c7_r_3, c7_r_4⟩, f7_r_0, f7_r_1, f7_r_2, f7_r_3, f7_r_4⟩ := K7_r
  obtain ⟨⟨c7_z_0, c7_z_1, c7_z_2, c7_z_3, c7_z_4⟩, f7_z_0, f7_z_1, f7_z_2, f7_z_3, f7_z_4⟩ := K7_z
  have l7_x : w.heap.size < w7.heap.size := by omega
  have l7_y : w.heap.size + 1 < w7.heap.size := by omega
  have l7_p : w1.heap.size < w7.heap.size := by omega
  have l7_r : w5.heap.size < w7.heap.size := by omega
  go_wp2_with fail
  refine (Mul_any _ _ _ _ _ _ _ _ _ _ _).mono ?_
  rintro e w8 ⟨rfl, hb⟩
  rw [HT.out]
  unfold Ret5
  (try simp only)
  have K8_lf : Has5 w8 (w7.heap.size) i0 i1 i2 i3 i4 := Has5.keep (by refine ⟨⟨?_, ?_, ?_, ?_, ?_⟩, ?_, ?_, ?_, ?_, ?_⟩ <;> go_cell) hb (by first | omega | (simp; done) | (simp; omega))
  have D8 : Below w.heap.size w w8 := Below.trans (by go_grown) (hb.mono (by first | omega | (simp; done) | (simp; omega)))
  have s8 : w7.heap.size < w8.heap.size := by have := hb.size; (try simp at this); omega
  clear hb D7 c7_p_0 c7_p_1 c7_p_2 c7_p_3 c7_p_4 f7_p_0 f7_p_1 f7_p_2 f7_p_3 f7_p_4 c7_r_0 c7_r_1 c7_r_2 c7_r_3 c7_r_4 f7_r_0 f7_r_1 f7_r_2 f7_r_3 f7_r_4 c7_z_0 c7_z_1 c7_z_2 c7_z_3 c7_z_4 f7_z_0 f7_z_1 f7_z_2 f7_z_3 f7_z_4
  obtain ⟨⟨c8_lf_0, c8_lf_1, c8_lf_2, c8_lf_3, c8_lf_4⟩, f8_lf_0, f8_lf_1, f8_lf_2, f8_lf_3, f8_lf_4⟩ := K8_lf
  have l8_p : w1.heap.size < w8.heap.size := by omega
  have l8_r : w5.heap.size < w8.heap.size := by omega
  have l8_z : w6.heap.size < w8.heap.size := by omega
  by_cases hre : re = 0
  · by_cases hze : ze = 0
    · by_cases hle : le = 0
      · by_cases hte : te = 0
        · obtain ⟨z0, z1, z2, z3, z4⟩ := HF.out hre hze hle hte
          subst hre hze hle hte z0 z1 z2 z3 z4
          go_wp2_with fail
          refine (awake_any _).mono ?_
          rintro e WN ⟨rfl, hb⟩
          have DN : Below w.heap.size w WN := Below.trans (by go_grown) (hb.mono (by first | omega | (simp; done) | (simp; omega)))
          clear hb
          go_wp2_with fail
          go_returns
          exact ⟨rfl, DN⟩
        · go_wp2_with fail
          refine (awake_any _).mono ?_
          rintro e WN ⟨rfl, hb⟩
          have DN : Below w.heap.size w WN := Below.trans (by go_grown) (hb.mono (by first | omega | (simp; done) | (simp; omega)))
          clear hb
          go_wp2_with fail
          go_returns
          exact ⟨rfl, DN⟩
      · go_wp2_with fail
        refine (awake_any _).mono ?_
        rintro e WN ⟨rfl, hb⟩
        have DN : Below w.heap.size w WN := Below.trans (by go_grown) (hb.mono (by first | omega | (simp; done) | (simp; omega)))
        clear hb
        go_wp2_with fail
        go_returns
        exact ⟨rfl, DN⟩
    · go_wp2_with fail
      refine (awake_any _).mono ?_
      rintro e WN ⟨rfl, hb⟩
      have DN : Below w.heap.size w WN := Below.trans (by go_grown) (hb.mono (by first | omega | (simp; done) | (simp; omega)))
      clear hb
      go_wp2_with fail
      go_returns
      exact ⟨rfl, DN⟩
  · go_wp2_with fail
    refine (awake_any _).mono ?_
    rintro e WN ⟨rfl, hb⟩
    have DN : Below w.heap.size w WN := Below.trans (by go_grown) (hb.mono (by first | omega | (simp; done) | (simp; omega)))
    clear hb
    go_wp2_with fail
    go_returns
    exact ⟨rfl, DN⟩

theorem nonzero_num {a b c d k : Int} (h : ¬ (⟨⟨a, b, c, d⟩, k⟩ : Nm) = N0) : (a == 0 && (b == 0 && (c == 0 && (d == 0 && k == 0)))) = false := by
  apply Classical.byContradiction
  intro hn
  apply h
  simp at hn
  obtain ⟨rfl, rfl, rfl, rfl, rfl⟩ := hn
  rfl
theorem powS_bad {x p : Nm} {e : Int} (h : powS x = (p, e)) (he : e ≠ 0) : p = N0 := by
  unfold powS at h
  split at h
  · rcases made_code (x := mul x.v (conj x.v)) (k := (2 * x.k).toNat) with h1 | h1
    · rw [h] at h1; exact absurd h1 he
    · rw [h1] at h; simp at h; exact h.1.symm
  · simp at h; exact h.1.symm
theorem AmpPowers_any (a b c d k p q r s l : Int) (w : World) :
    Calls Try.prog 12 #[.agg #[.int .i64 a, .int .i64 b, .int .i64 c, .int .i64 d, .int .i64 k], .agg #[.int .i64 p, .int .i64 q, .int .i64 r, .int .i64 s, .int .i64 l]] w fun e w' => e = .returned (.bool true) ∧ Below w.heap.size w w' := by
  obtain ⟨x0, x1, x2, x3, x4, pe, HP⟩ := res5 (powS ⟨⟨a, b, c, d⟩, k⟩)
  by_cases hpe : pe = 0
  · subst hpe
    obtain ⟨u0, u1, u2, u3, u4, re, HR⟩ := res5 (powS ⟨⟨p, q, r, s⟩, l⟩)
    obtain ⟨v0, v1, v2, v3, v4, ze, HZ⟩ := res5 (mulS ⟨⟨a, b, c, d⟩, k⟩ ⟨⟨p, q, r, s⟩, l⟩)
    obtain ⟨i0, i1, i2, i3, i4, le, HL⟩ := res5 (powS ⟨⟨v0, v1, v2, v3⟩, v4⟩)
    obtain ⟨t0, t1, t2, t3, t4, te, HT⟩ := res5 (mulS ⟨⟨x0, x1, x2, x3⟩, x4⟩ ⟨⟨u0, u1, u2, u3⟩, u4⟩)
    obtain ⟨n1, hn, hn1, hz⟩ := powers_a HP.out
    obtain ⟨m1, hq, hm, hm1⟩ := powers_b HP.out
    obtain ⟨y0, y1, y2, y3, hfl⟩ : ∃ y0 y1 y2 y3, flipV ⟨x0, x1, x2, x3⟩ x4 = ⟨y0, y1, y2, y3⟩ := ⟨_, _, _, _, rfl⟩
    simp only at hq hm
    rw [hfl] at hq hm
    have HF : Hid (re = 0 → ze = 0 → le = 0 → te = 0 → i0 = t0 ∧ i1 = t1 ∧ i2 = t2 ∧ i3 = t3 ∧ i4 = t4) := Lib.hid (fun e1 e2 e3 e4 => by
      subst e1 e2 e3 e4
      have := powers_c HP.out HR.out HZ.out HL.out HT.out
      simp only [Nm.mk.injEq, C4.mk.injEq] at this
      omega)
    by_cases h0 : n1 = 0
    · have hx := hz.1 h0
      simp only [N0, C0, Nm.mk.injEq, C4.mk.injEq] at hx
      obtain ⟨⟨rfl, rfl, rfl, rfl⟩, rfl⟩ := hx
      subst h0
      exact AmpPowers_c0 p q r s l x0 x1 x2 x3 x4 y0 y1 y2 y3 u0 u1 u2 u3 u4 re v0 v1 v2 v3 v4 ze i0 i1 i2 i3 i4 le t0 t1 t2 t3 t4 te m1 w HP (Lib.hid hn) (Lib.hid hq) (Lib.hid hm) hm1 HR HZ HL HT HF
    · exact AmpPowers_c1 a b c d k p q r s l x0 x1 x2 x3 x4 y0 y1 y2 y3 u0 u1 u2 u3 u4 re v0 v1 v2 v3 v4 ze i0 i1 i2 i3 i4 le t0 t1 t2 t3 t4 te m1 w n1 HP (Lib.hid hn) (Lib.hid hq) (Lib.hid hm) hm1 HR HZ HL HT HF hn1 h0 (nonzero_num (fun e => h0 (hz.2 e)))
  · have h0 := powS_bad HP.out hpe
    simp only [N0, C0, Nm.mk.injEq, C4.mk.injEq] at h0
    obtain ⟨⟨rfl, rfl, rfl, rfl⟩, rfl⟩ := h0
    exact AmpPowers_bad a b c d k p q r s l pe w HP hpe
end Go.Proofs.Ytmildncbkndcoaa
