import Derived.Test.YtmildncbkndcoaaVal
import Derived.Test.YtmildncbkndcoaaAw
namespace Go.Proofs.Ytmildncbkndcoaa
open Go.RowKit Amp
attribute [local go_sem] ix0 ix1 ix2 ix3 jx0 jx1 jx2 jx3
attribute [local go_sem high] run_eqNum run_neNum

set_option maxHeartbeats 4000000 in
theorem AmpLaws_bad (a b c d k p q r s l e f g h m : Int) (w : World) (xe y0 y1 y2 y3 y4 ye : Int) (hxe : ¬ xe = 0)
    (HA : Hid (addS ⟨⟨a, b, c, d⟩, k⟩ ⟨⟨p, q, r, s⟩, l⟩ = (⟨⟨0, 0, 0, 0⟩, 0⟩, xe))) (HA' : Hid (addS ⟨⟨p, q, r, s⟩, l⟩ ⟨⟨a, b, c, d⟩, k⟩ = (⟨⟨0, 0, 0, 0⟩, 0⟩, xe)))
    (HM : Hid (mulS ⟨⟨a, b, c, d⟩, k⟩ ⟨⟨p, q, r, s⟩, l⟩ = (⟨⟨y0, y1, y2, y3⟩, y4⟩, ye))) (HM' : Hid (mulS ⟨⟨p, q, r, s⟩, l⟩ ⟨⟨a, b, c, d⟩, k⟩ = (⟨⟨y0, y1, y2, y3⟩, y4⟩, ye))) :
    Calls Try.prog 10 #[.agg #[.int .i64 a, .int .i64 b, .int .i64 c, .int .i64 d, .int .i64 k], .agg #[.int .i64 p, .int .i64 q, .int .i64 r, .int .i64 s, .int .i64 l], .agg #[.int .i64 e, .int .i64 f, .int .i64 g, .int .i64 h, .int .i64 m]] w fun e w' => e = .returned (.bool true) ∧ Below w.heap.size w w' := by
  go_enter Try.func10, Try.ntmps10
  go_wp2_with fail
  refine (Add_any _ _ _ _ _ _ _ _ _ _ _).mono ?_
  rintro e w1 ⟨rfl, hb⟩
  rw [HA.out]
  unfold Ret5
  (try simp only)
  have K1_x : Has5 w1 (w.heap.size) a b c d k := Has5.keep (by refine ⟨⟨?_, ?_, ?_, ?_, ?_⟩, ?_, ?_, ?_, ?_, ?_⟩ <;> go_cell) hb (by first | omega | (simp; done) | (simp; omega))
  have K1_y : Has5 w1 (w.heap.size + 1) p q r s l := Has5.keep (by refine ⟨⟨?_, ?_, ?_, ?_, ?_⟩, ?_, ?_, ?_, ?_, ?_⟩ <;> go_cell) hb (by first | omega | (simp; done) | (simp; omega))
  have K1_z : Has5 w1 (w.heap.size + 1 + 1) e f g h m := Has5.keep (by refine ⟨⟨?_, ?_, ?_, ?_, ?_⟩, ?_, ?_, ?_, ?_, ?_⟩ <;> go_cell) hb (by first | omega | (simp; done) | (simp; omega))
  have D1 : Below w.heap.size w w1 := Below.trans (by go_grown) (hb.mono (by first | omega | (simp; done) | (simp; omega)))
  have s1 : w.heap.size + 1 + 1 < w1.heap.size := by have := hb.size; (try simp at this); omega
  clear hb
  obtain ⟨⟨c1_x_0, c1_x_1, c1_x_2, c1_x_3, c1_x_4⟩, f1_x_0, f1_x_1, f1_x_2, f1_x_3, f1_x_4⟩ := K1_x
  obtain ⟨⟨c1_y_0, c1_y_1, c1_y_2, c1_y_3, c1_y_4⟩, f1_y_0, f1_y_1, f1_y_2, f1_y_3, f1_y_4⟩ := K1_y
  obtain ⟨⟨c1_z_0, c1_z_1, c1_z_2, c1_z_3, c1_z_4⟩, f1_z_0, f1_z_1, f1_z_2, f1_z_3, f1_z_4⟩ := K1_z
  have l1_x : w.heap.size < w1.heap.size := by omega
  have l1_y : w.heap.size + 1 < w1.heap.size := by omega
  go_wp2_with fail
  refine (Add_any _ _ _ _ _ _ _ _ _ _ _).mono ?_
  rintro e w2 ⟨rfl, hb⟩
  rw [HA'.out]
  unfold Ret5
  (try simp only)
  have K2_x : Has5 w2 (w.heap.size) a b c d k := Has5.keep (by refine ⟨⟨?_, ?_, ?_, ?_, ?_⟩, ?_, ?_, ?_, ?_, ?_⟩ <;> go_cell) hb (by first | omega | (simp; done) | (simp; omega))
  have K2_y : Has5 w2 (w.heap.size + 1) p q r s l := Has5.keep (by refine ⟨⟨?_, ?_, ?_, ?_, ?_⟩, ?_, ?_, ?_, ?_, ?_⟩ <;> go_cell) hb (by first | omega | (simp; done) | (simp; omega))
  have K2_z : Has5 w2 (w.heap.size + 1 + 1) e f g h m := Has5.keep (by refine ⟨⟨?_, ?_, ?_, ?_, ?_⟩, ?_, ?_, ?_, ?_, ?_⟩ <;> go_cell) hb (by first | omega | (simp; done) | (simp; omega))
  have K2_a : Has5 w2 (w1.heap.size) 0 0 0 0 0 := Has5.keep (by refine ⟨⟨?_, ?_, ?_, ?_, ?_⟩, ?_, ?_, ?_, ?_, ?_⟩ <;> go_cell) hb (by first | omega | (simp; done) | (simp; omega))
  have D2 : Below w.heap.size w w2 := Below.trans (by go_grown) (hb.mono (by first | omega | (simp; done) | (simp; omega)))
  have s2 : w1.heap.size < w2.heap.size := by have := hb.size; (try simp at this); omega
  clear hb D1 c1_x_0 c1_x_1 c1_x_2 c1_x_3 c1_x_4 f1_x_0 f1_x_1 f1_x_2 f1_x_3 f1_x_4 c1_y_0 c1_y_1 c1_y_2 c1_y_3 c1_y_4 f1_y_0 f1_y_1 f1_y_2 f1_y_3 f1_y_4 c1_z_0 c1_z_1 c1_z_2 c1_z_3 c1_z_4 f1_z_0 f1_z_1 f1_z_2 f1_z_3 f1_z_4
  obtain ⟨⟨c2_x_0, c2_x_1, c2_x_2, c2_x_3, c2_x_4⟩, f2_x_0, f2_x_1, f2_x_2, f2_x_3, f2_x_4⟩ := K2_x
  obtain ⟨⟨c2_y_0, c2_y_1, c2_y_2, c2_y_3, c2_y_4⟩, f2_y_0, f2_y_1, f2_y_2, f2_y_3, f2_y_4⟩ := K2_y
  obtain ⟨⟨c2_z_0, c2_z_1, c2_z_2, c2_z_3, c2_z_4⟩, f2_z_0, f2_z_1, f2_z_2, f2_z_3, f2_z_4⟩ := K2_z
  obtain ⟨⟨c2_a_0, c2_a_1, c2_a_2, c2_a_3, c2_a_4⟩, f2_a_0, f2_a_1, f2_a_2, f2_a_3, f2_a_4⟩ := K2_a
  have l2_x : w.heap.size < w2.heap.size := by omega
  have l2_y : w.heap.size + 1 < w2.heap.size := by omega
  have l2_z : w.heap.size + 1 + 1 < w2.heap.size := by omega
  go_wp2_with fail
  refine (Mul_any _ _ _ _ _ _ _ _ _ _ _).mono ?_
  rintro e w3 ⟨rfl, hb⟩
  rw [HM.out]
  unfold Ret5
  (try simp only)
  have K3_x : Has5 w3 (w.heap.size) a b c d k := Has5.keep (by refine ⟨⟨?_, ?_, ?_, ?_, ?_⟩, ?_, ?_, ?_, ?_, ?_⟩ <;> go_cell) hb (by first | omega | (simp; done) | (simp; omega))
  have K3_y : Has5 w3 (w.heap.size + 1) p q r s l := Has5.keep (by refine ⟨⟨?_, ?_, ?_, ?_, ?_⟩, ?_, ?_, ?_, ?_, ?_⟩ <;> go_cell) hb (by first | omega | (simp; done) | (simp; omega))
  have K3_z : Has5 w3 (w.heap.size + 1 + 1) e f g h m := Has5.keep (by refine ⟨⟨?_, ?_, ?_, ?_, ?_⟩, ?_, ?_, ?_, ?_, ?_⟩ <;> go_cell) hb (by first | omega | (simp; done) | (simp; omega))
  have K3_a : Has5 w3 (w1.heap.size) 0 0 0 0 0 := Has5.keep (by refine ⟨⟨?_, ?_, ?_, ?_, ?_⟩, ?_, ?_, ?_, ?_, ?_⟩ <;> go_cell) hb (by first | omega | (simp; done) | (simp; omega))
  have K3_b : Has5 w3 (w2.heap.size) 0 0 0 0 0 := Has5.keep (by refine ⟨⟨?_, ?_, ?_, ?_, ?_⟩, ?_, ?_, ?_, ?_, ?_⟩ <;> go_cell) hb (by first | omega | (simp; done) | (simp; omega))
  have D3 : Below w.heap.size w w3 := Below.trans (by go_grown) (hb.mono (by first | omega | (simp; done) | (simp; omega)))
  have s3 : w2.heap.size < w3.heap.size := by have := hb.size; (try simp at this); omega
  clear hb D2 c2_x_0 c2_x_1 c2_x_2 c2_x_3 c2_x_4 f2_x_0 f2_x_1 f2_x_2 f2_x_3 f2_x_4 c2_y_0 c2_y_1 c2_y_2 c2_y_3 c2_y_4 f2_y_0 f2_y_1 f2_y_2 f2_y_3 f2_y_4 c2_z_0 c2_z_1 c2_z_2 c2_z_3 c2_z_4 f2_z_0 f2_z_1 f2_z_2 f2_z_3 f2_z_4 c2_a_0 c2_a_1 c2_a_2 c2_a_3 c2_a_4 f2_a_0 f2_a_1 f2_a_2 f2_a_3 f2_a_4
  obtain ⟨⟨c3_x_0, c3_x_1, c3_x_2, c3_x_3, c3_x_4⟩, f3_x_0, f3_x_1, f3_x_2, f3_x_3, f3_x_4⟩ := K3_x
  obtain ⟨⟨c3_y_0, c3_y_1, c3_y_2, c3_y_3, c3_y_4⟩, f3_y_0, f3_y_1, f3_y_2, f3_y_3, f3_y_4⟩ := K3_y
  obtain ⟨⟨c3_z_0, c3_z_1, c3_z_2, c3_z_3, c3_z_4⟩, f3_z_0, f3_z_1, f3_z_2, f3_z_3, f3_z_4⟩ := K3_z
  obtain ⟨⟨c3_a_0, c3_a_1, c3_a_2, c3_a_3, c3_a_4⟩, f3_a_0, f3_a_1, f3_a_2, f3_a_3, f3_a_4⟩ := K3_a
  obtain ⟨⟨c3_b_0, c3_b_1, c3_b_2, c3_b_3, c3_b_4⟩, f3_b_0, f3_b_1, f3_b_2, f3_b_3, f3_b_4⟩ := K3_b
  have l3_x : w.heap.size < w3.heap.size := by omega
  have l3_y : w.heap.size + 1 < w3.heap.size := by omega
  have l3_z : w.heap.size + 1 + 1 < w3.heap.size := by omega
  have l3_a : w1.heap.size < w3.heap.size := by omega
  go_wp2_with fail
  refine (Mul_any _ _ _ _ _ _ _ _ _ _ _).mono ?_
  rintro e w4 ⟨rfl, hb⟩
  rw [HM'.out]
  unfold Ret5
  (try simp only)
  have K4_x : Has5 w4 (w.heap.size) a b c d k := Has5.keep (by refine ⟨⟨?_, ?_, ?_, ?_, ?_⟩, ?_, ?_, ?_, ?_, ?_⟩ <;> go_cell) hb (by first | omega | (simp; done) | (simp; omega))
  have K4_y : Has5 w4 (w.heap.size + 1) p q r s l := Has5.keep (by refine ⟨⟨?_, ?_, ?_, ?_, ?_⟩, ?_, ?_, ?_, ?_, ?_⟩ <;> go_cell) hb (by first | omega | (simp; done) | (simp; omega))
  have K4_z : Has5 w4 (w.heap.size + 1 + 1) e f g h m := Has5.keep (by refine ⟨⟨?_, ?_, ?_, ?_, ?_⟩, ?_, ?_, ?_, ?_, ?_⟩ <;> go_cell) hb (by first | omega | (simp; done) | (simp; omega))
  have K4_a : Has5 w4 (w1.heap.size) 0 0 0 0 0 := Has5.keep (by refine ⟨⟨?_, ?_, ?_, ?_, ?_⟩, ?_, ?_, ?_, ?_, ?_⟩ <;> go_cell) hb (by first | omega | (simp; done) | (simp; omega))
  have K4_b : Has5 w4 (w2.heap.size) 0 0 0 0 0 := Has5.keep (by refine ⟨⟨?_, ?_, ?_, ?_, ?_⟩, ?_, ?_, ?_, ?_, ?_⟩ <;> go_cell) hb (by first | omega | (simp; done) | (simp; omega))
  have K4_c : Has5 w4 (w3.heap.size) y0 y1 y2 y3 y4 := Has5.keep (by refine ⟨⟨?_, ?_, ?_, ?_, ?_⟩, ?_, ?_, ?_, ?_, ?_⟩ <;> go_cell) hb (by first | omega | (simp; done) | (simp; omega))
  have D4 : Below w.heap.size w w4 := Below.trans (by go_grown) (hb.mono (by first | omega | (simp; done) | (simp; omega)))
  have s4 : w3.heap.size < w4.heap.size := by have := hb.size; (try simp at this); omega
  clear hb D3 c3_x_0 c3_x_1 c3_x_2 c3_x_3 c3_x_4 f3_x_0 f3_x_1 f3_x_2 f3_x_3 f3_x_4 c3_y_0 c3_y_1 c3_y_2 c3_y_3 c3_y_4 f3_y_0 f3_y_1 f3_y_2 f3_y_3 f3_y_4 c3_z_0 c3_z_1 c3_z_2 c3_z_3 c3_z_4 f3_z_0 f3_z_1 f3_z_2 f3_z_3 f3_z_4 c3_a_0 c3_a_1 c3_a_2 c3_a_3 c3_a_4 f3_a_0 f3_a_1 f3_a_2 f3_a_3 f3_a_4 c3_b_0 c3_b_1 c3_b_2 c3_b_3 c3_b_4 f3_b_0 f3_b_1 f3_b_2 f3_b_3 f3_b_4
  obtain ⟨⟨c4_x_0, c4_x_1, c4_x_2, c4_x_3, c4_x_4⟩, f4_x_0, f4_x_1, f4_x_2, f4_x_3, f4_x_4⟩ := K4_x
  obtain ⟨⟨c4_y_0, c4_y_1, c4_y_2, c4_y_3, c4_y_4⟩, f4_y_0, f4_y_1, f4_y_2, f4_y_3, f4_y_4⟩ := K4_y
  obtain ⟨⟨c4_z_0, c4_z_1, c4_z_2, c4_z_3, c4_z_4⟩, f4_z_0, f4_z_1, f4_z_2, f4_z_3, f4_z_4⟩ := K4_z
  obtain ⟨⟨c4_a_0, c4_a_1, c4_a_2, c4_a_3, c4_a_4⟩, f4_a_0, f4_a_1, f4_a_2, f4_a_3, f4_a_4⟩ := K4_a
  obtain ⟨⟨c4_b_0, c4_b_1, c4_b_2, c4_b_3, c4_b_4⟩, f4_b_0, f4_b_1, f4_b_2, f4_b_3, f4_b_4⟩ := K4_b
  obtain ⟨⟨c4_c_0, c4_c_1, c4_c_2, c4_c_3, c4_c_4⟩, f4_c_0, f4_c_1, f4_c_2, f4_c_3, f4_c_4⟩ := K4_c
  have l4_x : w.heap.size < w4.heap.size := by omega
  have l4_y : w.heap.size + 1 < w4.heap.size := by omega
  have l4_z : w.heap.size + 1 + 1 < w4.heap.size := by omega
  have l4_a : w1.heap.size < w4.heap.size := by omega
  have l4_b : w2.heap.size < w4.heap.size := by omega
  go_wp2_with fail
  refine (awake_any _).mono ?_
  rintro e w5 ⟨rfl, hb⟩
  have D5 : Below w.heap.size w w5 := Below.trans (by go_grown) (hb.mono (by first | omega | (simp; done) | (simp; omega)))
  clear hb
  go_wp2_with fail
  go_returns
  exact ⟨rfl, D5⟩

set_option maxHeartbeats 8000000 in
theorem AmpLaws_ok (a b c d k p q r s l e f g h m : Int) (w : World) (x0 x1 x2 x3 x4 y0 y1 y2 y3 y4 ye u0 u1 u2 u3 u4 ue v0 v1 v2 v3 v4 ve t0 t1 t2 t3 t4 te i0 i1 i2 i3 i4 ie : Int)
    (HA : Hid (addS ⟨⟨a, b, c, d⟩, k⟩ ⟨⟨p, q, r, s⟩, l⟩ = (⟨⟨x0, x1, x2, x3⟩, x4⟩, 0))) (HA' : Hid (addS ⟨⟨p, q, r, s⟩, l⟩ ⟨⟨a, b, c, d⟩, k⟩ = (⟨⟨x0, x1, x2, x3⟩, x4⟩, 0)))
    (HM : Hid (mulS ⟨⟨a, b, c, d⟩, k⟩ ⟨⟨p, q, r, s⟩, l⟩ = (⟨⟨y0, y1, y2, y3⟩, y4⟩, ye))) (HM' : Hid (mulS ⟨⟨p, q, r, s⟩, l⟩ ⟨⟨a, b, c, d⟩, k⟩ = (⟨⟨y0, y1, y2, y3⟩, y4⟩, ye)))
    (HS : Hid (subS ⟨⟨x0, x1, x2, x3⟩, x4⟩ ⟨⟨p, q, r, s⟩, l⟩ = (⟨⟨a, b, c, d⟩, k⟩, 0))) (HU : Hid (mulS ⟨⟨x0, x1, x2, x3⟩, x4⟩ ⟨⟨e, f, g, h⟩, m⟩ = (⟨⟨u0, u1, u2, u3⟩, u4⟩, ue)))
    (HV : Hid (mulS ⟨⟨a, b, c, d⟩, k⟩ ⟨⟨e, f, g, h⟩, m⟩ = (⟨⟨v0, v1, v2, v3⟩, v4⟩, ve))) (HT : Hid (mulS ⟨⟨p, q, r, s⟩, l⟩ ⟨⟨e, f, g, h⟩, m⟩ = (⟨⟨t0, t1, t2, t3⟩, t4⟩, te))) (HI : Hid (addS ⟨⟨v0, v1, v2, v3⟩, v4⟩ ⟨⟨t0, t1, t2, t3⟩, t4⟩ = (⟨⟨i0, i1, i2, i3⟩, i4⟩, ie)))
    (HF : ue = 0 → ve = 0 → te = 0 → ie = 0 → u0 = i0 ∧ u1 = i1 ∧ u2 = i2 ∧ u3 = i3 ∧ u4 = i4) :
    Calls Try.prog 10 #[.agg #[.int .i64 a, .int .i64 b, .int .i64 c, .int .i64 d, .int .i64 k], .agg #[.int .i64 p, .int .i64 q, .int .i64 r, .int .i64 s, .int .i64 l], .agg #[.int .i64 e, .int .i64 f, .int .i64 g, .int .i64 h, .int .i64 m]] w fun e w' => e = .returned (.bool true) ∧ Below w.heap.size w w' := by
  have HF := Lib.hid HF
  go_enter Try.func10, Try.ntmps10
  go_wp2_with fail
  refine (Add_any _ _ _ _ _ _ _ _ _ _ _).mono ?_
  rintro e w1 ⟨rfl, hb⟩
  rw [HA.out]
  unfold Ret5
  (try simp only)
  have K1_x : Has5 w1 (w.heap.size) a b c d k := Has5.keep (by refine ⟨⟨?_, ?_, ?_, ?_, ?_⟩, ?_, ?_, ?_, ?_, ?_⟩ <;> go_cell) hb (by first | omega | (simp; done) | (simp; omega))
  have K1_y : Has5 w1 (w.heap.size + 1) p q r s l := Has5.keep (by refine ⟨⟨?_, ?_, ?_, ?_, ?_⟩, ?_, ?_, ?_, ?_, ?_⟩ <;> go_cell) hb (by first | omega | (simp; done) | (simp; omega))
  have K1_z : Has5 w1 (w.heap.size + 1 + 1) e f g h m := Has5.keep (by refine ⟨⟨?_, ?_, ?_, ?_, ?_⟩, ?_, ?_, ?_, ?_, ?_⟩ <;> go_cell) hb (by first | omega | (simp; done) | (simp; omega))
  have D1 : Below w.heap.size w w1 := Below.trans (by go_grown) (hb.mono (by first | omega | (simp; done) | (simp; omega)))
  have s1 : w.heap.size + 1 + 1 < w1.heap.size := by have := hb.size; (try simp at this); omega
  clear hb
  obtain ⟨⟨c1_x_0, c1_x_1, c1_x_2, c1_x_3, c1_x_4⟩, f1_x_0, f1_x_1, f1_x_2, f1_x_3, f1_x_4⟩ := K1_x
  obtain ⟨⟨c1_y_0, c1_y_1, c1_y_2, c1_y_3, c1_y_4⟩, f1_y_0, f1_y_1, f1_y_2, f1_y_3, f1_y_4⟩ := K1_y
  obtain ⟨⟨c1_z_0, c1_z_1, c1_z_2, c1_z_3, c1_z_4⟩, f1_z_0, f1_z_1, f1_z_2, f1_z_3, f1_z_4⟩ := K1_z
  have l1_x : w.heap.size < w1.heap.size := by omega
  have l1_y : w.heap.size + 1 < w1.heap.size := by omega
  go_wp2_with fail
  refine (Add_any _ _ _ _ _ _ _ _ _ _ _).mono ?_
  rintro e w2 ⟨rfl, hb⟩
  rw [HA'.out]
  unfold Ret5
  (try simp only)
  have K2_x : Has5 w2 (w.heap.size) a b c d k := Has5.keep (by refine ⟨⟨?_, ?_, ?_, ?_, ?_⟩, ?_, ?_, ?_, ?_, ?_⟩ <;> go_cell) hb (by first | omega | (simp; done) | (simp; omega))
  have K2_y : Has5 w2 (w.heap.size + 1) p q r s l := Has5.keep (by refine ⟨⟨?_, ?_, ?_, ?_, ?_⟩, ?_, ?_, ?_, ?_, ?_⟩ <;> go_cell) hb (by first | omega | (simp; done) | (simp; omega))
  have K2_z : Has5 w2 (w.heap.size + 1 + 1) e f g h m := Has5.keep (by refine ⟨⟨?_, ?_, ?_, ?_, ?_⟩, ?_, ?_, ?_, ?_, ?_⟩ <;> go_cell) hb (by first | omega | (simp; done) | (simp; omega))
  have K2_a : Has5 w2 (w1.heap.size) x0 x1 x2 x3 x4 := Has5.keep (by refine ⟨⟨?_, ?_, ?_, ?_, ?_⟩, ?_, ?_, ?_, ?_, ?_⟩ <;> go_cell) hb (by first | omega | (simp; done) | (simp; omega))
  have D2 : Below w.heap.size w w2 := Below.trans (by go_grown) (hb.mono (by first | omega | (simp; done) | (simp; omega)))
  have s2 : w1.heap.size < w2.heap.size := by have := hb.size; (try simp at this); omega
  clear hb D1 c1_x_0 c1_x_1 c1_x_2 c1_x_3 c1_x_4 f1_x_0 f1_x_1 f1_x_2 f1_x_3 f1_x_4 c1_y_0 c1_y_1 c1_y_2 c1_y_3 c1_y_4 f1_y_0 f1_y_1 f1_y_2 f1_y_3 f1_y_4 c1_z_0 c1_z_1 c1_z_2 c1_z_3 c1_z_4 f1_z_0 f1_z_1 f1_z_2 f1_z_3 f1_z_4
  obtain ⟨⟨c2_x_0, c2_x_1, c2_x_2, c2_x_3, c2_x_4⟩, f2_x_0, f2_x_1, f2_x_2, f2_x_3, f2_x_4⟩ := K2_x
  obtain ⟨⟨c2_y_0, c2_y_1, c2_y_2, c2_y_3, c2_y_4⟩, f2_y_0, f2_y_1, f2_y_2, f2_y_3, f2_y_4⟩ := K2_y
  obtain ⟨⟨c2_z_0, c2_z_1, c2_z_2, c2_z_3, c2_z_4⟩, f2_z_0, f2_z_1, f2_z_2, f2_z_3, f2_z_4⟩ := K2_z
  obtain ⟨⟨c2_a_0, c2_a_1, c2_a_2, c2_a_3, c2_a_4⟩, f2_a_0, f2_a_1, f2_a_2, f2_a_3, f2_a_4⟩ := K2_a
  have l2_x : w.heap.size < w2.heap.size := by omega
  have l2_y : w.heap.size + 1 < w2.heap.size := by omega
  have l2_z : w.heap.size + 1 + 1 < w2.heap.size := by omega
  go_wp2_with fail
  refine (Mul_any _ _ _ _ _ _ _ _ _ _ _).mono ?_
  rintro e w3 ⟨rfl, hb⟩
  rw [HM.out]
  unfold Ret5
  (try simp only)
  have K3_x : Has5 w3 (w.heap.size) a b c d k := Has5.keep (by refine ⟨⟨?_, ?_, ?_, ?_, ?_⟩, ?_, ?_, ?_, ?_, ?_⟩ <;> go_cell) hb (by first | omega | (simp; done) | (simp; omega))
  have K3_y : Has5 w3 (w.heap.size + 1) p q r s l := Has5.keep (by refine ⟨⟨?_, ?_, ?_, ?_, ?_⟩, ?_, ?_, ?_, ?_, ?_⟩ <;> go_cell) hb (by first | omega | (simp; done) | (simp; omega))
  have K3_z : Has5 w3 (w.heap.size + 1 + 1) e f g h m := Has5.keep (by refine ⟨⟨?_, ?_, ?_, ?_, ?_⟩, ?_, ?_, ?_, ?_, ?_⟩ <;> go_cell) hb (by first | omega | (simp; done) | (simp; omega))
  have K3_a : Has5 w3 (w1.heap.size) x0 x1 x2 x3 x4 := Has5.keep (by refine ⟨⟨?_, ?_, ?_, ?_, ?_⟩, ?_, ?_, ?_, ?_, ?_⟩ <;> go_cell) hb (by first | omega | (simp; done) | (simp; omega))
  have K3_b : Has5 w3 (w2.heap.size) x0 x1 x2 x3 x4 := Has5.keep (by refine ⟨⟨?_, ?_, ?_, ?_, ?_⟩, ?_, ?_, ?_, ?_, ?_⟩ <;> go_cell) hb (by first | omega | (simp; done) | (simp; omega))
  have D3 : Below w.heap.size w w3 := Below.trans (by go_grown) (hb.mono (by first | omega | (simp; done) | (simp; omega)))
  have s3 : w2.heap.size < w3.heap.size := by have := hb.size; (try simp at this); omega
  clear hb D2 c2_x_0 c2_x_1 c2_x_2 c2_x_3 c2_x_4 f2_x_0 f2_x_1 f2_x_2 f2_x_3 f2_x_4 c2_y_0 c2_y_1 c2_y_2 c2_y_3 c2_y_4 f2_y_0 f2_y_1 f2_y_2 f2_y_3 f2_y_4 c2_z_0 c2_z_1 c2_z_2 c2_z_3 c2_z_4 f2_z_0 f2_z_1 f2_z_2 f2_z_3 f2_z_4 c2_a_0 c2_a_1 c2_a_2 c2_a_3 c2_a_4 f2_a_0 f2_a_1 f2_a_2 f2_a_3 f2_a_4
  obtain ⟨⟨c3_x_0, c3_x_1, c3_x_2, c3_x_3, c3_x_4⟩, f3_x_0, f3_x_1, f3_x_2, f3_x_3, f3_x_4⟩ := K3_x
  obtain ⟨⟨c3_y_0, c3_y_1, c3_y_2, c3_y_3, c3_y_4⟩, f3_y_0, f3_y_1, f3_y_2, f3_y_3, f3_y_4⟩ := K3_y
  obtain ⟨⟨c3_z_0, c3_z_1, c3_z_2, c3_z_3, c3_z_4⟩, f3_z_0, f3_z_1, f3_z_2, f3_z_3, f3_z_4⟩ := K3_z
  obtain ⟨⟨c3_a_0, c3_a_1, c3_a_2, c3_a_3, c3_a_4⟩, f3_a_0, f3_a_1, f3_a_2, f3_a_3, f3_a_4⟩ := K3_a
  obtain ⟨⟨c3_b_0, c3_b_1, c3_b_2, c3_b_3, c3_b_4⟩, f3_b_0, f3_b_1, f3_b_2, f3_b_3, f3_b_4⟩ := K3_b
  have l3_x : w.heap.size < w3.heap.size := by omega
  have l3_y : w.heap.size + 1 < w3.heap.size := by omega
  have l3_z : w.heap.size + 1 + 1 < w3.heap.size := by omega
  have l3_a : w1.heap.size < w3.heap.size := by omega
  go_wp2_with fail
  refine (Mul_any _ _ _ _ _ _ _ _ _ _ _).mono ?_
  rintro e w4 ⟨rfl, hb⟩
  rw [HM'.out]
  unfold Ret5
  (try simp only)
  have K4_x : Has5 w4 (w.heap.size) a b c d k := Has5.keep (by refine ⟨⟨?_, ?_, ?_, ?_, ?_⟩, ?_, ?_, ?_, ?_, ?_⟩ <;> go_cell) hb (by first | omega | (simp; done) | (simp; omega))
  have K4_y : Has5 w4 (w.heap.size + 1) p q r s l := Has5.keep (by refine ⟨⟨?_, ?_, ?_, ?_, ?_⟩, ?_, ?_, ?_, ?_, ?_⟩ <;> go_cell) hb (by first | omega | (simp; done) | (simp; omega))
  have K4_z : Has5 w4 (w.heap.size + 1 + 1) e f g h m := Has5.keep (by refine ⟨⟨?_, ?_, ?_, ?_, ?_⟩, ?_, ?_, ?_, ?_, ?_⟩ <;> go_cell) hb (by first | omega | (simp; done) | (simp; omega))
  have K4_a : Has5 w4 (w1.heap.size) x0 x1 x2 x3 x4 := Has5.keep (by refine ⟨⟨?_, ?_, ?_, ?_, ?_⟩, ?_, ?_, ?_, ?_, ?_⟩ <;> go_cell) hb (by first | omega | (simp; done) | (simp; omega))
  have K4_b : Has5 w4 (w2.heap.size) x0 x1 x2 x3 x4 := Has5.keep (by refine ⟨⟨?_, ?_, ?_, ?_, ?_⟩, ?_, ?_, ?_, ?_, ?_⟩ <;> go_cell) hb (by first | omega | (simp; done) | (simp; omega))
  have K4_c : Has5 w4 (w3.heap.size) y0 y1 y2 y3 y4 := Has5.keep (by refine ⟨⟨?_, ?_, ?_, ?_, ?_⟩, ?_, ?_, ?_, ?_, ?_⟩ <;> go_cell) hb (by first | omega | (simp; done) | (simp; omega))
  have D4 : Below w.heap.size w w4 := Below.trans (by go_grown) (hb.mono (by first | omega | (simp; done) | (simp; omega)))
  have s4 : w3.heap.size < w4.heap.size := by have := hb.size; (try simp at this); omega
  clear hb D3 c3_x_0 c3_x_1 c3_x_2 c3_x_3 c3_x_4 f3_x_0 f3_x_1 f3_x_2 f3_x_3 f3_x_4 c3_y_0 c3_y_1 c3_y_2 c3_y_3 c3_y_4 f3_y_0 f3_y_1 f3_y_2 f3_y_3 f3_y_4 c3_z_0 c3_z_1 c3_z_2 c3_z_3 c3_z_4 f3_z_0 f3_z_1 f3_z_2 f3_z_3 f3_z_4 c3_a_0 c3_a_1 c3_a_2 c3_a_3 c3_a_4 f3_a_0 f3_a_1 f3_a_2 f3_a_3 f3_a_4 c3_b_0 c3_b_1 c3_b_2 c3_b_3 c3_b_4 f3_b_0 f3_b_1 f3_b_2 f3_b_3 f3_b_4
  obtain ⟨⟨c4_x_0, c4_x_1, c4_x_2, c4_x_3, c4_x_4⟩, f4_x_0, f4_x_1, f4_x_2, f4_x_3, f4_x_4⟩ := K4_x
  obtain ⟨⟨c4_y_0, c4_y_1, c4_y_2, c4_y_3, c4_y_4⟩, f4_y_0, f4_y_1, f4_y_2, f4_y_3, f4_y_4⟩ := K4_y
  obtain ⟨⟨c4_z_0, c4_z_1, c4_z_2, c4_z_3, c4_z_4⟩, f4_z_0, f4_z_1, f4_z_2, f4_z_3, f4_z_4⟩ := K4_z
  obtain ⟨⟨c4_a_0, c4_a_1, c4_a_2, c4_a_3, c4_a_4⟩, f4_a_0, f4_a_1, f4_a_2, f4_a_3, f4_a_4⟩ := K4_a
  obtain ⟨⟨c4_b_0, c4_b_1, c4_b_2, c4_b_3, c4_b_4⟩, f4_b_0, f4_b_1, f4_b_2, f4_b_3, f4_b_4⟩ := K4_b
  obtain ⟨⟨c4_c_0, c4_c_1, c4_c_2, c4_c_3, c4_c_4⟩, f4_c_0, f4_c_1, f4_c_2, f4_c_3, f4_c_4⟩ := K4_c
  have l4_x : w.heap.size < w4.heap.size := by omega
  have l4_y : w.heap.size + 1 < w4.heap.size := by omega
  have l4_z : w.heap.size + 1 + 1 < w4.heap.size := by omega
  have l4_a : w1.heap.size < w4.heap.size := by omega
  have l4_b : w2.heap.size < w4.heap.size := by omega
  go_wp2_with fail
  refine (Sub_any _ _ _ _ _ _ _ _ _ _ _).mono ?_
  rintro e w5 ⟨rfl, hb⟩
  rw [HS.out]
  unfold Ret5
  (try simp only)
  have K5_x : Has5 w5 (w.heap.size) a b c d k := Has5.keep (by refine ⟨⟨?_, ?_, ?_, ?_, ?_⟩, ?_, ?_, ?_, ?_, ?_⟩ <;> go_cell) hb (by first | omega | (simp; done) | (simp; omega))
  have K5_y : Has5 w5 (w.heap.size + 1) p q r s l := Has5.keep (by refine ⟨⟨?_, ?_, ?_, ?_, ?_⟩, ?_, ?_, ?_, ?_, ?_⟩ <;> go_cell) hb (by first | omega | (simp; done) | (simp; omega))
  have K5_z : Has5 w5 (w.heap.size + 1 + 1) e f g h m := Has5.keep (by refine ⟨⟨?_, ?_, ?_, ?_, ?_⟩, ?_, ?_, ?_, ?_, ?_⟩ <;> go_cell) hb (by first | omega | (simp; done) | (simp; omega))
  have K5_a : Has5 w5 (w1.heap.size) x0 x1 x2 x3 x4 := Has5.keep (by refine ⟨⟨?_, ?_, ?_, ?_, ?_⟩, ?_, ?_, ?_, ?_, ?_⟩ <;> go_cell) hb (by first | omega | (simp; done) | (simp; omega))
  have D5 : Below w.heap.size w w5 := Below.trans (by go_grown) (hb.mono (by first | omega | (simp; done) | (simp; omega)))
  have s5 : w4.heap.size < w5.heap.size := by have := hb.size; (try simp at this); omega
  clear hb D4 c4_x_0 c4_x_1 c4_x_2 c4_x_3 c4_x_4 f4_x_0 f4_x_1 f4_x_2 f4_x_3 f4_x_4 c4_y_0 c4_y_1 c4_y_2 c4_y_3 c4_y_4 f4_y_0 f4_y_1 f4_y_2 f4_y_3 f4_y_4 c4_z_0 c4_z_1 c4_z_2 c4_z_3 c4_z_4 f4_z_0 f4_z_1 f4_z_2 f4_z_3 f4_z_4 c4_a_0 c4_a_1 c4_a_2 c4_a_3 c4_a_4 f4_a_0 f4_a_1 f4_a_2 f4_a_3 f4_a_4 c4_b_0 c4_b_1 c4_b_2 c4_b_3 c4_b_4 f4_b_0 f4_b_1 f4_b_2 f4_b_3 f4_b_4 c4_c_0 c4_c_1 c4_c_2 c4_c_3 c4_c_4 f4_c_0 f4_c_1 f4_c_2 f4_c_3 f4_c_4
  obtain ⟨⟨c5_x_0, c5_x_1, c5_x_2, c5_x_3, c5_x_4⟩, f5_x_0, f5_x_1, f5_x_2, f5_x_3, f5_x_4⟩ := K5_x
  obtain ⟨⟨c5_y_0, c5_y_1, c5_y_2, c5_y_3, c5_y_4⟩, f5_y_0, f5_y_1, f5_y_2, f5_y_3, f5_y_4⟩ := K5_y
  obtain ⟨⟨c5_z_0, c5_z_1, c5_z_2, c5_z_3, c5_z_4⟩, f5_z_0, f5_z_1, f5_z_2, f5_z_3, f5_z_4⟩ := K5_z
  obtain ⟨⟨c5_a_0, c5_a_1, c5_a_2, c5_a_3, c5_a_4⟩, f5_a_0, f5_a_1, f5_a_2, f5_a_3, f5_a_4⟩ := K5_a
  have l5_x : w.heap.size < w5.heap.size := by omega
  have l5_y : w.heap.size + 1 < w5.heap.size := by omega
  have l5_z : w.heap.size + 1 + 1 < w5.heap.size := by omega
  have l5_a : w1.heap.size < w5.heap.size := by omega
  have l5_b : w2.heap.size < w5.heap.size := by omega
  have l5_c : w3.heap.size < w5.heap.size := by omega
  go_wp2_with fail
  refine (Mul_any _ _ _ _ _ _ _ _ _ _ _).mono ?_
  rintro e w6 ⟨rfl, hb⟩
  rw [HU.out]
  unfold Ret5
  (try simp only)
  have K6_x : Has5 w6 (w.heap.size) a b c d k := Has5.keep (by refine ⟨⟨?_, ?_, ?_, ?_, ?_⟩, ?_, ?_, ?_, ?_, ?_⟩ <;> go_cell) hb (by first | omega | (simp; done) | (simp; omega))
  have K6_y : Has5 w6 (w.heap.size + 1) p q r s l := Has5.keep (by refine ⟨⟨?_, ?_, ?_, ?_, ?_⟩, ?_, ?_, ?_, ?_, ?_⟩ <;> go_cell) hb (by first | omega | (simp; done) | (simp; omega))
  have K6_z : Has5 w6 (w.heap.size + 1 + 1) e f g h m := Has5.keep (by refine ⟨⟨?_, ?_, ?_, ?_, ?_⟩, ?_, ?_, ?_, ?_, ?_⟩ <;> go_cell) hb (by first | omega | (simp; done) | (simp; omega))
  have K6_a : Has5 w6 (w1.heap.size) x0 x1 x2 x3 x4 := Has5.keep (by refine ⟨⟨?_, ?_, ?_, ?_, ?_⟩, ?_, ?_, ?_, ?_, ?_⟩ <;> go_cell) hb (by first | omega | (simp; done) | (simp; omega))
  have K6_s : Has5 w6 (w5.heap.size) a b c d k := Has5.keep (by refine ⟨⟨?_, ?_, ?_, ?_, ?_⟩, ?_, ?_, ?_, ?_, ?_⟩ <;> go_cell) hb (by first | omega | (simp; done) | (simp; omega))
  have D6 : Below w.heap.size w w6 := Below.trans (by go_grown) (hb.mono (by first | omega | (simp; done) | (simp; omega)))
  have s6 : w5.heap.size < w6.heap.size := by have := hb.size; (try simp at this); omega
  clear hb D5 c5_x_0 c5_x_1 c5_x_2 c5_x_3 c5_x_4 f5_x_0 f5_x_1 f5_x_2 f5_x_3 f5_x_4 c5_y_0 c5_y_1 c5_y_2 c5_y_3 c5_y_4 f5_y_0 f5_y_1 f5_y_2 f5_y_3 f5_y_4 c5_z_0 c5_z_1 c5_z_2 c5_z_3 c5_z_4 f5_z_0 f5_z_1 f5_z_2 f5_z_3 f5_z_4 c5_a_0 c5_a_1 c5_a_2 c5_a_3 c5_a_4 f5_a_0 f5_a_1 f5_a_2 f5_a_3 f5_a_4
  obtain ⟨⟨c6_x_0, c6_x_1, c6_x_2, c6_x_3, c6_x_4⟩, f6_x_0, f6_x_1, f6_x_2, f6_x_3, f6_x_4⟩ := K6_x
  obtain ⟨⟨c6_y_0, c6_y_1, c6_y_2, c6_y_3, c6_y_4⟩, f6_y_0, f6_y_1, f6_y_2, f6_y_3, f6_y_4⟩ := K6_y
  obtain ⟨⟨c6_z_0, c6_z_1, c6_z_2, c6_z_3, c6_z_4⟩, f6_z_0, f6_z_1, f6_z_2, f6_z_3, f6_z_4⟩ := K6_z
  obtain ⟨⟨c6_a_0, c6_a_1, c6_a_2, c6_a_3, c6_a_4⟩, f6_a_0, f6_a_1, f6_a_2, f6_a_3, f6_a_4⟩ := K6_a
  obtain ⟨⟨c6_s_0, c6_s_1, c6_s_2, c6_s_3, c6_s_4⟩, f6_s_0, f6_s_1, f6_s_2, f6_s_3, f6_s_4⟩ := K6_s
  have l6_x : w.heap.size < w6.heap.size := by omega
  have l6_y : w.heap.size + 1 < w6.heap.size := by omega
  have l6_z : w.heap.size + 1 + 1 < w6.heap.size := by omega
  have l6_a : w1.heap.size < w6.heap.size := by omega
  go_wp2_with fail
  refine (Mul_any _ _ _ _ _ _ _ _ _ _ _).mono ?_
  rintro e w7 ⟨rfl, hb⟩
  rw [HV.out]
  unfold Ret5
  (try simp only)
  have K7_x : Has5 w7 (w.heap.size) a b c d k := Has5.keep (by refine ⟨⟨?_, ?_, ?_, ?_, ?_⟩, ?_, ?_, ?_, ?_, ?_⟩ <;> go_cell) hb (by first | omega | (simp; done) | (simp; omega))
  have K7_y : Has5 w7 (w.heap.size + 1) p q r s l := Has5.keep (by refine ⟨⟨?_, ?_, ?_, ?_, ?_⟩, ?_, ?_, ?_, ?_, ?_⟩ <;> go_cell) hb (by first | omega | (simp; done) | (simp; omega))
  have K7_z : Has5 w7 (w.heap.size + 1 + 1) e f g h m := Has5.keep (by refine ⟨⟨?_, ?_, ?_, ?_, ?_⟩, ?_, ?_, ?_, ?_, ?_⟩ <;> go_cell) hb (by first | omega | (simp; done) | (simp; omega))
  have K7_l : Has5 w7 (w6.heap.size) u0 u1 u2 u3 u4 := Has5.keep (by refine ⟨⟨?_, ?_, ?_, ?_, ?_⟩, ?_, ?_, ?_, ?_, ?_⟩ <;> go_cell) hb (by first | omega | (simp; done) | (simp; omega))
  have D7 : Below w.heap.size w w7 := Below.trans (by go_grown) (hb.mono (by first | omega | (simp; done) | (simp; omega)))
  have s7 : w6.heap.size < w7.heap.size := by have := hb.size; (try simp at this); omega
  clear hb D6 c6_x_0 c6_x_1 c6_x_2 c6_x_3 c6_x_4 f6_x_0 f6_x_1 f6_x_2 f6_x_3 f6_x_4 c6_y_0 c6_y_1 c6_y_2 c6_y_3 c6_y_4 f6_y_0 f6_y_1 f6_y_2 f6_y_3 f6_y_4 c6_z_0 c6_z_1 c6_z_2 c6_z_3 c6_z_4 f6_z_0 f6_z_1 f6_z_2 f6_z_3 f6_z_4 c6_a_0 c6_a_1 c6_a_2 c6_a_3 c6_a_4 f6_a_0 f6_a_1 f6_a_2 f6_a_3 f6_a_4 c6_s_0 c6_s_1 c6_s_2 c6_s_3 c6_s_4 f6_s_0 f6_s_1 f6_s_2 f6_s_3 f6_s_4
  obtain ⟨⟨c7_x_0, c7_x_1, c7_x_2, c7_x_3, c7_x_4⟩, f7_x_0, f7_x_1, f7_x_2, f7_x_3, f7_x_4⟩ := K7_x
  obtain ⟨⟨c7_y_0, c7_y_1, c7_y_2, c7_y_3, c7_y_4⟩, f7_y_0, f7_y_1, f7_y_2, f7_y_3, f7_y_4⟩ := K7_y
  obtain ⟨⟨c7_z_0, c7_z_1, c7_z_2, c7_z_3, c7_z_4⟩, f7_z_0, f7_z_1, f7_z_2, f7_z_3, f7_z_4⟩ := K7_z
  obtain ⟨⟨c7_l_0, c7_l_1, c7_l_2, c7_l_3, c7_l_4⟩, f7_l_0, f7_l_1, f7_l_2, f7_l_3, f7_l_4⟩ := K7_l
  have l7_x : w.heap.size < w7.heap.size := by omega
  have l7_y : w.heap.size + 1 < w7.heap.size := by omega
  have l7_z : w.heap.size + 1 + 1 < w7.heap.size := by omega
  have l7_a : w1.heap.size < w7.heap.size := by omega
  have l7_s : w5.heap.size < w7.heap.size := by omega
  go_wp2_with fail
  refine (Mul_any _ _ _ _ _ _ _ _ _ _ _).mono ?_
  rintro e w8 ⟨rfl, hb⟩
  rw [HT.out]
  unfold Ret5
  (try simp only)
  have K8_y : Has5 w8 (w.heap.size + 1) p q r s l := Has5.keep (by refine ⟨⟨?_, ?_, ?_, ?_, ?_⟩, ?_, ?_, ?_, ?_, ?_⟩ <;> go_cell) hb (by first | omega | (simp; done) | (simp; omega))
  have K8_z : Has5 w8 (w.heap.size + 1 + 1) e f g h m := Has5.keep (by refine ⟨⟨?_, ?_, ?_, ?_, ?_⟩, ?_, ?_, ?_, ?_, ?_⟩ <;> go_cell) hb (by first | omega | (simp; done) | (simp; omega))
  have K8_l : Has5 w8 (w6.heap.size) u0 u1 u2 u3 u4 := Has5.keep (by refine ⟨⟨?_, ?_, ?_, ?_, ?_⟩, ?_, ?_, ?_, ?_, ?_⟩ <;> go_cell) hb (by first | omega | (simp; done) | (simp; omega))
  have K8_v : Has5 w8 (w7.heap.size) v0 v1 v2 v3 v4 := Has5.keep (by refine ⟨⟨?_, ?_, ?_, ?_, ?_⟩, ?_, ?_, ?_, ?_, ?_⟩ <;> go_cell) hb (by first | omega | (simp; done) | (simp; omega))
  have D8 : Below w.heap.size w w8 := Below.trans (by go_grown) (hb.mono (by first | omega | (simp; done) | (simp; omega)))
  have s8 : w7.heap.size < w8.heap.size := by have := hb.size; (try simp at this); omega
  clear hb D7 c7_x_0 c7_x_1 c7_x_2 c7_x_3 c7_x_4 f7_x_0 f7_x_1 f7_x_2 f7_x_3 f7_x_4 c7_y_0 c7_y_1 c7_y_2 c7_y_3 c7_y_4 f7_y_0 f7_y_1 f7_y_2 f7_y_3 f7_y_4 c7_z_0 c7_z_1 c7_z_2 c7_z_3 c7_z_4 f7_z_0 f7_z_1 f7_z_2 f7_z_3 f7_z_4 c7_l_0 c7_l_1 c7_l_2 c7_l_3 c7_l_4 f7_l_0 f7_l_1 f7_l_2 f7_l_3 f7_l_4
  obtain ⟨⟨c8_y_0, c8_y_1, c8_y_2, c8_y_3, c8_y_4⟩, f8_y_0, f8_y_1, f8_y_2, f8_y_3, f8_y_4⟩ := K8_y
  obtain ⟨⟨c8_z_0, c8_z_1, c8_z_2, c8_z_3, c8_z_4⟩, f8_z_0, f8_z_1, f8_z_2, f8_z_3, f8_z_4⟩ := K8_z
  obtain ⟨⟨c8_l_0, c8_l_1, c8_l_2, c8_l_3, c8_l_4⟩, f8_l_0, f8_l_1, f8_l_2, f8_l_3, f8_l_4⟩ := K8_l
  obtain ⟨⟨c8_v_0, c8_v_1, c8_v_2, c8_v_3, c8_v_4⟩, f8_v_0, f8_v_1, f8_v_2, f8_v_3, f8_v_4⟩ := K8_v
  have l8_x : w.heap.size < w8.heap.size := by omega
  have l8_y : w.heap.size + 1 < w8.heap.size := by omega
  have l8_z : w.heap.size + 1 + 1 < w8.heap.size := by omega
  have l8_l : w6.heap.size < w8.heap.size := by omega
  go_wp2_with fail
  refine (Add_any _ _ _ _ _ _ _ _ _ _ _).mono ?_
  rintro e w9 ⟨rfl, hb⟩
  rw [HI.out]
  unfold Ret5
  (try simp only)
  have K9_l : Has5 w9 (w6.heap.size) u0 u1 u2 u3 u4 := Has5.keep (by refine ⟨⟨?_, ?_, ?_, ?_, ?_⟩, ?_, ?_, ?_, ?_, ?_⟩ <;> go_cell) hb (by first | omega | (simp; done) | (simp; omega))
  have K9_v : Has5 w9 (w7.heap.size) v0 v1 v2 v3 v4 := Has5.keep (by refine ⟨⟨?_, ?_, ?_, ?_, ?_⟩, ?_, ?_, ?_, ?_, ?_⟩ <;> go_cell) hb (by first | omega | (simp; done) | (simp; omega))
  have K9_t : Has5 w9 (w8.heap.size) t0 t1 t2 t3 t4 := Has5.keep (by refine ⟨⟨?_, ?_, ?_, ?_, ?_⟩, ?_, ?_, ?_, ?_, ?_⟩ <;> go_cell) hb (by first | omega | (simp; done) | (simp; omega))
  have D9 : Below w.heap.size w w9 := Below.trans (by go_grown) (hb.mono (by first | omega | (simp; done) | (simp; omega)))
  have s9 : w8.heap.size < w9.heap.size := by have := hb.size; (try simp at this); omega
  clear hb D8 c8_y_0 c8_y_1 c8_y_2 c8_y_3 c8_y_4 f8_y_0 f8_y_1 f8_y_2 f8_y_3 f8_y_4 c8_z_0 c8_z_1 c8_z_2 c8_z_3 c8_z_4 f8_z_0 f8_z_1 f8_z_2 f8_z_3 f8_z_4 c8_l_0 c8_l_1 c8_l_2 c8_l_3 c8_l_4 f8_l_0 f8_l_1 f8_l_2 f8_l_3 f8_l_4 c8_v_0 c8_v_1 c8_v_2 c8_v_3 c8_v_4 f8_v_0 f8_v_1 f8_v_2 f8_v_3 f8_v_4
  obtain ⟨⟨c9_l_0, c9_l_1, c9_l_2, c9_l_3, c9_l_4⟩, f9_l_0, f9_l_1, f9_l_2, f9_l_3, f9_l_4⟩ := K9_l
  obtain ⟨⟨c9_v_0, c9_v_1, c9_v_2, c9_v_3, c9_v_4⟩, f9_v_0, f9_v_1, f9_v_2, f9_v_3, f9_v_4⟩ := K9_v
  obtain ⟨⟨c9_t_0, c9_t_1, c9_t_2, c9_t_3, c9_t_4⟩, f9_t_0, f9_t_1, f9_t_2, f9_t_3, f9_t_4⟩ := K9_t
  have l9_y : w.heap.size + 1 < w9.heap.size := by omega
  have l9_z : w.heap.size + 1 + 1 < w9.heap.size := by omega
  have l9_l : w6.heap.size < w9.heap.size := by omega
  have l9_v : w7.heap.size < w9.heap.size := by omega
  by_cases hue : ue = 0
  · by_cases hve : ve = 0
    · by_cases hte : te = 0
      · by_cases hie : ie = 0
        · obtain ⟨z0, z1, z2, z3, z4⟩ := HF.out hue hve hte hie
          subst hue hve hte hie z0 z1 z2 z3 z4
          go_wp2_with fail
          refine (awake_any _).mono ?_
          rintro e w10 ⟨rfl, hb⟩
          have D10 : Below w.heap.size w w10 := Below.trans (by go_grown) (hb.mono (by first | omega | (simp; done) | (simp; omega)))
          clear hb
          go_wp2_with fail
          go_returns
          exact ⟨rfl, D10⟩
        · go_wp2_with fail
          refine (awake_any _).mono ?_
          rintro e w10 ⟨rfl, hb⟩
          have D10 : Below w.heap.size w w10 := Below.trans (by go_grown) (hb.mono (by first | omega | (simp; done) | (simp; omega)))
          clear hb
          go_wp2_with fail
          go_returns
          exact ⟨rfl, D10⟩
      · go_wp2_with fail
        refine (awake_any _).mono ?_
        rintro e w10 ⟨rfl, hb⟩
        have D10 : Below w.heap.size w w10 := Below.trans (by go_grown) (hb.mono (by first | omega | (simp; done) | (simp; omega)))
        clear hb
        go_wp2_with fail
        go_returns
        exact ⟨rfl, D10⟩
    · go_wp2_with fail
      refine (awake_any _).mono ?_
      rintro e w10 ⟨rfl, hb⟩
      have D10 : Below w.heap.size w w10 := Below.trans (by go_grown) (hb.mono (by first | omega | (simp; done) | (simp; omega)))
      clear hb
      go_wp2_with fail
      go_returns
      exact ⟨rfl, D10⟩
  · go_wp2_with fail
    refine (awake_any _).mono ?_
    rintro e w10 ⟨rfl, hb⟩
    have D10 : Below w.heap.size w w10 := Below.trans (by go_grown) (hb.mono (by first | omega | (simp; done) | (simp; omega)))
    clear hb
    go_wp2_with fail
    go_returns
    exact ⟨rfl, D10⟩

theorem AmpLaws_any (a b c d k p q r s l e f g h m : Int) (w : World) :
    Calls Try.prog 10 #[.agg #[.int .i64 a, .int .i64 b, .int .i64 c, .int .i64 d, .int .i64 k], .agg #[.int .i64 p, .int .i64 q, .int .i64 r, .int .i64 s, .int .i64 l], .agg #[.int .i64 e, .int .i64 f, .int .i64 g, .int .i64 h, .int .i64 m]] w fun e w' => e = .returned (.bool true) ∧ Below w.heap.size w w' := by
  obtain ⟨x0, x1, x2, x3, x4, xe, HA⟩ := res5 (addS ⟨⟨a, b, c, d⟩, k⟩ ⟨⟨p, q, r, s⟩, l⟩)
  obtain ⟨y0, y1, y2, y3, y4, ye, HM⟩ := res5 (mulS ⟨⟨a, b, c, d⟩, k⟩ ⟨⟨p, q, r, s⟩, l⟩)
  have HA' := HA.out
  rw [addS_comm] at HA'
  have HM' := HM.out
  rw [mulS_comm] at HM'
  by_cases hxe : xe = 0
  · subst hxe
    obtain ⟨u0, u1, u2, u3, u4, ue, HU⟩ := res5 (mulS ⟨⟨x0, x1, x2, x3⟩, x4⟩ ⟨⟨e, f, g, h⟩, m⟩)
    obtain ⟨v0, v1, v2, v3, v4, ve, HV⟩ := res5 (mulS ⟨⟨a, b, c, d⟩, k⟩ ⟨⟨e, f, g, h⟩, m⟩)
    obtain ⟨t0, t1, t2, t3, t4, te, HT⟩ := res5 (mulS ⟨⟨p, q, r, s⟩, l⟩ ⟨⟨e, f, g, h⟩, m⟩)
    obtain ⟨i0, i1, i2, i3, i4, ie, HI⟩ := res5 (addS ⟨⟨v0, v1, v2, v3⟩, v4⟩ ⟨⟨t0, t1, t2, t3⟩, t4⟩)
    refine AmpLaws_ok a b c d k p q r s l e f g h m w x0 x1 x2 x3 x4 y0 y1 y2 y3 y4 ye u0 u1 u2 u3 u4 ue v0 v1 v2 v3 v4 ve t0 t1 t2 t3 t4 te i0 i1 i2 i3 i4 ie HA HA' HM HM' (sub_undoes HA.out) HU HV HT HI ?_
    intro h1 h2 h3 h4
    subst h1 h2 h3 h4
    have e := distrib HA.out HU.out HV.out HT.out HI.out
    simp only [Nm.mk.injEq, C4.mk.injEq] at e
    exact ⟨e.1.1, e.1.2.1, e.1.2.2.1, e.1.2.2.2, e.2⟩
  · have e := addS_bad HA.out hxe
    simp only [N0, C0, Nm.mk.injEq, C4.mk.injEq] at e
    obtain ⟨⟨rfl, rfl, rfl, rfl⟩, rfl⟩ := e
    exact AmpLaws_bad a b c d k p q r s l e f g h m w xe y0 y1 y2 y3 y4 ye hxe HA HA' HM HM'
end Go.Proofs.Ytmildncbkndcoaa
