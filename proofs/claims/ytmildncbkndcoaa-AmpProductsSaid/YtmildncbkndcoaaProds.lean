import Derived.Test.YtmildncbkndcoaaReal
namespace Go.Proofs.Ytmildncbkndcoaa
open Go.RowKit Amp
attribute [local go_sem] ix0 ix1 ix2 ix3 jx0 jx1 jx2 jx3
attribute [local go_sem high] run_eqNum run_neNum
set_option maxHeartbeats 8000000 in
theorem AmpProducts_any (a b c d k p q r s l : Int) (w : World) :
    Calls Try.prog 5 #[.agg #[.int .i64 a, .int .i64 b, .int .i64 c, .int .i64 d, .int .i64 k], .agg #[.int .i64 p, .int .i64 q, .int .i64 r, .int .i64 s, .int .i64 l]] w fun e w' => e = .returned (.bool true) ∧ Below w.heap.size w w' := by
  obtain ⟨m0, m1, m2, m3, m4, me, HM⟩ := res5 (mulS ⟨⟨a, b, c, d⟩, k⟩ ⟨⟨p, q, r, s⟩, l⟩)
  obtain ⟨t0, t1, t2, t3, t4, te, HT⟩ := res5 (powS ⟨⟨a, b, c, d⟩, k⟩)
  obtain ⟨rb, re, HRl⟩ : ∃ rb re, Hid (realS ⟨⟨a, b, c, d⟩, k⟩ = (rb, re)) := ⟨_, _, rfl⟩
  go_enter Try.func5, Try.ntmps5
  go_wp2_with fail
  refine (Mul_any _ _ _ _ _ _ _ _ _ _ _).mono ?_
  rintro e w1 ⟨rfl, hb⟩
  rw [HM.out]
  unfold Ret5
  (try simp only)
  have K1_x : Has5 w1 (w.heap.size) a b c d k := Has5.keep (by refine ⟨⟨?_, ?_, ?_, ?_, ?_⟩, ?_, ?_, ?_, ?_, ?_⟩ <;> go_cell) hb (by first | omega | (simp; done) | (simp; omega))
  have K1_y : Has5 w1 (w.heap.size + 1) p q r s l := Has5.keep (by refine ⟨⟨?_, ?_, ?_, ?_, ?_⟩, ?_, ?_, ?_, ?_, ?_⟩ <;> go_cell) hb (by first | omega | (simp; done) | (simp; omega))
  have D1 : Below w.heap.size w w1 := Below.trans (by go_grown) (hb.mono (by first | omega | (simp; done) | (simp; omega)))
  have s1 : w.heap.size + 1 < w1.heap.size := by have := hb.size; (try simp at this); omega
  clear hb
  obtain ⟨⟨c1_x_0, c1_x_1, c1_x_2, c1_x_3, c1_x_4⟩, f1_x_0, f1_x_1, f1_x_2, f1_x_3, f1_x_4⟩ := K1_x
  obtain ⟨⟨c1_y_0, c1_y_1, c1_y_2, c1_y_3, c1_y_4⟩, f1_y_0, f1_y_1, f1_y_2, f1_y_3, f1_y_4⟩ := K1_y
  have l1_x : w.heap.size < w1.heap.size := by omega
  go_wp2_with fail
  refine (rMul_any _ _ _ _ _ _ _ _ _ _ _).mono ?_
  rintro e w2 ⟨rfl, hb⟩
  rw [HM.out]
  unfold Ret5
  (try simp only)
  have K2_x : Has5 w2 (w.heap.size) a b c d k := Has5.keep (by refine ⟨⟨?_, ?_, ?_, ?_, ?_⟩, ?_, ?_, ?_, ?_, ?_⟩ <;> go_cell) hb (by first | omega | (simp; done) | (simp; omega))
  have K2_y : Has5 w2 (w.heap.size + 1) p q r s l := Has5.keep (by refine ⟨⟨?_, ?_, ?_, ?_, ?_⟩, ?_, ?_, ?_, ?_, ?_⟩ <;> go_cell) hb (by first | omega | (simp; done) | (simp; omega))
  have K2_a : Has5 w2 (w1.heap.size) m0 m1 m2 m3 m4 := Has5.keep (by refine ⟨⟨?_, ?_, ?_, ?_, ?_⟩, ?_, ?_, ?_, ?_, ?_⟩ <;> go_cell) hb (by first | omega | (simp; done) | (simp; omega))
  have D2 : Below w.heap.size w w2 := Below.trans (by go_grown) (hb.mono (by first | omega | (simp; done) | (simp; omega)))
  have s2 : w1.heap.size < w2.heap.size := by have := hb.size; (try simp at this); omega
  clear hb D1 c1_x_0 c1_x_1 c1_x_2 c1_x_3 c1_x_4 f1_x_0 f1_x_1 f1_x_2 f1_x_3 f1_x_4 c1_y_0 c1_y_1 c1_y_2 c1_y_3 c1_y_4 f1_y_0 f1_y_1 f1_y_2 f1_y_3 f1_y_4
  obtain ⟨⟨c2_x_0, c2_x_1, c2_x_2, c2_x_3, c2_x_4⟩, f2_x_0, f2_x_1, f2_x_2, f2_x_3, f2_x_4⟩ := K2_x
  obtain ⟨⟨c2_y_0, c2_y_1, c2_y_2, c2_y_3, c2_y_4⟩, f2_y_0, f2_y_1, f2_y_2, f2_y_3, f2_y_4⟩ := K2_y
  obtain ⟨⟨c2_a_0, c2_a_1, c2_a_2, c2_a_3, c2_a_4⟩, f2_a_0, f2_a_1, f2_a_2, f2_a_3, f2_a_4⟩ := K2_a
  have l2_x : w.heap.size < w2.heap.size := by omega
  have l2_y : w.heap.size + 1 < w2.heap.size := by omega
  go_wp2_with fail
  refine (Power_any _ _ _ _ _ _).mono ?_
  rintro e w3 ⟨rfl, hb⟩
  rw [HT.out]
  unfold Ret5
  (try simp only)
  have K3_x : Has5 w3 (w.heap.size) a b c d k := Has5.keep (by refine ⟨⟨?_, ?_, ?_, ?_, ?_⟩, ?_, ?_, ?_, ?_, ?_⟩ <;> go_cell) hb (by first | omega | (simp; done) | (simp; omega))
  have K3_y : Has5 w3 (w.heap.size + 1) p q r s l := Has5.keep (by refine ⟨⟨?_, ?_, ?_, ?_, ?_⟩, ?_, ?_, ?_, ?_, ?_⟩ <;> go_cell) hb (by first | omega | (simp; done) | (simp; omega))
  have K3_a : Has5 w3 (w1.heap.size) m0 m1 m2 m3 m4 := Has5.keep (by refine ⟨⟨?_, ?_, ?_, ?_, ?_⟩, ?_, ?_, ?_, ?_, ?_⟩ <;> go_cell) hb (by first | omega | (simp; done) | (simp; omega))
  have K3_b : Has5 w3 (w2.heap.size) m0 m1 m2 m3 m4 := Has5.keep (by refine ⟨⟨?_, ?_, ?_, ?_, ?_⟩, ?_, ?_, ?_, ?_, ?_⟩ <;> go_cell) hb (by first | omega | (simp; done) | (simp; omega))
  have D3 : Below w.heap.size w w3 := Below.trans (by go_grown) (hb.mono (by first | omega | (simp; done) | (simp; omega)))
  have s3 : w2.heap.size < w3.heap.size := by have := hb.size; (try simp at this); omega
  clear hb D2 c2_x_0 c2_x_1 c2_x_2 c2_x_3 c2_x_4 f2_x_0 f2_x_1 f2_x_2 f2_x_3 f2_x_4 c2_y_0 c2_y_1 c2_y_2 c2_y_3 c2_y_4 f2_y_0 f2_y_1 f2_y_2 f2_y_3 f2_y_4 c2_a_0 c2_a_1 c2_a_2 c2_a_3 c2_a_4 f2_a_0 f2_a_1 f2_a_2 f2_a_3 f2_a_4
  obtain ⟨⟨c3_x_0, c3_x_1, c3_x_2, c3_x_3, c3_x_4⟩, f3_x_0, f3_x_1, f3_x_2, f3_x_3, f3_x_4⟩ := K3_x
  obtain ⟨⟨c3_y_0, c3_y_1, c3_y_2, c3_y_3, c3_y_4⟩, f3_y_0, f3_y_1, f3_y_2, f3_y_3, f3_y_4⟩ := K3_y
  obtain ⟨⟨c3_a_0, c3_a_1, c3_a_2, c3_a_3, c3_a_4⟩, f3_a_0, f3_a_1, f3_a_2, f3_a_3, f3_a_4⟩ := K3_a
  obtain ⟨⟨c3_b_0, c3_b_1, c3_b_2, c3_b_3, c3_b_4⟩, f3_b_0, f3_b_1, f3_b_2, f3_b_3, f3_b_4⟩ := K3_b
  have l3_x : w.heap.size < w3.heap.size := by omega
  have l3_y : w.heap.size + 1 < w3.heap.size := by omega
  have l3_a : w1.heap.size < w3.heap.size := by omega
  go_wp2_with fail
  refine (rPower_any _ _ _ _ _ _).mono ?_
  rintro e w4 ⟨rfl, hb⟩
  rw [HT.out]
  unfold Ret5
  (try simp only)
  have K4_x : Has5 w4 (w.heap.size) a b c d k := Has5.keep (by refine ⟨⟨?_, ?_, ?_, ?_, ?_⟩, ?_, ?_, ?_, ?_, ?_⟩ <;> go_cell) hb (by first | omega | (simp; done) | (simp; omega))
  have K4_y : Has5 w4 (w.heap.size + 1) p q r s l := Has5.keep (by refine ⟨⟨?_, ?_, ?_, ?_, ?_⟩, ?_, ?_, ?_, ?_, ?_⟩ <;> go_cell) hb (by first | omega | (simp; done) | (simp; omega))
  have K4_a : Has5 w4 (w1.heap.size) t0 t1 t2 t3 t4 := Has5.keep (by refine ⟨⟨?_, ?_, ?_, ?_, ?_⟩, ?_, ?_, ?_, ?_, ?_⟩ <;> go_cell) hb (by first | omega | (simp; done) | (simp; omega))
  have K4_b : Has5 w4 (w2.heap.size) m0 m1 m2 m3 m4 := Has5.keep (by refine ⟨⟨?_, ?_, ?_, ?_, ?_⟩, ?_, ?_, ?_, ?_, ?_⟩ <;> go_cell) hb (by first | omega | (simp; done) | (simp; omega))
  have D4 : Below w.heap.size w w4 := Below.trans (by go_grown) (hb.mono (by first | omega | (simp; done) | (simp; omega)))
  have s4 : w2.heap.size < w4.heap.size := by have := hb.size; (try simp at this); omega
  clear hb D3 c3_x_0 c3_x_1 c3_x_2 c3_x_3 c3_x_4 f3_x_0 f3_x_1 f3_x_2 f3_x_3 f3_x_4 c3_y_0 c3_y_1 c3_y_2 c3_y_3 c3_y_4 f3_y_0 f3_y_1 f3_y_2 f3_y_3 f3_y_4 c3_a_0 c3_a_1 c3_a_2 c3_a_3 c3_a_4 f3_a_0 f3_a_1 f3_a_2 f3_a_3 f3_a_4 c3_b_0 c3_b_1 c3_b_2 c3_b_3 c3_b_4 f3_b_0 f3_b_1 f3_b_2 f3_b_3 f3_b_4
  obtain ⟨⟨c4_x_0, c4_x_1, c4_x_2, c4_x_3, c4_x_4⟩, f4_x_0, f4_x_1, f4_x_2, f4_x_3, f4_x_4⟩ := K4_x
  obtain ⟨⟨c4_y_0, c4_y_1, c4_y_2, c4_y_3, c4_y_4⟩, f4_y_0, f4_y_1, f4_y_2, f4_y_3, f4_y_4⟩ := K4_y
  obtain ⟨⟨c4_a_0, c4_a_1, c4_a_2, c4_a_3, c4_a_4⟩, f4_a_0, f4_a_1, f4_a_2, f4_a_3, f4_a_4⟩ := K4_a
  obtain ⟨⟨c4_b_0, c4_b_1, c4_b_2, c4_b_3, c4_b_4⟩, f4_b_0, f4_b_1, f4_b_2, f4_b_3, f4_b_4⟩ := K4_b
  have l4_x : w.heap.size < w4.heap.size := by omega
  have l4_y : w.heap.size + 1 < w4.heap.size := by omega
  have l4_a : w1.heap.size < w4.heap.size := by omega
  go_wp2_with fail
  refine (Real_any _ _ _ _ _ _).mono ?_
  rintro e w5 ⟨rfl, hb⟩
  rw [HRl.out]
  (try simp only)
  have K5_x : Has5 w5 (w.heap.size) a b c d k := Has5.keep (by refine ⟨⟨?_, ?_, ?_, ?_, ?_⟩, ?_, ?_, ?_, ?_, ?_⟩ <;> go_cell) hb (by first | omega | (simp; done) | (simp; omega))
  have K5_y : Has5 w5 (w.heap.size + 1) p q r s l := Has5.keep (by refine ⟨⟨?_, ?_, ?_, ?_, ?_⟩, ?_, ?_, ?_, ?_, ?_⟩ <;> go_cell) hb (by first | omega | (simp; done) | (simp; omega))
  have K5_a : Has5 w5 (w1.heap.size) t0 t1 t2 t3 t4 := Has5.keep (by refine ⟨⟨?_, ?_, ?_, ?_, ?_⟩, ?_, ?_, ?_, ?_, ?_⟩ <;> go_cell) hb (by first | omega | (simp; done) | (simp; omega))
  have K5_b : Has5 w5 (w2.heap.size) t0 t1 t2 t3 t4 := Has5.keep (by refine ⟨⟨?_, ?_, ?_, ?_, ?_⟩, ?_, ?_, ?_, ?_, ?_⟩ <;> go_cell) hb (by first | omega | (simp; done) | (simp; omega))
  have D5 : Below w.heap.size w w5 := Below.trans (by go_grown) (hb.mono (by first | omega | (simp; done) | (simp; omega)))
  have s5 : w2.heap.size < w5.heap.size := by have := hb.size; (try simp at this); omega
  clear hb D4 c4_x_0 c4_x_1 c4_x_2 c4_x_3 c4_x_4 f4_x_0 f4_x_1 f4_x_2 f4_x_3 f4_x_4 c4_y_0 c4_y_1 c4_y_2 c4_y_3 c4_y_4 f4_y_0 f4_y_1 f4_y_2 f4_y_3 f4_y_4 c4_a_0 c4_a_1 c4_a_2 c4_a_3 c4_a_4 f4_a_0 f4_a_1 f4_a_2 f4_a_3 f4_a_4 c4_b_0 c4_b_1 c4_b_2 c4_b_3 c4_b_4 f4_b_0 f4_b_1 f4_b_2 f4_b_3 f4_b_4
  obtain ⟨⟨c5_x_0, c5_x_1, c5_x_2, c5_x_3, c5_x_4⟩, f5_x_0, f5_x_1, f5_x_2, f5_x_3, f5_x_4⟩ := K5_x
  obtain ⟨⟨c5_y_0, c5_y_1, c5_y_2, c5_y_3, c5_y_4⟩, f5_y_0, f5_y_1, f5_y_2, f5_y_3, f5_y_4⟩ := K5_y
  obtain ⟨⟨c5_a_0, c5_a_1, c5_a_2, c5_a_3, c5_a_4⟩, f5_a_0, f5_a_1, f5_a_2, f5_a_3, f5_a_4⟩ := K5_a
  obtain ⟨⟨c5_b_0, c5_b_1, c5_b_2, c5_b_3, c5_b_4⟩, f5_b_0, f5_b_1, f5_b_2, f5_b_3, f5_b_4⟩ := K5_b
  have l5_x : w.heap.size < w5.heap.size := by omega
  have l5_y : w.heap.size + 1 < w5.heap.size := by omega
  have l5_a : w1.heap.size < w5.heap.size := by omega
  go_wp2_with fail
  refine (rReal_any _ _ _ _ _ _).mono ?_
  rintro e w6 ⟨rfl, hb⟩
  rw [HRl.out]
  (try simp only)
  have K6_x : Has5 w6 (w.heap.size) a b c d k := Has5.keep (by refine ⟨⟨?_, ?_, ?_, ?_, ?_⟩, ?_, ?_, ?_, ?_, ?_⟩ <;> go_cell) hb (by first | omega | (simp; done) | (simp; omega))
  have K6_y : Has5 w6 (w.heap.size + 1) p q r s l := Has5.keep (by refine ⟨⟨?_, ?_, ?_, ?_, ?_⟩, ?_, ?_, ?_, ?_, ?_⟩ <;> go_cell) hb (by first | omega | (simp; done) | (simp; omega))
  have K6_a : Has5 w6 (w1.heap.size) t0 t1 t2 t3 t4 := Has5.keep (by refine ⟨⟨?_, ?_, ?_, ?_, ?_⟩, ?_, ?_, ?_, ?_, ?_⟩ <;> go_cell) hb (by first | omega | (simp; done) | (simp; omega))
  have K6_b : Has5 w6 (w2.heap.size) t0 t1 t2 t3 t4 := Has5.keep (by refine ⟨⟨?_, ?_, ?_, ?_, ?_⟩, ?_, ?_, ?_, ?_, ?_⟩ <;> go_cell) hb (by first | omega | (simp; done) | (simp; omega))
  have D6 : Below w.heap.size w w6 := Below.trans (by go_grown) (hb.mono (by first | omega | (simp; done) | (simp; omega)))
  have s6 : w2.heap.size < w6.heap.size := by have := hb.size; (try simp at this); omega
  clear hb D5 c5_x_0 c5_x_1 c5_x_2 c5_x_3 c5_x_4 f5_x_0 f5_x_1 f5_x_2 f5_x_3 f5_x_4 c5_y_0 c5_y_1 c5_y_2 c5_y_3 c5_y_4 f5_y_0 f5_y_1 f5_y_2 f5_y_3 f5_y_4 c5_a_0 c5_a_1 c5_a_2 c5_a_3 c5_a_4 f5_a_0 f5_a_1 f5_a_2 f5_a_3 f5_a_4 c5_b_0 c5_b_1 c5_b_2 c5_b_3 c5_b_4 f5_b_0 f5_b_1 f5_b_2 f5_b_3 f5_b_4
  obtain ⟨⟨c6_x_0, c6_x_1, c6_x_2, c6_x_3, c6_x_4⟩, f6_x_0, f6_x_1, f6_x_2, f6_x_3, f6_x_4⟩ := K6_x
  obtain ⟨⟨c6_y_0, c6_y_1, c6_y_2, c6_y_3, c6_y_4⟩, f6_y_0, f6_y_1, f6_y_2, f6_y_3, f6_y_4⟩ := K6_y
  obtain ⟨⟨c6_a_0, c6_a_1, c6_a_2, c6_a_3, c6_a_4⟩, f6_a_0, f6_a_1, f6_a_2, f6_a_3, f6_a_4⟩ := K6_a
  obtain ⟨⟨c6_b_0, c6_b_1, c6_b_2, c6_b_3, c6_b_4⟩, f6_b_0, f6_b_1, f6_b_2, f6_b_3, f6_b_4⟩ := K6_b
  have l6_x : w.heap.size < w6.heap.size := by omega
  have l6_y : w.heap.size + 1 < w6.heap.size := by omega
  have l6_a : w1.heap.size < w6.heap.size := by omega
  go_wp2_with fail
  refine (awake_any _).mono ?_
  rintro e w7 ⟨rfl, hb⟩
  have D7 : Below w.heap.size w w7 := Below.trans (by go_grown) (hb.mono (by first | omega | (simp; done) | (simp; omega)))
  clear hb
  go_wp2_with fail
  go_returns
  exact ⟨rfl, D7⟩
end Go.Proofs.Ytmildncbkndcoaa
