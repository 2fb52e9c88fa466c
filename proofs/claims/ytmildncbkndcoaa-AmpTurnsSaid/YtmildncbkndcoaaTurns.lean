import Derived.Test.YtmildncbkndcoaaW
import Derived.Test.YtmildncbkndcoaaAw
namespace Go.Proofs.Ytmildncbkndcoaa
open Go.RowKit Amp
attribute [local go_sem] ix0 ix1 ix2 ix3 jx0 jx1 jx2 jx3
attribute [local go_sem high] run_eqNum run_neNum
set_option maxHeartbeats 8000000 in
theorem AmpTurns_any (a b c d k n m : Int) (w : World) :
    Calls Try.prog 7 #[.agg #[.int .i64 a, .int .i64 b, .int .i64 c, .int .i64 d, .int .i64 k], .int .i64 n, .int .i64 m] w fun e w' => e = .returned (.bool true) ∧ Below w.heap.size w w' := by
  obtain ⟨n0, n1, n2, n3, n4, ne, HN⟩ := res5 (chgS ⟨⟨a, b, c, d⟩, k⟩ neg)
  have HN' := HN.out
  rw [neg_set] at HN'
  have HN' := Lib.hid HN'
  obtain ⟨c0, c1, c2, c3, c4, ce, HC⟩ := res5 (chgS ⟨⟨a, b, c, d⟩, k⟩ conj)
  have HC' := HC.out
  rw [conj_set] at HC'
  have HC' := Lib.hid HC'
  obtain ⟨f0, f1, f2, f3, f4, fe, HF⟩ := res5 (chgS ⟨⟨a, b, c, d⟩, k⟩ (fun x => flipV x k))
  have HF' := HF.out
  rw [flip_set] at HF'
  have HF' := Lib.hid HF'
  obtain ⟨t0, t1, t2, t3, t4, te, HT⟩ := res5 (chgS ⟨⟨a, b, c, d⟩, k⟩ (fun x => rotn (n % 8).toNat x))
  have HT' := HT.out
  rw [turn_set] at HT'
  have HT' := Lib.hid HT'
  obtain ⟨h0, h1, h2, h3, h4, he, HH⟩ := res5 (halveS ⟨⟨a, b, c, d⟩, k⟩ m)
  go_enter Try.func7, Try.ntmps7
  go_wp2_with fail
  refine (Neg_any _ _ _ _ _ _).mono ?_
  rintro e w1 ⟨rfl, hb⟩
  rw [HN.out]
  unfold Ret5
  (try simp only)
  have K1_x : Has5 w1 (w.heap.size) a b c d k := Has5.keep (by refine ⟨⟨?_, ?_, ?_, ?_, ?_⟩, ?_, ?_, ?_, ?_, ?_⟩ <;> go_cell) hb (by first | omega | (simp; done) | (simp; omega))
  have D1 : Below w.heap.size w w1 := Below.trans (by go_grown) (hb.mono (by first | omega | (simp; done) | (simp; omega)))
  have s1 : w.heap.size < w1.heap.size := by have := hb.size; (try simp at this); omega
  clear hb
  obtain ⟨⟨c1_x_0, c1_x_1, c1_x_2, c1_x_3, c1_x_4⟩, f1_x_0, f1_x_1, f1_x_2, f1_x_3, f1_x_4⟩ := K1_x
  go_wp2_with fail
  refine (rNeg_any _ _ _ _ _ _).mono ?_
  rintro e w2 ⟨rfl, hb⟩
  rw [HN'.out]
  unfold Ret5
  (try simp only)
  have K2_x : Has5 w2 (w.heap.size) a b c d k := Has5.keep (by refine ⟨⟨?_, ?_, ?_, ?_, ?_⟩, ?_, ?_, ?_, ?_, ?_⟩ <;> go_cell) hb (by first | omega | (simp; done) | (simp; omega))
  have K2_p : Has5 w2 (w1.heap.size) n0 n1 n2 n3 n4 := Has5.keep (by refine ⟨⟨?_, ?_, ?_, ?_, ?_⟩, ?_, ?_, ?_, ?_, ?_⟩ <;> go_cell) hb (by first | omega | (simp; done) | (simp; omega))
  have D2 : Below w.heap.size w w2 := Below.trans (by go_grown) (hb.mono (by first | omega | (simp; done) | (simp; omega)))
  have s2 : w1.heap.size < w2.heap.size := by have := hb.size; (try simp at this); omega
  clear hb D1 c1_x_0 c1_x_1 c1_x_2 c1_x_3 c1_x_4 f1_x_0 f1_x_1 f1_x_2 f1_x_3 f1_x_4
  obtain ⟨⟨c2_x_0, c2_x_1, c2_x_2, c2_x_3, c2_x_4⟩, f2_x_0, f2_x_1, f2_x_2, f2_x_3, f2_x_4⟩ := K2_x
  obtain ⟨⟨c2_p_0, c2_p_1, c2_p_2, c2_p_3, c2_p_4⟩, f2_p_0, f2_p_1, f2_p_2, f2_p_3, f2_p_4⟩ := K2_p
  have l2_x : w.heap.size < w2.heap.size := by omega
  go_wp2_with fail
  refine (Conj_any _ _ _ _ _ _).mono ?_
  rintro e w3 ⟨rfl, hb⟩
  rw [HC.out]
  unfold Ret5
  (try simp only)
  have K3_x : Has5 w3 (w.heap.size) a b c d k := Has5.keep (by refine ⟨⟨?_, ?_, ?_, ?_, ?_⟩, ?_, ?_, ?_, ?_, ?_⟩ <;> go_cell) hb (by first | omega | (simp; done) | (simp; omega))
  have K3_p : Has5 w3 (w1.heap.size) n0 n1 n2 n3 n4 := Has5.keep (by refine ⟨⟨?_, ?_, ?_, ?_, ?_⟩, ?_, ?_, ?_, ?_, ?_⟩ <;> go_cell) hb (by first | omega | (simp; done) | (simp; omega))
  have K3_q : Has5 w3 (w2.heap.size) n0 n1 n2 n3 n4 := Has5.keep (by refine ⟨⟨?_, ?_, ?_, ?_, ?_⟩, ?_, ?_, ?_, ?_, ?_⟩ <;> go_cell) hb (by first | omega | (simp; done) | (simp; omega))
  have D3 : Below w.heap.size w w3 := Below.trans (by go_grown) (hb.mono (by first | omega | (simp; done) | (simp; omega)))
  have s3 : w2.heap.size < w3.heap.size := by have := hb.size; (try simp at this); omega
  clear hb D2 c2_x_0 c2_x_1 c2_x_2 c2_x_3 c2_x_4 f2_x_0 f2_x_1 f2_x_2 f2_x_3 f2_x_4 c2_p_0 c2_p_1 c2_p_2 c2_p_3 c2_p_4 f2_p_0 f2_p_1 f2_p_2 f2_p_3 f2_p_4
  obtain ⟨⟨c3_x_0, c3_x_1, c3_x_2, c3_x_3, c3_x_4⟩, f3_x_0, f3_x_1, f3_x_2, f3_x_3, f3_x_4⟩ := K3_x
  obtain ⟨⟨c3_p_0, c3_p_1, c3_p_2, c3_p_3, c3_p_4⟩, f3_p_0, f3_p_1, f3_p_2, f3_p_3, f3_p_4⟩ := K3_p
  obtain ⟨⟨c3_q_0, c3_q_1, c3_q_2, c3_q_3, c3_q_4⟩, f3_q_0, f3_q_1, f3_q_2, f3_q_3, f3_q_4⟩ := K3_q
  have l3_x : w.heap.size < w3.heap.size := by omega
  have l3_p : w1.heap.size < w3.heap.size := by omega
  go_wp2_with fail
  refine (rConj_any _ _ _ _ _ _).mono ?_
  rintro e w4 ⟨rfl, hb⟩
  rw [HC'.out]
  unfold Ret5
  (try simp only)
  have K4_x : Has5 w4 (w.heap.size) a b c d k := Has5.keep (by refine ⟨⟨?_, ?_, ?_, ?_, ?_⟩, ?_, ?_, ?_, ?_, ?_⟩ <;> go_cell) hb (by first | omega | (simp; done) | (simp; omega))
  have K4_p : Has5 w4 (w1.heap.size) c0 c1 c2 c3 c4 := Has5.keep (by refine ⟨⟨?_, ?_, ?_, ?_, ?_⟩, ?_, ?_, ?_, ?_, ?_⟩ <;> go_cell) hb (by first | omega | (simp; done) | (simp; omega))
  have K4_q : Has5 w4 (w2.heap.size) n0 n1 n2 n3 n4 := Has5.keep (by refine ⟨⟨?_, ?_, ?_, ?_, ?_⟩, ?_, ?_, ?_, ?_, ?_⟩ <;> go_cell) hb (by first | omega | (simp; done) | (simp; omega))
  have D4 : Below w.heap.size w w4 := Below.trans (by go_grown) (hb.mono (by first | omega | (simp; done) | (simp; omega)))
  have s4 : w2.heap.size < w4.heap.size := by have := hb.size; (try simp at this); omega
  clear hb D3 c3_x_0 c3_x_1 c3_x_2 c3_x_3 c3_x_4 f3_x_0 f3_x_1 f3_x_2 f3_x_3 f3_x_4 c3_p_0 c3_p_1 c3_p_2 c3_p_3 c3_p_4 f3_p_0 f3_p_1 f3_p_2 f3_p_3 f3_p_4 c3_q_0 c3_q_1 c3_q_2 c3_q_3 c3_q_4 f3_q_0 f3_q_1 f3_q_2 f3_q_3 f3_q_4
  obtain ⟨⟨c4_x_0, c4_x_1, c4_x_2, c4_x_3, c4_x_4⟩, f4_x_0, f4_x_1, f4_x_2, f4_x_3, f4_x_4⟩ := K4_x
  obtain ⟨⟨c4_p_0, c4_p_1, c4_p_2, c4_p_3, c4_p_4⟩, f4_p_0, f4_p_1, f4_p_2, f4_p_3, f4_p_4⟩ := K4_p
  obtain ⟨⟨c4_q_0, c4_q_1, c4_q_2, c4_q_3, c4_q_4⟩, f4_q_0, f4_q_1, f4_q_2, f4_q_3, f4_q_4⟩ := K4_q
  have l4_x : w.heap.size < w4.heap.size := by omega
  have l4_p : w1.heap.size < w4.heap.size := by omega
  go_wp2_with fail
  refine (Flip_any _ _ _ _ _ _).mono ?_
  rintro e w5 ⟨rfl, hb⟩
  rw [HF.out]
  unfold Ret5
  (try simp only)
  have K5_x : Has5 w5 (w.heap.size) a b c d k := Has5.keep (by refine ⟨⟨?_, ?_, ?_, ?_, ?_⟩, ?_, ?_, ?_, ?_, ?_⟩ <;> go_cell) hb (by first | omega | (simp; done) | (simp; omega))
  have K5_p : Has5 w5 (w1.heap.size) c0 c1 c2 c3 c4 := Has5.keep (by refine ⟨⟨?_, ?_, ?_, ?_, ?_⟩, ?_, ?_, ?_, ?_, ?_⟩ <;> go_cell) hb (by first | omega | (simp; done) | (simp; omega))
  have K5_q : Has5 w5 (w2.heap.size) c0 c1 c2 c3 c4 := Has5.keep (by refine ⟨⟨?_, ?_, ?_, ?_, ?_⟩, ?_, ?_, ?_, ?_, ?_⟩ <;> go_cell) hb (by first | omega | (simp; done) | (simp; omega))
  have D5 : Below w.heap.size w w5 := Below.trans (by go_grown) (hb.mono (by first | omega | (simp; done) | (simp; omega)))
  have s5 : w2.heap.size < w5.heap.size := by have := hb.size; (try simp at this); omega
  clear hb D4 c4_x_0 c4_x_1 c4_x_2 c4_x_3 c4_x_4 f4_x_0 f4_x_1 f4_x_2 f4_x_3 f4_x_4 c4_p_0 c4_p_1 c4_p_2 c4_p_3 c4_p_4 f4_p_0 f4_p_1 f4_p_2 f4_p_3 f4_p_4 c4_q_0 c4_q_1 c4_q_2 c4_q_3 c4_q_4 f4_q_0 f4_q_1 f4_q_2 f4_q_3 f4_q_4
  obtain ⟨⟨c5_x_0, c5_x_1, c5_x_2, c5_x_3, c5_x_4⟩, f5_x_0, f5_x_1, f5_x_2, f5_x_3, f5_x_4⟩ := K5_x
  obtain ⟨⟨c5_p_0, c5_p_1, c5_p_2, c5_p_3, c5_p_4⟩, f5_p_0, f5_p_1, f5_p_2, f5_p_3, f5_p_4⟩ := K5_p
  obtain ⟨⟨c5_q_0, c5_q_1, c5_q_2, c5_q_3, c5_q_4⟩, f5_q_0, f5_q_1, f5_q_2, f5_q_3, f5_q_4⟩ := K5_q
  have l5_x : w.heap.size < w5.heap.size := by omega
  have l5_p : w1.heap.size < w5.heap.size := by omega
  go_wp2_with fail
  refine (rFlip_any _ _ _ _ _ _).mono ?_
  rintro e w6 ⟨rfl, hb⟩
  rw [HF'.out]
  unfold Ret5
  (try simp only)
  have K6_x : Has5 w6 (w.heap.size) a b c d k := Has5.keep (by refine ⟨⟨?_, ?_, ?_, ?_, ?_⟩, ?_, ?_, ?_, ?_, ?_⟩ <;> go_cell) hb (by first | omega | (simp; done) | (simp; omega))
  have K6_p : Has5 w6 (w1.heap.size) f0 f1 f2 f3 f4 := Has5.keep (by refine ⟨⟨?_, ?_, ?_, ?_, ?_⟩, ?_, ?_, ?_, ?_, ?_⟩ <;> go_cell) hb (by first | omega | (simp; done) | (simp; omega))
  have K6_q : Has5 w6 (w2.heap.size) c0 c1 c2 c3 c4 := Has5.keep (by refine ⟨⟨?_, ?_, ?_, ?_, ?_⟩, ?_, ?_, ?_, ?_, ?_⟩ <;> go_cell) hb (by first | omega | (simp; done) | (simp; omega))
  have D6 : Below w.heap.size w w6 := Below.trans (by go_grown) (hb.mono (by first | omega | (simp; done) | (simp; omega)))
  have s6 : w2.heap.size < w6.heap.size := by have := hb.size; (try simp at this); omega
  clear hb D5 c5_x_0 c5_x_1 c5_x_2 c5_x_3 c5_x_4 f5_x_0 f5_x_1 f5_x_2 f5_x_3 f5_x_4 c5_p_0 c5_p_1 c5_p_2 c5_p_3 c5_p_4 f5_p_0 f5_p_1 f5_p_2 f5_p_3 f5_p_4 c5_q_0 c5_q_1 c5_q_2 c5_q_3 c5_q_4 f5_q_0 f5_q_1 f5_q_2 f5_q_3 f5_q_4
  obtain ⟨⟨c6_x_0, c6_x_1, c6_x_2, c6_x_3, c6_x_4⟩, f6_x_0, f6_x_1, f6_x_2, f6_x_3, f6_x_4⟩ := K6_x
  obtain ⟨⟨c6_p_0, c6_p_1, c6_p_2, c6_p_3, c6_p_4⟩, f6_p_0, f6_p_1, f6_p_2, f6_p_3, f6_p_4⟩ := K6_p
  obtain ⟨⟨c6_q_0, c6_q_1, c6_q_2, c6_q_3, c6_q_4⟩, f6_q_0, f6_q_1, f6_q_2, f6_q_3, f6_q_4⟩ := K6_q
  have l6_x : w.heap.size < w6.heap.size := by omega
  have l6_p : w1.heap.size < w6.heap.size := by omega
  go_wp2_with fail
  refine (Turn_any _ _ _ _ _ _ _).mono ?_
  rintro e w7 ⟨rfl, hb⟩
  rw [HT.out]
  unfold Ret5
  (try simp only)
  have K7_x : Has5 w7 (w.heap.size) a b c d k := Has5.keep (by refine ⟨⟨?_, ?_, ?_, ?_, ?_⟩, ?_, ?_, ?_, ?_, ?_⟩ <;> go_cell) hb (by first | omega | (simp; done) | (simp; omega))
  have K7_p : Has5 w7 (w1.heap.size) f0 f1 f2 f3 f4 := Has5.keep (by refine ⟨⟨?_, ?_, ?_, ?_, ?_⟩, ?_, ?_, ?_, ?_, ?_⟩ <;> go_cell) hb (by first | omega | (simp; done) | (simp; omega))
  have K7_q : Has5 w7 (w2.heap.size) f0 f1 f2 f3 f4 := Has5.keep (by refine ⟨⟨?_, ?_, ?_, ?_, ?_⟩, ?_, ?_, ?_, ?_, ?_⟩ <;> go_cell) hb (by first | omega | (simp; done) | (simp; omega))
  have D7 : Below w.heap.size w w7 := Below.trans (by go_grown) (hb.mono (by first | omega | (simp; done) | (simp; omega)))
  have s7 : w2.heap.size < w7.heap.size := by have := hb.size; (try simp at this); omega
  clear hb D6 c6_x_0 c6_x_1 c6_x_2 c6_x_3 c6_x_4 f6_x_0 f6_x_1 f6_x_2 f6_x_3 f6_x_4 c6_p_0 c6_p_1 c6_p_2 c6_p_3 c6_p_4 f6_p_0 f6_p_1 f6_p_2 f6_p_3 f6_p_4 c6_q_0 c6_q_1 c6_q_2 c6_q_3 c6_q_4 f6_q_0 f6_q_1 f6_q_2 f6_q_3 f6_q_4
  obtain ⟨⟨c7_x_0, c7_x_1, c7_x_2, c7_x_3, c7_x_4⟩, f7_x_0, f7_x_1, f7_x_2, f7_x_3, f7_x_4⟩ := K7_x
  obtain ⟨⟨c7_p_0, c7_p_1, c7_p_2, c7_p_3, c7_p_4⟩, f7_p_0, f7_p_1, f7_p_2, f7_p_3, f7_p_4⟩ := K7_p
  obtain ⟨⟨c7_q_0, c7_q_1, c7_q_2, c7_q_3, c7_q_4⟩, f7_q_0, f7_q_1, f7_q_2, f7_q_3, f7_q_4⟩ := K7_q
  have l7_x : w.heap.size < w7.heap.size := by omega
  have l7_p : w1.heap.size < w7.heap.size := by omega
  go_wp2_with fail
  refine (rTurn_any _ _ _ _ _ _ _).mono ?_
  rintro e w8 ⟨rfl, hb⟩
  rw [HT'.out]
  unfold Ret5
  (try simp only)
  have K8_x : Has5 w8 (w.heap.size) a b c d k := Has5.keep (by refine ⟨⟨?_, ?_, ?_, ?_, ?_⟩, ?_, ?_, ?_, ?_, ?_⟩ <;> go_cell) hb (by first | omega | (simp; done) | (simp; omega))
  have K8_p : Has5 w8 (w1.heap.size) t0 t1 t2 t3 t4 := Has5.keep (by refine ⟨⟨?_, ?_, ?_, ?_, ?_⟩, ?_, ?_, ?_, ?_, ?_⟩ <;> go_cell) hb (by first | omega | (simp; done) | (simp; omega))
  have K8_q : Has5 w8 (w2.heap.size) f0 f1 f2 f3 f4 := Has5.keep (by refine ⟨⟨?_, ?_, ?_, ?_, ?_⟩, ?_, ?_, ?_, ?_, ?_⟩ <;> go_cell) hb (by first | omega | (simp; done) | (simp; omega))
  have D8 : Below w.heap.size w w8 := Below.trans (by go_grown) (hb.mono (by first | omega | (simp; done) | (simp; omega)))
  have s8 : w2.heap.size < w8.heap.size := by have := hb.size; (try simp at this); omega
  clear hb D7 c7_x_0 c7_x_1 c7_x_2 c7_x_3 c7_x_4 f7_x_0 f7_x_1 f7_x_2 f7_x_3 f7_x_4 c7_p_0 c7_p_1 c7_p_2 c7_p_3 c7_p_4 f7_p_0 f7_p_1 f7_p_2 f7_p_3 f7_p_4 c7_q_0 c7_q_1 c7_q_2 c7_q_3 c7_q_4 f7_q_0 f7_q_1 f7_q_2 f7_q_3 f7_q_4
  obtain ⟨⟨c8_x_0, c8_x_1, c8_x_2, c8_x_3, c8_x_4⟩, f8_x_0, f8_x_1, f8_x_2, f8_x_3, f8_x_4⟩ := K8_x
  obtain ⟨⟨c8_p_0, c8_p_1, c8_p_2, c8_p_3, c8_p_4⟩, f8_p_0, f8_p_1, f8_p_2, f8_p_3, f8_p_4⟩ := K8_p
  obtain ⟨⟨c8_q_0, c8_q_1, c8_q_2, c8_q_3, c8_q_4⟩, f8_q_0, f8_q_1, f8_q_2, f8_q_3, f8_q_4⟩ := K8_q
  have l8_x : w.heap.size < w8.heap.size := by omega
  have l8_p : w1.heap.size < w8.heap.size := by omega
  go_wp2_with fail
  refine (Halve_any _ _ _ _ _ _ _).mono ?_
  rintro e w9 ⟨rfl, hb⟩
  rw [HH.out]
  unfold Ret5
  (try simp only)
  have K9_x : Has5 w9 (w.heap.size) a b c d k := Has5.keep (by refine ⟨⟨?_, ?_, ?_, ?_, ?_⟩, ?_, ?_, ?_, ?_, ?_⟩ <;> go_cell) hb (by first | omega | (simp; done) | (simp; omega))
  have K9_p : Has5 w9 (w1.heap.size) t0 t1 t2 t3 t4 := Has5.keep (by refine ⟨⟨?_, ?_, ?_, ?_, ?_⟩, ?_, ?_, ?_, ?_, ?_⟩ <;> go_cell) hb (by first | omega | (simp; done) | (simp; omega))
  have K9_q : Has5 w9 (w2.heap.size) t0 t1 t2 t3 t4 := Has5.keep (by refine ⟨⟨?_, ?_, ?_, ?_, ?_⟩, ?_, ?_, ?_, ?_, ?_⟩ <;> go_cell) hb (by first | omega | (simp; done) | (simp; omega))
  have D9 : Below w.heap.size w w9 := Below.trans (by go_grown) (hb.mono (by first | omega | (simp; done) | (simp; omega)))
  have s9 : w2.heap.size < w9.heap.size := by have := hb.size; (try simp at this); omega
  clear hb D8 c8_x_0 c8_x_1 c8_x_2 c8_x_3 c8_x_4 f8_x_0 f8_x_1 f8_x_2 f8_x_3 f8_x_4 c8_p_0 c8_p_1 c8_p_2 c8_p_3 c8_p_4 f8_p_0 f8_p_1 f8_p_2 f8_p_3 f8_p_4 c8_q_0 c8_q_1 c8_q_2 c8_q_3 c8_q_4 f8_q_0 f8_q_1 f8_q_2 f8_q_3 f8_q_4
  obtain ⟨⟨c9_x_0, c9_x_1, c9_x_2, c9_x_3, c9_x_4⟩, f9_x_0, f9_x_1, f9_x_2, f9_x_3, f9_x_4⟩ := K9_x
  obtain ⟨⟨c9_p_0, c9_p_1, c9_p_2, c9_p_3, c9_p_4⟩, f9_p_0, f9_p_1, f9_p_2, f9_p_3, f9_p_4⟩ := K9_p
  obtain ⟨⟨c9_q_0, c9_q_1, c9_q_2, c9_q_3, c9_q_4⟩, f9_q_0, f9_q_1, f9_q_2, f9_q_3, f9_q_4⟩ := K9_q
  have l9_x : w.heap.size < w9.heap.size := by omega
  have l9_p : w1.heap.size < w9.heap.size := by omega
  go_wp2_with fail
  refine (rHalve_any _ _ _ _ _ _ _).mono ?_
  rintro e w10 ⟨rfl, hb⟩
  rw [HH.out]
  unfold Ret5
  (try simp only)
  have K10_x : Has5 w10 (w.heap.size) a b c d k := Has5.keep (by refine ⟨⟨?_, ?_, ?_, ?_, ?_⟩, ?_, ?_, ?_, ?_, ?_⟩ <;> go_cell) hb (by first | omega | (simp; done) | (simp; omega))
  have K10_p : Has5 w10 (w1.heap.size) h0 h1 h2 h3 h4 := Has5.keep (by refine ⟨⟨?_, ?_, ?_, ?_, ?_⟩, ?_, ?_, ?_, ?_, ?_⟩ <;> go_cell) hb (by first | omega | (simp; done) | (simp; omega))
  have K10_q : Has5 w10 (w2.heap.size) t0 t1 t2 t3 t4 := Has5.keep (by refine ⟨⟨?_, ?_, ?_, ?_, ?_⟩, ?_, ?_, ?_, ?_, ?_⟩ <;> go_cell) hb (by first | omega | (simp; done) | (simp; omega))
  have D10 : Below w.heap.size w w10 := Below.trans (by go_grown) (hb.mono (by first | omega | (simp; done) | (simp; omega)))
  have s10 : w2.heap.size < w10.heap.size := by have := hb.size; (try simp at this); omega
  clear hb D9 c9_x_0 c9_x_1 c9_x_2 c9_x_3 c9_x_4 f9_x_0 f9_x_1 f9_x_2 f9_x_3 f9_x_4 c9_p_0 c9_p_1 c9_p_2 c9_p_3 c9_p_4 f9_p_0 f9_p_1 f9_p_2 f9_p_3 f9_p_4 c9_q_0 c9_q_1 c9_q_2 c9_q_3 c9_q_4 f9_q_0 f9_q_1 f9_q_2 f9_q_3 f9_q_4
  obtain ⟨⟨c10_x_0, c10_x_1, c10_x_2, c10_x_3, c10_x_4⟩, f10_x_0, f10_x_1, f10_x_2, f10_x_3, f10_x_4⟩ := K10_x
  obtain ⟨⟨c10_p_0, c10_p_1, c10_p_2, c10_p_3, c10_p_4⟩, f10_p_0, f10_p_1, f10_p_2, f10_p_3, f10_p_4⟩ := K10_p
  obtain ⟨⟨c10_q_0, c10_q_1, c10_q_2, c10_q_3, c10_q_4⟩, f10_q_0, f10_q_1, f10_q_2, f10_q_3, f10_q_4⟩ := K10_q
  have l10_x : w.heap.size < w10.heap.size := by omega
  have l10_p : w1.heap.size < w10.heap.size := by omega
  go_wp2_with fail
  refine (awake_any _).mono ?_
  rintro e w11 ⟨rfl, hb⟩
  have D11 : Below w.heap.size w w11 := Below.trans (by go_grown) (hb.mono (by first | omega | (simp; done) | (simp; omega)))
  clear hb
  go_wp2_with fail
  go_returns
  exact ⟨rfl, D11⟩
end Go.Proofs.Ytmildncbkndcoaa
