import Derived.Test.YtmildncbkndcoaaM
namespace Go.Proofs.Ytmildncbkndcoaa
open Go.RowKit Amp
attribute [local go_sem] ix0 ix1 ix2 ix3 jx0 jx1 jx2 jx3
attribute [local go_sem high] run_eqNum run_neNum

set_option maxHeartbeats 2000000 in
theorem AmpSums_any (a b c d k p q r s l : Int) (w : World) :
    Calls Try.prog 4 #[.agg #[.int .i64 a, .int .i64 b, .int .i64 c, .int .i64 d, .int .i64 k], .agg #[.int .i64 p, .int .i64 q, .int .i64 r, .int .i64 s, .int .i64 l]] w fun e w' => e = .returned (.bool true) ∧ Below w.heap.size w w' := by
  obtain ⟨x0, x1, x2, x3, x4, xe, HR⟩ := res5 (addS ⟨⟨a, b, c, d⟩, k⟩ ⟨⟨p, q, r, s⟩, l⟩)
  obtain ⟨y0, y1, y2, y3, y4, ye, HT⟩ := res5 (subS ⟨⟨a, b, c, d⟩, k⟩ ⟨⟨p, q, r, s⟩, l⟩)
  go_enter Try.func4, Try.ntmps4
  go_wp2_with fail
  refine (Add_any _ _ _ _ _ _ _ _ _ _ _).mono ?_
  rintro e w1 ⟨rfl, hb⟩
  rw [HR.out]
  unfold Ret5
  simp only
  have K1_0 : Has5 w1 (w.heap.size) a b c d k := Has5.keep (by refine ⟨⟨?_, ?_, ?_, ?_, ?_⟩, ?_, ?_, ?_, ?_, ?_⟩ <;> go_cell) hb (by first | omega | (simp; done) | (simp; omega))
  have K1_1 : Has5 w1 (w.heap.size + 1) p q r s l := Has5.keep (by refine ⟨⟨?_, ?_, ?_, ?_, ?_⟩, ?_, ?_, ?_, ?_, ?_⟩ <;> go_cell) hb (by first | omega | (simp; done) | (simp; omega))
  have D1 : Below w.heap.size w w1 := Below.trans (by go_grown) (hb.mono (by first | omega | (simp; done) | (simp; omega)))
  have s1 : w.heap.size + 1 < w1.heap.size := by have := hb.size; simp at this; omega
  clear hb
  obtain ⟨⟨c1_0_0, c1_0_1, c1_0_2, c1_0_3, c1_0_4⟩, f1_0_0, f1_0_1, f1_0_2, f1_0_3, f1_0_4⟩ := K1_0
  have l1_0 : w.heap.size < w1.heap.size := by omega
  obtain ⟨⟨c1_1_0, c1_1_1, c1_1_2, c1_1_3, c1_1_4⟩, f1_1_0, f1_1_1, f1_1_2, f1_1_3, f1_1_4⟩ := K1_1
  go_wp2_with fail
  refine (rAdd_any _ _ _ _ _ _ _ _ _ _ _).mono ?_
  rintro e w2 ⟨rfl, hb⟩
  rw [HR.out]
  unfold Ret5
  simp only
  have K2_0 : Has5 w2 (w.heap.size) a b c d k := Has5.keep (by refine ⟨⟨?_, ?_, ?_, ?_, ?_⟩, ?_, ?_, ?_, ?_, ?_⟩ <;> go_cell) hb (by first | omega | (simp; done) | (simp; omega))
  have K2_1 : Has5 w2 (w.heap.size + 1) p q r s l := Has5.keep (by refine ⟨⟨?_, ?_, ?_, ?_, ?_⟩, ?_, ?_, ?_, ?_, ?_⟩ <;> go_cell) hb (by first | omega | (simp; done) | (simp; omega))
  have K2_2 : Has5 w2 (w1.heap.size) x0 x1 x2 x3 x4 := Has5.keep (by refine ⟨⟨?_, ?_, ?_, ?_, ?_⟩, ?_, ?_, ?_, ?_, ?_⟩ <;> go_cell) hb (by first | omega | (simp; done) | (simp; omega))
  have D2 : Below w.heap.size w w2 := Below.trans (by go_grown) (hb.mono (by first | omega | (simp; done) | (simp; omega)))
  have s2 : w1.heap.size < w2.heap.size := by have := hb.size; simp at this; omega
  clear hb D1 c1_0_0 f1_0_0 c1_0_1 f1_0_1 c1_0_2 f1_0_2 c1_0_3 f1_0_3 c1_0_4 f1_0_4 c1_1_0 f1_1_0 c1_1_1 f1_1_1 c1_1_2 f1_1_2 c1_1_3 f1_1_3 c1_1_4 f1_1_4
  obtain ⟨⟨c2_0_0, c2_0_1, c2_0_2, c2_0_3, c2_0_4⟩, f2_0_0, f2_0_1, f2_0_2, f2_0_3, f2_0_4⟩ := K2_0
  have l2_0 : w.heap.size < w2.heap.size := by omega
  obtain ⟨⟨c2_1_0, c2_1_1, c2_1_2, c2_1_3, c2_1_4⟩, f2_1_0, f2_1_1, f2_1_2, f2_1_3, f2_1_4⟩ := K2_1
  have l2_1 : w.heap.size + 1 < w2.heap.size := by omega
  obtain ⟨⟨c2_2_0, c2_2_1, c2_2_2, c2_2_3, c2_2_4⟩, f2_2_0, f2_2_1, f2_2_2, f2_2_3, f2_2_4⟩ := K2_2
  go_wp2_with fail
  refine (Sub_any _ _ _ _ _ _ _ _ _ _ _).mono ?_
  rintro e w3 ⟨rfl, hb⟩
  rw [HT.out]
  unfold Ret5
  simp only
  have K3_0 : Has5 w3 (w.heap.size) a b c d k := Has5.keep (by refine ⟨⟨?_, ?_, ?_, ?_, ?_⟩, ?_, ?_, ?_, ?_, ?_⟩ <;> go_cell) hb (by first | omega | (simp; done) | (simp; omega))
  have K3_1 : Has5 w3 (w.heap.size + 1) p q r s l := Has5.keep (by refine ⟨⟨?_, ?_, ?_, ?_, ?_⟩, ?_, ?_, ?_, ?_, ?_⟩ <;> go_cell) hb (by first | omega | (simp; done) | (simp; omega))
  have K3_2 : Has5 w3 (w1.heap.size) x0 x1 x2 x3 x4 := Has5.keep (by refine ⟨⟨?_, ?_, ?_, ?_, ?_⟩, ?_, ?_, ?_, ?_, ?_⟩ <;> go_cell) hb (by first | omega | (simp; done) | (simp; omega))
  have K3_3 : Has5 w3 (w2.heap.size) x0 x1 x2 x3 x4 := Has5.keep (by refine ⟨⟨?_, ?_, ?_, ?_, ?_⟩, ?_, ?_, ?_, ?_, ?_⟩ <;> go_cell) hb (by first | omega | (simp; done) | (simp; omega))
  have D3 : Below w.heap.size w w3 := Below.trans (by go_grown) (hb.mono (by first | omega | (simp; done) | (simp; omega)))
  have s3 : w2.heap.size < w3.heap.size := by have := hb.size; simp at this; omega
  clear hb D2 c2_0_0 f2_0_0 c2_0_1 f2_0_1 c2_0_2 f2_0_2 c2_0_3 f2_0_3 c2_0_4 f2_0_4 c2_1_0 f2_1_0 c2_1_1 f2_1_1 c2_1_2 f2_1_2 c2_1_3 f2_1_3 c2_1_4 f2_1_4 c2_2_0 f2_2_0 c2_2_1 f2_2_1 c2_2_2 f2_2_2 c2_2_3 f2_2_3 c2_2_4 f2_2_4
  obtain ⟨⟨c3_0_0, c3_0_1, c3_0_2, c3_0_3, c3_0_4⟩, f3_0_0, f3_0_1, f3_0_2, f3_0_3, f3_0_4⟩ := K3_0
  have l3_0 : w.heap.size < w3.heap.size := by omega
  obtain ⟨⟨c3_1_0, c3_1_1, c3_1_2, c3_1_3, c3_1_4⟩, f3_1_0, f3_1_1, f3_1_2, f3_1_3, f3_1_4⟩ := K3_1
  have l3_1 : w.heap.size + 1 < w3.heap.size := by omega
  obtain ⟨⟨c3_2_0, c3_2_1, c3_2_2, c3_2_3, c3_2_4⟩, f3_2_0, f3_2_1, f3_2_2, f3_2_3, f3_2_4⟩ := K3_2
  have l3_2 : w1.heap.size < w3.heap.size := by omega
  obtain ⟨⟨c3_3_0, c3_3_1, c3_3_2, c3_3_3, c3_3_4⟩, f3_3_0, f3_3_1, f3_3_2, f3_3_3, f3_3_4⟩ := K3_3
  go_wp2_with fail
  refine (rSub_any _ _ _ _ _ _ _ _ _ _ _).mono ?_
  rintro e w4 ⟨rfl, hb⟩
  rw [HT.out]
  unfold Ret5
  simp only
  have K4_0 : Has5 w4 (w.heap.size) a b c d k := Has5.keep (by refine ⟨⟨?_, ?_, ?_, ?_, ?_⟩, ?_, ?_, ?_, ?_, ?_⟩ <;> go_cell) hb (by first | omega | (simp; done) | (simp; omega))
  have K4_1 : Has5 w4 (w.heap.size + 1) p q r s l := Has5.keep (by refine ⟨⟨?_, ?_, ?_, ?_, ?_⟩, ?_, ?_, ?_, ?_, ?_⟩ <;> go_cell) hb (by first | omega | (simp; done) | (simp; omega))
  have K4_2 : Has5 w4 (w1.heap.size) x0 x1 x2 x3 x4 := Has5.keep (by refine ⟨⟨?_, ?_, ?_, ?_, ?_⟩, ?_, ?_, ?_, ?_, ?_⟩ <;> go_cell) hb (by first | omega | (simp; done) | (simp; omega))
  have K4_3 : Has5 w4 (w2.heap.size) x0 x1 x2 x3 x4 := Has5.keep (by refine ⟨⟨?_, ?_, ?_, ?_, ?_⟩, ?_, ?_, ?_, ?_, ?_⟩ <;> go_cell) hb (by first | omega | (simp; done) | (simp; omega))
  have K4_4 : Has5 w4 (w3.heap.size) y0 y1 y2 y3 y4 := Has5.keep (by refine ⟨⟨?_, ?_, ?_, ?_, ?_⟩, ?_, ?_, ?_, ?_, ?_⟩ <;> go_cell) hb (by first | omega | (simp; done) | (simp; omega))
  have D4 : Below w.heap.size w w4 := Below.trans (by go_grown) (hb.mono (by first | omega | (simp; done) | (simp; omega)))
  have s4 : w3.heap.size < w4.heap.size := by have := hb.size; simp at this; omega
  clear hb D3 c3_0_0 f3_0_0 c3_0_1 f3_0_1 c3_0_2 f3_0_2 c3_0_3 f3_0_3 c3_0_4 f3_0_4 c3_1_0 f3_1_0 c3_1_1 f3_1_1 c3_1_2 f3_1_2 c3_1_3 f3_1_3 c3_1_4 f3_1_4 c3_2_0 f3_2_0 c3_2_1 f3_2_1 c3_2_2 f3_2_2 c3_2_3 f3_2_3 c3_2_4 f3_2_4 c3_3_0 f3_3_0 c3_3_1 f3_3_1 c3_3_2 f3_3_2 c3_3_3 f3_3_3 c3_3_4 f3_3_4
  obtain ⟨⟨c4_0_0, c4_0_1, c4_0_2, c4_0_3, c4_0_4⟩, f4_0_0, f4_0_1, f4_0_2, f4_0_3, f4_0_4⟩ := K4_0
  have l4_0 : w.heap.size < w4.heap.size := by omega
  obtain ⟨⟨c4_1_0, c4_1_1, c4_1_2, c4_1_3, c4_1_4⟩, f4_1_0, f4_1_1, f4_1_2, f4_1_3, f4_1_4⟩ := K4_1
  have l4_1 : w.heap.size + 1 < w4.heap.size := by omega
  obtain ⟨⟨c4_2_0, c4_2_1, c4_2_2, c4_2_3, c4_2_4⟩, f4_2_0, f4_2_1, f4_2_2, f4_2_3, f4_2_4⟩ := K4_2
  have l4_2 : w1.heap.size < w4.heap.size := by omega
  obtain ⟨⟨c4_3_0, c4_3_1, c4_3_2, c4_3_3, c4_3_4⟩, f4_3_0, f4_3_1, f4_3_2, f4_3_3, f4_3_4⟩ := K4_3
  have l4_3 : w2.heap.size < w4.heap.size := by omega
  obtain ⟨⟨c4_4_0, c4_4_1, c4_4_2, c4_4_3, c4_4_4⟩, f4_4_0, f4_4_1, f4_4_2, f4_4_3, f4_4_4⟩ := K4_4
  go_wp2_with fail
  refine (awake_any _).mono ?_
  rintro e w5 ⟨rfl, hb⟩
  have D5 : Below w.heap.size w w5 := Below.trans (by go_grown) (hb.mono (by first | omega | (simp; done) | (simp; omega)))
  clear hb
  go_wp2_with fail
  go_returns
  exact ⟨rfl, D5⟩
end Go.Proofs.Ytmildncbkndcoaa
