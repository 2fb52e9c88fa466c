import Derived.Test.YtkcbkcgampoclaaH
namespace Go.Proofs.Ytkcbkcgampoclaa
open Go.RowKit Amp
attribute [local go_sem] ix0 ix1 ix2 ix3
theorem timesRoots_int (a b c d N : Int) (w : World) (h : big 1000000000 ⟨a, b, c, d⟩) (h0 : 0 ≤ N) (hn : N ≤ 40) :
    Calls Try.prog 59 #[.agg #[.int .i64 a, .int .i64 b, .int .i64 c, .int .i64 d], .int .i64 N] w fun e w' => e = .returned (.agg #[.int .i64 (trn N.toNat ⟨a, b, c, d⟩).a, .int .i64 (trn N.toNat ⟨a, b, c, d⟩).b, .int .i64 (trn N.toNat ⟨a, b, c, d⟩).c, .int .i64 (trn N.toNat ⟨a, b, c, d⟩).d]) ∧ Below w.heap.size w w' := by
  obtain ⟨n, rfl⟩ := Int.eq_ofNat_of_zero_le h0
  rw [Int.toNat_natCast]
  exact timesRoots_any a b c d n w h (by omega)

set_option maxHeartbeats 1000000 in
theorem combined_add_le (a b c d p q r s : Int) (k l : Nat) (w : World) (hx : big 1000000000 ⟨a, b, c, d⟩) (hy : big 1000000000 ⟨p, q, r, s⟩) (hk : k ≤ 40) (hl : l ≤ 40) (ho : k < l) :
    Calls Try.prog 46 #[.agg #[.int .i64 a, .int .i64 b, .int .i64 c, .int .i64 d, .int .i64 k], .agg #[.int .i64 p, .int .i64 q, .int .i64 r, .int .i64 s, .int .i64 l], .int .i64 1] w fun e w' => e = Ret4 (comb ⟨⟨a, b, c, d⟩, k⟩ ⟨⟨p, q, r, s⟩, l⟩ 1) ∧ Below w.heap.size w w' := by
  have hoI : (k : Int) < (l : Int) := by omega
  go_enter Try.func46, Try.ntmps46
  go_wp2_with fail
  refine (timesRoots_int _ _ _ _ _ _ hx (by omega) (by omega)).mono ?_
  rintro e w1 ⟨rfl, hb1⟩
  have A1 : Has5 w1 w.heap.size a b c d k := Has5.keep (by refine ⟨⟨?_, ?_, ?_, ?_, ?_⟩, ?_, ?_, ?_, ?_, ?_⟩ <;> go_cell) hb1 (by simp; omega)
  have B1 : Has5 w1 (w.heap.size + 1) p q r s l := Has5.keep (by refine ⟨⟨?_, ?_, ?_, ?_, ?_⟩, ?_, ?_, ?_, ?_, ?_⟩ <;> go_cell) hb1 (by simp)
  have C1 : Has4 w1 (w.heap.size + 1 + 1) 0 0 0 0 := Has4.keep (by refine ⟨⟨?_, ?_, ?_, ?_⟩, ?_, ?_, ?_, ?_⟩ <;> go_cell) hb1 (by simp)
  have D1 : Below w.heap.size w w1 := Below.trans (by go_grown) (hb1.mono (by simp; omega))
  have s1 : w.heap.size + 3 ≤ w1.heap.size := by have := hb1.size; simp at this; omega
  clear hb1
  have bx := trn_bd (n := ((l : Int) - k).toNat) hx (by omega)
  have hX : Hid (trn ((l : Int) - k).toNat ⟨a, b, c, d⟩ = trn (max k l - k) ⟨a, b, c, d⟩) := by show _ = _; congr 1; omega
  generalize trn ((l : Int) - k).toNat ⟨a, b, c, d⟩ = X at *
  obtain ⟨x0, x1, x2, x3⟩ := X
  obtain ⟨⟨i0, i1⟩, ⟨i2, i3⟩, ⟨i4, i5⟩, ⟨i6, i7⟩⟩ := bx
  simp only at i0 i1 i2 i3 i4 i5 i6 i7
  have P1 := A1
  have P2 := B1
  obtain ⟨⟨c0, c1, c2, c3, c4⟩, f0, f1, f2, f3, f4⟩ := P1
  obtain ⟨⟨g0, g1, g2, g3, g4⟩, e0, e1, e2, e3, e4⟩ := P2
  have l1 : w.heap.size < w1.heap.size := by omega
  have l2 : w.heap.size + 1 < w1.heap.size := by omega
  have l3 : w.heap.size + 1 + 1 < w1.heap.size := by omega
  go_wp2_with fail
  refine (timesRoots_int _ _ _ _ _ _ hy (by omega) (by omega)).mono ?_
  rintro e w2 ⟨rfl, hb2⟩
  have A2 : Has4 w2 w1.heap.size x0 x1 x2 x3 := Has4.keep (by refine ⟨⟨?_, ?_, ?_, ?_⟩, ?_, ?_, ?_, ?_⟩ <;> go_cell) hb2 (by simp)
  have C2 : Has4 w2 (w.heap.size + 1 + 1) 0 0 0 0 := Has4.keep (by obtain ⟨⟨u0, u1, u2, u3⟩, v0, v1, v2, v3⟩ := C1; refine ⟨⟨?_, ?_, ?_, ?_⟩, ?_, ?_, ?_, ?_⟩ <;> go_cell) hb2 (by simp; omega)
  have D2 : Below w.heap.size w w2 := Below.trans (by go_grown) (hb2.mono (by simp; omega))
  have s2 : w1.heap.size + 1 ≤ w2.heap.size := by have := hb2.size; simp at this; omega
  clear hb2 A1 B1 C1 D1 c0 c1 c2 c3 c4 f0 f1 f2 f3 f4 g0 g1 g2 g3 g4 e0 e1 e2 e3 e4
  have by_ := trn_bd (n := ((0 : Int)).toNat) hy (by omega)
  have hY : Hid (trn ((0 : Int)).toNat ⟨p, q, r, s⟩ = trn (max k l - l) ⟨p, q, r, s⟩) := by show _ = _; congr 1; omega
  generalize trn ((0 : Int)).toNat ⟨p, q, r, s⟩ = Y at *
  obtain ⟨y0, y1, y2, y3⟩ := Y
  obtain ⟨⟨j0, j1⟩, ⟨j2, j3⟩, ⟨j4, j5⟩, ⟨j6, j7⟩⟩ := by_
  simp only at j0 j1 j2 j3 j4 j5 j6 j7
  have P1 := A2
  have P2 := C2
  obtain ⟨⟨c0, c1, c2, c3⟩, f0, f1, f2, f3⟩ := P1
  obtain ⟨⟨g0, g1, g2, g3⟩, e0, e1, e2, e3⟩ := P2
  have l4 : w.heap.size + 1 + 1 < w2.heap.size := by omega
  have l5 : w1.heap.size < w2.heap.size := by omega
  go_wp2_with fail
  obtain ⟨w3, hw3⟩ : ∃ w3, w3 = w2.alloc (.cells #[.int .i64 y0, .int .i64 y1, .int .i64 y2, .int .i64 y3] 22) := ⟨_, rfl⟩
  rw [← hw3]
  have A3 : Has4 w3 w1.heap.size x0 x1 x2 x3 := by rw [hw3]; refine ⟨⟨?_, ?_, ?_, ?_⟩, ?_, ?_, ?_, ?_⟩ <;> go_cell
  have C3 : Has4 w3 (w.heap.size + 1 + 1) 0 0 0 0 := by rw [hw3]; refine ⟨⟨?_, ?_, ?_, ?_⟩, ?_, ?_, ?_, ?_⟩ <;> go_cell
  have E3 : Has4 w3 w2.heap.size y0 y1 y2 y3 := by rw [hw3]; refine ⟨⟨?_, ?_, ?_, ?_⟩, ?_, ?_, ?_, ?_⟩ <;> go_cell
  have D3 : Below w.heap.size w w3 := by rw [hw3]; go_grown
  have s3 : w2.heap.size + 1 ≤ w3.heap.size := by rw [hw3]; simp
  clear hw3 A2 C2 D2 c0 c1 c2 c3 f0 f1 f2 f3 g0 g1 g2 g3 e0 e1 e2 e3
  obtain ⟨⟨c0, c1, c2, c3⟩, f0, f1, f2, f3⟩ := A3
  obtain ⟨⟨g0, g1, g2, g3⟩, e0, e1, e2, e3⟩ := C3
  obtain ⟨⟨o0, o1, o2, o3⟩, _⟩ := E3
  have n1 : ¬ w1.heap.size = w2.heap.size := by omega
  have n2 : ¬ w2.heap.size = w1.heap.size := by omega
  have n3 : ¬ w1.heap.size = w.heap.size + 1 + 1 := by omega
  have n4 : ¬ w.heap.size + 1 + 1 = w1.heap.size := by omega
  refine wp_loop_rounds 5 ?_
  rw [rounds_succ]; go_wp2_with fail
  go_region
  go_wp2_with fail
  rw [rounds_succ]; go_wp2_with fail
  go_region
  go_wp2_with fail
  rw [rounds_succ]; go_wp2_with fail
  go_region
  go_wp2_with fail
  rw [rounds_succ]; go_wp2_with fail
  go_region
  go_wp2_with fail
  have Z4 : Has4 (((((w3.setCell ⟨w1.heap.size, 0, none⟩ (.int .i64 (x0 + y0))).setCell ⟨w1.heap.size, 1, none⟩ (.int .i64 (x1 + y1))).setCell ⟨w1.heap.size, 2, none⟩ (.int .i64 (x2 + y2))).setCell ⟨w1.heap.size, 3, none⟩ (.int .i64 (x3 + y3))).drew.drew.drew.drew) w1.heap.size (x0 + y0) (x1 + y1) (x2 + y2) (x3 + y3) := by refine ⟨⟨?_, ?_, ?_, ?_⟩, ?_, ?_, ?_, ?_⟩ <;> go_cell
  have Y5 : Has4 (((((w3.setCell ⟨w1.heap.size, 0, none⟩ (.int .i64 (x0 + y0))).setCell ⟨w1.heap.size, 1, none⟩ (.int .i64 (x1 + y1))).setCell ⟨w1.heap.size, 2, none⟩ (.int .i64 (x2 + y2))).setCell ⟨w1.heap.size, 3, none⟩ (.int .i64 (x3 + y3))).drew.drew.drew.drew) (w.heap.size + 1 + 1) 0 0 0 0 := by refine ⟨⟨?_, ?_, ?_, ?_⟩, ?_, ?_, ?_, ?_⟩ <;> go_cell
  have D4 : Below w.heap.size w (((((w3.setCell ⟨w1.heap.size, 0, none⟩ (.int .i64 (x0 + y0))).setCell ⟨w1.heap.size, 1, none⟩ (.int .i64 (x1 + y1))).setCell ⟨w1.heap.size, 2, none⟩ (.int .i64 (x2 + y2))).setCell ⟨w1.heap.size, 3, none⟩ (.int .i64 (x3 + y3))).drew.drew.drew.drew) := by go_grown
  clear D3 c0 c1 c2 c3 f0 f1 f2 f3 g0 g1 g2 g3 e0 e1 e2 e3 o0 o1 o2 o3
  generalize ((((w3.setCell ⟨w1.heap.size, 0, none⟩ (.int .i64 (x0 + y0))).setCell ⟨w1.heap.size, 1, none⟩ (.int .i64 (x1 + y1))).setCell ⟨w1.heap.size, 2, none⟩ (.int .i64 (x2 + y2))).setCell ⟨w1.heap.size, 3, none⟩ (.int .i64 (x3 + y3))).drew.drew.drew.drew = w4 at *
  obtain ⟨⟨c0, c1, c2, c3⟩, f0, f1, f2, f3⟩ := Z4
  obtain ⟨⟨g0, g1, g2, g3⟩, e0, e1, e2, e3⟩ := Y5
  rw [rounds_succ]; go_wp2_with fail
  refine bodyPost_ret (v := .tuple #[.agg #[.int .i64 (x0 + y0), .int .i64 (x1 + y1), .int .i64 (x2 + y2), .int .i64 (x3 + y3)], .int .i64 l]) (by simp [results, Try.results46, go_sem, *]) rfl ⟨?_, by go_grown⟩
  unfold comb Ret4
  simp only [Int.toNat_natCast]
  rw [← hX.out, ← hY.out]
  simp only [add, smul]
  rw [show max k l = l from by omega]
  simp only [Int.one_mul]

set_option maxHeartbeats 1000000 in
theorem combined_add_gt (a b c d p q r s : Int) (k l : Nat) (w : World) (hx : big 1000000000 ⟨a, b, c, d⟩) (hy : big 1000000000 ⟨p, q, r, s⟩) (hk : k ≤ 40) (hl : l ≤ 40) (ho : l ≤ k) :
    Calls Try.prog 46 #[.agg #[.int .i64 a, .int .i64 b, .int .i64 c, .int .i64 d, .int .i64 k], .agg #[.int .i64 p, .int .i64 q, .int .i64 r, .int .i64 s, .int .i64 l], .int .i64 1] w fun e w' => e = Ret4 (comb ⟨⟨a, b, c, d⟩, k⟩ ⟨⟨p, q, r, s⟩, l⟩ 1) ∧ Below w.heap.size w w' := by
  have hoI : ¬ (k : Int) < (l : Int) := by omega
  go_enter Try.func46, Try.ntmps46
  go_wp2_with fail
  refine (timesRoots_int _ _ _ _ _ _ hx (by omega) (by omega)).mono ?_
  rintro e w1 ⟨rfl, hb1⟩
  have A1 : Has5 w1 w.heap.size a b c d k := Has5.keep (by refine ⟨⟨?_, ?_, ?_, ?_, ?_⟩, ?_, ?_, ?_, ?_, ?_⟩ <;> go_cell) hb1 (by simp; omega)
  have B1 : Has5 w1 (w.heap.size + 1) p q r s l := Has5.keep (by refine ⟨⟨?_, ?_, ?_, ?_, ?_⟩, ?_, ?_, ?_, ?_, ?_⟩ <;> go_cell) hb1 (by simp)
  have C1 : Has4 w1 (w.heap.size + 1 + 1) 0 0 0 0 := Has4.keep (by refine ⟨⟨?_, ?_, ?_, ?_⟩, ?_, ?_, ?_, ?_⟩ <;> go_cell) hb1 (by simp)
  have D1 : Below w.heap.size w w1 := Below.trans (by go_grown) (hb1.mono (by simp; omega))
  have s1 : w.heap.size + 3 ≤ w1.heap.size := by have := hb1.size; simp at this; omega
  clear hb1
  have bx := trn_bd (n := ((0 : Int)).toNat) hx (by omega)
  have hX : Hid (trn ((0 : Int)).toNat ⟨a, b, c, d⟩ = trn (max k l - k) ⟨a, b, c, d⟩) := by show _ = _; congr 1; omega
  generalize trn ((0 : Int)).toNat ⟨a, b, c, d⟩ = X at *
  obtain ⟨x0, x1, x2, x3⟩ := X
  obtain ⟨⟨i0, i1⟩, ⟨i2, i3⟩, ⟨i4, i5⟩, ⟨i6, i7⟩⟩ := bx
  simp only at i0 i1 i2 i3 i4 i5 i6 i7
  have P1 := A1
  have P2 := B1
  obtain ⟨⟨c0, c1, c2, c3, c4⟩, f0, f1, f2, f3, f4⟩ := P1
  obtain ⟨⟨g0, g1, g2, g3, g4⟩, e0, e1, e2, e3, e4⟩ := P2
  have l1 : w.heap.size < w1.heap.size := by omega
  have l2 : w.heap.size + 1 < w1.heap.size := by omega
  have l3 : w.heap.size + 1 + 1 < w1.heap.size := by omega
  go_wp2_with fail
  refine (timesRoots_int _ _ _ _ _ _ hy (by omega) (by omega)).mono ?_
  rintro e w2 ⟨rfl, hb2⟩
  have A2 : Has4 w2 w1.heap.size x0 x1 x2 x3 := Has4.keep (by refine ⟨⟨?_, ?_, ?_, ?_⟩, ?_, ?_, ?_, ?_⟩ <;> go_cell) hb2 (by simp)
  have C2 : Has4 w2 (w.heap.size + 1 + 1) 0 0 0 0 := Has4.keep (by obtain ⟨⟨u0, u1, u2, u3⟩, v0, v1, v2, v3⟩ := C1; refine ⟨⟨?_, ?_, ?_, ?_⟩, ?_, ?_, ?_, ?_⟩ <;> go_cell) hb2 (by simp; omega)
  have D2 : Below w.heap.size w w2 := Below.trans (by go_grown) (hb2.mono (by simp; omega))
  have s2 : w1.heap.size + 1 ≤ w2.heap.size := by have := hb2.size; simp at this; omega
  clear hb2 A1 B1 C1 D1 c0 c1 c2 c3 c4 f0 f1 f2 f3 f4 g0 g1 g2 g3 g4 e0 e1 e2 e3 e4
  have by_ := trn_bd (n := ((k : Int) - l).toNat) hy (by omega)
  have hY : Hid (trn ((k : Int) - l).toNat ⟨p, q, r, s⟩ = trn (max k l - l) ⟨p, q, r, s⟩) := by show _ = _; congr 1; omega
  generalize trn ((k : Int) - l).toNat ⟨p, q, r, s⟩ = Y at *
  obtain ⟨y0, y1, y2, y3⟩ := Y
  obtain ⟨⟨j0, j1⟩, ⟨j2, j3⟩, ⟨j4, j5⟩, ⟨j6, j7⟩⟩ := by_
  simp only at j0 j1 j2 j3 j4 j5 j6 j7
  have P1 := A2
  have P2 := C2
  obtain ⟨⟨c0, c1, c2, c3⟩, f0, f1, f2, f3⟩ := P1
  obtain ⟨⟨g0, g1, g2, g3⟩, e0, e1, e2, e3⟩ := P2
  have l4 : w.heap.size + 1 + 1 < w2.heap.size := by omega
  have l5 : w1.heap.size < w2.heap.size := by omega
  go_wp2_with fail
  obtain ⟨w3, hw3⟩ : ∃ w3, w3 = w2.alloc (.cells #[.int .i64 y0, .int .i64 y1, .int .i64 y2, .int .i64 y3] 22) := ⟨_, rfl⟩
  rw [← hw3]
  have A3 : Has4 w3 w1.heap.size x0 x1 x2 x3 := by rw [hw3]; refine ⟨⟨?_, ?_, ?_, ?_⟩, ?_, ?_, ?_, ?_⟩ <;> go_cell
  have C3 : Has4 w3 (w.heap.size + 1 + 1) 0 0 0 0 := by rw [hw3]; refine ⟨⟨?_, ?_, ?_, ?_⟩, ?_, ?_, ?_, ?_⟩ <;> go_cell
  have E3 : Has4 w3 w2.heap.size y0 y1 y2 y3 := by rw [hw3]; refine ⟨⟨?_, ?_, ?_, ?_⟩, ?_, ?_, ?_, ?_⟩ <;> go_cell
  have D3 : Below w.heap.size w w3 := by rw [hw3]; go_grown
  have s3 : w2.heap.size + 1 ≤ w3.heap.size := by rw [hw3]; simp
  clear hw3 A2 C2 D2 c0 c1 c2 c3 f0 f1 f2 f3 g0 g1 g2 g3 e0 e1 e2 e3
  obtain ⟨⟨c0, c1, c2, c3⟩, f0, f1, f2, f3⟩ := A3
  obtain ⟨⟨g0, g1, g2, g3⟩, e0, e1, e2, e3⟩ := C3
  obtain ⟨⟨o0, o1, o2, o3⟩, _⟩ := E3
  have n1 : ¬ w1.heap.size = w2.heap.size := by omega
  have n2 : ¬ w2.heap.size = w1.heap.size := by omega
  have n3 : ¬ w1.heap.size = w.heap.size + 1 + 1 := by omega
  have n4 : ¬ w.heap.size + 1 + 1 = w1.heap.size := by omega
  refine wp_loop_rounds 5 ?_
  rw [rounds_succ]; go_wp2_with fail
  go_region
  go_wp2_with fail
  rw [rounds_succ]; go_wp2_with fail
  go_region
  go_wp2_with fail
  rw [rounds_succ]; go_wp2_with fail
  go_region
  go_wp2_with fail
  rw [rounds_succ]; go_wp2_with fail
  go_region
  go_wp2_with fail
  have Z4 : Has4 (((((w3.setCell ⟨w1.heap.size, 0, none⟩ (.int .i64 (x0 + y0))).setCell ⟨w1.heap.size, 1, none⟩ (.int .i64 (x1 + y1))).setCell ⟨w1.heap.size, 2, none⟩ (.int .i64 (x2 + y2))).setCell ⟨w1.heap.size, 3, none⟩ (.int .i64 (x3 + y3))).drew.drew.drew.drew) w1.heap.size (x0 + y0) (x1 + y1) (x2 + y2) (x3 + y3) := by refine ⟨⟨?_, ?_, ?_, ?_⟩, ?_, ?_, ?_, ?_⟩ <;> go_cell
  have Y5 : Has4 (((((w3.setCell ⟨w1.heap.size, 0, none⟩ (.int .i64 (x0 + y0))).setCell ⟨w1.heap.size, 1, none⟩ (.int .i64 (x1 + y1))).setCell ⟨w1.heap.size, 2, none⟩ (.int .i64 (x2 + y2))).setCell ⟨w1.heap.size, 3, none⟩ (.int .i64 (x3 + y3))).drew.drew.drew.drew) (w.heap.size + 1 + 1) 0 0 0 0 := by refine ⟨⟨?_, ?_, ?_, ?_⟩, ?_, ?_, ?_, ?_⟩ <;> go_cell
  have D4 : Below w.heap.size w (((((w3.setCell ⟨w1.heap.size, 0, none⟩ (.int .i64 (x0 + y0))).setCell ⟨w1.heap.size, 1, none⟩ (.int .i64 (x1 + y1))).setCell ⟨w1.heap.size, 2, none⟩ (.int .i64 (x2 + y2))).setCell ⟨w1.heap.size, 3, none⟩ (.int .i64 (x3 + y3))).drew.drew.drew.drew) := by go_grown
  clear D3 c0 c1 c2 c3 f0 f1 f2 f3 g0 g1 g2 g3 e0 e1 e2 e3 o0 o1 o2 o3
  generalize ((((w3.setCell ⟨w1.heap.size, 0, none⟩ (.int .i64 (x0 + y0))).setCell ⟨w1.heap.size, 1, none⟩ (.int .i64 (x1 + y1))).setCell ⟨w1.heap.size, 2, none⟩ (.int .i64 (x2 + y2))).setCell ⟨w1.heap.size, 3, none⟩ (.int .i64 (x3 + y3))).drew.drew.drew.drew = w4 at *
  obtain ⟨⟨c0, c1, c2, c3⟩, f0, f1, f2, f3⟩ := Z4
  obtain ⟨⟨g0, g1, g2, g3⟩, e0, e1, e2, e3⟩ := Y5
  rw [rounds_succ]; go_wp2_with fail
  refine bodyPost_ret (v := .tuple #[.agg #[.int .i64 (x0 + y0), .int .i64 (x1 + y1), .int .i64 (x2 + y2), .int .i64 (x3 + y3)], .int .i64 k]) (by simp [results, Try.results46, go_sem, *]) rfl ⟨?_, by go_grown⟩
  unfold comb Ret4
  simp only [Int.toNat_natCast]
  rw [← hX.out, ← hY.out]
  simp only [add, smul]
  rw [show max k l = k from by omega]
  simp only [Int.one_mul]

set_option maxHeartbeats 1000000 in
theorem combined_sub_le (a b c d p q r s : Int) (k l : Nat) (w : World) (hx : big 1000000000 ⟨a, b, c, d⟩) (hy : big 1000000000 ⟨p, q, r, s⟩) (hk : k ≤ 40) (hl : l ≤ 40) (ho : k < l) :
    Calls Try.prog 46 #[.agg #[.int .i64 a, .int .i64 b, .int .i64 c, .int .i64 d, .int .i64 k], .agg #[.int .i64 p, .int .i64 q, .int .i64 r, .int .i64 s, .int .i64 l], .int .i64 (-1)] w fun e w' => e = Ret4 (comb ⟨⟨a, b, c, d⟩, k⟩ ⟨⟨p, q, r, s⟩, l⟩ (-1)) ∧ Below w.heap.size w w' := by
  have hoI : (k : Int) < (l : Int) := by omega
  go_enter Try.func46, Try.ntmps46
  go_wp2_with fail
  refine (timesRoots_int _ _ _ _ _ _ hx (by omega) (by omega)).mono ?_
  rintro e w1 ⟨rfl, hb1⟩
  have A1 : Has5 w1 w.heap.size a b c d k := Has5.keep (by refine ⟨⟨?_, ?_, ?_, ?_, ?_⟩, ?_, ?_, ?_, ?_, ?_⟩ <;> go_cell) hb1 (by simp; omega)
  have B1 : Has5 w1 (w.heap.size + 1) p q r s l := Has5.keep (by refine ⟨⟨?_, ?_, ?_, ?_, ?_⟩, ?_, ?_, ?_, ?_, ?_⟩ <;> go_cell) hb1 (by simp)
  have C1 : Has4 w1 (w.heap.size + 1 + 1) 0 0 0 0 := Has4.keep (by refine ⟨⟨?_, ?_, ?_, ?_⟩, ?_, ?_, ?_, ?_⟩ <;> go_cell) hb1 (by simp)
  have D1 : Below w.heap.size w w1 := Below.trans (by go_grown) (hb1.mono (by simp; omega))
  have s1 : w.heap.size + 3 ≤ w1.heap.size := by have := hb1.size; simp at this; omega
  clear hb1
  have bx := trn_bd (n := ((l : Int) - k).toNat) hx (by omega)
  have hX : Hid (trn ((l : Int) - k).toNat ⟨a, b, c, d⟩ = trn (max k l - k) ⟨a, b, c, d⟩) := by show _ = _; congr 1; omega
  generalize trn ((l : Int) - k).toNat ⟨a, b, c, d⟩ = X at *
  obtain ⟨x0, x1, x2, x3⟩ := X
  obtain ⟨⟨i0, i1⟩, ⟨i2, i3⟩, ⟨i4, i5⟩, ⟨i6, i7⟩⟩ := bx
  simp only at i0 i1 i2 i3 i4 i5 i6 i7
  have P1 := A1
  have P2 := B1
  obtain ⟨⟨c0, c1, c2, c3, c4⟩, f0, f1, f2, f3, f4⟩ := P1
  obtain ⟨⟨g0, g1, g2, g3, g4⟩, e0, e1, e2, e3, e4⟩ := P2
  have l1 : w.heap.size < w1.heap.size := by omega
  have l2 : w.heap.size + 1 < w1.heap.size := by omega
  have l3 : w.heap.size + 1 + 1 < w1.heap.size := by omega
  go_wp2_with fail
  refine (timesRoots_int _ _ _ _ _ _ hy (by omega) (by omega)).mono ?_
  rintro e w2 ⟨rfl, hb2⟩
  have A2 : Has4 w2 w1.heap.size x0 x1 x2 x3 := Has4.keep (by refine ⟨⟨?_, ?_, ?_, ?_⟩, ?_, ?_, ?_, ?_⟩ <;> go_cell) hb2 (by simp)
  have C2 : Has4 w2 (w.heap.size + 1 + 1) 0 0 0 0 := Has4.keep (by obtain ⟨⟨u0, u1, u2, u3⟩, v0, v1, v2, v3⟩ := C1; refine ⟨⟨?_, ?_, ?_, ?_⟩, ?_, ?_, ?_, ?_⟩ <;> go_cell) hb2 (by simp; omega)
  have D2 : Below w.heap.size w w2 := Below.trans (by go_grown) (hb2.mono (by simp; omega))
  have s2 : w1.heap.size + 1 ≤ w2.heap.size := by have := hb2.size; simp at this; omega
  clear hb2 A1 B1 C1 D1 c0 c1 c2 c3 c4 f0 f1 f2 f3 f4 g0 g1 g2 g3 g4 e0 e1 e2 e3 e4
  have by_ := trn_bd (n := ((0 : Int)).toNat) hy (by omega)
  have hY : Hid (trn ((0 : Int)).toNat ⟨p, q, r, s⟩ = trn (max k l - l) ⟨p, q, r, s⟩) := by show _ = _; congr 1; omega
  generalize trn ((0 : Int)).toNat ⟨p, q, r, s⟩ = Y at *
  obtain ⟨y0, y1, y2, y3⟩ := Y
  obtain ⟨⟨j0, j1⟩, ⟨j2, j3⟩, ⟨j4, j5⟩, ⟨j6, j7⟩⟩ := by_
  simp only at j0 j1 j2 j3 j4 j5 j6 j7
  have P1 := A2
  have P2 := C2
  obtain ⟨⟨c0, c1, c2, c3⟩, f0, f1, f2, f3⟩ := P1
  obtain ⟨⟨g0, g1, g2, g3⟩, e0, e1, e2, e3⟩ := P2
  have l4 : w.heap.size + 1 + 1 < w2.heap.size := by omega
  have l5 : w1.heap.size < w2.heap.size := by omega
  go_wp2_with fail
  obtain ⟨w3, hw3⟩ : ∃ w3, w3 = w2.alloc (.cells #[.int .i64 y0, .int .i64 y1, .int .i64 y2, .int .i64 y3] 22) := ⟨_, rfl⟩
  rw [← hw3]
  have A3 : Has4 w3 w1.heap.size x0 x1 x2 x3 := by rw [hw3]; refine ⟨⟨?_, ?_, ?_, ?_⟩, ?_, ?_, ?_, ?_⟩ <;> go_cell
  have C3 : Has4 w3 (w.heap.size + 1 + 1) 0 0 0 0 := by rw [hw3]; refine ⟨⟨?_, ?_, ?_, ?_⟩, ?_, ?_, ?_, ?_⟩ <;> go_cell
  have E3 : Has4 w3 w2.heap.size y0 y1 y2 y3 := by rw [hw3]; refine ⟨⟨?_, ?_, ?_, ?_⟩, ?_, ?_, ?_, ?_⟩ <;> go_cell
  have D3 : Below w.heap.size w w3 := by rw [hw3]; go_grown
  have s3 : w2.heap.size + 1 ≤ w3.heap.size := by rw [hw3]; simp
  clear hw3 A2 C2 D2 c0 c1 c2 c3 f0 f1 f2 f3 g0 g1 g2 g3 e0 e1 e2 e3
  obtain ⟨⟨c0, c1, c2, c3⟩, f0, f1, f2, f3⟩ := A3
  obtain ⟨⟨g0, g1, g2, g3⟩, e0, e1, e2, e3⟩ := C3
  obtain ⟨⟨o0, o1, o2, o3⟩, _⟩ := E3
  have n1 : ¬ w1.heap.size = w2.heap.size := by omega
  have n2 : ¬ w2.heap.size = w1.heap.size := by omega
  have n3 : ¬ w1.heap.size = w.heap.size + 1 + 1 := by omega
  have n4 : ¬ w.heap.size + 1 + 1 = w1.heap.size := by omega
  refine wp_loop_rounds 5 ?_
  rw [rounds_succ]; go_wp2_with fail
  go_region
  go_wp2_with fail
  rw [rounds_succ]; go_wp2_with fail
  go_region
  go_wp2_with fail
  rw [rounds_succ]; go_wp2_with fail
  go_region
  go_wp2_with fail
  rw [rounds_succ]; go_wp2_with fail
  go_region
  go_wp2_with fail
  have Z4 : Has4 (((((w3.setCell ⟨w1.heap.size, 0, none⟩ (.int .i64 (x0 + -y0))).setCell ⟨w1.heap.size, 1, none⟩ (.int .i64 (x1 + -y1))).setCell ⟨w1.heap.size, 2, none⟩ (.int .i64 (x2 + -y2))).setCell ⟨w1.heap.size, 3, none⟩ (.int .i64 (x3 + -y3))).drew.drew.drew.drew) w1.heap.size (x0 + -y0) (x1 + -y1) (x2 + -y2) (x3 + -y3) := by refine ⟨⟨?_, ?_, ?_, ?_⟩, ?_, ?_, ?_, ?_⟩ <;> go_cell
  have Y5 : Has4 (((((w3.setCell ⟨w1.heap.size, 0, none⟩ (.int .i64 (x0 + -y0))).setCell ⟨w1.heap.size, 1, none⟩ (.int .i64 (x1 + -y1))).setCell ⟨w1.heap.size, 2, none⟩ (.int .i64 (x2 + -y2))).setCell ⟨w1.heap.size, 3, none⟩ (.int .i64 (x3 + -y3))).drew.drew.drew.drew) (w.heap.size + 1 + 1) 0 0 0 0 := by refine ⟨⟨?_, ?_, ?_, ?_⟩, ?_, ?_, ?_, ?_⟩ <;> go_cell
  have D4 : Below w.heap.size w (((((w3.setCell ⟨w1.heap.size, 0, none⟩ (.int .i64 (x0 + -y0))).setCell ⟨w1.heap.size, 1, none⟩ (.int .i64 (x1 + -y1))).setCell ⟨w1.heap.size, 2, none⟩ (.int .i64 (x2 + -y2))).setCell ⟨w1.heap.size, 3, none⟩ (.int .i64 (x3 + -y3))).drew.drew.drew.drew) := by go_grown
  clear D3 c0 c1 c2 c3 f0 f1 f2 f3 g0 g1 g2 g3 e0 e1 e2 e3 o0 o1 o2 o3
  generalize ((((w3.setCell ⟨w1.heap.size, 0, none⟩ (.int .i64 (x0 + -y0))).setCell ⟨w1.heap.size, 1, none⟩ (.int .i64 (x1 + -y1))).setCell ⟨w1.heap.size, 2, none⟩ (.int .i64 (x2 + -y2))).setCell ⟨w1.heap.size, 3, none⟩ (.int .i64 (x3 + -y3))).drew.drew.drew.drew = w4 at *
  obtain ⟨⟨c0, c1, c2, c3⟩, f0, f1, f2, f3⟩ := Z4
  obtain ⟨⟨g0, g1, g2, g3⟩, e0, e1, e2, e3⟩ := Y5
  rw [rounds_succ]; go_wp2_with fail
  refine bodyPost_ret (v := .tuple #[.agg #[.int .i64 (x0 + -y0), .int .i64 (x1 + -y1), .int .i64 (x2 + -y2), .int .i64 (x3 + -y3)], .int .i64 l]) (by simp [results, Try.results46, go_sem, *]) rfl ⟨?_, by go_grown⟩
  unfold comb Ret4
  simp only [Int.toNat_natCast]
  rw [← hX.out, ← hY.out]
  simp only [add, smul]
  rw [show max k l = l from by omega]
  simp only [Int.one_mul, Int.neg_mul]

set_option maxHeartbeats 1000000 in
theorem combined_sub_gt (a b c d p q r s : Int) (k l : Nat) (w : World) (hx : big 1000000000 ⟨a, b, c, d⟩) (hy : big 1000000000 ⟨p, q, r, s⟩) (hk : k ≤ 40) (hl : l ≤ 40) (ho : l ≤ k) :
    Calls Try.prog 46 #[.agg #[.int .i64 a, .int .i64 b, .int .i64 c, .int .i64 d, .int .i64 k], .agg #[.int .i64 p, .int .i64 q, .int .i64 r, .int .i64 s, .int .i64 l], .int .i64 (-1)] w fun e w' => e = Ret4 (comb ⟨⟨a, b, c, d⟩, k⟩ ⟨⟨p, q, r, s⟩, l⟩ (-1)) ∧ Below w.heap.size w w' := by
  have hoI : ¬ (k : Int) < (l : Int) := by omega
  go_enter Try.func46, Try.ntmps46
  go_wp2_with fail
  refine (timesRoots_int _ _ _ _ _ _ hx (by omega) (by omega)).mono ?_
  rintro e w1 ⟨rfl, hb1⟩
  have A1 : Has5 w1 w.heap.size a b c d k := Has5.keep (by refine ⟨⟨?_, ?_, ?_, ?_, ?_⟩, ?_, ?_, ?_, ?_, ?_⟩ <;> go_cell) hb1 (by simp; omega)
  have B1 : Has5 w1 (w.heap.size + 1) p q r s l := Has5.keep (by refine ⟨⟨?_, ?_, ?_, ?_, ?_⟩, ?_, ?_, ?_, ?_, ?_⟩ <;> go_cell) hb1 (by simp)
  have C1 : Has4 w1 (w.heap.size + 1 + 1) 0 0 0 0 := Has4.keep (by refine ⟨⟨?_, ?_, ?_, ?_⟩, ?_, ?_, ?_, ?_⟩ <;> go_cell) hb1 (by simp)
  have D1 : Below w.heap.size w w1 := Below.trans (by go_grown) (hb1.mono (by simp; omega))
  have s1 : w.heap.size + 3 ≤ w1.heap.size := by have := hb1.size; simp at this; omega
  clear hb1
  have bx := trn_bd (n := ((0 : Int)).toNat) hx (by omega)
  have hX : Hid (trn ((0 : Int)).toNat ⟨a, b, c, d⟩ = trn (max k l - k) ⟨a, b, c, d⟩) := by show _ = _; congr 1; omega
  generalize trn ((0 : Int)).toNat ⟨a, b, c, d⟩ = X at *
  obtain ⟨x0, x1, x2, x3⟩ := X
  obtain ⟨⟨i0, i1⟩, ⟨i2, i3⟩, ⟨i4, i5⟩, ⟨i6, i7⟩⟩ := bx
  simp only at i0 i1 i2 i3 i4 i5 i6 i7
  have P1 := A1
  have P2 := B1
  obtain ⟨⟨c0, c1, c2, c3, c4⟩, f0, f1, f2, f3, f4⟩ := P1
  obtain ⟨⟨g0, g1, g2, g3, g4⟩, e0, e1, e2, e3, e4⟩ := P2
  have l1 : w.heap.size < w1.heap.size := by omega
  have l2 : w.heap.size + 1 < w1.heap.size := by omega
  have l3 : w.heap.size + 1 + 1 < w1.heap.size := by omega
  go_wp2_with fail
  refine (timesRoots_int _ _ _ _ _ _ hy (by omega) (by omega)).mono ?_
  rintro e w2 ⟨rfl, hb2⟩
  have A2 : Has4 w2 w1.heap.size x0 x1 x2 x3 := Has4.keep (by refine ⟨⟨?_, ?_, ?_, ?_⟩, ?_, ?_, ?_, ?_⟩ <;> go_cell) hb2 (by simp)
  have C2 : Has4 w2 (w.heap.size + 1 + 1) 0 0 0 0 := Has4.keep (by obtain ⟨⟨u0, u1, u2, u3⟩, v0, v1, v2, v3⟩ := C1; refine ⟨⟨?_, ?_, ?_, ?_⟩, ?_, ?_, ?_, ?_⟩ <;> go_cell) hb2 (by simp; omega)
  have D2 : Below w.heap.size w w2 := Below.trans (by go_grown) (hb2.mono (by simp; omega))
  have s2 : w1.heap.size + 1 ≤ w2.heap.size := by have := hb2.size; simp at this; omega
  clear hb2 A1 B1 C1 D1 c0 c1 c2 c3 c4 f0 f1 f2 f3 f4 g0 g1 g2 g3 g4 e0 e1 e2 e3 e4
  have by_ := trn_bd (n := ((k : Int) - l).toNat) hy (by omega)
  have hY : Hid (trn ((k : Int) - l).toNat ⟨p, q, r, s⟩ = trn (max k l - l) ⟨p, q, r, s⟩) := by show _ = _; congr 1; omega
  generalize trn ((k : Int) - l).toNat ⟨p, q, r, s⟩ = Y at *
  obtain ⟨y0, y1, y2, y3⟩ := Y
  obtain ⟨⟨j0, j1⟩, ⟨j2, j3⟩, ⟨j4, j5⟩, ⟨j6, j7⟩⟩ := by_
  simp only at j0 j1 j2 j3 j4 j5 j6 j7
  have P1 := A2
  have P2 := C2
  obtain ⟨⟨c0, c1, c2, c3⟩, f0, f1, f2, f3⟩ := P1
  obtain ⟨⟨g0, g1, g2, g3⟩, e0, e1, e2, e3⟩ := P2
  have l4 : w.heap.size + 1 + 1 < w2.heap.size := by omega
  have l5 : w1.heap.size < w2.heap.size := by omega
  go_wp2_with fail
  obtain ⟨w3, hw3⟩ : ∃ w3, w3 = w2.alloc (.cells #[.int .i64 y0, .int .i64 y1, .int .i64 y2, .int .i64 y3] 22) := ⟨_, rfl⟩
  rw [← hw3]
  have A3 : Has4 w3 w1.heap.size x0 x1 x2 x3 := by rw [hw3]; refine ⟨⟨?_, ?_, ?_, ?_⟩, ?_, ?_, ?_, ?_⟩ <;> go_cell
  have C3 : Has4 w3 (w.heap.size + 1 + 1) 0 0 0 0 := by rw [hw3]; refine ⟨⟨?_, ?_, ?_, ?_⟩, ?_, ?_, ?_, ?_⟩ <;> go_cell
  have E3 : Has4 w3 w2.heap.size y0 y1 y2 y3 := by rw [hw3]; refine ⟨⟨?_, ?_, ?_, ?_⟩, ?_, ?_, ?_, ?_⟩ <;> go_cell
  have D3 : Below w.heap.size w w3 := by rw [hw3]; go_grown
  have s3 : w2.heap.size + 1 ≤ w3.heap.size := by rw [hw3]; simp
  clear hw3 A2 C2 D2 c0 c1 c2 c3 f0 f1 f2 f3 g0 g1 g2 g3 e0 e1 e2 e3
  obtain ⟨⟨c0, c1, c2, c3⟩, f0, f1, f2, f3⟩ := A3
  obtain ⟨⟨g0, g1, g2, g3⟩, e0, e1, e2, e3⟩ := C3
  obtain ⟨⟨o0, o1, o2, o3⟩, _⟩ := E3
  have n1 : ¬ w1.heap.size = w2.heap.size := by omega
  have n2 : ¬ w2.heap.size = w1.heap.size := by omega
  have n3 : ¬ w1.heap.size = w.heap.size + 1 + 1 := by omega
  have n4 : ¬ w.heap.size + 1 + 1 = w1.heap.size := by omega
  refine wp_loop_rounds 5 ?_
  rw [rounds_succ]; go_wp2_with fail
  go_region
  go_wp2_with fail
  rw [rounds_succ]; go_wp2_with fail
  go_region
  go_wp2_with fail
  rw [rounds_succ]; go_wp2_with fail
  go_region
  go_wp2_with fail
  rw [rounds_succ]; go_wp2_with fail
  go_region
  go_wp2_with fail
  have Z4 : Has4 (((((w3.setCell ⟨w1.heap.size, 0, none⟩ (.int .i64 (x0 + -y0))).setCell ⟨w1.heap.size, 1, none⟩ (.int .i64 (x1 + -y1))).setCell ⟨w1.heap.size, 2, none⟩ (.int .i64 (x2 + -y2))).setCell ⟨w1.heap.size, 3, none⟩ (.int .i64 (x3 + -y3))).drew.drew.drew.drew) w1.heap.size (x0 + -y0) (x1 + -y1) (x2 + -y2) (x3 + -y3) := by refine ⟨⟨?_, ?_, ?_, ?_⟩, ?_, ?_, ?_, ?_⟩ <;> go_cell
  have Y5 : Has4 (((((w3.setCell ⟨w1.heap.size, 0, none⟩ (.int .i64 (x0 + -y0))).setCell ⟨w1.heap.size, 1, none⟩ (.int .i64 (x1 + -y1))).setCell ⟨w1.heap.size, 2, none⟩ (.int .i64 (x2 + -y2))).setCell ⟨w1.heap.size, 3, none⟩ (.int .i64 (x3 + -y3))).drew.drew.drew.drew) (w.heap.size + 1 + 1) 0 0 0 0 := by refine ⟨⟨?_, ?_, ?_, ?_⟩, ?_, ?_, ?_, ?_⟩ <;> go_cell
  have D4 : Below w.heap.size w (((((w3.setCell ⟨w1.heap.size, 0, none⟩ (.int .i64 (x0 + -y0))).setCell ⟨w1.heap.size, 1, none⟩ (.int .i64 (x1 + -y1))).setCell ⟨w1.heap.size, 2, none⟩ (.int .i64 (x2 + -y2))).setCell ⟨w1.heap.size, 3, none⟩ (.int .i64 (x3 + -y3))).drew.drew.drew.drew) := by go_grown
  clear D3 c0 c1 c2 c3 f0 f1 f2 f3 g0 g1 g2 g3 e0 e1 e2 e3 o0 o1 o2 o3
  generalize ((((w3.setCell ⟨w1.heap.size, 0, none⟩ (.int .i64 (x0 + -y0))).setCell ⟨w1.heap.size, 1, none⟩ (.int .i64 (x1 + -y1))).setCell ⟨w1.heap.size, 2, none⟩ (.int .i64 (x2 + -y2))).setCell ⟨w1.heap.size, 3, none⟩ (.int .i64 (x3 + -y3))).drew.drew.drew.drew = w4 at *
  obtain ⟨⟨c0, c1, c2, c3⟩, f0, f1, f2, f3⟩ := Z4
  obtain ⟨⟨g0, g1, g2, g3⟩, e0, e1, e2, e3⟩ := Y5
  rw [rounds_succ]; go_wp2_with fail
  refine bodyPost_ret (v := .tuple #[.agg #[.int .i64 (x0 + -y0), .int .i64 (x1 + -y1), .int .i64 (x2 + -y2), .int .i64 (x3 + -y3)], .int .i64 k]) (by simp [results, Try.results46, go_sem, *]) rfl ⟨?_, by go_grown⟩
  unfold comb Ret4
  simp only [Int.toNat_natCast]
  rw [← hX.out, ← hY.out]
  simp only [add, smul]
  rw [show max k l = k from by omega]
  simp only [Int.one_mul, Int.neg_mul]

theorem combined_add (a b c d k p q r s l : Int) (w : World) (hx : vld ⟨⟨a, b, c, d⟩, k⟩ = true) (hy : vld ⟨⟨p, q, r, s⟩, l⟩ = true) :
    Calls Try.prog 46 #[.agg #[.int .i64 a, .int .i64 b, .int .i64 c, .int .i64 d, .int .i64 k], .agg #[.int .i64 p, .int .i64 q, .int .i64 r, .int .i64 s, .int .i64 l], .int .i64 1] w fun e w' => e = Ret4 (comb ⟨⟨a, b, c, d⟩, k⟩ ⟨⟨p, q, r, s⟩, l⟩ 1) ∧ Below w.heap.size w w' := by
  have k1 := vld_k hx
  have k2 := vld_k hy
  have v1 := vld_sm hx
  have v2 := vld_sm hy
  simp only at k1 k2 v1 v2
  obtain ⟨k, rfl⟩ := Int.eq_ofNat_of_zero_le k1.1
  obtain ⟨l, rfl⟩ := Int.eq_ofNat_of_zero_le k2.1
  by_cases h : k < l
  · exact combined_add_le a b c d p q r s k l w v1 v2 (by omega) (by omega) h
  · exact combined_add_gt a b c d p q r s k l w v1 v2 (by omega) (by omega) (by omega)

theorem combined_sub (a b c d k p q r s l : Int) (w : World) (hx : vld ⟨⟨a, b, c, d⟩, k⟩ = true) (hy : vld ⟨⟨p, q, r, s⟩, l⟩ = true) :
    Calls Try.prog 46 #[.agg #[.int .i64 a, .int .i64 b, .int .i64 c, .int .i64 d, .int .i64 k], .agg #[.int .i64 p, .int .i64 q, .int .i64 r, .int .i64 s, .int .i64 l], .int .i64 (-1)] w fun e w' => e = Ret4 (comb ⟨⟨a, b, c, d⟩, k⟩ ⟨⟨p, q, r, s⟩, l⟩ (-1)) ∧ Below w.heap.size w w' := by
  have k1 := vld_k hx
  have k2 := vld_k hy
  have v1 := vld_sm hx
  have v2 := vld_sm hy
  simp only at k1 k2 v1 v2
  obtain ⟨k, rfl⟩ := Int.eq_ofNat_of_zero_le k1.1
  obtain ⟨l, rfl⟩ := Int.eq_ofNat_of_zero_le k2.1
  by_cases h : k < l
  · exact combined_sub_le a b c d p q r s k l w v1 v2 (by omega) (by omega) h
  · exact combined_sub_gt a b c d p q r s k l w v1 v2 (by omega) (by omega) (by omega)
end Go.Proofs.Ytkcbkcgampoclaa
