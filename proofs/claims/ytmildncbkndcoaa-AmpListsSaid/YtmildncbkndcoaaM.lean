import Derived.Test.YtmildncbkndcoaaL
namespace Go.Proofs.Ytmildncbkndcoaa
open Go.RowKit Amp
attribute [local go_sem] ix0 ix1 ix2 ix3 jx0 jx1 jx2 jx3

set_option maxHeartbeats 1000000 in
theorem rAdd_any (a b c d k p q r s l : Int) (w : World) :
    Calls Try.prog 21 #[.agg #[.int .i64 a, .int .i64 b, .int .i64 c, .int .i64 d, .int .i64 k], .agg #[.int .i64 p, .int .i64 q, .int .i64 r, .int .i64 s, .int .i64 l]] w fun e w' => e = Ret5 (addS ⟨⟨a, b, c, d⟩, k⟩ ⟨⟨p, q, r, s⟩, l⟩) ∧ Below w.heap.size w w' := by
  cases hx : vld ⟨⟨a, b, c, d⟩, k⟩
  · have hE : addS ⟨⟨a, b, c, d⟩, k⟩ ⟨⟨p, q, r, s⟩, l⟩ = (N0, 10) := by unfold addS; rw [hx]; rfl
    have hE := Lib.hid hE
    go_enter Try.func21, Try.ntmps21
    go_wp2_with fail
    refine (rValid_any _ _ _ _ _ _).mono ?_
    rintro e w1 ⟨rfl, hb1⟩
    obtain ⟨⟨q0, q1, q2, q3, q4⟩, r0, r1, r2, r3, r4⟩ : Has5 w1 (w.heap.size + 1 + 1) 0 0 0 0 0 := Has5.keep (by refine ⟨⟨?_, ?_, ?_, ?_, ?_⟩, ?_, ?_, ?_, ?_, ?_⟩ <;> go_cell) hb1 (by simp)
    have D1 : Below w.heap.size w w1 := Below.trans (by go_grown) (hb1.mono (by simp; omega))
    clear hb1
    simp only [hx]
    go_wp2_with fail
    refine bodyPost_ret (v := .tuple #[.agg #[.int .i64 0, .int .i64 0, .int .i64 0, .int .i64 0, .int .i64 0], .int .i64 10]) (by simp [results, Try.results21, go_sem, *]) rfl ⟨by rw [hE.out]; rfl, by go_grown⟩
  · cases hy : vld ⟨⟨p, q, r, s⟩, l⟩
    · have hE : addS ⟨⟨a, b, c, d⟩, k⟩ ⟨⟨p, q, r, s⟩, l⟩ = (N0, 10) := by unfold addS; rw [hx, hy]; rfl
      have hE := Lib.hid hE
      go_enter Try.func21, Try.ntmps21
      go_wp2_with fail
      refine (rValid_any _ _ _ _ _ _).mono ?_
      rintro e w1 ⟨rfl, hb1⟩
      have B1 : Has5 w1 (w.heap.size + 1) p q r s l := Has5.keep (by refine ⟨⟨?_, ?_, ?_, ?_, ?_⟩, ?_, ?_, ?_, ?_, ?_⟩ <;> go_cell) hb1 (by simp)
      have C1 : Has5 w1 (w.heap.size + 1 + 1) 0 0 0 0 0 := Has5.keep (by refine ⟨⟨?_, ?_, ?_, ?_, ?_⟩, ?_, ?_, ?_, ?_, ?_⟩ <;> go_cell) hb1 (by simp)
      have D1 : Below w.heap.size w w1 := Below.trans (by go_grown) (hb1.mono (by simp; omega))
      have s1 : w.heap.size + 3 ≤ w1.heap.size := by have := hb1.size; simp at this; omega
      clear hb1
      simp only [hx]
      obtain ⟨⟨g0, g1, g2, g3, g4⟩, e0, e1, e2, e3, e4⟩ := B1
      go_wp2_with fail
      refine (rValid_any _ _ _ _ _ _).mono ?_
      rintro e w2 ⟨rfl, hb2⟩
      obtain ⟨⟨q0, q1, q2, q3, q4⟩, r0, r1, r2, r3, r4⟩ := C1.keep hb2 (by omega)
      have D2 : Below w.heap.size w w2 := D1.trans (hb2.mono (by omega))
      clear hb2 D1 g0 g1 g2 g3 g4 e0 e1 e2 e3 e4 C1
      simp only [hy]
      go_wp2_with fail
      refine bodyPost_ret (v := .tuple #[.agg #[.int .i64 0, .int .i64 0, .int .i64 0, .int .i64 0, .int .i64 0], .int .i64 10]) (by simp [results, Try.results21, go_sem, *]) rfl ⟨by rw [hE.out]; rfl, by go_grown⟩
    · have hE : addS ⟨⟨a, b, c, d⟩, k⟩ ⟨⟨p, q, r, s⟩, l⟩ = made (comb ⟨⟨a, b, c, d⟩, k⟩ ⟨⟨p, q, r, s⟩, l⟩ 1).1 (comb ⟨⟨a, b, c, d⟩, k⟩ ⟨⟨p, q, r, s⟩, l⟩ 1).2 := by unfold addS; rw [hx, hy]; rfl
      have hE := Lib.hid hE
      have hbd := comb_bd hx hy (s := 1) (by omega)
      go_enter Try.func21, Try.ntmps21
      go_wp2_with fail
      refine (rValid_any _ _ _ _ _ _).mono ?_
      rintro e w1 ⟨rfl, hb1⟩
      have A1 : Has5 w1 w.heap.size a b c d k := Has5.keep (by refine ⟨⟨?_, ?_, ?_, ?_, ?_⟩, ?_, ?_, ?_, ?_, ?_⟩ <;> go_cell) hb1 (by simp; omega)
      have B1 : Has5 w1 (w.heap.size + 1) p q r s l := Has5.keep (by refine ⟨⟨?_, ?_, ?_, ?_, ?_⟩, ?_, ?_, ?_, ?_, ?_⟩ <;> go_cell) hb1 (by simp)
      have C1 : Has5 w1 (w.heap.size + 1 + 1) 0 0 0 0 0 := Has5.keep (by refine ⟨⟨?_, ?_, ?_, ?_, ?_⟩, ?_, ?_, ?_, ?_, ?_⟩ <;> go_cell) hb1 (by simp)
      have D1 : Below w.heap.size w w1 := Below.trans (by go_grown) (hb1.mono (by simp; omega))
      have s1 : w.heap.size + 3 ≤ w1.heap.size := by have := hb1.size; simp at this; omega
      clear hb1
      simp only [hx]
      have P1 := B1
      obtain ⟨⟨g0, g1, g2, g3, g4⟩, e0, e1, e2, e3, e4⟩ := P1
      have HX := Lib.hid hx
      clear hx
      go_wp2_with fail
      refine (rValid_any _ _ _ _ _ _).mono ?_
      rintro e w2 ⟨rfl, hb2⟩
      have A2 := A1.keep hb2 (by omega)
      have B2 := B1.keep hb2 (by omega)
      have C2 := C1.keep hb2 (by omega)
      have D2 : Below w.heap.size w w2 := D1.trans (hb2.mono (by omega))
      have s2 : w.heap.size + 3 ≤ w2.heap.size := by have := hb2.size; omega
      clear hb2 A1 B1 C1 D1 g0 g1 g2 g3 g4 e0 e1 e2 e3 e4
      simp only [hy]
      have HY := Lib.hid hy
      clear hy
      obtain ⟨⟨c0, c1, c2, c3, c4⟩, f0, f1, f2, f3, f4⟩ := A2
      obtain ⟨⟨g0, g1, g2, g3, g4⟩, e0, e1, e2, e3, e4⟩ := B2
      go_wp2_with fail
      refine (rCombined_add _ _ _ _ _ _ _ _ _ _ _ HX.out HY.out).mono ?_
      rintro e w3 ⟨rfl, hb3⟩
      have C3 := C2.keep hb3 (by omega)
      have D3 : Below w.heap.size w w3 := D2.trans (hb3.mono (by omega))
      have s3 : w.heap.size + 3 ≤ w3.heap.size := by have := hb3.size; omega
      clear hb3 C2 D2 c0 c1 c2 c3 c4 f0 f1 f2 f3 f4 g0 g1 g2 g3 g4 e0 e1 e2 e3 e4
      unfold Ret4
      generalize comb ⟨⟨a, b, c, d⟩, k⟩ ⟨⟨p, q, r, s⟩, l⟩ 1 = m at *
      obtain ⟨⟨x, y, z, u⟩, n⟩ := m
      simp only at hE hbd
      go_wp2_with fail
      refine (rMade_any _ _ _ _ _ _ hbd.1 hbd.2).mono ?_
      rintro e w4 ⟨rfl, hb4⟩
      have C4 := C3.keep hb4 (by omega)
      have D4 : Below w.heap.size w w4 := D3.trans (hb4.mono (by omega))
      clear hb4 C3 D3
      obtain ⟨⟨q0, q1, q2, q3, q4⟩, r0, r1, r2, r3, r4⟩ := C4
      obtain ⟨x', y', z', u', v', er, HM⟩ := res5 (made ⟨x, y, z, u⟩ n)
      rw [HM.out]
      unfold Ret5
      simp only
      go_wp2_with fail
      refine bodyPost_ret (v := .tuple #[.agg #[.int .i64 x', .int .i64 y', .int .i64 z', .int .i64 u', .int .i64 v'], .int .i64 er]) (by simp [results, Try.results21, go_sem, *]) rfl ⟨?_, by go_grown⟩
      rw [hE.out, HM.out]; rfl

set_option maxHeartbeats 1000000 in
theorem rSub_any (a b c d k p q r s l : Int) (w : World) :
    Calls Try.prog 23 #[.agg #[.int .i64 a, .int .i64 b, .int .i64 c, .int .i64 d, .int .i64 k], .agg #[.int .i64 p, .int .i64 q, .int .i64 r, .int .i64 s, .int .i64 l]] w fun e w' => e = Ret5 (subS ⟨⟨a, b, c, d⟩, k⟩ ⟨⟨p, q, r, s⟩, l⟩) ∧ Below w.heap.size w w' := by
  cases hx : vld ⟨⟨a, b, c, d⟩, k⟩
  · have hE : subS ⟨⟨a, b, c, d⟩, k⟩ ⟨⟨p, q, r, s⟩, l⟩ = (N0, 10) := by unfold subS; rw [hx]; rfl
    have hE := Lib.hid hE
    go_enter Try.func23, Try.ntmps23
    go_wp2_with fail
    refine (rValid_any _ _ _ _ _ _).mono ?_
    rintro e w1 ⟨rfl, hb1⟩
    obtain ⟨⟨q0, q1, q2, q3, q4⟩, r0, r1, r2, r3, r4⟩ : Has5 w1 (w.heap.size + 1 + 1) 0 0 0 0 0 := Has5.keep (by refine ⟨⟨?_, ?_, ?_, ?_, ?_⟩, ?_, ?_, ?_, ?_, ?_⟩ <;> go_cell) hb1 (by simp)
    have D1 : Below w.heap.size w w1 := Below.trans (by go_grown) (hb1.mono (by simp; omega))
    clear hb1
    simp only [hx]
    go_wp2_with fail
    refine bodyPost_ret (v := .tuple #[.agg #[.int .i64 0, .int .i64 0, .int .i64 0, .int .i64 0, .int .i64 0], .int .i64 10]) (by simp [results, Try.results23, go_sem, *]) rfl ⟨by rw [hE.out]; rfl, by go_grown⟩
  · cases hy : vld ⟨⟨p, q, r, s⟩, l⟩
    · have hE : subS ⟨⟨a, b, c, d⟩, k⟩ ⟨⟨p, q, r, s⟩, l⟩ = (N0, 10) := by unfold subS; rw [hx, hy]; rfl
      have hE := Lib.hid hE
      go_enter Try.func23, Try.ntmps23
      go_wp2_with fail
      refine (rValid_any _ _ _ _ _ _).mono ?_
      rintro e w1 ⟨rfl, hb1⟩
      have B1 : Has5 w1 (w.heap.size + 1) p q r s l := Has5.keep (by refine ⟨⟨?_, ?_, ?_, ?_, ?_⟩, ?_, ?_, ?_, ?_, ?_⟩ <;> go_cell) hb1 (by simp)
      have C1 : Has5 w1 (w.heap.size + 1 + 1) 0 0 0 0 0 := Has5.keep (by refine ⟨⟨?_, ?_, ?_, ?_, ?_⟩, ?_, ?_, ?_, ?_, ?_⟩ <;> go_cell) hb1 (by simp)
      have D1 : Below w.heap.size w w1 := Below.trans (by go_grown) (hb1.mono (by simp; omega))
      have s1 : w.heap.size + 3 ≤ w1.heap.size := by have := hb1.size; simp at this; omega
      clear hb1
      simp only [hx]
      obtain ⟨⟨g0, g1, g2, g3, g4⟩, e0, e1, e2, e3, e4⟩ := B1
      go_wp2_with fail
      refine (rValid_any _ _ _ _ _ _).mono ?_
      rintro e w2 ⟨rfl, hb2⟩
      obtain ⟨⟨q0, q1, q2, q3, q4⟩, r0, r1, r2, r3, r4⟩ := C1.keep hb2 (by omega)
      have D2 : Below w.heap.size w w2 := D1.trans (hb2.mono (by omega))
      clear hb2 D1 g0 g1 g2 g3 g4 e0 e1 e2 e3 e4 C1
      simp only [hy]
      go_wp2_with fail
      refine bodyPost_ret (v := .tuple #[.agg #[.int .i64 0, .int .i64 0, .int .i64 0, .int .i64 0, .int .i64 0], .int .i64 10]) (by simp [results, Try.results23, go_sem, *]) rfl ⟨by rw [hE.out]; rfl, by go_grown⟩
    · have hE : subS ⟨⟨a, b, c, d⟩, k⟩ ⟨⟨p, q, r, s⟩, l⟩ = made (comb ⟨⟨a, b, c, d⟩, k⟩ ⟨⟨p, q, r, s⟩, l⟩ (-1)).1 (comb ⟨⟨a, b, c, d⟩, k⟩ ⟨⟨p, q, r, s⟩, l⟩ (-1)).2 := by unfold subS; rw [hx, hy]; rfl
      have hE := Lib.hid hE
      have hbd := comb_bd hx hy (s := (-1)) (by omega)
      go_enter Try.func23, Try.ntmps23
      go_wp2_with fail
      refine (rValid_any _ _ _ _ _ _).mono ?_
      rintro e w1 ⟨rfl, hb1⟩
      have A1 : Has5 w1 w.heap.size a b c d k := Has5.keep (by refine ⟨⟨?_, ?_, ?_, ?_, ?_⟩, ?_, ?_, ?_, ?_, ?_⟩ <;> go_cell) hb1 (by simp; omega)
      have B1 : Has5 w1 (w.heap.size + 1) p q r s l := Has5.keep (by refine ⟨⟨?_, ?_, ?_, ?_, ?_⟩, ?_, ?_, ?_, ?_, ?_⟩ <;> go_cell) hb1 (by simp)
      have C1 : Has5 w1 (w.heap.size + 1 + 1) 0 0 0 0 0 := Has5.keep (by refine ⟨⟨?_, ?_, ?_, ?_, ?_⟩, ?_, ?_, ?_, ?_, ?_⟩ <;> go_cell) hb1 (by simp)
      have D1 : Below w.heap.size w w1 := Below.trans (by go_grown) (hb1.mono (by simp; omega))
      have s1 : w.heap.size + 3 ≤ w1.heap.size := by have := hb1.size; simp at this; omega
      clear hb1
      simp only [hx]
      have P1 := B1
      obtain ⟨⟨g0, g1, g2, g3, g4⟩, e0, e1, e2, e3, e4⟩ := P1
      have HX := Lib.hid hx
      clear hx
      go_wp2_with fail
      refine (rValid_any _ _ _ _ _ _).mono ?_
      rintro e w2 ⟨rfl, hb2⟩
      have A2 := A1.keep hb2 (by omega)
      have B2 := B1.keep hb2 (by omega)
      have C2 := C1.keep hb2 (by omega)
      have D2 : Below w.heap.size w w2 := D1.trans (hb2.mono (by omega))
      have s2 : w.heap.size + 3 ≤ w2.heap.size := by have := hb2.size; omega
      clear hb2 A1 B1 C1 D1 g0 g1 g2 g3 g4 e0 e1 e2 e3 e4
      simp only [hy]
      have HY := Lib.hid hy
      clear hy
      obtain ⟨⟨c0, c1, c2, c3, c4⟩, f0, f1, f2, f3, f4⟩ := A2
      obtain ⟨⟨g0, g1, g2, g3, g4⟩, e0, e1, e2, e3, e4⟩ := B2
      go_wp2_with fail
      refine (rCombined_sub _ _ _ _ _ _ _ _ _ _ _ HX.out HY.out).mono ?_
      rintro e w3 ⟨rfl, hb3⟩
      have C3 := C2.keep hb3 (by omega)
      have D3 : Below w.heap.size w w3 := D2.trans (hb3.mono (by omega))
      have s3 : w.heap.size + 3 ≤ w3.heap.size := by have := hb3.size; omega
      clear hb3 C2 D2 c0 c1 c2 c3 c4 f0 f1 f2 f3 f4 g0 g1 g2 g3 g4 e0 e1 e2 e3 e4
      unfold Ret4
      generalize comb ⟨⟨a, b, c, d⟩, k⟩ ⟨⟨p, q, r, s⟩, l⟩ (-1) = m at *
      obtain ⟨⟨x, y, z, u⟩, n⟩ := m
      simp only at hE hbd
      go_wp2_with fail
      refine (rMade_any _ _ _ _ _ _ hbd.1 hbd.2).mono ?_
      rintro e w4 ⟨rfl, hb4⟩
      have C4 := C3.keep hb4 (by omega)
      have D4 : Below w.heap.size w w4 := D3.trans (hb4.mono (by omega))
      clear hb4 C3 D3
      obtain ⟨⟨q0, q1, q2, q3, q4⟩, r0, r1, r2, r3, r4⟩ := C4
      obtain ⟨x', y', z', u', v', er, HM⟩ := res5 (made ⟨x, y, z, u⟩ n)
      rw [HM.out]
      unfold Ret5
      simp only
      go_wp2_with fail
      refine bodyPost_ret (v := .tuple #[.agg #[.int .i64 x', .int .i64 y', .int .i64 z', .int .i64 u', .int .i64 v'], .int .i64 er]) (by simp [results, Try.results23, go_sem, *]) rfl ⟨?_, by go_grown⟩
      rw [hE.out, HM.out]; rfl
end Go.Proofs.Ytmildncbkndcoaa
