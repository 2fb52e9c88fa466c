import Derived.Test.YtkcbkcgampoclaaA
namespace Go.Proofs.Ytkcbkcgampoclaa
open Go.RowKit Amp
attribute [local go_sem] ix0 ix1 ix2 ix3

/-- A block of four cells of a frame of its own. -/
def Has4 (w : World) (n : Nat) (a b c d : Int) : Prop :=
  (w.cell? ⟨n, 0, none⟩ = some (.int .i64 a) ∧ w.cell? ⟨n, 1, none⟩ = some (.int .i64 b) ∧ w.cell? ⟨n, 2, none⟩ = some (.int .i64 c) ∧ w.cell? ⟨n, 3, none⟩ = some (.int .i64 d)) ∧
  (w.frozen? ⟨n, 0, none⟩ = false ∧ w.frozen? ⟨n, 1, none⟩ = false ∧ w.frozen? ⟨n, 2, none⟩ = false ∧ w.frozen? ⟨n, 3, none⟩ = false)
/-- A block of five cells. -/
def Has5 (w : World) (n : Nat) (a b c d k : Int) : Prop :=
  (w.cell? ⟨n, 0, none⟩ = some (.int .i64 a) ∧ w.cell? ⟨n, 1, none⟩ = some (.int .i64 b) ∧ w.cell? ⟨n, 2, none⟩ = some (.int .i64 c) ∧ w.cell? ⟨n, 3, none⟩ = some (.int .i64 d) ∧ w.cell? ⟨n, 4, none⟩ = some (.int .i64 k)) ∧
  (w.frozen? ⟨n, 0, none⟩ = false ∧ w.frozen? ⟨n, 1, none⟩ = false ∧ w.frozen? ⟨n, 2, none⟩ = false ∧ w.frozen? ⟨n, 3, none⟩ = false ∧ w.frozen? ⟨n, 4, none⟩ = false)

theorem Has4.keep {w w1 : World} {n : Nat} {a b c d : Int} (h : Has4 w n a b c d) (hb : Below w.heap.size w w1) (hn : n < w.heap.size) : Has4 w1 n a b c d := by
  obtain ⟨k1, k2⟩ := bcell hb
  unfold Has4 at *
  simpa only [k1 _ _ hn, k2 _ _ hn] using h
theorem Has5.keep {w w1 : World} {n : Nat} {a b c d k : Int} (h : Has5 w n a b c d k) (hb : Below w.heap.size w w1) (hn : n < w.heap.size) : Has5 w1 n a b c d k := by
  obtain ⟨k1, k2⟩ := bcell hb
  unfold Has5 at *
  simpa only [k1 _ _ hn, k2 _ _ hn] using h
theorem w64_half {t : Int} (h1 : -9223372036854775808 ≤ t) (h2 : t ≤ 9223372036854775807) : wrap64 (t.tdiv 2) = t.tdiv 2 := by
  have h : -9223372036854775808 ≤ t.tdiv 2 ∧ t.tdiv 2 ≤ 9223372036854775807 := by
    rw [Int.tdiv_eq_ediv]
    split
    · omega
    · have : Int.sign 2 = 1 := rfl
      rw [this]; omega
  exact IntWalk.wrap64_in _ (by omega)
def Ret5 (s : Nm × Int) : Ending := .returned (.tuple #[.agg #[.int .i64 s.1.v.a, .int .i64 s.1.v.b, .int .i64 s.1.v.c, .int .i64 s.1.v.d, .int .i64 s.1.k], .int .i64 s.2])

set_option maxHeartbeats 1000000 in
theorem reduced_any (a b c d : Int) (k : Nat) (w : World) (h : big 4611686018427387903 ⟨a, b, c, d⟩) (hk : k ≤ 10000) :
    Calls Try.prog 57 #[.agg #[.int .i64 a, .int .i64 b, .int .i64 c, .int .i64 d], .int .i64 k] w fun e w' => e = Ret5 (made ⟨a, b, c, d⟩ k) ∧ Below w.heap.size w w' := by
  go_enter Try.func57, Try.ntmps57
  go_wp2
  go_loopw [1] (fun kk wr => ∃ (x y z u : Int) (j : Nat), kk = .int .i64 j ∧ j ≤ 10000 ∧ big 4611686018427387903 ⟨x, y, z, u⟩ ∧ red ⟨x, y, z, u⟩ j = red ⟨a, b, c, d⟩ k ∧ w.heap.size + 1 < wr.heap.size ∧ Has4 wr w.heap.size x y z u ∧ Has5 wr (w.heap.size + 1) 0 0 0 0 0 ∧ Below w.heap.size w wr)
    (fun kk _ => (intOf kk).toNat)
  case atStart => 
    refine ⟨a, b, c, d, k, rfl, hk, h, rfl, ?_, ?_, ?_, ?_⟩
    · simp
    · refine ⟨⟨?_, ?_, ?_, ?_⟩, ?_, ?_, ?_, ?_⟩ <;> go_cell
    · refine ⟨⟨?_, ?_, ?_, ?_, ?_⟩, ?_, ?_, ?_, ?_, ?_⟩ <;> go_cell
    · go_grown
  case round =>
    obtain ⟨x, y, z, u, j, rfl, hj, hbg, hred, hsz, H4, H5, hbel⟩ := hrel
    have HR := Lib.hid hred
    clear hred
    have P4 := H4
    have P5 := H5
    obtain ⟨⟨c0, c1, c2, c3⟩, f0, f1, f2, f3⟩ := P4
    obtain ⟨⟨g0, g1, g2, g3, g4⟩, e0, e1, e2, e3, e4⟩ := P5
    cases j with
    | zero =>
      go_wp2_with fail
      have A5 : Has5 (wr.alloc (.cells #[.int .i64 x, .int .i64 y, .int .i64 z, .int .i64 u, .int .i64 (0)] 53)) wr.heap.size x y z u (0) := by refine ⟨⟨?_, ?_, ?_, ?_, ?_⟩, ?_, ?_, ?_, ?_, ?_⟩ <;> go_cell
      have B5 : Has5 (wr.alloc (.cells #[.int .i64 x, .int .i64 y, .int .i64 z, .int .i64 u, .int .i64 (0)] 53)) (w.heap.size + 1) 0 0 0 0 0 := by refine ⟨⟨?_, ?_, ?_, ?_, ?_⟩, ?_, ?_, ?_, ?_, ?_⟩ <;> go_cell
      have hbW : Below w.heap.size w (wr.alloc (.cells #[.int .i64 x, .int .i64 y, .int .i64 z, .int .i64 u, .int .i64 (0)] 53)) := hbel.alloc (by omega) _
      cases hv : vld ⟨⟨x, y, z, u⟩, 0⟩
      · refine (Valid_any _ _ _ _ _ _).mono ?_
        rintro e wv ⟨rfl, hbv⟩
        obtain ⟨⟨p0, p1, p2, p3, p4⟩, _⟩ := A5.keep hbv (by simp)
        obtain ⟨⟨q0, q1, q2, q3, q4⟩, r0, r1, r2, r3, r4⟩ := B5.keep hbv (by simp; omega)
        have hszv : w.heap.size + 1 < wv.heap.size := by have := hbv.size; simp at this; omega
        have hbelv := hbW.trans (hbv.mono (by simp; omega))
        clear A5 B5 hbv hbW
        simp only [hv]
        go_wp2_with fail
        refine bodyPost_ret (v := .tuple #[.agg #[.int .i64 0, .int .i64 0, .int .i64 0, .int .i64 0, .int .i64 0], .int .i64 4]) (by simp [results, Try.results57, go_sem, *]) rfl ⟨?_, ?_⟩
        · rw [made_bad rfl HR.out hv]; rfl
        · go_grown
      · refine (Valid_any _ _ _ _ _ _).mono ?_
        rintro e wv ⟨rfl, hbv⟩
        obtain ⟨⟨p0, p1, p2, p3, p4⟩, _⟩ := A5.keep hbv (by simp)
        obtain ⟨⟨q0, q1, q2, q3, q4⟩, r0, r1, r2, r3, r4⟩ := B5.keep hbv (by simp; omega)
        have hszv : w.heap.size + 1 < wv.heap.size := by have := hbv.size; simp at this; omega
        have hbelv := hbW.trans (hbv.mono (by simp; omega))
        clear A5 B5 hbv hbW
        simp only [hv]
        go_wp2_with fail
        refine bodyPost_ret (v := .tuple #[.agg #[.int .i64 x, .int .i64 y, .int .i64 z, .int .i64 u, .int .i64 (0)], .int .i64 0]) (by simp [results, Try.results57, go_sem, *]) rfl ⟨?_, ?_⟩
        · rw [made_ok rfl HR.out hv]; rfl
        · go_grown
    | succ j =>
      cases hdv : dvb ⟨x, y, z, u⟩ with
      | false =>
        go_wp2_with fail
        refine (divisible_any _ _ _ _ _ hbg).mono ?_
        rintro e w1 ⟨rfl, hb1⟩
        have hbel1 := hbel.trans (hb1.mono (by omega))
        have hsz1 : w.heap.size + 1 < w1.heap.size := by have := hb1.size; omega
        obtain ⟨⟨c0', c1', c2', c3'⟩, f0', f1', f2', f3'⟩ := H4.keep hb1 (by omega)
        obtain ⟨⟨g0', g1', g2', g3', g4'⟩, e0', e1', e2', e3', e4'⟩ := H5.keep hb1 (by omega)
        clear hb1
        simp only [hdv]
        go_wp2_with fail
        have A5 : Has5 (w1.alloc (.cells #[.int .i64 x, .int .i64 y, .int .i64 z, .int .i64 u, .int .i64 ((j : Int) + 1)] 53)) w1.heap.size x y z u ((j : Int) + 1) := by refine ⟨⟨?_, ?_, ?_, ?_, ?_⟩, ?_, ?_, ?_, ?_, ?_⟩ <;> go_cell
        have B5 : Has5 (w1.alloc (.cells #[.int .i64 x, .int .i64 y, .int .i64 z, .int .i64 u, .int .i64 ((j : Int) + 1)] 53)) (w.heap.size + 1) 0 0 0 0 0 := by refine ⟨⟨?_, ?_, ?_, ?_, ?_⟩, ?_, ?_, ?_, ?_, ?_⟩ <;> go_cell
        have hbW : Below w.heap.size w (w1.alloc (.cells #[.int .i64 x, .int .i64 y, .int .i64 z, .int .i64 u, .int .i64 ((j : Int) + 1)] 53)) := hbel1.alloc (by omega) _
        cases hv : vld ⟨⟨x, y, z, u⟩, (j : Int) + 1⟩
        · refine (Valid_any _ _ _ _ _ _).mono ?_
          rintro e wv ⟨rfl, hbv⟩
          obtain ⟨⟨p0, p1, p2, p3, p4⟩, _⟩ := A5.keep hbv (by simp)
          obtain ⟨⟨q0, q1, q2, q3, q4⟩, r0, r1, r2, r3, r4⟩ := B5.keep hbv (by simp; omega)
          have hszv : w.heap.size + 1 < wv.heap.size := by have := hbv.size; simp at this; omega
          have hbelv := hbW.trans (hbv.mono (by simp; omega))
          clear A5 B5 hbv hbW
          simp only [hv]
          go_wp2_with fail
          refine bodyPost_ret (v := .tuple #[.agg #[.int .i64 0, .int .i64 0, .int .i64 0, .int .i64 0, .int .i64 0], .int .i64 4]) (by simp [results, Try.results57, go_sem, *]) rfl ⟨?_, ?_⟩
          · rw [made_bad (red_stop hdv) HR.out hv]; rfl
          · go_grown
        · refine (Valid_any _ _ _ _ _ _).mono ?_
          rintro e wv ⟨rfl, hbv⟩
          obtain ⟨⟨p0, p1, p2, p3, p4⟩, _⟩ := A5.keep hbv (by simp)
          obtain ⟨⟨q0, q1, q2, q3, q4⟩, r0, r1, r2, r3, r4⟩ := B5.keep hbv (by simp; omega)
          have hszv : w.heap.size + 1 < wv.heap.size := by have := hbv.size; simp at this; omega
          have hbelv := hbW.trans (hbv.mono (by simp; omega))
          clear A5 B5 hbv hbW
          simp only [hv]
          go_wp2_with fail
          refine bodyPost_ret (v := .tuple #[.agg #[.int .i64 x, .int .i64 y, .int .i64 z, .int .i64 u, .int .i64 ((j : Int) + 1)], .int .i64 0]) (by simp [results, Try.results57, go_sem, *]) rfl ⟨?_, ?_⟩
          · rw [made_ok (red_stop hdv) HR.out hv]; rfl
          · go_grown

      | true =>
        go_wp2_with fail
        refine (divisible_any _ _ _ _ _ hbg).mono ?_
        rintro e w1 ⟨rfl, hb1⟩
        have hbel1 := hbel.trans (hb1.mono (by omega))
        have hsz1 : w.heap.size + 1 < w1.heap.size := by have := hb1.size; omega
        have H4' := H4.keep hb1 (by omega)
        have H5' := H5.keep hb1 (by omega)
        have P4 := H4'
        obtain ⟨⟨c0', c1', c2', c3'⟩, f0', f1', f2', f3'⟩ := P4
        clear hb1
        simp only [hdv]
        go_wp2_with fail
        refine (timesRoot_any _ _ _ _ _ hbg).mono ?_
        rintro e w2 ⟨rfl, hb2⟩
        have hbel2 := hbel1.trans (hb2.mono (by omega))
        have hsz2 : w.heap.size + 1 < w2.heap.size := by have := hb2.size; omega
        obtain ⟨⟨c0'', c1'', c2'', c3''⟩, f0'', f1'', f2'', f3''⟩ := H4'.keep hb2 (by omega)
        have H5'' := H5'.keep hb2 (by omega)
        clear hb2 H4 H4' H5 H5' c0 c1 c2 c3 f0 f1 f2 f3 c0' c1' c2' c3' f0' f1' f2' f3' g0 g1 g2 g3 g4 e0 e1 e2 e3 e4
        obtain ⟨⟨g0, g1, g2, g3, g4⟩, e0, e1, e2, e3, e4⟩ := H5''
        go_wp2_with fail
        go_rounds 5
        have hb4 := half_big hbg
        have hw : wrap64 ((y - u).tdiv 2) = (y - u).tdiv 2 ∧ wrap64 ((x + z).tdiv 2) = (x + z).tdiv 2 ∧ wrap64 ((y + u).tdiv 2) = (y + u).tdiv 2 ∧ wrap64 ((z - x).tdiv 2) = (z - x).tdiv 2 := by
          obtain ⟨⟨a1, a2⟩, ⟨b1, b2⟩, ⟨c1, c2⟩, ⟨d1, d2⟩⟩ := hbg
          simp only at a1 a2 b1 b2 c1 c2 d1 d2
          exact ⟨w64_half (by omega) (by omega), w64_half (by omega) (by omega), w64_half (by omega) (by omega), w64_half (by omega) (by omega)⟩
        obtain ⟨hw0, hw1, hw2, hw3⟩ := hw
        simp only [hw0, hw1, hw2, hw3]
        clear hw0 hw1 hw2 hw3
        have hr4 := (red_step hdv).symm.trans HR.out
        go_roundw
        case rel =>
          refine ⟨(y - u).tdiv 2, (x + z).tdiv 2, (y + u).tdiv 2, (z - x).tdiv 2, j, rfl, by omega, hb4, hr4, ?_, ?_, ?_, ?_⟩
          · simp; omega
          · refine ⟨⟨?_, ?_, ?_, ?_⟩, ?_, ?_, ?_, ?_⟩ <;> go_cell
          · refine ⟨⟨?_, ?_, ?_, ?_, ?_⟩, ?_, ?_, ?_, ?_, ?_⟩ <;> go_cell
          · go_grown
        case measure => simp [intOf]
end Go.Proofs.Ytkcbkcgampoclaa
