import Derived.Test.YtmildncbkndcoaaC
namespace Go.Proofs.Ytmildncbkndcoaa
open Go.RowKit Amp
attribute [local go_sem] ix0 ix1 ix2 ix3 jx0 jx1 jx2 jx3

def Ret4 (s : C4 × Nat) : Ending := .returned (.tuple #[.agg #[.int .i64 s.1.a, .int .i64 s.1.b, .int .i64 s.1.c, .int .i64 s.1.d], .int .i64 s.2])

set_option maxHeartbeats 1000000 in
theorem rReduced_any (a b c d : Int) (k : Nat) (w : World) (h : big 4611686018427387903 ⟨a, b, c, d⟩) (hk : k ≤ 10000) :
    Calls Try.prog 73 #[.agg #[.int .i64 a, .int .i64 b, .int .i64 c, .int .i64 d], .int .i64 k] w fun e w' => e = Ret4 (red ⟨a, b, c, d⟩ k) ∧ Below w.heap.size w w' := by
  go_enter Try.func73, Try.ntmps73
  go_wp2
  go_loopw [1] (fun kk wr => ∃ (x y z u : Int) (j : Nat), kk = .int .i64 j ∧ j ≤ 10000 ∧ big 4611686018427387903 ⟨x, y, z, u⟩ ∧ red ⟨x, y, z, u⟩ j = red ⟨a, b, c, d⟩ k ∧ w.heap.size + 1 < wr.heap.size ∧ Has4 wr w.heap.size x y z u ∧ Has4 wr (w.heap.size + 1) 0 0 0 0 ∧ Below w.heap.size w wr)
    (fun kk _ => (intOf kk).toNat)
  case atStart => 
    refine ⟨a, b, c, d, k, rfl, hk, h, rfl, ?_, ?_, ?_, ?_⟩
    · simp
    · refine ⟨⟨?_, ?_, ?_, ?_⟩, ?_, ?_, ?_, ?_⟩ <;> go_cell
    · refine ⟨⟨?_, ?_, ?_, ?_⟩, ?_, ?_, ?_, ?_⟩ <;> go_cell
    · go_grown
  case round =>
    obtain ⟨x, y, z, u, j, rfl, hj, hbg, hred, hsz, H4, H5, hbel⟩ := hrel
    have HR := Lib.hid hred
    clear hred
    have P4 := H4
    have P5 := H5
    obtain ⟨⟨c0, c1, c2, c3⟩, f0, f1, f2, f3⟩ := P4
    obtain ⟨⟨g0, g1, g2, g3⟩, e0, e1, e2, e3⟩ := P5
    cases j with
    | zero =>
      go_wp2_with fail
      refine bodyPost_ret (v := .tuple #[.agg #[.int .i64 x, .int .i64 y, .int .i64 z, .int .i64 u], .int .i64 0]) (by simp [results, Try.results73, go_sem, *]) rfl ⟨?_, ?_⟩
      · rw [← HR.out]; rfl
      · go_grown
    | succ j =>
      cases hdv : dvb ⟨x, y, z, u⟩ with
      | false =>
        go_wp2_with fail
        refine (rEven_any _ _ _ _ _ hbg).mono ?_
        rintro e w1 ⟨rfl, hb1⟩
        have hbel1 := hbel.trans (hb1.mono (by omega))
        have hsz1 : w.heap.size + 1 < w1.heap.size := by have := hb1.size; omega
        obtain ⟨⟨c0', c1', c2', c3'⟩, f0', f1', f2', f3'⟩ := H4.keep hb1 (by omega)
        obtain ⟨⟨g0', g1', g2', g3'⟩, e0', e1', e2', e3'⟩ := H5.keep hb1 (by omega)
        clear hb1
        simp only [hdv]
        go_wp2_with fail
        refine bodyPost_ret (v := .tuple #[.agg #[.int .i64 x, .int .i64 y, .int .i64 z, .int .i64 u], .int .i64 ((j : Int) + 1)]) (by simp [results, Try.results73, go_sem, *]) rfl ⟨?_, ?_⟩
        · rw [← HR.out, red_stop hdv]; rfl
        · go_grown
      | true =>
        go_wp2_with fail
        refine (rEven_any _ _ _ _ _ hbg).mono ?_
        rintro e w1 ⟨rfl, hb1⟩
        have hbel1 := hbel.trans (hb1.mono (by omega))
        have hsz1 : w.heap.size + 1 < w1.heap.size := by have := hb1.size; omega
        have H4' := H4.keep hb1 (by omega)
        have H5' := H5.keep hb1 (by omega)
        have P4 := H4'
        obtain ⟨⟨c0', c1', c2', c3'⟩, f0', f1', f2', f3'⟩ := P4
        clear hb1
        simp only [hdv]
        go_wp2_with fail
        refine (rTimesRoot_any _ _ _ _ _ hbg).mono ?_
        rintro e w2 ⟨rfl, hb2⟩
        have hbel2 := hbel1.trans (hb2.mono (by omega))
        have hsz2 : w.heap.size + 1 < w2.heap.size := by have := hb2.size; omega
        obtain ⟨⟨c0'', c1'', c2'', c3''⟩, f0'', f1'', f2'', f3''⟩ := H4'.keep hb2 (by omega)
        have H5'' := H5'.keep hb2 (by omega)
        clear hb2 H4 H4' H5 H5' c0 c1 c2 c3 f0 f1 f2 f3 c0' c1' c2' c3' f0' f1' f2' f3' g0 g1 g2 g3 e0 e1 e2 e3
        obtain ⟨⟨g0, g1, g2, g3⟩, e0, e1, e2, e3⟩ := H5''
        have hlt2 : w.heap.size < w2.heap.size := by omega
        have hne2 : ¬ w.heap.size = w2.heap.size := by omega
        go_wp2_with fail
        go_rounds 5
        have hb4 := half_big hbg
        have hr4 := (red_step hdv).symm.trans HR.out
        have hw : wrap64 ((y - u).tdiv 2) = (y - u).tdiv 2 ∧ wrap64 ((x + z).tdiv 2) = (x + z).tdiv 2 ∧ wrap64 ((y + u).tdiv 2) = (y + u).tdiv 2 ∧ wrap64 ((z - x).tdiv 2) = (z - x).tdiv 2 := by
          obtain ⟨⟨a1, a2⟩, ⟨b1, b2⟩, ⟨c1, c2⟩, ⟨d1, d2⟩⟩ := hbg
          simp only at a1 a2 b1 b2 c1 c2 d1 d2
          exact ⟨w64_half (by omega) (by omega), w64_half (by omega) (by omega), w64_half (by omega) (by omega), w64_half (by omega) (by omega)⟩
        obtain ⟨hw0, hw1, hw2, hw3⟩ := hw
        simp only [hw0, hw1, hw2, hw3]
        clear hw0 hw1 hw2 hw3
        go_roundw
        case rel =>
          refine ⟨(y - u).tdiv 2, (x + z).tdiv 2, (y + u).tdiv 2, (z - x).tdiv 2, j, rfl, by omega, hb4, hr4, ?_, ?_, ?_, ?_⟩
          · simp; omega
          · refine ⟨⟨?_, ?_, ?_, ?_⟩, ?_, ?_, ?_, ?_⟩ <;> go_cell
          · refine ⟨⟨?_, ?_, ?_, ?_⟩, ?_, ?_, ?_, ?_⟩ <;> go_cell
          · go_grown
        case measure => simp [intOf]

set_option maxHeartbeats 1000000 in
theorem rMade_any (a b c d : Int) (k : Nat) (w : World) (h : big 4611686018427387903 ⟨a, b, c, d⟩) (hk : k ≤ 10000) :
    Calls Try.prog 51 #[.agg #[.int .i64 a, .int .i64 b, .int .i64 c, .int .i64 d], .int .i64 k] w fun e w' => e = Ret5 (made ⟨a, b, c, d⟩ k) ∧ Below w.heap.size w w' := by
  go_enter Try.func51, Try.ntmps51
  go_wp2_with fail
  have H4 : Has4 ((w.alloc (.cells #[.int .i64 a, .int .i64 b, .int .i64 c, .int .i64 d] 58)).alloc (.cells #[.int .i64 0, .int .i64 0, .int .i64 0, .int .i64 0, .int .i64 0] 24)) w.heap.size a b c d := by refine ⟨⟨?_, ?_, ?_, ?_⟩, ?_, ?_, ?_, ?_⟩ <;> go_cell
  have H5 : Has5 ((w.alloc (.cells #[.int .i64 a, .int .i64 b, .int .i64 c, .int .i64 d] 58)).alloc (.cells #[.int .i64 0, .int .i64 0, .int .i64 0, .int .i64 0, .int .i64 0] 24)) (w.heap.size + 1) 0 0 0 0 0 := by refine ⟨⟨?_, ?_, ?_, ?_, ?_⟩, ?_, ?_, ?_, ?_, ?_⟩ <;> go_cell
  have hbW : Below w.heap.size w ((w.alloc (.cells #[.int .i64 a, .int .i64 b, .int .i64 c, .int .i64 d] 58)).alloc (.cells #[.int .i64 0, .int .i64 0, .int .i64 0, .int .i64 0, .int .i64 0] 24)) := by go_grown
  refine (rReduced_any _ _ _ _ _ _ h hk).mono ?_
  rintro e w1 ⟨rfl, hb1⟩
  have H4' := H4.keep hb1 (by simp; omega)
  have H5' := H5.keep hb1 (by simp)
  have hsz1 : w.heap.size + 1 < w1.heap.size := by have := hb1.size; simp at this; omega
  have hbel1 := hbW.trans (hb1.mono (by simp; omega))
  have hne1 : ¬ w.heap.size = w1.heap.size := by omega
  have hne2 : ¬ w.heap.size + 1 = w1.heap.size := by omega
  clear H4 H5 hbW hb1
  have E := Lib.hid (show made ⟨a, b, c, d⟩ k = if vld ⟨(red ⟨a, b, c, d⟩ k).1, (red ⟨a, b, c, d⟩ k).2⟩ = true then (⟨(red ⟨a, b, c, d⟩ k).1, (red ⟨a, b, c, d⟩ k).2⟩, 0) else (N0, 4) from rfl)
  unfold Ret4
  generalize red ⟨a, b, c, d⟩ k = r at *
  obtain ⟨⟨x, y, z, u⟩, j⟩ := r
  simp only at E
  obtain ⟨⟨c0, c1, c2, c3⟩, f0, f1, f2, f3⟩ := H4'
  obtain ⟨⟨g0, g1, g2, g3, g4⟩, e0, e1, e2, e3, e4⟩ := H5'
  go_wp2_with fail
  cases hv : vld ⟨⟨x, y, z, u⟩, j⟩
  · refine (rValid_any _ _ _ _ _ _).mono ?_
    rintro e w2 ⟨rfl, hb2⟩
    obtain ⟨⟨p0, p1, p2, p3, p4⟩, _⟩ : Has5 w2 w1.heap.size x y z u j := Has5.keep (by refine ⟨⟨?_, ?_, ?_, ?_, ?_⟩, ?_, ?_, ?_, ?_, ?_⟩ <;> go_cell) hb2 (by simp)
    obtain ⟨⟨q0, q1, q2, q3, q4⟩, r0, r1, r2, r3, r4⟩ : Has5 w2 (w.heap.size + 1) 0 0 0 0 0 := Has5.keep (by refine ⟨⟨?_, ?_, ?_, ?_, ?_⟩, ?_, ?_, ?_, ?_, ?_⟩ <;> go_cell) hb2 (by simp; omega)
    have hbel2 : Below w.heap.size w w2 := Below.trans (by go_grown) (hb2.mono (by simp; omega))
    clear hb2
    simp only [hv]
    go_wp2_with fail
    refine bodyPost_ret (v := .tuple #[.agg #[.int .i64 0, .int .i64 0, .int .i64 0, .int .i64 0, .int .i64 0], .int .i64 4]) (by simp [results, Try.results51, go_sem, *]) rfl ⟨?_, ?_⟩
    · rw [E.out, if_neg (by rw [hv]; exact Bool.false_ne_true)]; rfl
    · go_grown
  · refine (rValid_any _ _ _ _ _ _).mono ?_
    rintro e w2 ⟨rfl, hb2⟩
    obtain ⟨⟨p0, p1, p2, p3, p4⟩, _⟩ : Has5 w2 w1.heap.size x y z u j := Has5.keep (by refine ⟨⟨?_, ?_, ?_, ?_, ?_⟩, ?_, ?_, ?_, ?_, ?_⟩ <;> go_cell) hb2 (by simp)
    obtain ⟨⟨q0, q1, q2, q3, q4⟩, r0, r1, r2, r3, r4⟩ : Has5 w2 (w.heap.size + 1) 0 0 0 0 0 := Has5.keep (by refine ⟨⟨?_, ?_, ?_, ?_, ?_⟩, ?_, ?_, ?_, ?_, ?_⟩ <;> go_cell) hb2 (by simp; omega)
    have hbel2 : Below w.heap.size w w2 := Below.trans (by go_grown) (hb2.mono (by simp; omega))
    clear hb2
    simp only [hv]
    go_wp2_with fail
    refine bodyPost_ret (v := .tuple #[.agg #[.int .i64 x, .int .i64 y, .int .i64 z, .int .i64 u, .int .i64 j], .int .i64 0]) (by simp [results, Try.results51, go_sem, *]) rfl ⟨?_, ?_⟩
    · rw [E.out, if_pos hv]; rfl
    · go_grown
end Go.Proofs.Ytmildncbkndcoaa
