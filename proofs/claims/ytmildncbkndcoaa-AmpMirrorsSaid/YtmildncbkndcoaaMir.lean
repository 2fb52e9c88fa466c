import Derived.Test.YtmildncbkndcoaaMirm
import Derived.Test.YtmildncbkndcoaaAw
namespace Go.Proofs.Ytmildncbkndcoaa
open Go.RowKit Amp
attribute [local go_sem] ix0 ix1 ix2 ix3 jx0 jx1 jx2 jx3
attribute [local go_sem high] run_eqNum run_neNum

set_option maxHeartbeats 2000000 in
theorem twice_neg (a b c d k : Int) (w : World) (hx : vld ⟨⟨a, b, c, d⟩, k⟩ = true) :
    Calls Try.prog 48 #[.agg #[.int .i64 a, .int .i64 b, .int .i64 c, .int .i64 d, .int .i64 k], .func (Fn.func 32) #[] #[]] w fun e w' => e = .returned (.bool true) ∧ Below w.heap.size w w' := by
  have hy := vld_neg hx
  have e1 := chg_ok (g := neg) hx hy
  have e2 := chg_ok (g := neg) hy (by show vld ⟨(neg) ((neg) ⟨a, b, c, d⟩), k⟩ = true; rw [show (neg) ((neg) ⟨a, b, c, d⟩) = ⟨a, b, c, d⟩ from neg_neg _]; exact hx)
  simp only at e1 e2
  obtain ⟨y0, y1, y2, y3, HP⟩ : ∃ y0 y1 y2 y3, Hid ((neg) ⟨a, b, c, d⟩ = ⟨y0, y1, y2, y3⟩) := ⟨_, _, _, _, rfl⟩
  have HA : Hid (chgS ⟨⟨a, b, c, d⟩, k⟩ (neg) = (⟨⟨y0, y1, y2, y3⟩, k⟩, 0)) := by rw [← HP.out]; exact e1
  have HB : Hid (chgS ⟨⟨y0, y1, y2, y3⟩, k⟩ (neg) = (⟨⟨a, b, c, d⟩, k⟩, 0)) := by
    rw [← HP.out]
    refine e2.trans ?_
    show ((⟨(neg) ((neg) ⟨a, b, c, d⟩), k⟩ : Nm), (0 : Int)) = _
    rw [show (neg) ((neg) ⟨a, b, c, d⟩) = ⟨a, b, c, d⟩ from neg_neg _]
  clear e1 e2 hy hx
  go_enter Try.func48, Try.ntmps48
  go_wp2_with fail
  refine (Neg_any _ _ _ _ _ _).mono ?_
  rintro e w1 ⟨rfl, hb⟩
  rw [HA.out]
  unfold Ret5
  (try simp only)
  have K1_x : Has5 w1 (w.heap.size) a b c d k := Has5.keep (by refine ⟨⟨?_, ?_, ?_, ?_, ?_⟩, ?_, ?_, ?_, ?_, ?_⟩ <;> go_cell) hb (by first | omega | (simp; done) | (simp; omega))
  have D1 : Below w.heap.size w w1 := Below.trans (by go_grown) (hb.mono (by first | omega | (simp; done) | (simp; omega)))
  have s1 : w.heap.size < w1.heap.size := by have := hb.size; (try simp at this); omega
  clear hb
  obtain ⟨⟨c1_x_0, c1_x_1, c1_x_2, c1_x_3, c1_x_4⟩, f1_x_0, f1_x_1, f1_x_2, f1_x_3, f1_x_4⟩ := K1_x
  go_wp2_with fail
  refine (Neg_any _ _ _ _ _ _).mono ?_
  rintro e w2 ⟨rfl, hb⟩
  rw [HB.out]
  unfold Ret5
  (try simp only)
  have K2_x : Has5 w2 (w.heap.size) a b c d k := Has5.keep (by refine ⟨⟨?_, ?_, ?_, ?_, ?_⟩, ?_, ?_, ?_, ?_, ?_⟩ <;> go_cell) hb (by first | omega | (simp; done) | (simp; omega))
  have K2_a : Has5 w2 (w1.heap.size) y0 y1 y2 y3 k := Has5.keep (by refine ⟨⟨?_, ?_, ?_, ?_, ?_⟩, ?_, ?_, ?_, ?_, ?_⟩ <;> go_cell) hb (by first | omega | (simp; done) | (simp; omega))
  have D2 : Below w.heap.size w w2 := Below.trans (by go_grown) (hb.mono (by first | omega | (simp; done) | (simp; omega)))
  have s2 : w1.heap.size < w2.heap.size := by have := hb.size; (try simp at this); omega
  clear hb D1 c1_x_0 c1_x_1 c1_x_2 c1_x_3 c1_x_4 f1_x_0 f1_x_1 f1_x_2 f1_x_3 f1_x_4
  obtain ⟨⟨c2_x_0, c2_x_1, c2_x_2, c2_x_3, c2_x_4⟩, f2_x_0, f2_x_1, f2_x_2, f2_x_3, f2_x_4⟩ := K2_x
  obtain ⟨⟨c2_a_0, c2_a_1, c2_a_2, c2_a_3, c2_a_4⟩, f2_a_0, f2_a_1, f2_a_2, f2_a_3, f2_a_4⟩ := K2_a
  have l2_x : w.heap.size < w2.heap.size := by omega
  go_wp2_with fail
  go_returns
  exact ⟨rfl, by go_grown⟩

set_option maxHeartbeats 2000000 in
theorem twice_conj (a b c d k : Int) (w : World) (hx : vld ⟨⟨a, b, c, d⟩, k⟩ = true) :
    Calls Try.prog 48 #[.agg #[.int .i64 a, .int .i64 b, .int .i64 c, .int .i64 d, .int .i64 k], .func (Fn.func 34) #[] #[]] w fun e w' => e = .returned (.bool true) ∧ Below w.heap.size w w' := by
  have hy := vld_conj hx
  have e1 := chg_ok (g := conj) hx hy
  have e2 := chg_ok (g := conj) hy (by show vld ⟨(conj) ((conj) ⟨a, b, c, d⟩), k⟩ = true; rw [show (conj) ((conj) ⟨a, b, c, d⟩) = ⟨a, b, c, d⟩ from conj_conj _]; exact hx)
  simp only at e1 e2
  obtain ⟨y0, y1, y2, y3, HP⟩ : ∃ y0 y1 y2 y3, Hid ((conj) ⟨a, b, c, d⟩ = ⟨y0, y1, y2, y3⟩) := ⟨_, _, _, _, rfl⟩
  have HA : Hid (chgS ⟨⟨a, b, c, d⟩, k⟩ (conj) = (⟨⟨y0, y1, y2, y3⟩, k⟩, 0)) := by rw [← HP.out]; exact e1
  have HB : Hid (chgS ⟨⟨y0, y1, y2, y3⟩, k⟩ (conj) = (⟨⟨a, b, c, d⟩, k⟩, 0)) := by
    rw [← HP.out]
    refine e2.trans ?_
    show ((⟨(conj) ((conj) ⟨a, b, c, d⟩), k⟩ : Nm), (0 : Int)) = _
    rw [show (conj) ((conj) ⟨a, b, c, d⟩) = ⟨a, b, c, d⟩ from conj_conj _]
  clear e1 e2 hy hx
  go_enter Try.func48, Try.ntmps48
  go_wp2_with fail
  refine (Conj_any _ _ _ _ _ _).mono ?_
  rintro e w1 ⟨rfl, hb⟩
  rw [HA.out]
  unfold Ret5
  (try simp only)
  have K1_x : Has5 w1 (w.heap.size) a b c d k := Has5.keep (by refine ⟨⟨?_, ?_, ?_, ?_, ?_⟩, ?_, ?_, ?_, ?_, ?_⟩ <;> go_cell) hb (by first | omega | (simp; done) | (simp; omega))
  have D1 : Below w.heap.size w w1 := Below.trans (by go_grown) (hb.mono (by first | omega | (simp; done) | (simp; omega)))
  have s1 : w.heap.size < w1.heap.size := by have := hb.size; (try simp at this); omega
  clear hb
  obtain ⟨⟨c1_x_0, c1_x_1, c1_x_2, c1_x_3, c1_x_4⟩, f1_x_0, f1_x_1, f1_x_2, f1_x_3, f1_x_4⟩ := K1_x
  go_wp2_with fail
  refine (Conj_any _ _ _ _ _ _).mono ?_
  rintro e w2 ⟨rfl, hb⟩
  rw [HB.out]
  unfold Ret5
  (try simp only)
  have K2_x : Has5 w2 (w.heap.size) a b c d k := Has5.keep (by refine ⟨⟨?_, ?_, ?_, ?_, ?_⟩, ?_, ?_, ?_, ?_, ?_⟩ <;> go_cell) hb (by first | omega | (simp; done) | (simp; omega))
  have K2_a : Has5 w2 (w1.heap.size) y0 y1 y2 y3 k := Has5.keep (by refine ⟨⟨?_, ?_, ?_, ?_, ?_⟩, ?_, ?_, ?_, ?_, ?_⟩ <;> go_cell) hb (by first | omega | (simp; done) | (simp; omega))
  have D2 : Below w.heap.size w w2 := Below.trans (by go_grown) (hb.mono (by first | omega | (simp; done) | (simp; omega)))
  have s2 : w1.heap.size < w2.heap.size := by have := hb.size; (try simp at this); omega
  clear hb D1 c1_x_0 c1_x_1 c1_x_2 c1_x_3 c1_x_4 f1_x_0 f1_x_1 f1_x_2 f1_x_3 f1_x_4
  obtain ⟨⟨c2_x_0, c2_x_1, c2_x_2, c2_x_3, c2_x_4⟩, f2_x_0, f2_x_1, f2_x_2, f2_x_3, f2_x_4⟩ := K2_x
  obtain ⟨⟨c2_a_0, c2_a_1, c2_a_2, c2_a_3, c2_a_4⟩, f2_a_0, f2_a_1, f2_a_2, f2_a_3, f2_a_4⟩ := K2_a
  have l2_x : w.heap.size < w2.heap.size := by omega
  go_wp2_with fail
  go_returns
  exact ⟨rfl, by go_grown⟩

set_option maxHeartbeats 2000000 in
theorem twice_flip (a b c d k : Int) (w : World) (hx : vld ⟨⟨a, b, c, d⟩, k⟩ = true) :
    Calls Try.prog 48 #[.agg #[.int .i64 a, .int .i64 b, .int .i64 c, .int .i64 d, .int .i64 k], .func (Fn.func 36) #[] #[]] w fun e w' => e = .returned (.bool true) ∧ Below w.heap.size w w' := by
  have hy := vld_flip (k := k) hx
  have e1 := chg_ok (g := fun x => flipV x k) hx hy
  have e2 := chg_ok (g := fun x => flipV x k) hy (by show vld ⟨(fun x => flipV x k) ((fun x => flipV x k) ⟨a, b, c, d⟩), k⟩ = true; rw [show (fun x => flipV x k) ((fun x => flipV x k) ⟨a, b, c, d⟩) = ⟨a, b, c, d⟩ from flip_flip _ _]; exact hx)
  simp only at e1 e2
  obtain ⟨y0, y1, y2, y3, HP⟩ : ∃ y0 y1 y2 y3, Hid ((fun x => flipV x k) ⟨a, b, c, d⟩ = ⟨y0, y1, y2, y3⟩) := ⟨_, _, _, _, rfl⟩
  have HA : Hid (chgS ⟨⟨a, b, c, d⟩, k⟩ (fun x => flipV x k) = (⟨⟨y0, y1, y2, y3⟩, k⟩, 0)) := by rw [← HP.out]; exact e1
  have HB : Hid (chgS ⟨⟨y0, y1, y2, y3⟩, k⟩ (fun x => flipV x k) = (⟨⟨a, b, c, d⟩, k⟩, 0)) := by
    rw [← HP.out]
    refine e2.trans ?_
    show ((⟨(fun x => flipV x k) ((fun x => flipV x k) ⟨a, b, c, d⟩), k⟩ : Nm), (0 : Int)) = _
    rw [show (fun x => flipV x k) ((fun x => flipV x k) ⟨a, b, c, d⟩) = ⟨a, b, c, d⟩ from flip_flip _ _]
  clear e1 e2 hy hx
  go_enter Try.func48, Try.ntmps48
  go_wp2_with fail
  refine (Flip_any _ _ _ _ _ _).mono ?_
  rintro e w1 ⟨rfl, hb⟩
  rw [HA.out]
  unfold Ret5
  (try simp only)
  have K1_x : Has5 w1 (w.heap.size) a b c d k := Has5.keep (by refine ⟨⟨?_, ?_, ?_, ?_, ?_⟩, ?_, ?_, ?_, ?_, ?_⟩ <;> go_cell) hb (by first | omega | (simp; done) | (simp; omega))
  have D1 : Below w.heap.size w w1 := Below.trans (by go_grown) (hb.mono (by first | omega | (simp; done) | (simp; omega)))
  have s1 : w.heap.size < w1.heap.size := by have := hb.size; (try simp at this); omega
  clear hb
  obtain ⟨⟨c1_x_0, c1_x_1, c1_x_2, c1_x_3, c1_x_4⟩, f1_x_0, f1_x_1, f1_x_2, f1_x_3, f1_x_4⟩ := K1_x
  go_wp2_with fail
  refine (Flip_any _ _ _ _ _ _).mono ?_
  rintro e w2 ⟨rfl, hb⟩
  rw [HB.out]
  unfold Ret5
  (try simp only)
  have K2_x : Has5 w2 (w.heap.size) a b c d k := Has5.keep (by refine ⟨⟨?_, ?_, ?_, ?_, ?_⟩, ?_, ?_, ?_, ?_, ?_⟩ <;> go_cell) hb (by first | omega | (simp; done) | (simp; omega))
  have K2_a : Has5 w2 (w1.heap.size) y0 y1 y2 y3 k := Has5.keep (by refine ⟨⟨?_, ?_, ?_, ?_, ?_⟩, ?_, ?_, ?_, ?_, ?_⟩ <;> go_cell) hb (by first | omega | (simp; done) | (simp; omega))
  have D2 : Below w.heap.size w w2 := Below.trans (by go_grown) (hb.mono (by first | omega | (simp; done) | (simp; omega)))
  have s2 : w1.heap.size < w2.heap.size := by have := hb.size; (try simp at this); omega
  clear hb D1 c1_x_0 c1_x_1 c1_x_2 c1_x_3 c1_x_4 f1_x_0 f1_x_1 f1_x_2 f1_x_3 f1_x_4
  obtain ⟨⟨c2_x_0, c2_x_1, c2_x_2, c2_x_3, c2_x_4⟩, f2_x_0, f2_x_1, f2_x_2, f2_x_3, f2_x_4⟩ := K2_x
  obtain ⟨⟨c2_a_0, c2_a_1, c2_a_2, c2_a_3, c2_a_4⟩, f2_a_0, f2_a_1, f2_a_2, f2_a_3, f2_a_4⟩ := K2_a
  have l2_x : w.heap.size < w2.heap.size := by omega
  go_wp2_with fail
  go_returns
  exact ⟨rfl, by go_grown⟩

set_option maxRecDepth 100000 in
set_option maxHeartbeats 16000000 in
theorem AmpMirrors_bx (a b c d k p q r s l n : Int) (w : World) (hx : vld ⟨⟨a, b, c, d⟩, k⟩ = false) :
    Calls Try.prog 11 #[.agg #[.int .i64 a, .int .i64 b, .int .i64 c, .int .i64 d, .int .i64 k], .agg #[.int .i64 p, .int .i64 q, .int .i64 r, .int .i64 s, .int .i64 l], .int .i64 n] w fun e w' => e = .returned (.bool true) ∧ Below w.heap.size w w' := by
  go_enter Try.func11, Try.ntmps11
  go_wp2_with fail
  refine (Valid_any _ _ _ _ _ _).mono ?_
  rintro e w1 ⟨rfl, hb⟩
  simp only [hx]
  have K1_x : Has5 w1 (w.heap.size) a b c d k := Has5.keep (by refine ⟨⟨?_, ?_, ?_, ?_, ?_⟩, ?_, ?_, ?_, ?_, ?_⟩ <;> go_cell) hb (by first | omega | (simp; done) | (simp; omega))
  have K1_y : Has5 w1 (w.heap.size + 1) p q r s l := Has5.keep (by refine ⟨⟨?_, ?_, ?_, ?_, ?_⟩, ?_, ?_, ?_, ?_, ?_⟩ <;> go_cell) hb (by first | omega | (simp; done) | (simp; omega))
  have D1 : Below w.heap.size w w1 := Below.trans (by go_grown) (hb.mono (by first | omega | (simp; done) | (simp; omega)))
  have s1 : w.heap.size + 1 < w1.heap.size := by have := hb.size; (try simp at this); omega
  clear hb
  obtain ⟨⟨c1_x_0, c1_x_1, c1_x_2, c1_x_3, c1_x_4⟩, f1_x_0, f1_x_1, f1_x_2, f1_x_3, f1_x_4⟩ := K1_x
  obtain ⟨⟨c1_y_0, c1_y_1, c1_y_2, c1_y_3, c1_y_4⟩, f1_y_0, f1_y_1, f1_y_2, f1_y_3, f1_y_4⟩ := K1_y
  have l1_x : w.heap.size < w1.heap.size := by omega
  go_wp2_with fail
  refine (awake_any _).mono ?_
  rintro e w2 ⟨rfl, hb⟩
  have D2 : Below w.heap.size w w2 := Below.trans (by go_grown) (hb.mono (by first | omega | (simp; done) | (simp; omega)))
  clear hb
  go_wp2_with fail
  go_returns
  exact ⟨rfl, D2⟩

set_option maxRecDepth 100000 in
set_option maxHeartbeats 16000000 in
theorem AmpMirrors_by (a b c d k p q r s l n : Int) (w : World) (hx : vld ⟨⟨a, b, c, d⟩, k⟩ = true) (hy : vld ⟨⟨p, q, r, s⟩, l⟩ = false) :
    Calls Try.prog 11 #[.agg #[.int .i64 a, .int .i64 b, .int .i64 c, .int .i64 d, .int .i64 k], .agg #[.int .i64 p, .int .i64 q, .int .i64 r, .int .i64 s, .int .i64 l], .int .i64 n] w fun e w' => e = .returned (.bool true) ∧ Below w.heap.size w w' := by
  go_enter Try.func11, Try.ntmps11
  go_wp2_with fail
  refine (Valid_any _ _ _ _ _ _).mono ?_
  rintro e w1 ⟨rfl, hb⟩
  simp only [hx]
  have K1_x : Has5 w1 (w.heap.size) a b c d k := Has5.keep (by refine ⟨⟨?_, ?_, ?_, ?_, ?_⟩, ?_, ?_, ?_, ?_, ?_⟩ <;> go_cell) hb (by first | omega | (simp; done) | (simp; omega))
  have K1_y : Has5 w1 (w.heap.size + 1) p q r s l := Has5.keep (by refine ⟨⟨?_, ?_, ?_, ?_, ?_⟩, ?_, ?_, ?_, ?_, ?_⟩ <;> go_cell) hb (by first | omega | (simp; done) | (simp; omega))
  have D1 : Below w.heap.size w w1 := Below.trans (by go_grown) (hb.mono (by first | omega | (simp; done) | (simp; omega)))
  have s1 : w.heap.size + 1 < w1.heap.size := by have := hb.size; (try simp at this); omega
  clear hb
  obtain ⟨⟨c1_x_0, c1_x_1, c1_x_2, c1_x_3, c1_x_4⟩, f1_x_0, f1_x_1, f1_x_2, f1_x_3, f1_x_4⟩ := K1_x
  obtain ⟨⟨c1_y_0, c1_y_1, c1_y_2, c1_y_3, c1_y_4⟩, f1_y_0, f1_y_1, f1_y_2, f1_y_3, f1_y_4⟩ := K1_y
  have l1_x : w.heap.size < w1.heap.size := by omega
  go_wp2_with fail
  refine (Valid_any _ _ _ _ _ _).mono ?_
  rintro e w2 ⟨rfl, hb⟩
  simp only [hy]
  have K2_x : Has5 w2 (w.heap.size) a b c d k := Has5.keep (by refine ⟨⟨?_, ?_, ?_, ?_, ?_⟩, ?_, ?_, ?_, ?_, ?_⟩ <;> go_cell) hb (by first | omega | (simp; done) | (simp; omega))
  have K2_y : Has5 w2 (w.heap.size + 1) p q r s l := Has5.keep (by refine ⟨⟨?_, ?_, ?_, ?_, ?_⟩, ?_, ?_, ?_, ?_, ?_⟩ <;> go_cell) hb (by first | omega | (simp; done) | (simp; omega))
  have D2 : Below w.heap.size w w2 := Below.trans (by go_grown) (hb.mono (by first | omega | (simp; done) | (simp; omega)))
  have s2 : w.heap.size + 1 < w2.heap.size := by have := hb.size; (try simp at this); omega
  clear hb D1 c1_x_0 c1_x_1 c1_x_2 c1_x_3 c1_x_4 f1_x_0 f1_x_1 f1_x_2 f1_x_3 f1_x_4 c1_y_0 c1_y_1 c1_y_2 c1_y_3 c1_y_4 f1_y_0 f1_y_1 f1_y_2 f1_y_3 f1_y_4
  obtain ⟨⟨c2_x_0, c2_x_1, c2_x_2, c2_x_3, c2_x_4⟩, f2_x_0, f2_x_1, f2_x_2, f2_x_3, f2_x_4⟩ := K2_x
  obtain ⟨⟨c2_y_0, c2_y_1, c2_y_2, c2_y_3, c2_y_4⟩, f2_y_0, f2_y_1, f2_y_2, f2_y_3, f2_y_4⟩ := K2_y
  have l2_x : w.heap.size < w2.heap.size := by omega
  go_wp2_with fail
  refine (awake_any _).mono ?_
  rintro e w3 ⟨rfl, hb⟩
  have D3 : Below w.heap.size w w3 := Below.trans (by go_grown) (hb.mono (by first | omega | (simp; done) | (simp; omega)))
  clear hb
  go_wp2_with fail
  go_returns
  exact ⟨rfl, D3⟩

set_option maxRecDepth 100000 in
set_option maxHeartbeats 16000000 in
theorem AmpMirrors_bm (a b c d k p q r s l n : Int) (g0 g1 g2 g3 g4 i0 i1 i2 i3 i4 m0 m1 m2 m3 m4 me : Int) (w : World) (hx : vld ⟨⟨a, b, c, d⟩, k⟩ = true) (hy : vld ⟨⟨p, q, r, s⟩, l⟩ = true) (t0 : -999 ≤ n.tmod 1000) (t1 : n.tmod 1000 ≤ 999)
    (H8 : Hid (chgS ⟨⟨a, b, c, d⟩, k⟩ (fun x => rotn ((8 : Int) % 8).toNat x) = (⟨⟨a, b, c, d⟩, k⟩, 0))) (H4 : Hid (chgS ⟨⟨a, b, c, d⟩, k⟩ (fun x => rotn ((4 : Int) % 8).toNat x) = (⟨⟨g0, g1, g2, g3⟩, g4⟩, 0))) (HN : Hid (chgS ⟨⟨a, b, c, d⟩, k⟩ neg = (⟨⟨g0, g1, g2, g3⟩, g4⟩, 0)))
    (HS : Hid (chgS ⟨⟨a, b, c, d⟩, k⟩ (fun x => rotn ((n.tmod 1000) % 8).toNat x) = (⟨⟨i0, i1, i2, i3⟩, i4⟩, 0))) (HB : Hid (chgS ⟨⟨i0, i1, i2, i3⟩, i4⟩ (fun x => rotn ((-(n.tmod 1000)) % 8).toNat x) = (⟨⟨a, b, c, d⟩, k⟩, 0)))
    (HM : Hid (mulS ⟨⟨a, b, c, d⟩, k⟩ ⟨⟨p, q, r, s⟩, l⟩ = (⟨⟨m0, m1, m2, m3⟩, m4⟩, me))) (hme : ¬ me = 0) :
    Calls Try.prog 11 #[.agg #[.int .i64 a, .int .i64 b, .int .i64 c, .int .i64 d, .int .i64 k], .agg #[.int .i64 p, .int .i64 q, .int .i64 r, .int .i64 s, .int .i64 l], .int .i64 n] w fun e w' => e = .returned (.bool true) ∧ Below w.heap.size w w' := by
  go_enter Try.func11, Try.ntmps11
  go_wp2_with fail
  refine (Valid_any _ _ _ _ _ _).mono ?_
  rintro e w1 ⟨rfl, hb⟩
  simp only [hx]
  have K1_x : Has5 w1 (w.heap.size) a b c d k := Has5.keep (by refine ⟨⟨?_, ?_, ?_, ?_, ?_⟩, ?_, ?_, ?_, ?_, ?_⟩ <;> go_cell) hb (by first | omega | (simp; done) | (simp; omega))
  have K1_y : Has5 w1 (w.heap.size + 1) p q r s l := Has5.keep (by refine ⟨⟨?_, ?_, ?_, ?_, ?_⟩, ?_, ?_, ?_, ?_, ?_⟩ <;> go_cell) hb (by first | omega | (simp; done) | (simp; omega))
  have D1 : Below w.heap.size w w1 := Below.trans (by go_grown) (hb.mono (by first | omega | (simp; done) | (simp; omega)))
  have s1 : w.heap.size + 1 < w1.heap.size := by have := hb.size; (try simp at this); omega
  clear hb
  obtain ⟨⟨c1_x_0, c1_x_1, c1_x_2, c1_x_3, c1_x_4⟩, f1_x_0, f1_x_1, f1_x_2, f1_x_3, f1_x_4⟩ := K1_x
  obtain ⟨⟨c1_y_0, c1_y_1, c1_y_2, c1_y_3, c1_y_4⟩, f1_y_0, f1_y_1, f1_y_2, f1_y_3, f1_y_4⟩ := K1_y
  have l1_x : w.heap.size < w1.heap.size := by omega
  go_wp2_with fail
  refine (Valid_any _ _ _ _ _ _).mono ?_
  rintro e w2 ⟨rfl, hb⟩
  simp only [hy]
  have K2_x : Has5 w2 (w.heap.size) a b c d k := Has5.keep (by refine ⟨⟨?_, ?_, ?_, ?_, ?_⟩, ?_, ?_, ?_, ?_, ?_⟩ <;> go_cell) hb (by first | omega | (simp; done) | (simp; omega))
  have K2_y : Has5 w2 (w.heap.size + 1) p q r s l := Has5.keep (by refine ⟨⟨?_, ?_, ?_, ?_, ?_⟩, ?_, ?_, ?_, ?_, ?_⟩ <;> go_cell) hb (by first | omega | (simp; done) | (simp; omega))
  have D2 : Below w.heap.size w w2 := Below.trans (by go_grown) (hb.mono (by first | omega | (simp; done) | (simp; omega)))
  have s2 : w.heap.size + 1 < w2.heap.size := by have := hb.size; (try simp at this); omega
  clear hb D1 c1_x_0 c1_x_1 c1_x_2 c1_x_3 c1_x_4 f1_x_0 f1_x_1 f1_x_2 f1_x_3 f1_x_4 c1_y_0 c1_y_1 c1_y_2 c1_y_3 c1_y_4 f1_y_0 f1_y_1 f1_y_2 f1_y_3 f1_y_4
  obtain ⟨⟨c2_x_0, c2_x_1, c2_x_2, c2_x_3, c2_x_4⟩, f2_x_0, f2_x_1, f2_x_2, f2_x_3, f2_x_4⟩ := K2_x
  obtain ⟨⟨c2_y_0, c2_y_1, c2_y_2, c2_y_3, c2_y_4⟩, f2_y_0, f2_y_1, f2_y_2, f2_y_3, f2_y_4⟩ := K2_y
  have l2_x : w.heap.size < w2.heap.size := by omega
  have HX := Lib.hid hx
  have HY := Lib.hid hy
  clear hx hy
  go_wp2_with fail
  refine (twice_neg _ _ _ _ _ _ HX.out).mono ?_
  rintro e w3 ⟨rfl, hb⟩
  have K3_x : Has5 w3 (w.heap.size) a b c d k := Has5.keep (by refine ⟨⟨?_, ?_, ?_, ?_, ?_⟩, ?_, ?_, ?_, ?_, ?_⟩ <;> go_cell) hb (by first | omega | (simp; done) | (simp; omega))
  have K3_y : Has5 w3 (w.heap.size + 1) p q r s l := Has5.keep (by refine ⟨⟨?_, ?_, ?_, ?_, ?_⟩, ?_, ?_, ?_, ?_, ?_⟩ <;> go_cell) hb (by first | omega | (simp; done) | (simp; omega))
  have D3 : Below w.heap.size w w3 := Below.trans (by go_grown) (hb.mono (by first | omega | (simp; done) | (simp; omega)))
  have s3 : w.heap.size + 1 < w3.heap.size := by have := hb.size; (try simp at this); omega
  clear hb D2 c2_x_0 c2_x_1 c2_x_2 c2_x_3 c2_x_4 f2_x_0 f2_x_1 f2_x_2 f2_x_3 f2_x_4 c2_y_0 c2_y_1 c2_y_2 c2_y_3 c2_y_4 f2_y_0 f2_y_1 f2_y_2 f2_y_3 f2_y_4
  obtain ⟨⟨c3_x_0, c3_x_1, c3_x_2, c3_x_3, c3_x_4⟩, f3_x_0, f3_x_1, f3_x_2, f3_x_3, f3_x_4⟩ := K3_x
  obtain ⟨⟨c3_y_0, c3_y_1, c3_y_2, c3_y_3, c3_y_4⟩, f3_y_0, f3_y_1, f3_y_2, f3_y_3, f3_y_4⟩ := K3_y
  have l3_x : w.heap.size < w3.heap.size := by omega
  go_wp2_with fail
  refine (twice_conj _ _ _ _ _ _ HX.out).mono ?_
  rintro e w4 ⟨rfl, hb⟩
  have K4_x : Has5 w4 (w.heap.size) a b c d k := Has5.keep (by refine ⟨⟨?_, ?_, ?_, ?_, ?_⟩, ?_, ?_, ?_, ?_, ?_⟩ <;> go_cell) hb (by first | omega | (simp; done) | (simp; omega))
  have K4_y : Has5 w4 (w.heap.size + 1) p q r s l := Has5.keep (by refine ⟨⟨?_, ?_, ?_, ?_, ?_⟩, ?_, ?_, ?_, ?_, ?_⟩ <;> go_cell) hb (by first | omega | (simp; done) | (simp; omega))
  have D4 : Below w.heap.size w w4 := Below.trans (by go_grown) (hb.mono (by first | omega | (simp; done) | (simp; omega)))
  have s4 : w.heap.size + 1 < w4.heap.size := by have := hb.size; (try simp at this); omega
  clear hb D3 c3_x_0 c3_x_1 c3_x_2 c3_x_3 c3_x_4 f3_x_0 f3_x_1 f3_x_2 f3_x_3 f3_x_4 c3_y_0 c3_y_1 c3_y_2 c3_y_3 c3_y_4 f3_y_0 f3_y_1 f3_y_2 f3_y_3 f3_y_4
  obtain ⟨⟨c4_x_0, c4_x_1, c4_x_2, c4_x_3, c4_x_4⟩, f4_x_0, f4_x_1, f4_x_2, f4_x_3, f4_x_4⟩ := K4_x
  obtain ⟨⟨c4_y_0, c4_y_1, c4_y_2, c4_y_3, c4_y_4⟩, f4_y_0, f4_y_1, f4_y_2, f4_y_3, f4_y_4⟩ := K4_y
  have l4_x : w.heap.size < w4.heap.size := by omega
  go_wp2_with fail
  refine (twice_flip _ _ _ _ _ _ HX.out).mono ?_
  rintro e w5 ⟨rfl, hb⟩
  have K5_x : Has5 w5 (w.heap.size) a b c d k := Has5.keep (by refine ⟨⟨?_, ?_, ?_, ?_, ?_⟩, ?_, ?_, ?_, ?_, ?_⟩ <;> go_cell) hb (by first | omega | (simp; done) | (simp; omega))
  have K5_y : Has5 w5 (w.heap.size + 1) p q r s l := Has5.keep (by refine ⟨⟨?_, ?_, ?_, ?_, ?_⟩, ?_, ?_, ?_, ?_, ?_⟩ <;> go_cell) hb (by first | omega | (simp; done) | (simp; omega))
  have D5 : Below w.heap.size w w5 := Below.trans (by go_grown) (hb.mono (by first | omega | (simp; done) | (simp; omega)))
  have s5 : w.heap.size + 1 < w5.heap.size := by have := hb.size; (try simp at this); omega
  clear hb D4 c4_x_0 c4_x_1 c4_x_2 c4_x_3 c4_x_4 f4_x_0 f4_x_1 f4_x_2 f4_x_3 f4_x_4 c4_y_0 c4_y_1 c4_y_2 c4_y_3 c4_y_4 f4_y_0 f4_y_1 f4_y_2 f4_y_3 f4_y_4
  obtain ⟨⟨c5_x_0, c5_x_1, c5_x_2, c5_x_3, c5_x_4⟩, f5_x_0, f5_x_1, f5_x_2, f5_x_3, f5_x_4⟩ := K5_x
  obtain ⟨⟨c5_y_0, c5_y_1, c5_y_2, c5_y_3, c5_y_4⟩, f5_y_0, f5_y_1, f5_y_2, f5_y_3, f5_y_4⟩ := K5_y
  have l5_x : w.heap.size < w5.heap.size := by omega
  go_wp2_with fail
  refine (Turn_any _ _ _ _ _ _ _).mono ?_
  rintro e w6 ⟨rfl, hb⟩
  rw [H8.out]
  unfold Ret5
  (try simp only)
  have K6_x : Has5 w6 (w.heap.size) a b c d k := Has5.keep (by refine ⟨⟨?_, ?_, ?_, ?_, ?_⟩, ?_, ?_, ?_, ?_, ?_⟩ <;> go_cell) hb (by first | omega | (simp; done) | (simp; omega))
  have K6_y : Has5 w6 (w.heap.size + 1) p q r s l := Has5.keep (by refine ⟨⟨?_, ?_, ?_, ?_, ?_⟩, ?_, ?_, ?_, ?_, ?_⟩ <;> go_cell) hb (by first | omega | (simp; done) | (simp; omega))
  have D6 : Below w.heap.size w w6 := Below.trans (by go_grown) (hb.mono (by first | omega | (simp; done) | (simp; omega)))
  have s6 : w.heap.size + 1 < w6.heap.size := by have := hb.size; (try simp at this); omega
  clear hb D5 c5_x_0 c5_x_1 c5_x_2 c5_x_3 c5_x_4 f5_x_0 f5_x_1 f5_x_2 f5_x_3 f5_x_4 c5_y_0 c5_y_1 c5_y_2 c5_y_3 c5_y_4 f5_y_0 f5_y_1 f5_y_2 f5_y_3 f5_y_4
  obtain ⟨⟨c6_x_0, c6_x_1, c6_x_2, c6_x_3, c6_x_4⟩, f6_x_0, f6_x_1, f6_x_2, f6_x_3, f6_x_4⟩ := K6_x
  obtain ⟨⟨c6_y_0, c6_y_1, c6_y_2, c6_y_3, c6_y_4⟩, f6_y_0, f6_y_1, f6_y_2, f6_y_3, f6_y_4⟩ := K6_y
  have l6_x : w.heap.size < w6.heap.size := by omega
  go_wp2_with fail
  refine (Turn_any _ _ _ _ _ _ _).mono ?_
  rintro e w7 ⟨rfl, hb⟩
  rw [H4.out]
  unfold Ret5
  (try simp only)
  have K7_x : Has5 w7 (w.heap.size) a b c d k := Has5.keep (by refine ⟨⟨?_, ?_, ?_, ?_, ?_⟩, ?_, ?_, ?_, ?_, ?_⟩ <;> go_cell) hb (by first | omega | (simp; done) | (simp; omega))
  have K7_y : Has5 w7 (w.heap.size + 1) p q r s l := Has5.keep (by refine ⟨⟨?_, ?_, ?_, ?_, ?_⟩, ?_, ?_, ?_, ?_, ?_⟩ <;> go_cell) hb (by first | omega | (simp; done) | (simp; omega))
  have K7_full : Has5 w7 (w6.heap.size) a b c d k := Has5.keep (by refine ⟨⟨?_, ?_, ?_, ?_, ?_⟩, ?_, ?_, ?_, ?_, ?_⟩ <;> go_cell) hb (by first | omega | (simp; done) | (simp; omega))
  have D7 : Below w.heap.size w w7 := Below.trans (by go_grown) (hb.mono (by first | omega | (simp; done) | (simp; omega)))
  have s7 : w6.heap.size < w7.heap.size := by have := hb.size; (try simp at this); omega
  clear hb D6 c6_x_0 c6_x_1 c6_x_2 c6_x_3 c6_x_4 f6_x_0 f6_x_1 f6_x_2 f6_x_3 f6_x_4 c6_y_0 c6_y_1 c6_y_2 c6_y_3 c6_y_4 f6_y_0 f6_y_1 f6_y_2 f6_y_3 f6_y_4
  obtain ⟨⟨c7_x_0, c7_x_1, c7_x_2, c7_x_3, c7_x_4⟩, f7_x_0, f7_x_1, f7_x_2, f7_x_3, f7_x_4⟩ := K7_x
  obtain ⟨⟨c7_y_0, c7_y_1, c7_y_2, c7_y_3, c7_y_4⟩, f7_y_0, f7_y_1, f7_y_2, f7_y_3, f7_y_4⟩ := K7_y
  obtain ⟨⟨c7_full_0, c7_full_1, c7_full_2, c7_full_3, c7_full_4⟩, f7_full_0, f7_full_1, f7_full_2, f7_full_3, f7_full_4⟩ := K7_full
  have l7_x : w.heap.size < w7.heap.size := by omega
  have l7_y : w.heap.size + 1 < w7.heap.size := by omega
  go_wp2_with fail
  refine (Neg_any _ _ _ _ _ _).mono ?_
  rintro e w8 ⟨rfl, hb⟩
  rw [HN.out]
  unfold Ret5
  (try simp only)
  have K8_x : Has5 w8 (w.heap.size) a b c d k := Has5.keep (by refine ⟨⟨?_, ?_, ?_, ?_, ?_⟩, ?_, ?_, ?_, ?_, ?_⟩ <;> go_cell) hb (by first | omega | (simp; done) | (simp; omega))
  have K8_y : Has5 w8 (w.heap.size + 1) p q r s l := Has5.keep (by refine ⟨⟨?_, ?_, ?_, ?_, ?_⟩, ?_, ?_, ?_, ?_, ?_⟩ <;> go_cell) hb (by first | omega | (simp; done) | (simp; omega))
  have K8_full : Has5 w8 (w6.heap.size) a b c d k := Has5.keep (by refine ⟨⟨?_, ?_, ?_, ?_, ?_⟩, ?_, ?_, ?_, ?_, ?_⟩ <;> go_cell) hb (by first | omega | (simp; done) | (simp; omega))
  have K8_half : Has5 w8 (w7.heap.size) g0 g1 g2 g3 g4 := Has5.keep (by refine ⟨⟨?_, ?_, ?_, ?_, ?_⟩, ?_, ?_, ?_, ?_, ?_⟩ <;> go_cell) hb (by first | omega | (simp; done) | (simp; omega))
  have D8 : Below w.heap.size w w8 := Below.trans (by go_grown) (hb.mono (by first | omega | (simp; done) | (simp; omega)))
  have s8 : w7.heap.size < w8.heap.size := by have := hb.size; (try simp at this); omega
  clear hb D7 c7_x_0 c7_x_1 c7_x_2 c7_x_3 c7_x_4 f7_x_0 f7_x_1 f7_x_2 f7_x_3 f7_x_4 c7_y_0 c7_y_1 c7_y_2 c7_y_3 c7_y_4 f7_y_0 f7_y_1 f7_y_2 f7_y_3 f7_y_4 c7_full_0 c7_full_1 c7_full_2 c7_full_3 c7_full_4 f7_full_0 f7_full_1 f7_full_2 f7_full_3 f7_full_4
  obtain ⟨⟨c8_x_0, c8_x_1, c8_x_2, c8_x_3, c8_x_4⟩, f8_x_0, f8_x_1, f8_x_2, f8_x_3, f8_x_4⟩ := K8_x
  obtain ⟨⟨c8_y_0, c8_y_1, c8_y_2, c8_y_3, c8_y_4⟩, f8_y_0, f8_y_1, f8_y_2, f8_y_3, f8_y_4⟩ := K8_y
  obtain ⟨⟨c8_full_0, c8_full_1, c8_full_2, c8_full_3, c8_full_4⟩, f8_full_0, f8_full_1, f8_full_2, f8_full_3, f8_full_4⟩ := K8_full
  obtain ⟨⟨c8_half_0, c8_half_1, c8_half_2, c8_half_3, c8_half_4⟩, f8_half_0, f8_half_1, f8_half_2, f8_half_3, f8_half_4⟩ := K8_half
  have l8_x : w.heap.size < w8.heap.size := by omega
  have l8_y : w.heap.size + 1 < w8.heap.size := by omega
  have l8_full : w6.heap.size < w8.heap.size := by omega
  go_wp2_with fail
  refine (Turn_any _ _ _ _ _ _ _).mono ?_
  rintro e w9 ⟨rfl, hb⟩
  rw [HS.out]
  unfold Ret5
  (try simp only)
  have K9_x : Has5 w9 (w.heap.size) a b c d k := Has5.keep (by refine ⟨⟨?_, ?_, ?_, ?_, ?_⟩, ?_, ?_, ?_, ?_, ?_⟩ <;> go_cell) hb (by first | omega | (simp; done) | (simp; omega))
  have K9_y : Has5 w9 (w.heap.size + 1) p q r s l := Has5.keep (by refine ⟨⟨?_, ?_, ?_, ?_, ?_⟩, ?_, ?_, ?_, ?_, ?_⟩ <;> go_cell) hb (by first | omega | (simp; done) | (simp; omega))
  have K9_full : Has5 w9 (w6.heap.size) a b c d k := Has5.keep (by refine ⟨⟨?_, ?_, ?_, ?_, ?_⟩, ?_, ?_, ?_, ?_, ?_⟩ <;> go_cell) hb (by first | omega | (simp; done) | (simp; omega))
  have K9_half : Has5 w9 (w7.heap.size) g0 g1 g2 g3 g4 := Has5.keep (by refine ⟨⟨?_, ?_, ?_, ?_, ?_⟩, ?_, ?_, ?_, ?_, ?_⟩ <;> go_cell) hb (by first | omega | (simp; done) | (simp; omega))
  have K9_neg : Has5 w9 (w8.heap.size) g0 g1 g2 g3 g4 := Has5.keep (by refine ⟨⟨?_, ?_, ?_, ?_, ?_⟩, ?_, ?_, ?_, ?_, ?_⟩ <;> go_cell) hb (by first | omega | (simp; done) | (simp; omega))
  have D9 : Below w.heap.size w w9 := Below.trans (by go_grown) (hb.mono (by first | omega | (simp; done) | (simp; omega)))
  have s9 : w8.heap.size < w9.heap.size := by have := hb.size; (try simp at this); omega
  clear hb D8 c8_x_0 c8_x_1 c8_x_2 c8_x_3 c8_x_4 f8_x_0 f8_x_1 f8_x_2 f8_x_3 f8_x_4 c8_y_0 c8_y_1 c8_y_2 c8_y_3 c8_y_4 f8_y_0 f8_y_1 f8_y_2 f8_y_3 f8_y_4 c8_full_0 c8_full_1 c8_full_2 c8_full_3 c8_full_4 f8_full_0 f8_full_1 f8_full_2 f8_full_3 f8_full_4 c8_half_0 c8_half_1 c8_half_2 c8_half_3 c8_half_4 f8_half_0 f8_half_1 f8_half_2 f8_half_3 f8_half_4
  obtain ⟨⟨c9_x_0, c9_x_1, c9_x_2, c9_x_3, c9_x_4⟩, f9_x_0, f9_x_1, f9_x_2, f9_x_3, f9_x_4⟩ := K9_x
  obtain ⟨⟨c9_y_0, c9_y_1, c9_y_2, c9_y_3, c9_y_4⟩, f9_y_0, f9_y_1, f9_y_2, f9_y_3, f9_y_4⟩ := K9_y
  obtain ⟨⟨c9_full_0, c9_full_1, c9_full_2, c9_full_3, c9_full_4⟩, f9_full_0, f9_full_1, f9_full_2, f9_full_3, f9_full_4⟩ := K9_full
  obtain ⟨⟨c9_half_0, c9_half_1, c9_half_2, c9_half_3, c9_half_4⟩, f9_half_0, f9_half_1, f9_half_2, f9_half_3, f9_half_4⟩ := K9_half
  obtain ⟨⟨c9_neg_0, c9_neg_1, c9_neg_2, c9_neg_3, c9_neg_4⟩, f9_neg_0, f9_neg_1, f9_neg_2, f9_neg_3, f9_neg_4⟩ := K9_neg
  have l9_x : w.heap.size < w9.heap.size := by omega
  have l9_y : w.heap.size + 1 < w9.heap.size := by omega
  have l9_full : w6.heap.size < w9.heap.size := by omega
  have l9_half : w7.heap.size < w9.heap.size := by omega
  go_wp2_with fail
  refine (Turn_any _ _ _ _ _ _ _).mono ?_
  rintro e w10 ⟨rfl, hb⟩
  rw [HB.out]
  unfold Ret5
  (try simp only)
  have K10_x : Has5 w10 (w.heap.size) a b c d k := Has5.keep (by refine ⟨⟨?_, ?_, ?_, ?_, ?_⟩, ?_, ?_, ?_, ?_, ?_⟩ <;> go_cell) hb (by first | omega | (simp; done) | (simp; omega))
  have K10_y : Has5 w10 (w.heap.size + 1) p q r s l := Has5.keep (by refine ⟨⟨?_, ?_, ?_, ?_, ?_⟩, ?_, ?_, ?_, ?_, ?_⟩ <;> go_cell) hb (by first | omega | (simp; done) | (simp; omega))
  have K10_full : Has5 w10 (w6.heap.size) a b c d k := Has5.keep (by refine ⟨⟨?_, ?_, ?_, ?_, ?_⟩, ?_, ?_, ?_, ?_, ?_⟩ <;> go_cell) hb (by first | omega | (simp; done) | (simp; omega))
  have K10_half : Has5 w10 (w7.heap.size) g0 g1 g2 g3 g4 := Has5.keep (by refine ⟨⟨?_, ?_, ?_, ?_, ?_⟩, ?_, ?_, ?_, ?_, ?_⟩ <;> go_cell) hb (by first | omega | (simp; done) | (simp; omega))
  have K10_neg : Has5 w10 (w8.heap.size) g0 g1 g2 g3 g4 := Has5.keep (by refine ⟨⟨?_, ?_, ?_, ?_, ?_⟩, ?_, ?_, ?_, ?_, ?_⟩ <;> go_cell) hb (by first | omega | (simp; done) | (simp; omega))
  have K10_some : Has5 w10 (w9.heap.size) i0 i1 i2 i3 i4 := Has5.keep (by refine ⟨⟨?_, ?_, ?_, ?_, ?_⟩, ?_, ?_, ?_, ?_, ?_⟩ <;> go_cell) hb (by first | omega | (simp; done) | (simp; omega))
  have D10 : Below w.heap.size w w10 := Below.trans (by go_grown) (hb.mono (by first | omega | (simp; done) | (simp; omega)))
  have s10 : w9.heap.size < w10.heap.size := by have := hb.size; (try simp at this); omega
  clear hb D9 c9_x_0 c9_x_1 c9_x_2 c9_x_3 c9_x_4 f9_x_0 f9_x_1 f9_x_2 f9_x_3 f9_x_4 c9_y_0 c9_y_1 c9_y_2 c9_y_3 c9_y_4 f9_y_0 f9_y_1 f9_y_2 f9_y_3 f9_y_4 c9_full_0 c9_full_1 c9_full_2 c9_full_3 c9_full_4 f9_full_0 f9_full_1 f9_full_2 f9_full_3 f9_full_4 c9_half_0 c9_half_1 c9_half_2 c9_half_3 c9_half_4 f9_half_0 f9_half_1 f9_half_2 f9_half_3 f9_half_4 c9_neg_0 c9_neg_1 c9_neg_2 c9_neg_3 c9_neg_4 f9_neg_0 f9_neg_1 f9_neg_2 f9_neg_3 f9_neg_4
  obtain ⟨⟨c10_x_0, c10_x_1, c10_x_2, c10_x_3, c10_x_4⟩, f10_x_0, f10_x_1, f10_x_2, f10_x_3, f10_x_4⟩ := K10_x
  obtain ⟨⟨c10_y_0, c10_y_1, c10_y_2, c10_y_3, c10_y_4⟩, f10_y_0, f10_y_1, f10_y_2, f10_y_3, f10_y_4⟩ := K10_y
  obtain ⟨⟨c10_full_0, c10_full_1, c10_full_2, c10_full_3, c10_full_4⟩, f10_full_0, f10_full_1, f10_full_2, f10_full_3, f10_full_4⟩ := K10_full
  obtain ⟨⟨c10_half_0, c10_half_1, c10_half_2, c10_half_3, c10_half_4⟩, f10_half_0, f10_half_1, f10_half_2, f10_half_3, f10_half_4⟩ := K10_half
  obtain ⟨⟨c10_neg_0, c10_neg_1, c10_neg_2, c10_neg_3, c10_neg_4⟩, f10_neg_0, f10_neg_1, f10_neg_2, f10_neg_3, f10_neg_4⟩ := K10_neg
  obtain ⟨⟨c10_some_0, c10_some_1, c10_some_2, c10_some_3, c10_some_4⟩, f10_some_0, f10_some_1, f10_some_2, f10_some_3, f10_some_4⟩ := K10_some
  have l10_x : w.heap.size < w10.heap.size := by omega
  have l10_y : w.heap.size + 1 < w10.heap.size := by omega
  have l10_full : w6.heap.size < w10.heap.size := by omega
  have l10_half : w7.heap.size < w10.heap.size := by omega
  have l10_neg : w8.heap.size < w10.heap.size := by omega
  go_wp2_with fail
  refine (Mul_any _ _ _ _ _ _ _ _ _ _ _).mono ?_
  rintro e w11 ⟨rfl, hb⟩
  rw [HM.out]
  unfold Ret5
  (try simp only)
  have K11_x : Has5 w11 (w.heap.size) a b c d k := Has5.keep (by refine ⟨⟨?_, ?_, ?_, ?_, ?_⟩, ?_, ?_, ?_, ?_, ?_⟩ <;> go_cell) hb (by first | omega | (simp; done) | (simp; omega))
  have K11_y : Has5 w11 (w.heap.size + 1) p q r s l := Has5.keep (by refine ⟨⟨?_, ?_, ?_, ?_, ?_⟩, ?_, ?_, ?_, ?_, ?_⟩ <;> go_cell) hb (by first | omega | (simp; done) | (simp; omega))
  have K11_full : Has5 w11 (w6.heap.size) a b c d k := Has5.keep (by refine ⟨⟨?_, ?_, ?_, ?_, ?_⟩, ?_, ?_, ?_, ?_, ?_⟩ <;> go_cell) hb (by first | omega | (simp; done) | (simp; omega))
  have K11_half : Has5 w11 (w7.heap.size) g0 g1 g2 g3 g4 := Has5.keep (by refine ⟨⟨?_, ?_, ?_, ?_, ?_⟩, ?_, ?_, ?_, ?_, ?_⟩ <;> go_cell) hb (by first | omega | (simp; done) | (simp; omega))
  have K11_neg : Has5 w11 (w8.heap.size) g0 g1 g2 g3 g4 := Has5.keep (by refine ⟨⟨?_, ?_, ?_, ?_, ?_⟩, ?_, ?_, ?_, ?_, ?_⟩ <;> go_cell) hb (by first | omega | (simp; done) | (simp; omega))
  have K11_some : Has5 w11 (w9.heap.size) i0 i1 i2 i3 i4 := Has5.keep (by refine ⟨⟨?_, ?_, ?_, ?_, ?_⟩, ?_, ?_, ?_, ?_, ?_⟩ <;> go_cell) hb (by first | omega | (simp; done) | (simp; omega))
  have K11_back : Has5 w11 (w10.heap.size) a b c d k := Has5.keep (by refine ⟨⟨?_, ?_, ?_, ?_, ?_⟩, ?_, ?_, ?_, ?_, ?_⟩ <;> go_cell) hb (by first | omega | (simp; done) | (simp; omega))
  have D11 : Below w.heap.size w w11 := Below.trans (by go_grown) (hb.mono (by first | omega | (simp; done) | (simp; omega)))
  have s11 : w10.heap.size < w11.heap.size := by have := hb.size; (try simp at this); omega
  clear hb D10 c10_x_0 c10_x_1 c10_x_2 c10_x_3 c10_x_4 f10_x_0 f10_x_1 f10_x_2 f10_x_3 f10_x_4 c10_y_0 c10_y_1 c10_y_2 c10_y_3 c10_y_4 f10_y_0 f10_y_1 f10_y_2 f10_y_3 f10_y_4 c10_full_0 c10_full_1 c10_full_2 c10_full_3 c10_full_4 f10_full_0 f10_full_1 f10_full_2 f10_full_3 f10_full_4 c10_half_0 c10_half_1 c10_half_2 c10_half_3 c10_half_4 f10_half_0 f10_half_1 f10_half_2 f10_half_3 f10_half_4 c10_neg_0 c10_neg_1 c10_neg_2 c10_neg_3 c10_neg_4 f10_neg_0 f10_neg_1 f10_neg_2 f10_neg_3 f10_neg_4 c10_some_0 c10_some_1 c10_some_2 c10_some_3 c10_some_4 f10_some_0 f10_some_1 f10_some_2 f10_some_3 f10_some_4
  obtain ⟨⟨c11_x_0, c11_x_1, c11_x_2, c11_x_3, c11_x_4⟩, f11_x_0, f11_x_1, f11_x_2, f11_x_3, f11_x_4⟩ := K11_x
  obtain ⟨⟨c11_y_0, c11_y_1, c11_y_2, c11_y_3, c11_y_4⟩, f11_y_0, f11_y_1, f11_y_2, f11_y_3, f11_y_4⟩ := K11_y
  obtain ⟨⟨c11_full_0, c11_full_1, c11_full_2, c11_full_3, c11_full_4⟩, f11_full_0, f11_full_1, f11_full_2, f11_full_3, f11_full_4⟩ := K11_full
  obtain ⟨⟨c11_half_0, c11_half_1, c11_half_2, c11_half_3, c11_half_4⟩, f11_half_0, f11_half_1, f11_half_2, f11_half_3, f11_half_4⟩ := K11_half
  obtain ⟨⟨c11_neg_0, c11_neg_1, c11_neg_2, c11_neg_3, c11_neg_4⟩, f11_neg_0, f11_neg_1, f11_neg_2, f11_neg_3, f11_neg_4⟩ := K11_neg
  obtain ⟨⟨c11_some_0, c11_some_1, c11_some_2, c11_some_3, c11_some_4⟩, f11_some_0, f11_some_1, f11_some_2, f11_some_3, f11_some_4⟩ := K11_some
  obtain ⟨⟨c11_back_0, c11_back_1, c11_back_2, c11_back_3, c11_back_4⟩, f11_back_0, f11_back_1, f11_back_2, f11_back_3, f11_back_4⟩ := K11_back
  have l11_x : w.heap.size < w11.heap.size := by omega
  have l11_y : w.heap.size + 1 < w11.heap.size := by omega
  have l11_full : w6.heap.size < w11.heap.size := by omega
  have l11_half : w7.heap.size < w11.heap.size := by omega
  have l11_neg : w8.heap.size < w11.heap.size := by omega
  have l11_some : w9.heap.size < w11.heap.size := by omega
  go_wp2_with fail
  refine (awake_any _).mono ?_
  rintro e w12 ⟨rfl, hb⟩
  have D12 : Below w.heap.size w w12 := Below.trans (by go_grown) (hb.mono (by first | omega | (simp; done) | (simp; omega)))
  clear hb
  go_wp2_with fail
  go_returns
  exact ⟨rfl, D12⟩

set_option maxRecDepth 100000 in
set_option maxHeartbeats 16000000 in
theorem AmpMirrors_ok (a b c d k p q r s l n : Int) (g0 g1 g2 g3 g4 i0 i1 i2 i3 i4 m0 m1 m2 m3 m4 x0 x1 x2 x3 y0 y1 y2 y3 z0 z1 z2 z3 x0' x1' x2' x3' y0' y1' y2' y3' z0' z1' z2' z3' : Int) (w : World) (hx : vld ⟨⟨a, b, c, d⟩, k⟩ = true) (hy : vld ⟨⟨p, q, r, s⟩, l⟩ = true) (t0 : -999 ≤ n.tmod 1000) (t1 : n.tmod 1000 ≤ 999)
    (H8 : Hid (chgS ⟨⟨a, b, c, d⟩, k⟩ (fun x => rotn ((8 : Int) % 8).toNat x) = (⟨⟨a, b, c, d⟩, k⟩, 0))) (H4 : Hid (chgS ⟨⟨a, b, c, d⟩, k⟩ (fun x => rotn ((4 : Int) % 8).toNat x) = (⟨⟨g0, g1, g2, g3⟩, g4⟩, 0))) (HN : Hid (chgS ⟨⟨a, b, c, d⟩, k⟩ neg = (⟨⟨g0, g1, g2, g3⟩, g4⟩, 0)))
    (HS : Hid (chgS ⟨⟨a, b, c, d⟩, k⟩ (fun x => rotn ((n.tmod 1000) % 8).toNat x) = (⟨⟨i0, i1, i2, i3⟩, i4⟩, 0))) (HB : Hid (chgS ⟨⟨i0, i1, i2, i3⟩, i4⟩ (fun x => rotn ((-(n.tmod 1000)) % 8).toNat x) = (⟨⟨a, b, c, d⟩, k⟩, 0)))
    (HM : Hid (mulS ⟨⟨a, b, c, d⟩, k⟩ ⟨⟨p, q, r, s⟩, l⟩ = (⟨⟨m0, m1, m2, m3⟩, m4⟩, 0))) 
    (HCX : Hid (chgS ⟨⟨a, b, c, d⟩, k⟩ (conj) = (⟨⟨x0, x1, x2, x3⟩, k⟩, 0))) (HCY : Hid (chgS ⟨⟨p, q, r, s⟩, l⟩ (conj) = (⟨⟨y0, y1, y2, y3⟩, l⟩, 0))) (HCM : Hid (chgS ⟨⟨m0, m1, m2, m3⟩, m4⟩ (conj) = (⟨⟨z0, z1, z2, z3⟩, m4⟩, 0))) (HCP : Hid (mulS ⟨⟨x0, x1, x2, x3⟩, k⟩ ⟨⟨y0, y1, y2, y3⟩, l⟩ = (⟨⟨z0, z1, z2, z3⟩, m4⟩, 0)))
    (HFX : Hid (chgS ⟨⟨a, b, c, d⟩, k⟩ (fun x => flipV x k) = (⟨⟨x0', x1', x2', x3'⟩, k⟩, 0))) (HFY : Hid (chgS ⟨⟨p, q, r, s⟩, l⟩ (fun x => flipV x l) = (⟨⟨y0', y1', y2', y3'⟩, l⟩, 0))) (HFM : Hid (chgS ⟨⟨m0, m1, m2, m3⟩, m4⟩ (fun x => flipV x m4) = (⟨⟨z0', z1', z2', z3'⟩, m4⟩, 0))) (HFP : Hid (mulS ⟨⟨x0', x1', x2', x3'⟩, k⟩ ⟨⟨y0', y1', y2', y3'⟩, l⟩ = (⟨⟨z0', z1', z2', z3'⟩, m4⟩, 0)))
    :
    Calls Try.prog 11 #[.agg #[.int .i64 a, .int .i64 b, .int .i64 c, .int .i64 d, .int .i64 k], .agg #[.int .i64 p, .int .i64 q, .int .i64 r, .int .i64 s, .int .i64 l], .int .i64 n] w fun e w' => e = .returned (.bool true) ∧ Below w.heap.size w w' := by
  go_enter Try.func11, Try.ntmps11
  go_wp2_with fail
  refine (Valid_any _ _ _ _ _ _).mono ?_
  rintro e w1 ⟨rfl, hb⟩
  simp only [hx]
  have K1_x : Has5 w1 (w.heap.size) a b c d k := Has5.keep (by refine ⟨⟨?_, ?_, ?_, ?_, ?_⟩, ?_, ?_, ?_, ?_, ?_⟩ <;> go_cell) hb (by first | omega | (simp; done) | (simp; omega))
  have K1_y : Has5 w1 (w.heap.size + 1) p q r s l := Has5.keep (by refine ⟨⟨?_, ?_, ?_, ?_, ?_⟩, ?_, ?_, ?_, ?_, ?_⟩ <;> go_cell) hb (by first | omega | (simp; done) | (simp; omega))
  have D1 : Below w.heap.size w w1 := Below.trans (by go_grown) (hb.mono (by first | omega | (simp; done) | (simp; omega)))
  have s1 : w.heap.size + 1 < w1.heap.size := by have := hb.size; (try simp at this); omega
  clear hb
  obtain ⟨⟨c1_x_0, c1_x_1, c1_x_2, c1_x_3, c1_x_4⟩, f1_x_0, f1_x_1, f1_x_2, f1_x_3, f1_x_4⟩ := K1_x
  obtain ⟨⟨c1_y_0, c1_y_1, c1_y_2, c1_y_3, c1_y_4⟩, f1_y_0, f1_y_1, f1_y_2, f1_y_3, f1_y_4⟩ := K1_y
  have l1_x : w.heap.size < w1.heap.size := by omega
  go_wp2_with fail
  refine (Valid_any _ _ _ _ _ _).mono ?_
  rintro e w2 ⟨rfl, hb⟩
  simp only [hy]
  have K2_x : Has5 w2 (w.heap.size) a b c d k := Has5.keep (by refine ⟨⟨?_, ?_, ?_, ?_, ?_⟩, ?_, ?_, ?_, ?_, ?_⟩ <;> go_cell) hb (by first | omega | (simp; done) | (simp; omega))
  have K2_y : Has5 w2 (w.heap.size + 1) p q r s l := Has5.keep (by refine ⟨⟨?_, ?_, ?_, ?_, ?_⟩, ?_, ?_, ?_, ?_, ?_⟩ <;> go_cell) hb (by first | omega | (simp; done) | (simp; omega))
  have D2 : Below w.heap.size w w2 := Below.trans (by go_grown) (hb.mono (by first | omega | (simp; done) | (simp; omega)))
  have s2 : w.heap.size + 1 < w2.heap.size := by have := hb.size; (try simp at this); omega
  clear hb D1 c1_x_0 c1_x_1 c1_x_2 c1_x_3 c1_x_4 f1_x_0 f1_x_1 f1_x_2 f1_x_3 f1_x_4 c1_y_0 c1_y_1 c1_y_2 c1_y_3 c1_y_4 f1_y_0 f1_y_1 f1_y_2 f1_y_3 f1_y_4
  obtain ⟨⟨c2_x_0, c2_x_1, c2_x_2, c2_x_3, c2_x_4⟩, f2_x_0, f2_x_1, f2_x_2, f2_x_3, f2_x_4⟩ := K2_x
  obtain ⟨⟨c2_y_0, c2_y_1, c2_y_2, c2_y_3, c2_y_4⟩, f2_y_0, f2_y_1, f2_y_2, f2_y_3, f2_y_4⟩ := K2_y
  have l2_x : w.heap.size < w2.heap.size := by omega
  have HX := Lib.hid hx
  have HY := Lib.hid hy
  clear hx hy
  go_wp2_with fail
  refine (twice_neg _ _ _ _ _ _ HX.out).mono ?_
  rintro e w3 ⟨rfl, hb⟩
  have K3_x : Has5 w3 (w.heap.size) a b c d k := Has5.keep (by refine ⟨⟨?_, ?_, ?_, ?_, ?_⟩, ?_, ?_, ?_, ?_, ?_⟩ <;> go_cell) hb (by first | omega | (simp; done) | (simp; omega))
  have K3_y : Has5 w3 (w.heap.size + 1) p q r s l := Has5.keep (by refine ⟨⟨?_, ?_, ?_, ?_, ?_⟩, ?_, ?_, ?_, ?_, ?_⟩ <;> go_cell) hb (by first | omega | (simp; done) | (simp; omega))
  have D3 : Below w.heap.size w w3 := Below.trans (by go_grown) (hb.mono (by first | omega | (simp; done) | (simp; omega)))
  have s3 : w.heap.size + 1 < w3.heap.size := by have := hb.size; (try simp at this); omega
  clear hb D2 c2_x_0 c2_x_1 c2_x_2 c2_x_3 c2_x_4 f2_x_0 f2_x_1 f2_x_2 f2_x_3 f2_x_4 c2_y_0 c2_y_1 c2_y_2 c2_y_3 c2_y_4 f2_y_0 f2_y_1 f2_y_2 f2_y_3 f2_y_4
  obtain ⟨⟨c3_x_0, c3_x_1, c3_x_2, c3_x_3, c3_x_4⟩, f3_x_0, f3_x_1, f3_x_2, f3_x_3, f3_x_4⟩ := K3_x
  obtain ⟨⟨c3_y_0, c3_y_1, c3_y_2, c3_y_3, c3_y_4⟩, f3_y_0, f3_y_1, f3_y_2, f3_y_3, f3_y_4⟩ := K3_y
  have l3_x : w.heap.size < w3.heap.size := by omega
  go_wp2_with fail
  refine (twice_conj _ _ _ _ _ _ HX.out).mono ?_
  rintro e w4 ⟨rfl, hb⟩
  have K4_x : Has5 w4 (w.heap.size) a b c d k := Has5.keep (by refine ⟨⟨?_, ?_, ?_, ?_, ?_⟩, ?_, ?_, ?_, ?_, ?_⟩ <;> go_cell) hb (by first | omega | (simp; done) | (simp; omega))
  have K4_y : Has5 w4 (w.heap.size + 1) p q r s l := Has5.keep (by refine ⟨⟨?_, ?_, ?_, ?_, ?_⟩, ?_, ?_, ?_, ?_, ?_⟩ <;> go_cell) hb (by first | omega | (simp; done) | (simp; omega))
  have D4 : Below w.heap.size w w4 := Below.trans (by go_grown) (hb.mono (by first | omega | (simp; done) | (simp; omega)))
  have s4 : w.heap.size + 1 < w4.heap.size := by have := hb.size; (try simp at this); omega
  clear hb D3 c3_x_0 c3_x_1 c3_x_2 c3_x_3 c3_x_4 f3_x_0 f3_x_1 f3_x_2 f3_x_3 f3_x_4 c3_y_0 c3_y_1 c3_y_2 c3_y_3 c3_y_4 f3_y_0 f3_y_1 f3_y_2 f3_y_3 f3_y_4
  obtain ⟨⟨c4_x_0, c4_x_1, c4_x_2, c4_x_3, c4_x_4⟩, f4_x_0, f4_x_1, f4_x_2, f4_x_3, f4_x_4⟩ := K4_x
  obtain ⟨⟨c4_y_0, c4_y_1, c4_y_2, c4_y_3, c4_y_4⟩, f4_y_0, f4_y_1, f4_y_2, f4_y_3, f4_y_4⟩ := K4_y
  have l4_x : w.heap.size < w4.heap.size := by omega
  go_wp2_with fail
  refine (twice_flip _ _ _ _ _ _ HX.out).mono ?_
  rintro e w5 ⟨rfl, hb⟩
  have K5_x : Has5 w5 (w.heap.size) a b c d k := Has5.keep (by refine ⟨⟨?_, ?_, ?_, ?_, ?_⟩, ?_, ?_, ?_, ?_, ?_⟩ <;> go_cell) hb (by first | omega | (simp; done) | (simp; omega))
  have K5_y : Has5 w5 (w.heap.size + 1) p q r s l := Has5.keep (by refine ⟨⟨?_, ?_, ?_, ?_, ?_⟩, ?_, ?_, ?_, ?_, ?_⟩ <;> go_cell) hb (by first | omega | (simp; done) | (simp; omega))
  have D5 : Below w.heap.size w w5 := Below.trans (by go_grown) (hb.mono (by first | omega | (simp; done) | (simp; omega)))
  have s5 : w.heap.size + 1 < w5.heap.size := by have := hb.size; (try simp at this); omega
  clear hb D4 c4_x_0 c4_x_1 c4_x_2 c4_x_3 c4_x_4 f4_x_0 f4_x_1 f4_x_2 f4_x_3 f4_x_4 c4_y_0 c4_y_1 c4_y_2 c4_y_3 c4_y_4 f4_y_0 f4_y_1 f4_y_2 f4_y_3 f4_y_4
  obtain ⟨⟨c5_x_0, c5_x_1, c5_x_2, c5_x_3, c5_x_4⟩, f5_x_0, f5_x_1, f5_x_2, f5_x_3, f5_x_4⟩ := K5_x
  obtain ⟨⟨c5_y_0, c5_y_1, c5_y_2, c5_y_3, c5_y_4⟩, f5_y_0, f5_y_1, f5_y_2, f5_y_3, f5_y_4⟩ := K5_y
  have l5_x : w.heap.size < w5.heap.size := by omega
  go_wp2_with fail
  refine (Turn_any _ _ _ _ _ _ _).mono ?_
  rintro e w6 ⟨rfl, hb⟩
  rw [H8.out]
  unfold Ret5
  (try simp only)
  have K6_x : Has5 w6 (w.heap.size) a b c d k := Has5.keep (by refine ⟨⟨?_, ?_, ?_, ?_, ?_⟩, ?_, ?_, ?_, ?_, ?_⟩ <;> go_cell) hb (by first | omega | (simp; done) | (simp; omega))
  have K6_y : Has5 w6 (w.heap.size + 1) p q r s l := Has5.keep (by refine ⟨⟨?_, ?_, ?_, ?_, ?_⟩, ?_, ?_, ?_, ?_, ?_⟩ <;> go_cell) hb (by first | omega | (simp; done) | (simp; omega))
  have D6 : Below w.heap.size w w6 := Below.trans (by go_grown) (hb.mono (by first | omega | (simp; done) | (simp; omega)))
  have s6 : w.heap.size + 1 < w6.heap.size := by have := hb.size; (try simp at this); omega
  clear hb D5 c5_x_0 c5_x_1 c5_x_2 c5_x_3 c5_x_4 f5_x_0 f5_x_1 f5_x_2 f5_x_3 f5_x_4 c5_y_0 c5_y_1 c5_y_2 c5_y_3 c5_y_4 f5_y_0 f5_y_1 f5_y_2 f5_y_3 f5_y_4
  obtain ⟨⟨c6_x_0, c6_x_1, c6_x_2, c6_x_3, c6_x_4⟩, f6_x_0, f6_x_1, f6_x_2, f6_x_3, f6_x_4⟩ := K6_x
  obtain ⟨⟨c6_y_0, c6_y_1, c6_y_2, c6_y_3, c6_y_4⟩, f6_y_0, f6_y_1, f6_y_2, f6_y_3, f6_y_4⟩ := K6_y
  have l6_x : w.heap.size < w6.heap.size := by omega
  go_wp2_with fail
  refine (Turn_any _ _ _ _ _ _ _).mono ?_
  rintro e w7 ⟨rfl, hb⟩
  rw [H4.out]
  unfold Ret5
  (try simp only)
  have K7_x : Has5 w7 (w.heap.size) a b c d k := Has5.keep (by refine ⟨⟨?_, ?_, ?_, ?_, ?_⟩, ?_, ?_, ?_, ?_, ?_⟩ <;> go_cell) hb (by first | omega | (simp; done) | (simp; omega))
  have K7_y : Has5 w7 (w.heap.size + 1) p q r s l := Has5.keep (by refine ⟨⟨?_, ?_, ?_, ?_, ?_⟩, ?_, ?_, ?_, ?_, ?_⟩ <;> go_cell) hb (by first | omega | (simp; done) | (simp; omega))
  have K7_full : Has5 w7 (w6.heap.size) a b c d k := Has5.keep (by refine ⟨⟨?_, ?_, ?_, ?_, ?_⟩, ?_, ?_, ?_, ?_, ?_⟩ <;> go_cell) hb (by first | omega | (simp; done) | (simp; omega))
  have D7 : Below w.heap.size w w7 := Below.trans (by go_grown) (hb.mono (by first | omega | (simp; done) | (simp; omega)))
  have s7 : w6.heap.size < w7.heap.size := by have := hb.size; (try simp at this); omega
  clear hb D6 c6_x_0 c6_x_1 c6_x_2 c6_x_3 c6_x_4 f6_x_0 f6_x_1 f6_x_2 f6_x_3 f6_x_4 c6_y_0 c6_y_1 c6_y_2 c6_y_3 c6_y_4 f6_y_0 f6_y_1 f6_y_2 f6_y_3 f6_y_4
  obtain ⟨⟨c7_x_0, c7_x_1, c7_x_2, c7_x_3, c7_x_4⟩, f7_x_0, f7_x_1, f7_x_2, f7_x_3, f7_x_4⟩ := K7_x
  obtain ⟨⟨c7_y_0, c7_y_1, c7_y_2, c7_y_3, c7_y_4⟩, f7_y_0, f7_y_1, f7_y_2, f7_y_3, f7_y_4⟩ := K7_y
  obtain ⟨⟨c7_full_0, c7_full_1, c7_full_2, c7_full_3, c7_full_4⟩, f7_full_0, f7_full_1, f7_full_2, f7_full_3, f7_full_4⟩ := K7_full
  have l7_x : w.heap.size < w7.heap.size := by omega
  have l7_y : w.heap.size + 1 < w7.heap.size := by omega
  go_wp2_with fail
  refine (Neg_any _ _ _ _ _ _).mono ?_
  rintro e w8 ⟨rfl, hb⟩
  rw [HN.out]
  unfold Ret5
  (try simp only)
  have K8_x : Has5 w8 (w.heap.size) a b c d k := Has5.keep (by refine ⟨⟨?_, ?_, ?_, ?_, ?_⟩, ?_, ?_, ?_, ?_, ?_⟩ <;> go_cell) hb (by first | omega | (simp; done) | (simp; omega))
  have K8_y : Has5 w8 (w.heap.size + 1) p q r s l := Has5.keep (by refine ⟨⟨?_, ?_, ?_, ?_, ?_⟩, ?_, ?_, ?_, ?_, ?_⟩ <;> go_cell) hb (by first | omega | (simp; done) | (simp; omega))
  have K8_full : Has5 w8 (w6.heap.size) a b c d k := Has5.keep (by refine ⟨⟨?_, ?_, ?_, ?_, ?_⟩, ?_, ?_, ?_, ?_, ?_⟩ <;> go_cell) hb (by first | omega | (simp; done) | (simp; omega))
  have K8_half : Has5 w8 (w7.heap.size) g0 g1 g2 g3 g4 := Has5.keep (by refine ⟨⟨?_, ?_, ?_, ?_, ?_⟩, ?_, ?_, ?_, ?_, ?_⟩ <;> go_cell) hb (by first | omega | (simp; done) | (simp; omega))
  have D8 : Below w.heap.size w w8 := Below.trans (by go_grown) (hb.mono (by first | omega | (simp; done) | (simp; omega)))
  have s8 : w7.heap.size < w8.heap.size := by have := hb.size; (try simp at this); omega
  clear hb D7 c7_x_0 c7_x_1 c7_x_2 c7_x_3 c7_x_4 f7_x_0 f7_x_1 f7_x_2 f7_x_3 f7_x_4 c7_y_0 c7_y_1 c7_y_2 c7_y_3 c7_y_4 f7_y_0 f7_y_1 f7_y_2 f7_y_3 f7_y_4 c7_full_0 c7_full_1 c7_full_2 c7_full_3 c7_full_4 f7_full_0 f7_full_1 f7_full_2 f7_full_3 f7_full_4
  obtain ⟨⟨c8_x_0, c8_x_1, c8_x_2, c8_x_3, c8_x_4⟩, f8_x_0, f8_x_1, f8_x_2, f8_x_3, f8_x_4⟩ := K8_x
  obtain ⟨⟨c8_y_0, c8_y_1, c8_y_2, c8_y_3, c8_y_4⟩, f8_y_0, f8_y_1, f8_y_2, f8_y_3, f8_y_4⟩ := K8_y
  obtain ⟨⟨c8_full_0, c8_full_1, c8_full_2, c8_full_3, c8_full_4⟩, f8_full_0, f8_full_1, f8_full_2, f8_full_3, f8_full_4⟩ := K8_full
  obtain ⟨⟨c8_half_0, c8_half_1, c8_half_2, c8_half_3, c8_half_4⟩, f8_half_0, f8_half_1, f8_half_2, f8_half_3, f8_half_4⟩ := K8_half
  have l8_x : w.heap.size < w8.heap.size := by omega
  have l8_y : w.heap.size + 1 < w8.heap.size := by omega
  have l8_full : w6.heap.size < w8.heap.size := by omega
  go_wp2_with fail
  refine (Turn_any _ _ _ _ _ _ _).mono ?_
  rintro e w9 ⟨rfl, hb⟩
  rw [HS.out]
  unfold Ret5
  (try simp only)
  have K9_x : Has5 w9 (w.heap.size) a b c d k := Has5.keep (by refine ⟨⟨?_, ?_, ?_, ?_, ?_⟩, ?_, ?_, ?_, ?_, ?_⟩ <;> go_cell) hb (by first | omega | (simp; done) | (simp; omega))
  have K9_y : Has5 w9 (w.heap.size + 1) p q r s l := Has5.keep (by refine ⟨⟨?_, ?_, ?_, ?_, ?_⟩, ?_, ?_, ?_, ?_, ?_⟩ <;> go_cell) hb (by first | omega | (simp; done) | (simp; omega))
  have K9_full : Has5 w9 (w6.heap.size) a b c d k := Has5.keep (by refine ⟨⟨?_, ?_, ?_, ?_, ?_⟩, ?_, ?_, ?_, ?_, ?_⟩ <;> go_cell) hb (by first | omega | (simp; done) | (simp; omega))
  have K9_half : Has5 w9 (w7.heap.size) g0 g1 g2 g3 g4 := Has5.keep (by refine ⟨⟨?_, ?_, ?_, ?_, ?_⟩, ?_, ?_, ?_, ?_, ?_⟩ <;> go_cell) hb (by first | omega | (simp; done) | (simp; omega))
  have K9_neg : Has5 w9 (w8.heap.size) g0 g1 g2 g3 g4 := Has5.keep (by refine ⟨⟨?_, ?_, ?_, ?_, ?_⟩, ?_, ?_, ?_, ?_, ?_⟩ <;> go_cell) hb (by first | omega | (simp; done) | (simp; omega))
  have D9 : Below w.heap.size w w9 := Below.trans (by go_grown) (hb.mono (by first | omega | (simp; done) | (simp; omega)))
  have s9 : w8.heap.size < w9.heap.size := by have := hb.size; (try simp at this); omega
  clear hb D8 c8_x_0 c8_x_1 c8_x_2 c8_x_3 c8_x_4 f8_x_0 f8_x_1 f8_x_2 f8_x_3 f8_x_4 c8_y_0 c8_y_1 c8_y_2 c8_y_3 c8_y_4 f8_y_0 f8_y_1 f8_y_2 f8_y_3 f8_y_4 c8_full_0 c8_full_1 c8_full_2 c8_full_3 c8_full_4 f8_full_0 f8_full_1 f8_full_2 f8_full_3 f8_full_4 c8_half_0 c8_half_1 c8_half_2 c8_half_3 c8_half_4 f8_half_0 f8_half_1 f8_half_2 f8_half_3 f8_half_4
  obtain ⟨⟨c9_x_0, c9_x_1, c9_x_2, c9_x_3, c9_x_4⟩, f9_x_0, f9_x_1, f9_x_2, f9_x_3, f9_x_4⟩ := K9_x
  obtain ⟨⟨c9_y_0, c9_y_1, c9_y_2, c9_y_3, c9_y_4⟩, f9_y_0, f9_y_1, f9_y_2, f9_y_3, f9_y_4⟩ := K9_y
  obtain ⟨⟨c9_full_0, c9_full_1, c9_full_2, c9_full_3, c9_full_4⟩, f9_full_0, f9_full_1, f9_full_2, f9_full_3, f9_full_4⟩ := K9_full
  obtain ⟨⟨c9_half_0, c9_half_1, c9_half_2, c9_half_3, c9_half_4⟩, f9_half_0, f9_half_1, f9_half_2, f9_half_3, f9_half_4⟩ := K9_half
  obtain ⟨⟨c9_neg_0, c9_neg_1, c9_neg_2, c9_neg_3, c9_neg_4⟩, f9_neg_0, f9_neg_1, f9_neg_2, f9_neg_3, f9_neg_4⟩ := K9_neg
  have l9_x : w.heap.size < w9.heap.size := by omega
  have l9_y : w.heap.size + 1 < w9.heap.size := by omega
  have l9_full : w6.heap.size < w9.heap.size := by omega
  have l9_half : w7.heap.size < w9.heap.size := by omega
  go_wp2_with fail
  refine (Turn_any _ _ _ _ _ _ _).mono ?_
  rintro e w10 ⟨rfl, hb⟩
  rw [HB.out]
  unfold Ret5
  (try simp only)
  have K10_x : Has5 w10 (w.heap.size) a b c d k := Has5.keep (by refine ⟨⟨?_, ?_, ?_, ?_, ?_⟩, ?_, ?_, ?_, ?_, ?_⟩ <;> go_cell) hb (by first | omega | (simp; done) | (simp; omega))
  have K10_y : Has5 w10 (w.heap.size + 1) p q r s l := Has5.keep (by refine ⟨⟨?_, ?_, ?_, ?_, ?_⟩, ?_, ?_, ?_, ?_, ?_⟩ <;> go_cell) hb (by first | omega | (simp; done) | (simp; omega))
  have K10_full : Has5 w10 (w6.heap.size) a b c d k := Has5.keep (by refine ⟨⟨?_, ?_, ?_, ?_, ?_⟩, ?_, ?_, ?_, ?_, ?_⟩ <;> go_cell) hb (by first | omega | (simp; done) | (simp; omega))
  have K10_half : Has5 w10 (w7.heap.size) g0 g1 g2 g3 g4 := Has5.keep (by refine ⟨⟨?_, ?_, ?_, ?_, ?_⟩, ?_, ?_, ?_, ?_, ?_⟩ <;> go_cell) hb (by first | omega | (simp; done) | (simp; omega))
  have K10_neg : Has5 w10 (w8.heap.size) g0 g1 g2 g3 g4 := Has5.keep (by refine ⟨⟨?_, ?_, ?_, ?_, ?_⟩, ?_, ?_, ?_, ?_, ?_⟩ <;> go_cell) hb (by first | omega | (simp; done) | (simp; omega))
  have K10_some : Has5 w10 (w9.heap.size) i0 i1 i2 i3 i4 := Has5.keep (by refine ⟨⟨?_, ?_, ?_, ?_, ?_⟩, ?_, ?_, ?_, ?_, ?_⟩ <;> go_cell) hb (by first | omega | (simp; done) | (simp; omega))
  have D10 : Below w.heap.size w w10 := Below.trans (by go_grown) (hb.mono (by first | omega | (simp; done) | (simp; omega)))
  have s10 : w9.heap.size < w10.heap.size := by have := hb.size; (try simp at this); omega
  clear hb D9 c9_x_0 c9_x_1 c9_x_2 c9_x_3 c9_x_4 f9_x_0 f9_x_1 f9_x_2 f9_x_3 f9_x_4 c9_y_0 c9_y_1 c9_y_2 c9_y_3 c9_y_4 f9_y_0 f9_y_1 f9_y_2 f9_y_3 f9_y_4 c9_full_0 c9_full_1 c9_full_2 c9_full_3 c9_full_4 f9_full_0 f9_full_1 f9_full_2 f9_full_3 f9_full_4 c9_half_0 c9_half_1 c9_half_2 c9_half_3 c9_half_4 f9_half_0 f9_half_1 f9_half_2 f9_half_3 f9_half_4 c9_neg_0 c9_neg_1 c9_neg_2 c9_neg_3 c9_neg_4 f9_neg_0 f9_neg_1 f9_neg_2 f9_neg_3 f9_neg_4
  obtain ⟨⟨c10_x_0, c10_x_1, c10_x_2, c10_x_3, c10_x_4⟩, f10_x_0, f10_x_1, f10_x_2, f10_x_3, f10_x_4⟩ := K10_x
  obtain ⟨⟨c10_y_0, c10_y_1, c10_y_2, c10_y_3, c10_y_4⟩, f10_y_0, f10_y_1, f10_y_2, f10_y_3, f10_y_4⟩ := K10_y
  obtain ⟨⟨c10_full_0, c10_full_1, c10_full_2, c10_full_3, c10_full_4⟩, f10_full_0, f10_full_1, f10_full_2, f10_full_3, f10_full_4⟩ := K10_full
  obtain ⟨⟨c10_half_0, c10_half_1, c10_half_2, c10_half_3, c10_half_4⟩, f10_half_0, f10_half_1, f10_half_2, f10_half_3, f10_half_4⟩ := K10_half
  obtain ⟨⟨c10_neg_0, c10_neg_1, c10_neg_2, c10_neg_3, c10_neg_4⟩, f10_neg_0, f10_neg_1, f10_neg_2, f10_neg_3, f10_neg_4⟩ := K10_neg
  obtain ⟨⟨c10_some_0, c10_some_1, c10_some_2, c10_some_3, c10_some_4⟩, f10_some_0, f10_some_1, f10_some_2, f10_some_3, f10_some_4⟩ := K10_some
  have l10_x : w.heap.size < w10.heap.size := by omega
  have l10_y : w.heap.size + 1 < w10.heap.size := by omega
  have l10_full : w6.heap.size < w10.heap.size := by omega
  have l10_half : w7.heap.size < w10.heap.size := by omega
  have l10_neg : w8.heap.size < w10.heap.size := by omega
  go_wp2_with fail
  refine (Mul_any _ _ _ _ _ _ _ _ _ _ _).mono ?_
  rintro e w11 ⟨rfl, hb⟩
  rw [HM.out]
  unfold Ret5
  (try simp only)
  have K11_x : Has5 w11 (w.heap.size) a b c d k := Has5.keep (by refine ⟨⟨?_, ?_, ?_, ?_, ?_⟩, ?_, ?_, ?_, ?_, ?_⟩ <;> go_cell) hb (by first | omega | (simp; done) | (simp; omega))
  have K11_y : Has5 w11 (w.heap.size + 1) p q r s l := Has5.keep (by refine ⟨⟨?_, ?_, ?_, ?_, ?_⟩, ?_, ?_, ?_, ?_, ?_⟩ <;> go_cell) hb (by first | omega | (simp; done) | (simp; omega))
  have K11_full : Has5 w11 (w6.heap.size) a b c d k := Has5.keep (by refine ⟨⟨?_, ?_, ?_, ?_, ?_⟩, ?_, ?_, ?_, ?_, ?_⟩ <;> go_cell) hb (by first | omega | (simp; done) | (simp; omega))
  have K11_half : Has5 w11 (w7.heap.size) g0 g1 g2 g3 g4 := Has5.keep (by refine ⟨⟨?_, ?_, ?_, ?_, ?_⟩, ?_, ?_, ?_, ?_, ?_⟩ <;> go_cell) hb (by first | omega | (simp; done) | (simp; omega))
  have K11_neg : Has5 w11 (w8.heap.size) g0 g1 g2 g3 g4 := Has5.keep (by refine ⟨⟨?_, ?_, ?_, ?_, ?_⟩, ?_, ?_, ?_, ?_, ?_⟩ <;> go_cell) hb (by first | omega | (simp; done) | (simp; omega))
  have K11_some : Has5 w11 (w9.heap.size) i0 i1 i2 i3 i4 := Has5.keep (by refine ⟨⟨?_, ?_, ?_, ?_, ?_⟩, ?_, ?_, ?_, ?_, ?_⟩ <;> go_cell) hb (by first | omega | (simp; done) | (simp; omega))
  have K11_back : Has5 w11 (w10.heap.size) a b c d k := Has5.keep (by refine ⟨⟨?_, ?_, ?_, ?_, ?_⟩, ?_, ?_, ?_, ?_, ?_⟩ <;> go_cell) hb (by first | omega | (simp; done) | (simp; omega))
  have D11 : Below w.heap.size w w11 := Below.trans (by go_grown) (hb.mono (by first | omega | (simp; done) | (simp; omega)))
  have s11 : w10.heap.size < w11.heap.size := by have := hb.size; (try simp at this); omega
  clear hb D10 c10_x_0 c10_x_1 c10_x_2 c10_x_3 c10_x_4 f10_x_0 f10_x_1 f10_x_2 f10_x_3 f10_x_4 c10_y_0 c10_y_1 c10_y_2 c10_y_3 c10_y_4 f10_y_0 f10_y_1 f10_y_2 f10_y_3 f10_y_4 c10_full_0 c10_full_1 c10_full_2 c10_full_3 c10_full_4 f10_full_0 f10_full_1 f10_full_2 f10_full_3 f10_full_4 c10_half_0 c10_half_1 c10_half_2 c10_half_3 c10_half_4 f10_half_0 f10_half_1 f10_half_2 f10_half_3 f10_half_4 c10_neg_0 c10_neg_1 c10_neg_2 c10_neg_3 c10_neg_4 f10_neg_0 f10_neg_1 f10_neg_2 f10_neg_3 f10_neg_4 c10_some_0 c10_some_1 c10_some_2 c10_some_3 c10_some_4 f10_some_0 f10_some_1 f10_some_2 f10_some_3 f10_some_4
  obtain ⟨⟨c11_x_0, c11_x_1, c11_x_2, c11_x_3, c11_x_4⟩, f11_x_0, f11_x_1, f11_x_2, f11_x_3, f11_x_4⟩ := K11_x
  obtain ⟨⟨c11_y_0, c11_y_1, c11_y_2, c11_y_3, c11_y_4⟩, f11_y_0, f11_y_1, f11_y_2, f11_y_3, f11_y_4⟩ := K11_y
  obtain ⟨⟨c11_full_0, c11_full_1, c11_full_2, c11_full_3, c11_full_4⟩, f11_full_0, f11_full_1, f11_full_2, f11_full_3, f11_full_4⟩ := K11_full
  obtain ⟨⟨c11_half_0, c11_half_1, c11_half_2, c11_half_3, c11_half_4⟩, f11_half_0, f11_half_1, f11_half_2, f11_half_3, f11_half_4⟩ := K11_half
  obtain ⟨⟨c11_neg_0, c11_neg_1, c11_neg_2, c11_neg_3, c11_neg_4⟩, f11_neg_0, f11_neg_1, f11_neg_2, f11_neg_3, f11_neg_4⟩ := K11_neg
  obtain ⟨⟨c11_some_0, c11_some_1, c11_some_2, c11_some_3, c11_some_4⟩, f11_some_0, f11_some_1, f11_some_2, f11_some_3, f11_some_4⟩ := K11_some
  obtain ⟨⟨c11_back_0, c11_back_1, c11_back_2, c11_back_3, c11_back_4⟩, f11_back_0, f11_back_1, f11_back_2, f11_back_3, f11_back_4⟩ := K11_back
  have l11_x : w.heap.size < w11.heap.size := by omega
  have l11_y : w.heap.size + 1 < w11.heap.size := by omega
  have l11_full : w6.heap.size < w11.heap.size := by omega
  have l11_half : w7.heap.size < w11.heap.size := by omega
  have l11_neg : w8.heap.size < w11.heap.size := by omega
  have l11_some : w9.heap.size < w11.heap.size := by omega
  clear t0 t1
  go_wp2_with fail
  refine wp_loop_rounds 3 ?_
  rw [rounds_succ]
  go_wp2_with fail
  refine (Conj_any _ _ _ _ _ _).mono ?_
  rintro e w12 ⟨rfl, hb⟩
  rw [HCX.out]
  unfold Ret5
  (try simp only)
  have K12_x : Has5 w12 (w.heap.size) a b c d k := Has5.keep (by refine ⟨⟨?_, ?_, ?_, ?_, ?_⟩, ?_, ?_, ?_, ?_, ?_⟩ <;> go_cell) hb (by first | omega | (simp; done) | (simp; omega))
  have K12_y : Has5 w12 (w.heap.size + 1) p q r s l := Has5.keep (by refine ⟨⟨?_, ?_, ?_, ?_, ?_⟩, ?_, ?_, ?_, ?_, ?_⟩ <;> go_cell) hb (by first | omega | (simp; done) | (simp; omega))
  have K12_p : Has5 w12 (w11.heap.size) m0 m1 m2 m3 m4 := Has5.keep (by refine ⟨⟨?_, ?_, ?_, ?_, ?_⟩, ?_, ?_, ?_, ?_, ?_⟩ <;> go_cell) hb (by first | omega | (simp; done) | (simp; omega))
  have R12_r0 : w12.cell? ⟨w11.heap.size + 1, 0, none⟩ = some (.func (Fn.func 34) #[] #[]) := (hb.cell (p := ⟨w11.heap.size + 1, 0, none⟩) (by first | omega | (simp; done) | (simp; omega))).trans (by go_cell)
  have R12_r1 : w12.cell? ⟨w11.heap.size + 1, 1, none⟩ = some (.func (Fn.func 36) #[] #[]) := (hb.cell (p := ⟨w11.heap.size + 1, 1, none⟩) (by first | omega | (simp; done) | (simp; omega))).trans (by go_cell)
  have D12 : Below w.heap.size w w12 := Below.trans (by go_grown) (hb.mono (by first | omega | (simp; done) | (simp; omega)))
  have s12 : w11.heap.size < w12.heap.size := by have := hb.size; (try simp at this); omega
  have lr12 : w11.heap.size + 1 < w12.heap.size := by have := hb.size; (try simp at this); omega
  clear hb D11 c11_x_0 c11_x_1 c11_x_2 c11_x_3 c11_x_4 f11_x_0 f11_x_1 f11_x_2 f11_x_3 f11_x_4 c11_y_0 c11_y_1 c11_y_2 c11_y_3 c11_y_4 f11_y_0 f11_y_1 f11_y_2 f11_y_3 f11_y_4 c11_full_0 c11_full_1 c11_full_2 c11_full_3 c11_full_4 f11_full_0 f11_full_1 f11_full_2 f11_full_3 f11_full_4 c11_half_0 c11_half_1 c11_half_2 c11_half_3 c11_half_4 f11_half_0 f11_half_1 f11_half_2 f11_half_3 f11_half_4 c11_neg_0 c11_neg_1 c11_neg_2 c11_neg_3 c11_neg_4 f11_neg_0 f11_neg_1 f11_neg_2 f11_neg_3 f11_neg_4 c11_some_0 c11_some_1 c11_some_2 c11_some_3 c11_some_4 f11_some_0 f11_some_1 f11_some_2 f11_some_3 f11_some_4 c11_back_0 c11_back_1 c11_back_2 c11_back_3 c11_back_4 f11_back_0 f11_back_1 f11_back_2 f11_back_3 f11_back_4
  obtain ⟨⟨c12_x_0, c12_x_1, c12_x_2, c12_x_3, c12_x_4⟩, f12_x_0, f12_x_1, f12_x_2, f12_x_3, f12_x_4⟩ := K12_x
  obtain ⟨⟨c12_y_0, c12_y_1, c12_y_2, c12_y_3, c12_y_4⟩, f12_y_0, f12_y_1, f12_y_2, f12_y_3, f12_y_4⟩ := K12_y
  obtain ⟨⟨c12_p_0, c12_p_1, c12_p_2, c12_p_3, c12_p_4⟩, f12_p_0, f12_p_1, f12_p_2, f12_p_3, f12_p_4⟩ := K12_p
  have l12_x : w.heap.size < w12.heap.size := by omega
  have l12_y : w.heap.size + 1 < w12.heap.size := by omega
  have l12_full : w6.heap.size < w12.heap.size := by omega
  have l12_half : w7.heap.size < w12.heap.size := by omega
  have l12_neg : w8.heap.size < w12.heap.size := by omega
  have l12_some : w9.heap.size < w12.heap.size := by omega
  have l12_back : w10.heap.size < w12.heap.size := by omega
  go_wp2_with fail
  refine (Conj_any _ _ _ _ _ _).mono ?_
  rintro e w13 ⟨rfl, hb⟩
  rw [HCY.out]
  unfold Ret5
  (try simp only)
  have K13_x : Has5 w13 (w.heap.size) a b c d k := Has5.keep (by refine ⟨⟨?_, ?_, ?_, ?_, ?_⟩, ?_, ?_, ?_, ?_, ?_⟩ <;> go_cell) hb (by first | omega | (simp; done) | (simp; omega))
  have K13_y : Has5 w13 (w.heap.size + 1) p q r s l := Has5.keep (by refine ⟨⟨?_, ?_, ?_, ?_, ?_⟩, ?_, ?_, ?_, ?_, ?_⟩ <;> go_cell) hb (by first | omega | (simp; done) | (simp; omega))
  have K13_p : Has5 w13 (w11.heap.size) m0 m1 m2 m3 m4 := Has5.keep (by refine ⟨⟨?_, ?_, ?_, ?_, ?_⟩, ?_, ?_, ?_, ?_, ?_⟩ <;> go_cell) hb (by first | omega | (simp; done) | (simp; omega))
  have K13_a0 : Has5 w13 (w12.heap.size) x0 x1 x2 x3 k := Has5.keep (by refine ⟨⟨?_, ?_, ?_, ?_, ?_⟩, ?_, ?_, ?_, ?_, ?_⟩ <;> go_cell) hb (by first | omega | (simp; done) | (simp; omega))
  have R13_r0 : w13.cell? ⟨w11.heap.size + 1, 0, none⟩ = some (.func (Fn.func 34) #[] #[]) := (hb.cell (p := ⟨w11.heap.size + 1, 0, none⟩) (by first | omega | (simp; done) | (simp; omega))).trans (by go_cell)
  have R13_r1 : w13.cell? ⟨w11.heap.size + 1, 1, none⟩ = some (.func (Fn.func 36) #[] #[]) := (hb.cell (p := ⟨w11.heap.size + 1, 1, none⟩) (by first | omega | (simp; done) | (simp; omega))).trans (by go_cell)
  have D13 : Below w.heap.size w w13 := Below.trans (by go_grown) (hb.mono (by first | omega | (simp; done) | (simp; omega)))
  have s13 : w12.heap.size < w13.heap.size := by have := hb.size; (try simp at this); omega
  have lr13 : w11.heap.size + 1 < w13.heap.size := by have := hb.size; (try simp at this); omega
  clear hb D12 c12_x_0 c12_x_1 c12_x_2 c12_x_3 c12_x_4 f12_x_0 f12_x_1 f12_x_2 f12_x_3 f12_x_4 c12_y_0 c12_y_1 c12_y_2 c12_y_3 c12_y_4 f12_y_0 f12_y_1 f12_y_2 f12_y_3 f12_y_4 c12_p_0 c12_p_1 c12_p_2 c12_p_3 c12_p_4 f12_p_0 f12_p_1 f12_p_2 f12_p_3 f12_p_4
  obtain ⟨⟨c13_x_0, c13_x_1, c13_x_2, c13_x_3, c13_x_4⟩, f13_x_0, f13_x_1, f13_x_2, f13_x_3, f13_x_4⟩ := K13_x
  obtain ⟨⟨c13_y_0, c13_y_1, c13_y_2, c13_y_3, c13_y_4⟩, f13_y_0, f13_y_1, f13_y_2, f13_y_3, f13_y_4⟩ := K13_y
  obtain ⟨⟨c13_p_0, c13_p_1, c13_p_2, c13_p_3, c13_p_4⟩, f13_p_0, f13_p_1, f13_p_2, f13_p_3, f13_p_4⟩ := K13_p
  obtain ⟨⟨c13_a0_0, c13_a0_1, c13_a0_2, c13_a0_3, c13_a0_4⟩, f13_a0_0, f13_a0_1, f13_a0_2, f13_a0_3, f13_a0_4⟩ := K13_a0
  have l13_x : w.heap.size < w13.heap.size := by omega
  have l13_y : w.heap.size + 1 < w13.heap.size := by omega
  have l13_p : w11.heap.size < w13.heap.size := by omega
  go_wp2_with fail
  refine (Conj_any _ _ _ _ _ _).mono ?_
  rintro e w14 ⟨rfl, hb⟩
  rw [HCM.out]
  unfold Ret5
  (try simp only)
  have K14_x : Has5 w14 (w.heap.size) a b c d k := Has5.keep (by refine ⟨⟨?_, ?_, ?_, ?_, ?_⟩, ?_, ?_, ?_, ?_, ?_⟩ <;> go_cell) hb (by first | omega | (simp; done) | (simp; omega))
  have K14_y : Has5 w14 (w.heap.size + 1) p q r s l := Has5.keep (by refine ⟨⟨?_, ?_, ?_, ?_, ?_⟩, ?_, ?_, ?_, ?_, ?_⟩ <;> go_cell) hb (by first | omega | (simp; done) | (simp; omega))
  have K14_p : Has5 w14 (w11.heap.size) m0 m1 m2 m3 m4 := Has5.keep (by refine ⟨⟨?_, ?_, ?_, ?_, ?_⟩, ?_, ?_, ?_, ?_, ?_⟩ <;> go_cell) hb (by first | omega | (simp; done) | (simp; omega))
  have K14_a0 : Has5 w14 (w12.heap.size) x0 x1 x2 x3 k := Has5.keep (by refine ⟨⟨?_, ?_, ?_, ?_, ?_⟩, ?_, ?_, ?_, ?_, ?_⟩ <;> go_cell) hb (by first | omega | (simp; done) | (simp; omega))
  have K14_b0 : Has5 w14 (w13.heap.size) y0 y1 y2 y3 l := Has5.keep (by refine ⟨⟨?_, ?_, ?_, ?_, ?_⟩, ?_, ?_, ?_, ?_, ?_⟩ <;> go_cell) hb (by first | omega | (simp; done) | (simp; omega))
  have R14_r0 : w14.cell? ⟨w11.heap.size + 1, 0, none⟩ = some (.func (Fn.func 34) #[] #[]) := (hb.cell (p := ⟨w11.heap.size + 1, 0, none⟩) (by first | omega | (simp; done) | (simp; omega))).trans (by go_cell)
  have R14_r1 : w14.cell? ⟨w11.heap.size + 1, 1, none⟩ = some (.func (Fn.func 36) #[] #[]) := (hb.cell (p := ⟨w11.heap.size + 1, 1, none⟩) (by first | omega | (simp; done) | (simp; omega))).trans (by go_cell)
  have D14 : Below w.heap.size w w14 := Below.trans (by go_grown) (hb.mono (by first | omega | (simp; done) | (simp; omega)))
  have s14 : w13.heap.size < w14.heap.size := by have := hb.size; (try simp at this); omega
  have lr14 : w11.heap.size + 1 < w14.heap.size := by have := hb.size; (try simp at this); omega
  clear hb D13 c13_x_0 c13_x_1 c13_x_2 c13_x_3 c13_x_4 f13_x_0 f13_x_1 f13_x_2 f13_x_3 f13_x_4 c13_y_0 c13_y_1 c13_y_2 c13_y_3 c13_y_4 f13_y_0 f13_y_1 f13_y_2 f13_y_3 f13_y_4 c13_p_0 c13_p_1 c13_p_2 c13_p_3 c13_p_4 f13_p_0 f13_p_1 f13_p_2 f13_p_3 f13_p_4 c13_a0_0 c13_a0_1 c13_a0_2 c13_a0_3 c13_a0_4 f13_a0_0 f13_a0_1 f13_a0_2 f13_a0_3 f13_a0_4
  obtain ⟨⟨c14_x_0, c14_x_1, c14_x_2, c14_x_3, c14_x_4⟩, f14_x_0, f14_x_1, f14_x_2, f14_x_3, f14_x_4⟩ := K14_x
  obtain ⟨⟨c14_y_0, c14_y_1, c14_y_2, c14_y_3, c14_y_4⟩, f14_y_0, f14_y_1, f14_y_2, f14_y_3, f14_y_4⟩ := K14_y
  obtain ⟨⟨c14_p_0, c14_p_1, c14_p_2, c14_p_3, c14_p_4⟩, f14_p_0, f14_p_1, f14_p_2, f14_p_3, f14_p_4⟩ := K14_p
  obtain ⟨⟨c14_a0_0, c14_a0_1, c14_a0_2, c14_a0_3, c14_a0_4⟩, f14_a0_0, f14_a0_1, f14_a0_2, f14_a0_3, f14_a0_4⟩ := K14_a0
  obtain ⟨⟨c14_b0_0, c14_b0_1, c14_b0_2, c14_b0_3, c14_b0_4⟩, f14_b0_0, f14_b0_1, f14_b0_2, f14_b0_3, f14_b0_4⟩ := K14_b0
  have l14_x : w.heap.size < w14.heap.size := by omega
  have l14_y : w.heap.size + 1 < w14.heap.size := by omega
  have l14_p : w11.heap.size < w14.heap.size := by omega
  have l14_a0 : w12.heap.size < w14.heap.size := by omega
  go_wp2_with fail
  refine (Mul_any _ _ _ _ _ _ _ _ _ _ _).mono ?_
  rintro e w15 ⟨rfl, hb⟩
  rw [HCP.out]
  unfold Ret5
  (try simp only)
  have K15_x : Has5 w15 (w.heap.size) a b c d k := Has5.keep (by refine ⟨⟨?_, ?_, ?_, ?_, ?_⟩, ?_, ?_, ?_, ?_, ?_⟩ <;> go_cell) hb (by first | omega | (simp; done) | (simp; omega))
  have K15_y : Has5 w15 (w.heap.size + 1) p q r s l := Has5.keep (by refine ⟨⟨?_, ?_, ?_, ?_, ?_⟩, ?_, ?_, ?_, ?_, ?_⟩ <;> go_cell) hb (by first | omega | (simp; done) | (simp; omega))
  have K15_p : Has5 w15 (w11.heap.size) m0 m1 m2 m3 m4 := Has5.keep (by refine ⟨⟨?_, ?_, ?_, ?_, ?_⟩, ?_, ?_, ?_, ?_, ?_⟩ <;> go_cell) hb (by first | omega | (simp; done) | (simp; omega))
  have K15_c0 : Has5 w15 (w14.heap.size) z0 z1 z2 z3 m4 := Has5.keep (by refine ⟨⟨?_, ?_, ?_, ?_, ?_⟩, ?_, ?_, ?_, ?_, ?_⟩ <;> go_cell) hb (by first | omega | (simp; done) | (simp; omega))
  have R15_r0 : w15.cell? ⟨w11.heap.size + 1, 0, none⟩ = some (.func (Fn.func 34) #[] #[]) := (hb.cell (p := ⟨w11.heap.size + 1, 0, none⟩) (by first | omega | (simp; done) | (simp; omega))).trans (by go_cell)
  have R15_r1 : w15.cell? ⟨w11.heap.size + 1, 1, none⟩ = some (.func (Fn.func 36) #[] #[]) := (hb.cell (p := ⟨w11.heap.size + 1, 1, none⟩) (by first | omega | (simp; done) | (simp; omega))).trans (by go_cell)
  have D15 : Below w.heap.size w w15 := Below.trans (by go_grown) (hb.mono (by first | omega | (simp; done) | (simp; omega)))
  have s15 : w14.heap.size < w15.heap.size := by have := hb.size; (try simp at this); omega
  have lr15 : w11.heap.size + 1 < w15.heap.size := by have := hb.size; (try simp at this); omega
  clear hb D14 c14_x_0 c14_x_1 c14_x_2 c14_x_3 c14_x_4 f14_x_0 f14_x_1 f14_x_2 f14_x_3 f14_x_4 c14_y_0 c14_y_1 c14_y_2 c14_y_3 c14_y_4 f14_y_0 f14_y_1 f14_y_2 f14_y_3 f14_y_4 c14_p_0 c14_p_1 c14_p_2 c14_p_3 c14_p_4 f14_p_0 f14_p_1 f14_p_2 f14_p_3 f14_p_4 c14_a0_0 c14_a0_1 c14_a0_2 c14_a0_3 c14_a0_4 f14_a0_0 f14_a0_1 f14_a0_2 f14_a0_3 f14_a0_4 c14_b0_0 c14_b0_1 c14_b0_2 c14_b0_3 c14_b0_4 f14_b0_0 f14_b0_1 f14_b0_2 f14_b0_3 f14_b0_4
  obtain ⟨⟨c15_x_0, c15_x_1, c15_x_2, c15_x_3, c15_x_4⟩, f15_x_0, f15_x_1, f15_x_2, f15_x_3, f15_x_4⟩ := K15_x
  obtain ⟨⟨c15_y_0, c15_y_1, c15_y_2, c15_y_3, c15_y_4⟩, f15_y_0, f15_y_1, f15_y_2, f15_y_3, f15_y_4⟩ := K15_y
  obtain ⟨⟨c15_p_0, c15_p_1, c15_p_2, c15_p_3, c15_p_4⟩, f15_p_0, f15_p_1, f15_p_2, f15_p_3, f15_p_4⟩ := K15_p
  obtain ⟨⟨c15_c0_0, c15_c0_1, c15_c0_2, c15_c0_3, c15_c0_4⟩, f15_c0_0, f15_c0_1, f15_c0_2, f15_c0_3, f15_c0_4⟩ := K15_c0
  have l15_x : w.heap.size < w15.heap.size := by omega
  have l15_y : w.heap.size + 1 < w15.heap.size := by omega
  have l15_p : w11.heap.size < w15.heap.size := by omega
  have l15_a0 : w12.heap.size < w15.heap.size := by omega
  have l15_b0 : w13.heap.size < w15.heap.size := by omega
  go_wp2_with fail
  rw [rounds_succ]
  go_wp2_with fail
  refine (Flip_any _ _ _ _ _ _).mono ?_
  rintro e w16 ⟨rfl, hb⟩
  rw [HFX.out]
  unfold Ret5
  (try simp only)
  have K16_x : Has5 w16 (w.heap.size) a b c d k := Has5.keep (by refine ⟨⟨?_, ?_, ?_, ?_, ?_⟩, ?_, ?_, ?_, ?_, ?_⟩ <;> go_cell) hb (by first | omega | (simp; done) | (simp; omega))
  have K16_y : Has5 w16 (w.heap.size + 1) p q r s l := Has5.keep (by refine ⟨⟨?_, ?_, ?_, ?_, ?_⟩, ?_, ?_, ?_, ?_, ?_⟩ <;> go_cell) hb (by first | omega | (simp; done) | (simp; omega))
  have K16_p : Has5 w16 (w11.heap.size) m0 m1 m2 m3 m4 := Has5.keep (by refine ⟨⟨?_, ?_, ?_, ?_, ?_⟩, ?_, ?_, ?_, ?_, ?_⟩ <;> go_cell) hb (by first | omega | (simp; done) | (simp; omega))
  have R16_r0 : w16.cell? ⟨w11.heap.size + 1, 0, none⟩ = some (.func (Fn.func 34) #[] #[]) := (hb.cell (p := ⟨w11.heap.size + 1, 0, none⟩) (by first | omega | (simp; done) | (simp; omega))).trans (by go_cell)
  have R16_r1 : w16.cell? ⟨w11.heap.size + 1, 1, none⟩ = some (.func (Fn.func 36) #[] #[]) := (hb.cell (p := ⟨w11.heap.size + 1, 1, none⟩) (by first | omega | (simp; done) | (simp; omega))).trans (by go_cell)
  have D16 : Below w.heap.size w w16 := Below.trans (by go_grown) (hb.mono (by first | omega | (simp; done) | (simp; omega)))
  have s16 : w15.heap.size < w16.heap.size := by have := hb.size; (try simp at this); omega
  have lr16 : w11.heap.size + 1 < w16.heap.size := by have := hb.size; (try simp at this); omega
  clear hb D15 c15_x_0 c15_x_1 c15_x_2 c15_x_3 c15_x_4 f15_x_0 f15_x_1 f15_x_2 f15_x_3 f15_x_4 c15_y_0 c15_y_1 c15_y_2 c15_y_3 c15_y_4 f15_y_0 f15_y_1 f15_y_2 f15_y_3 f15_y_4 c15_p_0 c15_p_1 c15_p_2 c15_p_3 c15_p_4 f15_p_0 f15_p_1 f15_p_2 f15_p_3 f15_p_4 c15_c0_0 c15_c0_1 c15_c0_2 c15_c0_3 c15_c0_4 f15_c0_0 f15_c0_1 f15_c0_2 f15_c0_3 f15_c0_4
  obtain ⟨⟨c16_x_0, c16_x_1, c16_x_2, c16_x_3, c16_x_4⟩, f16_x_0, f16_x_1, f16_x_2, f16_x_3, f16_x_4⟩ := K16_x
  obtain ⟨⟨c16_y_0, c16_y_1, c16_y_2, c16_y_3, c16_y_4⟩, f16_y_0, f16_y_1, f16_y_2, f16_y_3, f16_y_4⟩ := K16_y
  obtain ⟨⟨c16_p_0, c16_p_1, c16_p_2, c16_p_3, c16_p_4⟩, f16_p_0, f16_p_1, f16_p_2, f16_p_3, f16_p_4⟩ := K16_p
  have l16_x : w.heap.size < w16.heap.size := by omega
  have l16_y : w.heap.size + 1 < w16.heap.size := by omega
  have l16_p : w11.heap.size < w16.heap.size := by omega
  have l16_c0 : w14.heap.size < w16.heap.size := by omega
  go_wp2_with fail
  refine (Flip_any _ _ _ _ _ _).mono ?_
  rintro e w17 ⟨rfl, hb⟩
  rw [HFY.out]
  unfold Ret5
  (try simp only)
  have K17_x : Has5 w17 (w.heap.size) a b c d k := Has5.keep (by refine ⟨⟨?_, ?_, ?_, ?_, ?_⟩, ?_, ?_, ?_, ?_, ?_⟩ <;> go_cell) hb (by first | omega | (simp; done) | (simp; omega))
  have K17_y : Has5 w17 (w.heap.size + 1) p q r s l := Has5.keep (by refine ⟨⟨?_, ?_, ?_, ?_, ?_⟩, ?_, ?_, ?_, ?_, ?_⟩ <;> go_cell) hb (by first | omega | (simp; done) | (simp; omega))
  have K17_p : Has5 w17 (w11.heap.size) m0 m1 m2 m3 m4 := Has5.keep (by refine ⟨⟨?_, ?_, ?_, ?_, ?_⟩, ?_, ?_, ?_, ?_, ?_⟩ <;> go_cell) hb (by first | omega | (simp; done) | (simp; omega))
  have K17_a1 : Has5 w17 (w16.heap.size) x0' x1' x2' x3' k := Has5.keep (by refine ⟨⟨?_, ?_, ?_, ?_, ?_⟩, ?_, ?_, ?_, ?_, ?_⟩ <;> go_cell) hb (by first | omega | (simp; done) | (simp; omega))
  have R17_r0 : w17.cell? ⟨w11.heap.size + 1, 0, none⟩ = some (.func (Fn.func 34) #[] #[]) := (hb.cell (p := ⟨w11.heap.size + 1, 0, none⟩) (by first | omega | (simp; done) | (simp; omega))).trans (by go_cell)
  have R17_r1 : w17.cell? ⟨w11.heap.size + 1, 1, none⟩ = some (.func (Fn.func 36) #[] #[]) := (hb.cell (p := ⟨w11.heap.size + 1, 1, none⟩) (by first | omega | (simp; done) | (simp; omega))).trans (by go_cell)
  have D17 : Below w.heap.size w w17 := Below.trans (by go_grown) (hb.mono (by first | omega | (simp; done) | (simp; omega)))
  have s17 : w16.heap.size < w17.heap.size := by have := hb.size; (try simp at this); omega
  have lr17 : w11.heap.size + 1 < w17.heap.size := by have := hb.size; (try simp at this); omega
  clear hb D16 c16_x_0 c16_x_1 c16_x_2 c16_x_3 c16_x_4 f16_x_0 f16_x_1 f16_x_2 f16_x_3 f16_x_4 c16_y_0 c16_y_1 c16_y_2 c16_y_3 c16_y_4 f16_y_0 f16_y_1 f16_y_2 f16_y_3 f16_y_4 c16_p_0 c16_p_1 c16_p_2 c16_p_3 c16_p_4 f16_p_0 f16_p_1 f16_p_2 f16_p_3 f16_p_4
  obtain ⟨⟨c17_x_0, c17_x_1, c17_x_2, c17_x_3, c17_x_4⟩, f17_x_0, f17_x_1, f17_x_2, f17_x_3, f17_x_4⟩ := K17_x
  obtain ⟨⟨c17_y_0, c17_y_1, c17_y_2, c17_y_3, c17_y_4⟩, f17_y_0, f17_y_1, f17_y_2, f17_y_3, f17_y_4⟩ := K17_y
  obtain ⟨⟨c17_p_0, c17_p_1, c17_p_2, c17_p_3, c17_p_4⟩, f17_p_0, f17_p_1, f17_p_2, f17_p_3, f17_p_4⟩ := K17_p
  obtain ⟨⟨c17_a1_0, c17_a1_1, c17_a1_2, c17_a1_3, c17_a1_4⟩, f17_a1_0, f17_a1_1, f17_a1_2, f17_a1_3, f17_a1_4⟩ := K17_a1
  have l17_x : w.heap.size < w17.heap.size := by omega
  have l17_y : w.heap.size + 1 < w17.heap.size := by omega
  have l17_p : w11.heap.size < w17.heap.size := by omega
  go_wp2_with fail
  refine (Flip_any _ _ _ _ _ _).mono ?_
  rintro e w18 ⟨rfl, hb⟩
  rw [HFM.out]
  unfold Ret5
  (try simp only)
  have K18_x : Has5 w18 (w.heap.size) a b c d k := Has5.keep (by refine ⟨⟨?_, ?_, ?_, ?_, ?_⟩, ?_, ?_, ?_, ?_, ?_⟩ <;> go_cell) hb (by first | omega | (simp; done) | (simp; omega))
  have K18_y : Has5 w18 (w.heap.size + 1) p q r s l := Has5.keep (by refine ⟨⟨?_, ?_, ?_, ?_, ?_⟩, ?_, ?_, ?_, ?_, ?_⟩ <;> go_cell) hb (by first | omega | (simp; done) | (simp; omega))
  have K18_p : Has5 w18 (w11.heap.size) m0 m1 m2 m3 m4 := Has5.keep (by refine ⟨⟨?_, ?_, ?_, ?_, ?_⟩, ?_, ?_, ?_, ?_, ?_⟩ <;> go_cell) hb (by first | omega | (simp; done) | (simp; omega))
  have K18_a1 : Has5 w18 (w16.heap.size) x0' x1' x2' x3' k := Has5.keep (by refine ⟨⟨?_, ?_, ?_, ?_, ?_⟩, ?_, ?_, ?_, ?_, ?_⟩ <;> go_cell) hb (by first | omega | (simp; done) | (simp; omega))
  have K18_b1 : Has5 w18 (w17.heap.size) y0' y1' y2' y3' l := Has5.keep (by refine ⟨⟨?_, ?_, ?_, ?_, ?_⟩, ?_, ?_, ?_, ?_, ?_⟩ <;> go_cell) hb (by first | omega | (simp; done) | (simp; omega))
  have R18_r0 : w18.cell? ⟨w11.heap.size + 1, 0, none⟩ = some (.func (Fn.func 34) #[] #[]) := (hb.cell (p := ⟨w11.heap.size + 1, 0, none⟩) (by first | omega | (simp; done) | (simp; omega))).trans (by go_cell)
  have R18_r1 : w18.cell? ⟨w11.heap.size + 1, 1, none⟩ = some (.func (Fn.func 36) #[] #[]) := (hb.cell (p := ⟨w11.heap.size + 1, 1, none⟩) (by first | omega | (simp; done) | (simp; omega))).trans (by go_cell)
  have D18 : Below w.heap.size w w18 := Below.trans (by go_grown) (hb.mono (by first | omega | (simp; done) | (simp; omega)))
  have s18 : w17.heap.size < w18.heap.size := by have := hb.size; (try simp at this); omega
  have lr18 : w11.heap.size + 1 < w18.heap.size := by have := hb.size; (try simp at this); omega
  clear hb D17 c17_x_0 c17_x_1 c17_x_2 c17_x_3 c17_x_4 f17_x_0 f17_x_1 f17_x_2 f17_x_3 f17_x_4 c17_y_0 c17_y_1 c17_y_2 c17_y_3 c17_y_4 f17_y_0 f17_y_1 f17_y_2 f17_y_3 f17_y_4 c17_p_0 c17_p_1 c17_p_2 c17_p_3 c17_p_4 f17_p_0 f17_p_1 f17_p_2 f17_p_3 f17_p_4 c17_a1_0 c17_a1_1 c17_a1_2 c17_a1_3 c17_a1_4 f17_a1_0 f17_a1_1 f17_a1_2 f17_a1_3 f17_a1_4
  obtain ⟨⟨c18_x_0, c18_x_1, c18_x_2, c18_x_3, c18_x_4⟩, f18_x_0, f18_x_1, f18_x_2, f18_x_3, f18_x_4⟩ := K18_x
  obtain ⟨⟨c18_y_0, c18_y_1, c18_y_2, c18_y_3, c18_y_4⟩, f18_y_0, f18_y_1, f18_y_2, f18_y_3, f18_y_4⟩ := K18_y
  obtain ⟨⟨c18_p_0, c18_p_1, c18_p_2, c18_p_3, c18_p_4⟩, f18_p_0, f18_p_1, f18_p_2, f18_p_3, f18_p_4⟩ := K18_p
  obtain ⟨⟨c18_a1_0, c18_a1_1, c18_a1_2, c18_a1_3, c18_a1_4⟩, f18_a1_0, f18_a1_1, f18_a1_2, f18_a1_3, f18_a1_4⟩ := K18_a1
  obtain ⟨⟨c18_b1_0, c18_b1_1, c18_b1_2, c18_b1_3, c18_b1_4⟩, f18_b1_0, f18_b1_1, f18_b1_2, f18_b1_3, f18_b1_4⟩ := K18_b1
  have l18_x : w.heap.size < w18.heap.size := by omega
  have l18_y : w.heap.size + 1 < w18.heap.size := by omega
  have l18_p : w11.heap.size < w18.heap.size := by omega
  have l18_a1 : w16.heap.size < w18.heap.size := by omega
  go_wp2_with fail
  refine (Mul_any _ _ _ _ _ _ _ _ _ _ _).mono ?_
  rintro e w19 ⟨rfl, hb⟩
  rw [HFP.out]
  unfold Ret5
  (try simp only)
  have K19_x : Has5 w19 (w.heap.size) a b c d k := Has5.keep (by refine ⟨⟨?_, ?_, ?_, ?_, ?_⟩, ?_, ?_, ?_, ?_, ?_⟩ <;> go_cell) hb (by first | omega | (simp; done) | (simp; omega))
  have K19_y : Has5 w19 (w.heap.size + 1) p q r s l := Has5.keep (by refine ⟨⟨?_, ?_, ?_, ?_, ?_⟩, ?_, ?_, ?_, ?_, ?_⟩ <;> go_cell) hb (by first | omega | (simp; done) | (simp; omega))
  have K19_p : Has5 w19 (w11.heap.size) m0 m1 m2 m3 m4 := Has5.keep (by refine ⟨⟨?_, ?_, ?_, ?_, ?_⟩, ?_, ?_, ?_, ?_, ?_⟩ <;> go_cell) hb (by first | omega | (simp; done) | (simp; omega))
  have K19_c1 : Has5 w19 (w18.heap.size) z0' z1' z2' z3' m4 := Has5.keep (by refine ⟨⟨?_, ?_, ?_, ?_, ?_⟩, ?_, ?_, ?_, ?_, ?_⟩ <;> go_cell) hb (by first | omega | (simp; done) | (simp; omega))
  have R19_r0 : w19.cell? ⟨w11.heap.size + 1, 0, none⟩ = some (.func (Fn.func 34) #[] #[]) := (hb.cell (p := ⟨w11.heap.size + 1, 0, none⟩) (by first | omega | (simp; done) | (simp; omega))).trans (by go_cell)
  have R19_r1 : w19.cell? ⟨w11.heap.size + 1, 1, none⟩ = some (.func (Fn.func 36) #[] #[]) := (hb.cell (p := ⟨w11.heap.size + 1, 1, none⟩) (by first | omega | (simp; done) | (simp; omega))).trans (by go_cell)
  have D19 : Below w.heap.size w w19 := Below.trans (by go_grown) (hb.mono (by first | omega | (simp; done) | (simp; omega)))
  have s19 : w18.heap.size < w19.heap.size := by have := hb.size; (try simp at this); omega
  have lr19 : w11.heap.size + 1 < w19.heap.size := by have := hb.size; (try simp at this); omega
  clear hb D18 c18_x_0 c18_x_1 c18_x_2 c18_x_3 c18_x_4 f18_x_0 f18_x_1 f18_x_2 f18_x_3 f18_x_4 c18_y_0 c18_y_1 c18_y_2 c18_y_3 c18_y_4 f18_y_0 f18_y_1 f18_y_2 f18_y_3 f18_y_4 c18_p_0 c18_p_1 c18_p_2 c18_p_3 c18_p_4 f18_p_0 f18_p_1 f18_p_2 f18_p_3 f18_p_4 c18_a1_0 c18_a1_1 c18_a1_2 c18_a1_3 c18_a1_4 f18_a1_0 f18_a1_1 f18_a1_2 f18_a1_3 f18_a1_4 c18_b1_0 c18_b1_1 c18_b1_2 c18_b1_3 c18_b1_4 f18_b1_0 f18_b1_1 f18_b1_2 f18_b1_3 f18_b1_4
  obtain ⟨⟨c19_x_0, c19_x_1, c19_x_2, c19_x_3, c19_x_4⟩, f19_x_0, f19_x_1, f19_x_2, f19_x_3, f19_x_4⟩ := K19_x
  obtain ⟨⟨c19_y_0, c19_y_1, c19_y_2, c19_y_3, c19_y_4⟩, f19_y_0, f19_y_1, f19_y_2, f19_y_3, f19_y_4⟩ := K19_y
  obtain ⟨⟨c19_p_0, c19_p_1, c19_p_2, c19_p_3, c19_p_4⟩, f19_p_0, f19_p_1, f19_p_2, f19_p_3, f19_p_4⟩ := K19_p
  obtain ⟨⟨c19_c1_0, c19_c1_1, c19_c1_2, c19_c1_3, c19_c1_4⟩, f19_c1_0, f19_c1_1, f19_c1_2, f19_c1_3, f19_c1_4⟩ := K19_c1
  have l19_x : w.heap.size < w19.heap.size := by omega
  have l19_y : w.heap.size + 1 < w19.heap.size := by omega
  have l19_p : w11.heap.size < w19.heap.size := by omega
  have l19_a1 : w16.heap.size < w19.heap.size := by omega
  have l19_b1 : w17.heap.size < w19.heap.size := by omega
  go_wp2_with fail
  rw [rounds_succ]
  go_wp2_with fail
  refine (awake_any _).mono ?_
  rintro e w20 ⟨rfl, hb⟩
  have D20 : Below w.heap.size w w20 := Below.trans (by go_grown) (hb.mono (by first | omega | (simp; done) | (simp; omega)))
  clear hb
  go_wp2_with fail
  go_returns
  exact ⟨rfl, D20⟩

theorem AmpMirrors_any (a b c d k p q r s l n : Int) (w : World) :
    Calls Try.prog 11 #[.agg #[.int .i64 a, .int .i64 b, .int .i64 c, .int .i64 d, .int .i64 k], .agg #[.int .i64 p, .int .i64 q, .int .i64 r, .int .i64 s, .int .i64 l], .int .i64 n] w fun e w' => e = .returned (.bool true) ∧ Below w.heap.size w w' := by
  cases hx : vld ⟨⟨a, b, c, d⟩, k⟩
  · exact AmpMirrors_bx a b c d k p q r s l n w hx
  cases hy : vld ⟨⟨p, q, r, s⟩, l⟩
  · exact AmpMirrors_by a b c d k p q r s l n w hx hy
  have t : -999 ≤ n.tmod 1000 ∧ n.tmod 1000 ≤ 999 := by rw [Int.tmod_eq_emod]; split <;> omega
  obtain ⟨t0, t1⟩ := t
  have H8 : chgS ⟨⟨a, b, c, d⟩, k⟩ (fun x => rotn ((8 : Int) % 8).toNat x) = (⟨⟨a, b, c, d⟩, k⟩, 0) := chg_ok hx hx
  have H4 := chg_ok (g := fun x => rotn ((4 : Int) % 8).toNat x) hx (vld_rot hx)
  have HN := chg_ok (g := neg) hx (vld_neg hx)
  have e4 : rotn ((4 : Int) % 8).toNat ⟨a, b, c, d⟩ = neg ⟨a, b, c, d⟩ := rot4 _
  have HS := chg_ok (g := fun x => rotn ((n.tmod 1000) % 8).toNat x) hx (vld_rot hx)
  have HB := chg_ok (z := ⟨rotn ((n.tmod 1000) % 8).toNat ⟨a, b, c, d⟩, k⟩) (g := fun x => rotn ((-(n.tmod 1000)) % 8).toNat x) (vld_rot hx) (vld_rot (vld_rot hx))
  have eb := rot_back (n.tmod 1000) ⟨a, b, c, d⟩
  dsimp only at H4 HN HS HB
  rw [e4] at H4
  rw [eb] at HB
  obtain ⟨g0, g1, g2, g3, HG⟩ : ∃ y0 y1 y2 y3, neg ⟨a, b, c, d⟩ = ⟨y0, y1, y2, y3⟩ := ⟨_, _, _, _, rfl⟩
  rw [HG] at H4 HN
  obtain ⟨i0, i1, i2, i3, HI⟩ : ∃ y0 y1 y2 y3, rotn ((n.tmod 1000) % 8).toNat ⟨a, b, c, d⟩ = ⟨y0, y1, y2, y3⟩ := ⟨_, _, _, _, rfl⟩
  rw [HI] at HS HB
  obtain ⟨m0, m1, m2, m3, m4, me, HM⟩ := res5 (mulS ⟨⟨a, b, c, d⟩, k⟩ ⟨⟨p, q, r, s⟩, l⟩)
  by_cases hme : me = 0
  · subst hme
    have hm := (mulS_zero HM.out).2.2.1
    have c1 := chg_ok hx (vld_conj hx)
    have c2 := chg_ok hy (vld_conj hy)
    have c3 := chg_ok hm (vld_conj hm)
    have c4 := conj_mul_zero HM.out
    have f1 := chg_ok (g := fun x => flipV x k) hx (vld_flip (k := k) hx)
    have f2 := chg_ok (g := fun x => flipV x l) hy (vld_flip (k := l) hy)
    have f3 := chg_ok (g := fun x => flipV x m4) hm (vld_flip (k := m4) hm)
    have f4 := flip_mul_zero HM.out
    dsimp only at c1 c2 c3 c4 f1 f2 f3 f4
    obtain ⟨x0, x1, x2, x3, E1⟩ : ∃ y0 y1 y2 y3, conj ⟨a, b, c, d⟩ = ⟨y0, y1, y2, y3⟩ := ⟨_, _, _, _, rfl⟩
    obtain ⟨y0, y1, y2, y3, E2⟩ : ∃ y0 y1 y2 y3, conj ⟨p, q, r, s⟩ = ⟨y0, y1, y2, y3⟩ := ⟨_, _, _, _, rfl⟩
    obtain ⟨z0, z1, z2, z3, E3⟩ : ∃ y0 y1 y2 y3, conj ⟨m0, m1, m2, m3⟩ = ⟨y0, y1, y2, y3⟩ := ⟨_, _, _, _, rfl⟩
    obtain ⟨x0', x1', x2', x3', E4⟩ : ∃ y0 y1 y2 y3, flipV ⟨a, b, c, d⟩ k = ⟨y0, y1, y2, y3⟩ := ⟨_, _, _, _, rfl⟩
    obtain ⟨y0', y1', y2', y3', E5⟩ : ∃ y0 y1 y2 y3, flipV ⟨p, q, r, s⟩ l = ⟨y0, y1, y2, y3⟩ := ⟨_, _, _, _, rfl⟩
    obtain ⟨z0', z1', z2', z3', E6⟩ : ∃ y0 y1 y2 y3, flipV ⟨m0, m1, m2, m3⟩ m4 = ⟨y0, y1, y2, y3⟩ := ⟨_, _, _, _, rfl⟩
    rw [E1] at c1 c4
    rw [E2] at c2 c4
    rw [E3] at c3 c4
    rw [E4] at f1 f4
    rw [E5] at f2 f4
    rw [E6] at f3 f4
    exact AmpMirrors_ok a b c d k p q r s l n g0 g1 g2 g3 k i0 i1 i2 i3 k m0 m1 m2 m3 m4 x0 x1 x2 x3 y0 y1 y2 y3 z0 z1 z2 z3 x0' x1' x2' x3' y0' y1' y2' y3' z0' z1' z2' z3' w hx hy t0 t1 H8 H4 HN HS HB HM c1 c2 c3 c4 f1 f2 f3 f4
  · exact AmpMirrors_bm a b c d k p q r s l n g0 g1 g2 g3 k i0 i1 i2 i3 k m0 m1 m2 m3 m4 me w hx hy t0 t1 H8 H4 HN HS HB HM hme
end Go.Proofs.Ytmildncbkndcoaa
