import Derived.Test.YtmildncbkndcoaaRkm
import Derived.Test.YtmildncbkndcoaaAw
namespace Go.Proofs.Ytmildncbkndcoaa
open Go.RowKit Amp
attribute [local go_sem] ix0 ix1 ix2 ix3 jx0 jx1 jx2 jx3
attribute [local go_sem high] run_eqNum run_neNum

set_option maxRecDepth 100000 in
set_option maxHeartbeats 8000000 in
theorem AmpRanks_bad (a b c d k p q r s l e f g h m t1 e1 t2 e2 t3 e3 : Int) (w : World)
    (HC1 : Hid (cmpS ⟨⟨a, b, c, d⟩, k⟩ ⟨⟨p, q, r, s⟩, l⟩ = (t1, e1)))
    (HC2 : Hid (cmpS ⟨⟨p, q, r, s⟩, l⟩ ⟨⟨e, f, g, h⟩, m⟩ = (t2, e2)))
    (HC3 : Hid (cmpS ⟨⟨a, b, c, d⟩, k⟩ ⟨⟨e, f, g, h⟩, m⟩ = (t3, e3)))
    (he : ¬ (e1 = 0 ∧ e2 = 0 ∧ e3 = 0)) :
    Calls Try.prog 13 #[.agg #[.int .i64 a, .int .i64 b, .int .i64 c, .int .i64 d, .int .i64 k], .agg #[.int .i64 p, .int .i64 q, .int .i64 r, .int .i64 s, .int .i64 l], .agg #[.int .i64 e, .int .i64 f, .int .i64 g, .int .i64 h, .int .i64 m]] w fun e w' => e = .returned (.bool true) ∧ Below w.heap.size w w' := by
  go_enter Try.func13, Try.ntmps13
  go_wp2_with fail
  refine (Cmp_any _ _ _ _ _ _ _ _ _ _ _).mono ?_
  rintro e w1 ⟨rfl, hb⟩
  rw [HC1.out]
  (try simp only)
  have K1_x : Has5 w1 (w.heap.size) a b c d k := Has5.keep (by refine ⟨⟨?_, ?_, ?_, ?_, ?_⟩, ?_, ?_, ?_, ?_, ?_⟩ <;> go_cell) hb (by first | omega | (simp; done) | (simp; omega))
  have K1_y : Has5 w1 (w.heap.size + 1) p q r s l := Has5.keep (by refine ⟨⟨?_, ?_, ?_, ?_, ?_⟩, ?_, ?_, ?_, ?_, ?_⟩ <;> go_cell) hb (by first | omega | (simp; done) | (simp; omega))
  have K1_z : Has5 w1 (w.heap.size + 1 + 1) e f g h m := Has5.keep (by refine ⟨⟨?_, ?_, ?_, ?_, ?_⟩, ?_, ?_, ?_, ?_, ?_⟩ <;> go_cell) hb (by first | omega | (simp; done) | (simp; omega))
  have D1 : Below w.heap.size w w1 := Below.trans (by go_grown) (hb.mono (by first | omega | (simp; done) | (simp; omega)))
  have s1 : w.heap.size + 1 + 1 < w1.heap.size := by have := hb.size; (try simp at this); omega
  clear hb
  obtain ⟨⟨c1_x_0, c1_x_1, c1_x_2, c1_x_3, c1_x_4⟩, f1_x_0, f1_x_1, f1_x_2, f1_x_3, f1_x_4⟩ := K1_x
  obtain ⟨⟨c1_y_0, c1_y_1, c1_y_2, c1_y_3, c1_y_4⟩, f1_y_0, f1_y_1, f1_y_2, f1_y_3, f1_y_4⟩ := K1_y
  obtain ⟨⟨c1_z_0, c1_z_1, c1_z_2, c1_z_3, c1_z_4⟩, f1_z_0, f1_z_1, f1_z_2, f1_z_3, f1_z_4⟩ := K1_z
  have l1_x : w.heap.size < w1.heap.size := by omega
  have l1_y : w.heap.size + 1 < w1.heap.size := by omega
  go_wp2_with fail
  refine (Cmp_any _ _ _ _ _ _ _ _ _ _ _).mono ?_
  rintro e w2 ⟨rfl, hb⟩
  rw [HC2.out]
  (try simp only)
  have K2_x : Has5 w2 (w.heap.size) a b c d k := Has5.keep (by refine ⟨⟨?_, ?_, ?_, ?_, ?_⟩, ?_, ?_, ?_, ?_, ?_⟩ <;> go_cell) hb (by first | omega | (simp; done) | (simp; omega))
  have K2_y : Has5 w2 (w.heap.size + 1) p q r s l := Has5.keep (by refine ⟨⟨?_, ?_, ?_, ?_, ?_⟩, ?_, ?_, ?_, ?_, ?_⟩ <;> go_cell) hb (by first | omega | (simp; done) | (simp; omega))
  have K2_z : Has5 w2 (w.heap.size + 1 + 1) e f g h m := Has5.keep (by refine ⟨⟨?_, ?_, ?_, ?_, ?_⟩, ?_, ?_, ?_, ?_, ?_⟩ <;> go_cell) hb (by first | omega | (simp; done) | (simp; omega))
  have D2 : Below w.heap.size w w2 := Below.trans (by go_grown) (hb.mono (by first | omega | (simp; done) | (simp; omega)))
  have s2 : w.heap.size + 1 + 1 < w2.heap.size := by have := hb.size; (try simp at this); omega
  clear hb D1 c1_x_0 c1_x_1 c1_x_2 c1_x_3 c1_x_4 f1_x_0 f1_x_1 f1_x_2 f1_x_3 f1_x_4 c1_y_0 c1_y_1 c1_y_2 c1_y_3 c1_y_4 f1_y_0 f1_y_1 f1_y_2 f1_y_3 f1_y_4 c1_z_0 c1_z_1 c1_z_2 c1_z_3 c1_z_4 f1_z_0 f1_z_1 f1_z_2 f1_z_3 f1_z_4
  obtain ⟨⟨c2_x_0, c2_x_1, c2_x_2, c2_x_3, c2_x_4⟩, f2_x_0, f2_x_1, f2_x_2, f2_x_3, f2_x_4⟩ := K2_x
  obtain ⟨⟨c2_y_0, c2_y_1, c2_y_2, c2_y_3, c2_y_4⟩, f2_y_0, f2_y_1, f2_y_2, f2_y_3, f2_y_4⟩ := K2_y
  obtain ⟨⟨c2_z_0, c2_z_1, c2_z_2, c2_z_3, c2_z_4⟩, f2_z_0, f2_z_1, f2_z_2, f2_z_3, f2_z_4⟩ := K2_z
  have l2_x : w.heap.size < w2.heap.size := by omega
  have l2_y : w.heap.size + 1 < w2.heap.size := by omega
  go_wp2_with fail
  refine (Cmp_any _ _ _ _ _ _ _ _ _ _ _).mono ?_
  rintro e w3 ⟨rfl, hb⟩
  rw [HC3.out]
  (try simp only)
  have K3_x : Has5 w3 (w.heap.size) a b c d k := Has5.keep (by refine ⟨⟨?_, ?_, ?_, ?_, ?_⟩, ?_, ?_, ?_, ?_, ?_⟩ <;> go_cell) hb (by first | omega | (simp; done) | (simp; omega))
  have K3_y : Has5 w3 (w.heap.size + 1) p q r s l := Has5.keep (by refine ⟨⟨?_, ?_, ?_, ?_, ?_⟩, ?_, ?_, ?_, ?_, ?_⟩ <;> go_cell) hb (by first | omega | (simp; done) | (simp; omega))
  have K3_z : Has5 w3 (w.heap.size + 1 + 1) e f g h m := Has5.keep (by refine ⟨⟨?_, ?_, ?_, ?_, ?_⟩, ?_, ?_, ?_, ?_, ?_⟩ <;> go_cell) hb (by first | omega | (simp; done) | (simp; omega))
  have D3 : Below w.heap.size w w3 := Below.trans (by go_grown) (hb.mono (by first | omega | (simp; done) | (simp; omega)))
  have s3 : w.heap.size + 1 + 1 < w3.heap.size := by have := hb.size; (try simp at this); omega
  clear hb D2 c2_x_0 c2_x_1 c2_x_2 c2_x_3 c2_x_4 f2_x_0 f2_x_1 f2_x_2 f2_x_3 f2_x_4 c2_y_0 c2_y_1 c2_y_2 c2_y_3 c2_y_4 f2_y_0 f2_y_1 f2_y_2 f2_y_3 f2_y_4 c2_z_0 c2_z_1 c2_z_2 c2_z_3 c2_z_4 f2_z_0 f2_z_1 f2_z_2 f2_z_3 f2_z_4
  obtain ⟨⟨c3_x_0, c3_x_1, c3_x_2, c3_x_3, c3_x_4⟩, f3_x_0, f3_x_1, f3_x_2, f3_x_3, f3_x_4⟩ := K3_x
  obtain ⟨⟨c3_y_0, c3_y_1, c3_y_2, c3_y_3, c3_y_4⟩, f3_y_0, f3_y_1, f3_y_2, f3_y_3, f3_y_4⟩ := K3_y
  obtain ⟨⟨c3_z_0, c3_z_1, c3_z_2, c3_z_3, c3_z_4⟩, f3_z_0, f3_z_1, f3_z_2, f3_z_3, f3_z_4⟩ := K3_z
  have l3_x : w.heap.size < w3.heap.size := by omega
  have l3_y : w.heap.size + 1 < w3.heap.size := by omega
  by_cases h1 : e1 = 0
  · by_cases h2 : e2 = 0
    · have h3 : ¬ e3 = 0 := fun h3 => he ⟨h1, h2, h3⟩
      clear he
      subst h1 h2
      go_wp2_with fail
      refine (awake_any _).mono ?_
      rintro e WN ⟨rfl, hb⟩
      have DN : Below w.heap.size w WN := Below.trans (by go_grown) (hb.mono (by first | omega | (simp; done) | (simp; omega)))
      clear hb
      go_wp2_with fail
      go_returns
      exact ⟨rfl, DN⟩
    · clear he
      subst h1
      go_wp2_with fail
      refine (awake_any _).mono ?_
      rintro e WN ⟨rfl, hb⟩
      have DN : Below w.heap.size w WN := Below.trans (by go_grown) (hb.mono (by first | omega | (simp; done) | (simp; omega)))
      clear hb
      go_wp2_with fail
      go_returns
      exact ⟨rfl, DN⟩
  · clear he
    go_wp2_with fail
    refine (awake_any _).mono ?_
    rintro e WN ⟨rfl, hb⟩
    have DN : Below w.heap.size w WN := Below.trans (by go_grown) (hb.mono (by first | omega | (simp; done) | (simp; omega)))
    clear hb
    go_wp2_with fail
    go_returns
    exact ⟨rfl, DN⟩

set_option maxRecDepth 100000 in
set_option maxHeartbeats 8000000 in
theorem AmpRanks_c1 (a b c d k e f g h m x0 x1 x2 x3 x4 xe y0 y1 y2 y3 y4 ye : Int) (w : World)
    (HC1 : Hid (cmpS ⟨⟨a, b, c, d⟩, k⟩ ⟨⟨a, b, c, d⟩, k⟩ = (0, 0)))
    (HC2 : Hid (cmpS ⟨⟨a, b, c, d⟩, k⟩ ⟨⟨e, f, g, h⟩, m⟩ = (0, 0)))
    (HC3 : Hid (cmpS ⟨⟨a, b, c, d⟩, k⟩ ⟨⟨e, f, g, h⟩, m⟩ = (0, 0)))
    (HB : Hid (cmpS ⟨⟨a, b, c, d⟩, k⟩ ⟨⟨a, b, c, d⟩, k⟩ = (0, 0)))
    (HA : Hid (addS ⟨⟨a, b, c, d⟩, k⟩ ⟨⟨e, f, g, h⟩, m⟩ = (⟨⟨x0, x1, x2, x3⟩, x4⟩, xe)))
    (HA2 : Hid (addS ⟨⟨a, b, c, d⟩, k⟩ ⟨⟨e, f, g, h⟩, m⟩ = (⟨⟨y0, y1, y2, y3⟩, y4⟩, ye)))
    (HF : Hid (xe = 0 → ye = 0 → cmpS ⟨⟨x0, x1, x2, x3⟩, x4⟩ ⟨⟨y0, y1, y2, y3⟩, y4⟩ = (0, 0))) :
    Calls Try.prog 13 #[.agg #[.int .i64 a, .int .i64 b, .int .i64 c, .int .i64 d, .int .i64 k], .agg #[.int .i64 a, .int .i64 b, .int .i64 c, .int .i64 d, .int .i64 k], .agg #[.int .i64 e, .int .i64 f, .int .i64 g, .int .i64 h, .int .i64 m]] w fun e w' => e = .returned (.bool true) ∧ Below w.heap.size w w' := by
  go_enter Try.func13, Try.ntmps13
  go_wp2_with fail
  refine (Cmp_any _ _ _ _ _ _ _ _ _ _ _).mono ?_
  rintro e w1 ⟨rfl, hb⟩
  rw [HC1.out]
  (try simp only)
  have K1_x : Has5 w1 (w.heap.size) a b c d k := Has5.keep (by refine ⟨⟨?_, ?_, ?_, ?_, ?_⟩, ?_, ?_, ?_, ?_, ?_⟩ <;> go_cell) hb (by first | omega | (simp; done) | (simp; omega))
  have K1_y : Has5 w1 (w.heap.size + 1) a b c d k := Has5.keep (by refine ⟨⟨?_, ?_, ?_, ?_, ?_⟩, ?_, ?_, ?_, ?_, ?_⟩ <;> go_cell) hb (by first | omega | (simp; done) | (simp; omega))
  have K1_z : Has5 w1 (w.heap.size + 1 + 1) e f g h m := Has5.keep (by refine ⟨⟨?_, ?_, ?_, ?_, ?_⟩, ?_, ?_, ?_, ?_, ?_⟩ <;> go_cell) hb (by first | omega | (simp; done) | (simp; omega))
  have D1 : Below w.heap.size w w1 := Below.trans (by go_grown) (hb.mono (by first | omega | (simp; done) | (simp; omega)))
  have s1 : w.heap.size + 1 + 1 < w1.heap.size := by have := hb.size; (try simp at this); omega
  clear hb
  obtain ⟨⟨c1_x_0, c1_x_1, c1_x_2, c1_x_3, c1_x_4⟩, f1_x_0, f1_x_1, f1_x_2, f1_x_3, f1_x_4⟩ := K1_x
  obtain ⟨⟨c1_y_0, c1_y_1, c1_y_2, c1_y_3, c1_y_4⟩, f1_y_0, f1_y_1, f1_y_2, f1_y_3, f1_y_4⟩ := K1_y
  obtain ⟨⟨c1_z_0, c1_z_1, c1_z_2, c1_z_3, c1_z_4⟩, f1_z_0, f1_z_1, f1_z_2, f1_z_3, f1_z_4⟩ := K1_z
  have l1_x : w.heap.size < w1.heap.size := by omega
  have l1_y : w.heap.size + 1 < w1.heap.size := by omega
  go_wp2_with fail
  refine (Cmp_any _ _ _ _ _ _ _ _ _ _ _).mono ?_
  rintro e w2 ⟨rfl, hb⟩
  rw [HC2.out]
  (try simp only)
  have K2_x : Has5 w2 (w.heap.size) a b c d k := Has5.keep (by refine ⟨⟨?_, ?_, ?_, ?_, ?_⟩, ?_, ?_, ?_, ?_, ?_⟩ <;> go_cell) hb (by first | omega | (simp; done) | (simp; omega))
  have K2_y : Has5 w2 (w.heap.size + 1) a b c d k := Has5.keep (by refine ⟨⟨?_, ?_, ?_, ?_, ?_⟩, ?_, ?_, ?_, ?_, ?_⟩ <;> go_cell) hb (by first | omega | (simp; done) | (simp; omega))
  have K2_z : Has5 w2 (w.heap.size + 1 + 1) e f g h m := Has5.keep (by refine ⟨⟨?_, ?_, ?_, ?_, ?_⟩, ?_, ?_, ?_, ?_, ?_⟩ <;> go_cell) hb (by first | omega | (simp; done) | (simp; omega))
  have D2 : Below w.heap.size w w2 := Below.trans (by go_grown) (hb.mono (by first | omega | (simp; done) | (simp; omega)))
  have s2 : w.heap.size + 1 + 1 < w2.heap.size := by have := hb.size; (try simp at this); omega
  clear hb D1 c1_x_0 c1_x_1 c1_x_2 c1_x_3 c1_x_4 f1_x_0 f1_x_1 f1_x_2 f1_x_3 f1_x_4 c1_y_0 c1_y_1 c1_y_2 c1_y_3 c1_y_4 f1_y_0 f1_y_1 f1_y_2 f1_y_3 f1_y_4 c1_z_0 c1_z_1 c1_z_2 c1_z_3 c1_z_4 f1_z_0 f1_z_1 f1_z_2 f1_z_3 f1_z_4
  obtain ⟨⟨c2_x_0, c2_x_1, c2_x_2, c2_x_3, c2_x_4⟩, f2_x_0, f2_x_1, f2_x_2, f2_x_3, f2_x_4⟩ := K2_x
  obtain ⟨⟨c2_y_0, c2_y_1, c2_y_2, c2_y_3, c2_y_4⟩, f2_y_0, f2_y_1, f2_y_2, f2_y_3, f2_y_4⟩ := K2_y
  obtain ⟨⟨c2_z_0, c2_z_1, c2_z_2, c2_z_3, c2_z_4⟩, f2_z_0, f2_z_1, f2_z_2, f2_z_3, f2_z_4⟩ := K2_z
  have l2_x : w.heap.size < w2.heap.size := by omega
  have l2_y : w.heap.size + 1 < w2.heap.size := by omega
  go_wp2_with fail
  refine (Cmp_any _ _ _ _ _ _ _ _ _ _ _).mono ?_
  rintro e w3 ⟨rfl, hb⟩
  rw [HC3.out]
  (try simp only)
  have K3_x : Has5 w3 (w.heap.size) a b c d k := Has5.keep (by refine ⟨⟨?_, ?_, ?_, ?_, ?_⟩, ?_, ?_, ?_, ?_, ?_⟩ <;> go_cell) hb (by first | omega | (simp; done) | (simp; omega))
  have K3_y : Has5 w3 (w.heap.size + 1) a b c d k := Has5.keep (by refine ⟨⟨?_, ?_, ?_, ?_, ?_⟩, ?_, ?_, ?_, ?_, ?_⟩ <;> go_cell) hb (by first | omega | (simp; done) | (simp; omega))
  have K3_z : Has5 w3 (w.heap.size + 1 + 1) e f g h m := Has5.keep (by refine ⟨⟨?_, ?_, ?_, ?_, ?_⟩, ?_, ?_, ?_, ?_, ?_⟩ <;> go_cell) hb (by first | omega | (simp; done) | (simp; omega))
  have D3 : Below w.heap.size w w3 := Below.trans (by go_grown) (hb.mono (by first | omega | (simp; done) | (simp; omega)))
  have s3 : w.heap.size + 1 + 1 < w3.heap.size := by have := hb.size; (try simp at this); omega
  clear hb D2 c2_x_0 c2_x_1 c2_x_2 c2_x_3 c2_x_4 f2_x_0 f2_x_1 f2_x_2 f2_x_3 f2_x_4 c2_y_0 c2_y_1 c2_y_2 c2_y_3 c2_y_4 f2_y_0 f2_y_1 f2_y_2 f2_y_3 f2_y_4 c2_z_0 c2_z_1 c2_z_2 c2_z_3 c2_z_4 f2_z_0 f2_z_1 f2_z_2 f2_z_3 f2_z_4
  obtain ⟨⟨c3_x_0, c3_x_1, c3_x_2, c3_x_3, c3_x_4⟩, f3_x_0, f3_x_1, f3_x_2, f3_x_3, f3_x_4⟩ := K3_x
  obtain ⟨⟨c3_y_0, c3_y_1, c3_y_2, c3_y_3, c3_y_4⟩, f3_y_0, f3_y_1, f3_y_2, f3_y_3, f3_y_4⟩ := K3_y
  obtain ⟨⟨c3_z_0, c3_z_1, c3_z_2, c3_z_3, c3_z_4⟩, f3_z_0, f3_z_1, f3_z_2, f3_z_3, f3_z_4⟩ := K3_z
  have l3_x : w.heap.size < w3.heap.size := by omega
  have l3_y : w.heap.size + 1 < w3.heap.size := by omega
  go_wp2_with fail
  refine (Cmp_any _ _ _ _ _ _ _ _ _ _ _).mono ?_
  rintro e w4 ⟨rfl, hb⟩
  rw [HB.out]
  (try simp only)
  have K4_x : Has5 w4 (w.heap.size) a b c d k := Has5.keep (by refine ⟨⟨?_, ?_, ?_, ?_, ?_⟩, ?_, ?_, ?_, ?_, ?_⟩ <;> go_cell) hb (by first | omega | (simp; done) | (simp; omega))
  have K4_y : Has5 w4 (w.heap.size + 1) a b c d k := Has5.keep (by refine ⟨⟨?_, ?_, ?_, ?_, ?_⟩, ?_, ?_, ?_, ?_, ?_⟩ <;> go_cell) hb (by first | omega | (simp; done) | (simp; omega))
  have K4_z : Has5 w4 (w.heap.size + 1 + 1) e f g h m := Has5.keep (by refine ⟨⟨?_, ?_, ?_, ?_, ?_⟩, ?_, ?_, ?_, ?_, ?_⟩ <;> go_cell) hb (by first | omega | (simp; done) | (simp; omega))
  have D4 : Below w.heap.size w w4 := Below.trans (by go_grown) (hb.mono (by first | omega | (simp; done) | (simp; omega)))
  have s4 : w.heap.size + 1 + 1 < w4.heap.size := by have := hb.size; (try simp at this); omega
  clear hb D3 c3_x_0 c3_x_1 c3_x_2 c3_x_3 c3_x_4 f3_x_0 f3_x_1 f3_x_2 f3_x_3 f3_x_4 c3_y_0 c3_y_1 c3_y_2 c3_y_3 c3_y_4 f3_y_0 f3_y_1 f3_y_2 f3_y_3 f3_y_4 c3_z_0 c3_z_1 c3_z_2 c3_z_3 c3_z_4 f3_z_0 f3_z_1 f3_z_2 f3_z_3 f3_z_4
  obtain ⟨⟨c4_x_0, c4_x_1, c4_x_2, c4_x_3, c4_x_4⟩, f4_x_0, f4_x_1, f4_x_2, f4_x_3, f4_x_4⟩ := K4_x
  obtain ⟨⟨c4_y_0, c4_y_1, c4_y_2, c4_y_3, c4_y_4⟩, f4_y_0, f4_y_1, f4_y_2, f4_y_3, f4_y_4⟩ := K4_y
  obtain ⟨⟨c4_z_0, c4_z_1, c4_z_2, c4_z_3, c4_z_4⟩, f4_z_0, f4_z_1, f4_z_2, f4_z_3, f4_z_4⟩ := K4_z
  have l4_x : w.heap.size < w4.heap.size := by omega
  have l4_y : w.heap.size + 1 < w4.heap.size := by omega
  go_wp2_with fail
  refine (Add_any _ _ _ _ _ _ _ _ _ _ _).mono ?_
  rintro e w5 ⟨rfl, hb⟩
  rw [HA.out]
  unfold Ret5
  (try simp only)
  have K5_x : Has5 w5 (w.heap.size) a b c d k := Has5.keep (by refine ⟨⟨?_, ?_, ?_, ?_, ?_⟩, ?_, ?_, ?_, ?_, ?_⟩ <;> go_cell) hb (by first | omega | (simp; done) | (simp; omega))
  have K5_y : Has5 w5 (w.heap.size + 1) a b c d k := Has5.keep (by refine ⟨⟨?_, ?_, ?_, ?_, ?_⟩, ?_, ?_, ?_, ?_, ?_⟩ <;> go_cell) hb (by first | omega | (simp; done) | (simp; omega))
  have K5_z : Has5 w5 (w.heap.size + 1 + 1) e f g h m := Has5.keep (by refine ⟨⟨?_, ?_, ?_, ?_, ?_⟩, ?_, ?_, ?_, ?_, ?_⟩ <;> go_cell) hb (by first | omega | (simp; done) | (simp; omega))
  have D5 : Below w.heap.size w w5 := Below.trans (by go_grown) (hb.mono (by first | omega | (simp; done) | (simp; omega)))
  have s5 : w.heap.size + 1 + 1 < w5.heap.size := by have := hb.size; (try simp at this); omega
  clear hb D4 c4_x_0 c4_x_1 c4_x_2 c4_x_3 c4_x_4 f4_x_0 f4_x_1 f4_x_2 f4_x_3 f4_x_4 c4_y_0 c4_y_1 c4_y_2 c4_y_3 c4_y_4 f4_y_0 f4_y_1 f4_y_2 f4_y_3 f4_y_4 c4_z_0 c4_z_1 c4_z_2 c4_z_3 c4_z_4 f4_z_0 f4_z_1 f4_z_2 f4_z_3 f4_z_4
  obtain ⟨⟨c5_x_0, c5_x_1, c5_x_2, c5_x_3, c5_x_4⟩, f5_x_0, f5_x_1, f5_x_2, f5_x_3, f5_x_4⟩ := K5_x
  obtain ⟨⟨c5_y_0, c5_y_1, c5_y_2, c5_y_3, c5_y_4⟩, f5_y_0, f5_y_1, f5_y_2, f5_y_3, f5_y_4⟩ := K5_y
  obtain ⟨⟨c5_z_0, c5_z_1, c5_z_2, c5_z_3, c5_z_4⟩, f5_z_0, f5_z_1, f5_z_2, f5_z_3, f5_z_4⟩ := K5_z
  have l5_x : w.heap.size < w5.heap.size := by omega
  have l5_y : w.heap.size + 1 < w5.heap.size := by omega
  go_wp2_with fail
  refine (Add_any _ _ _ _ _ _ _ _ _ _ _).mono ?_
  rintro e w6 ⟨rfl, hb⟩
  rw [HA2.out]
  unfold Ret5
  (try simp only)
  have K6_x : Has5 w6 (w.heap.size) a b c d k := Has5.keep (by refine ⟨⟨?_, ?_, ?_, ?_, ?_⟩, ?_, ?_, ?_, ?_, ?_⟩ <;> go_cell) hb (by first | omega | (simp; done) | (simp; omega))
  have K6_y : Has5 w6 (w.heap.size + 1) a b c d k := Has5.keep (by refine ⟨⟨?_, ?_, ?_, ?_, ?_⟩, ?_, ?_, ?_, ?_, ?_⟩ <;> go_cell) hb (by first | omega | (simp; done) | (simp; omega))
  have K6_z : Has5 w6 (w.heap.size + 1 + 1) e f g h m := Has5.keep (by refine ⟨⟨?_, ?_, ?_, ?_, ?_⟩, ?_, ?_, ?_, ?_, ?_⟩ <;> go_cell) hb (by first | omega | (simp; done) | (simp; omega))
  have K6_p : Has5 w6 (w5.heap.size) x0 x1 x2 x3 x4 := Has5.keep (by refine ⟨⟨?_, ?_, ?_, ?_, ?_⟩, ?_, ?_, ?_, ?_, ?_⟩ <;> go_cell) hb (by first | omega | (simp; done) | (simp; omega))
  have D6 : Below w.heap.size w w6 := Below.trans (by go_grown) (hb.mono (by first | omega | (simp; done) | (simp; omega)))
  have s6 : w5.heap.size < w6.heap.size := by have := hb.size; (try simp at this); omega
  clear hb D5 c5_x_0 c5_x_1 c5_x_2 c5_x_3 c5_x_4 f5_x_0 f5_x_1 f5_x_2 f5_x_3 f5_x_4 c5_y_0 c5_y_1 c5_y_2 c5_y_3 c5_y_4 f5_y_0 f5_y_1 f5_y_2 f5_y_3 f5_y_4 c5_z_0 c5_z_1 c5_z_2 c5_z_3 c5_z_4 f5_z_0 f5_z_1 f5_z_2 f5_z_3 f5_z_4
  obtain ⟨⟨c6_x_0, c6_x_1, c6_x_2, c6_x_3, c6_x_4⟩, f6_x_0, f6_x_1, f6_x_2, f6_x_3, f6_x_4⟩ := K6_x
  obtain ⟨⟨c6_y_0, c6_y_1, c6_y_2, c6_y_3, c6_y_4⟩, f6_y_0, f6_y_1, f6_y_2, f6_y_3, f6_y_4⟩ := K6_y
  obtain ⟨⟨c6_z_0, c6_z_1, c6_z_2, c6_z_3, c6_z_4⟩, f6_z_0, f6_z_1, f6_z_2, f6_z_3, f6_z_4⟩ := K6_z
  obtain ⟨⟨c6_p_0, c6_p_1, c6_p_2, c6_p_3, c6_p_4⟩, f6_p_0, f6_p_1, f6_p_2, f6_p_3, f6_p_4⟩ := K6_p
  have l6_x : w.heap.size < w6.heap.size := by omega
  have l6_y : w.heap.size + 1 < w6.heap.size := by omega
  have l6_z : w.heap.size + 1 + 1 < w6.heap.size := by omega
  by_cases hxe : xe = 0
  · by_cases hye : ye = 0
    · have HG := Lib.hid (HF.out hxe hye)
      subst hxe hye
      go_wp2_with fail
      refine (Cmp_any _ _ _ _ _ _ _ _ _ _ _).mono ?_
      rintro e WM ⟨rfl, hb⟩
      have DM : Below w.heap.size w WM := Below.trans (by go_grown) (hb.mono (by first | omega | (simp; done) | (simp; omega)))
      have sM := DM.size
      clear hb
      rw [HG.out]
      (try simp only)
      go_wp2_with fail
      refine (awake_any _).mono ?_
      rintro e WN ⟨rfl, hb⟩
      have DN : Below w.heap.size w WN := Below.trans (by go_grown) (hb.mono (by first | omega | (simp; done) | (simp; omega)))
      clear hb
      go_wp2_with fail
      go_returns
      exact ⟨rfl, DN⟩
    · subst hxe
      go_wp2_with fail
      refine (awake_any _).mono ?_
      rintro e WN ⟨rfl, hb⟩
      have DN : Below w.heap.size w WN := Below.trans (by go_grown) (hb.mono (by first | omega | (simp; done) | (simp; omega)))
      clear hb
      go_wp2_with fail
      go_returns
      exact ⟨rfl, DN⟩
  · go_wp2_with fail
    refine (awake_any _).mono ?_
    rintro e WN ⟨rfl, hb⟩
    have DN : Below w.heap.size w WN := Below.trans (by go_grown) (hb.mono (by first | omega | (simp; done) | (simp; omega)))
    clear hb
    go_wp2_with fail
    go_returns
    exact ⟨rfl, DN⟩

set_option maxRecDepth 100000 in
set_option maxHeartbeats 8000000 in
theorem AmpRanks_c3 (a b c d k e f g h m t2 x0 x1 x2 x3 x4 xe y0 y1 y2 y3 y4 ye : Int) (w : World)
    (HC1 : Hid (cmpS ⟨⟨a, b, c, d⟩, k⟩ ⟨⟨a, b, c, d⟩, k⟩ = (0, 0)))
    (HC2 : Hid (cmpS ⟨⟨a, b, c, d⟩, k⟩ ⟨⟨e, f, g, h⟩, m⟩ = (t2, 0)))
    (HC3 : Hid (cmpS ⟨⟨a, b, c, d⟩, k⟩ ⟨⟨e, f, g, h⟩, m⟩ = (t2, 0)))
    (HB : Hid (cmpS ⟨⟨a, b, c, d⟩, k⟩ ⟨⟨a, b, c, d⟩, k⟩ = (0, 0)))
    (HA : Hid (addS ⟨⟨a, b, c, d⟩, k⟩ ⟨⟨e, f, g, h⟩, m⟩ = (⟨⟨x0, x1, x2, x3⟩, x4⟩, xe)))
    (HA2 : Hid (addS ⟨⟨a, b, c, d⟩, k⟩ ⟨⟨e, f, g, h⟩, m⟩ = (⟨⟨y0, y1, y2, y3⟩, y4⟩, ye)))
    (HF : Hid (xe = 0 → ye = 0 → cmpS ⟨⟨x0, x1, x2, x3⟩, x4⟩ ⟨⟨y0, y1, y2, y3⟩, y4⟩ = (0, 0)))
    (h2 : ¬ t2 = 0) :
    Calls Try.prog 13 #[.agg #[.int .i64 a, .int .i64 b, .int .i64 c, .int .i64 d, .int .i64 k], .agg #[.int .i64 a, .int .i64 b, .int .i64 c, .int .i64 d, .int .i64 k], .agg #[.int .i64 e, .int .i64 f, .int .i64 g, .int .i64 h, .int .i64 m]] w fun e w' => e = .returned (.bool true) ∧ Below w.heap.size w w' := by
  go_enter Try.func13, Try.ntmps13
  go_wp2_with fail
  refine (Cmp_any _ _ _ _ _ _ _ _ _ _ _).mono ?_
  rintro e w1 ⟨rfl, hb⟩
  rw [HC1.out]
  (try simp only)
  have K1_x : Has5 w1 (w.heap.size) a b c d k := Has5.keep (by refine ⟨⟨?_, ?_, ?_, ?_, ?_⟩, ?_, ?_, ?_, ?_, ?_⟩ <;> go_cell) hb (by first | omega | (simp; done) | (simp; omega))
  have K1_y : Has5 w1 (w.heap.size + 1) a b c d k := Has5.keep (by refine ⟨⟨?_, ?_, ?_, ?_, ?_⟩, ?_, ?_, ?_, ?_, ?_⟩ <;> go_cell) hb (by first | omega | (simp; done) | (simp; omega))
  have K1_z : Has5 w1 (w.heap.size + 1 + 1) e f g h m := Has5.keep (by refine ⟨⟨?_, ?_, ?_, ?_, ?_⟩, ?_, ?_, ?_, ?_, ?_⟩ <;> go_cell) hb (by first | omega | (simp; done) | (simp; omega))
  have D1 : Below w.heap.size w w1 := Below.trans (by go_grown) (hb.mono (by first | omega | (simp; done) | (simp; omega)))
  have s1 : w.heap.size + 1 + 1 < w1.heap.size := by have := hb.size; (try simp at this); omega
  clear hb
  obtain ⟨⟨c1_x_0, c1_x_1, c1_x_2, c1_x_3, c1_x_4⟩, f1_x_0, f1_x_1, f1_x_2, f1_x_3, f1_x_4⟩ := K1_x
  obtain ⟨⟨c1_y_0, c1_y_1, c1_y_2, c1_y_3, c1_y_4⟩, f1_y_0, f1_y_1, f1_y_2, f1_y_3, f1_y_4⟩ := K1_y
  obtain ⟨⟨c1_z_0, c1_z_1, c1_z_2, c1_z_3, c1_z_4⟩, f1_z_0, f1_z_1, f1_z_2, f1_z_3, f1_z_4⟩ := K1_z
  have l1_x : w.heap.size < w1.heap.size := by omega
  have l1_y : w.heap.size + 1 < w1.heap.size := by omega
  go_wp2_with fail
  refine (Cmp_any _ _ _ _ _ _ _ _ _ _ _).mono ?_
  rintro e w2 ⟨rfl, hb⟩
  rw [HC2.out]
  (try simp only)
  have K2_x : Has5 w2 (w.heap.size) a b c d k := Has5.keep (by refine ⟨⟨?_, ?_, ?_, ?_, ?_⟩, ?_, ?_, ?_, ?_, ?_⟩ <;> go_cell) hb (by first | omega | (simp; done) | (simp; omega))
  have K2_y : Has5 w2 (w.heap.size + 1) a b c d k := Has5.keep (by refine ⟨⟨?_, ?_, ?_, ?_, ?_⟩, ?_, ?_, ?_, ?_, ?_⟩ <;> go_cell) hb (by first | omega | (simp; done) | (simp; omega))
  have K2_z : Has5 w2 (w.heap.size + 1 + 1) e f g h m := Has5.keep (by refine ⟨⟨?_, ?_, ?_, ?_, ?_⟩, ?_, ?_, ?_, ?_, ?_⟩ <;> go_cell) hb (by first | omega | (simp; done) | (simp; omega))
  have D2 : Below w.heap.size w w2 := Below.trans (by go_grown) (hb.mono (by first | omega | (simp; done) | (simp; omega)))
  have s2 : w.heap.size + 1 + 1 < w2.heap.size := by have := hb.size; (try simp at this); omega
  clear hb D1 c1_x_0 c1_x_1 c1_x_2 c1_x_3 c1_x_4 f1_x_0 f1_x_1 f1_x_2 f1_x_3 f1_x_4 c1_y_0 c1_y_1 c1_y_2 c1_y_3 c1_y_4 f1_y_0 f1_y_1 f1_y_2 f1_y_3 f1_y_4 c1_z_0 c1_z_1 c1_z_2 c1_z_3 c1_z_4 f1_z_0 f1_z_1 f1_z_2 f1_z_3 f1_z_4
  obtain ⟨⟨c2_x_0, c2_x_1, c2_x_2, c2_x_3, c2_x_4⟩, f2_x_0, f2_x_1, f2_x_2, f2_x_3, f2_x_4⟩ := K2_x
  obtain ⟨⟨c2_y_0, c2_y_1, c2_y_2, c2_y_3, c2_y_4⟩, f2_y_0, f2_y_1, f2_y_2, f2_y_3, f2_y_4⟩ := K2_y
  obtain ⟨⟨c2_z_0, c2_z_1, c2_z_2, c2_z_3, c2_z_4⟩, f2_z_0, f2_z_1, f2_z_2, f2_z_3, f2_z_4⟩ := K2_z
  have l2_x : w.heap.size < w2.heap.size := by omega
  have l2_y : w.heap.size + 1 < w2.heap.size := by omega
  go_wp2_with fail
  refine (Cmp_any _ _ _ _ _ _ _ _ _ _ _).mono ?_
  rintro e w3 ⟨rfl, hb⟩
  rw [HC3.out]
  (try simp only)
  have K3_x : Has5 w3 (w.heap.size) a b c d k := Has5.keep (by refine ⟨⟨?_, ?_, ?_, ?_, ?_⟩, ?_, ?_, ?_, ?_, ?_⟩ <;> go_cell) hb (by first | omega | (simp; done) | (simp; omega))
  have K3_y : Has5 w3 (w.heap.size + 1) a b c d k := Has5.keep (by refine ⟨⟨?_, ?_, ?_, ?_, ?_⟩, ?_, ?_, ?_, ?_, ?_⟩ <;> go_cell) hb (by first | omega | (simp; done) | (simp; omega))
  have K3_z : Has5 w3 (w.heap.size + 1 + 1) e f g h m := Has5.keep (by refine ⟨⟨?_, ?_, ?_, ?_, ?_⟩, ?_, ?_, ?_, ?_, ?_⟩ <;> go_cell) hb (by first | omega | (simp; done) | (simp; omega))
  have D3 : Below w.heap.size w w3 := Below.trans (by go_grown) (hb.mono (by first | omega | (simp; done) | (simp; omega)))
  have s3 : w.heap.size + 1 + 1 < w3.heap.size := by have := hb.size; (try simp at this); omega
  clear hb D2 c2_x_0 c2_x_1 c2_x_2 c2_x_3 c2_x_4 f2_x_0 f2_x_1 f2_x_2 f2_x_3 f2_x_4 c2_y_0 c2_y_1 c2_y_2 c2_y_3 c2_y_4 f2_y_0 f2_y_1 f2_y_2 f2_y_3 f2_y_4 c2_z_0 c2_z_1 c2_z_2 c2_z_3 c2_z_4 f2_z_0 f2_z_1 f2_z_2 f2_z_3 f2_z_4
  obtain ⟨⟨c3_x_0, c3_x_1, c3_x_2, c3_x_3, c3_x_4⟩, f3_x_0, f3_x_1, f3_x_2, f3_x_3, f3_x_4⟩ := K3_x
  obtain ⟨⟨c3_y_0, c3_y_1, c3_y_2, c3_y_3, c3_y_4⟩, f3_y_0, f3_y_1, f3_y_2, f3_y_3, f3_y_4⟩ := K3_y
  obtain ⟨⟨c3_z_0, c3_z_1, c3_z_2, c3_z_3, c3_z_4⟩, f3_z_0, f3_z_1, f3_z_2, f3_z_3, f3_z_4⟩ := K3_z
  have l3_x : w.heap.size < w3.heap.size := by omega
  have l3_y : w.heap.size + 1 < w3.heap.size := by omega
  go_wp2_with fail
  refine (Cmp_any _ _ _ _ _ _ _ _ _ _ _).mono ?_
  rintro e w4 ⟨rfl, hb⟩
  rw [HB.out]
  (try simp only)
  have K4_x : Has5 w4 (w.heap.size) a b c d k := Has5.keep (by refine ⟨⟨?_, ?_, ?_, ?_, ?_⟩, ?_, ?_, ?_, ?_, ?_⟩ <;> go_cell) hb (by first | omega | (simp; done) | (simp; omega))
  have K4_y : Has5 w4 (w.heap.size + 1) a b c d k := Has5.keep (by refine ⟨⟨?_, ?_, ?_, ?_, ?_⟩, ?_, ?_, ?_, ?_, ?_⟩ <;> go_cell) hb (by first | omega | (simp; done) | (simp; omega))
  have K4_z : Has5 w4 (w.heap.size + 1 + 1) e f g h m := Has5.keep (by refine ⟨⟨?_, ?_, ?_, ?_, ?_⟩, ?_, ?_, ?_, ?_, ?_⟩ <;> go_cell) hb (by first | omega | (simp; done) | (simp; omega))
  have D4 : Below w.heap.size w w4 := Below.trans (by go_grown) (hb.mono (by first | omega | (simp; done) | (simp; omega)))
  have s4 : w.heap.size + 1 + 1 < w4.heap.size := by have := hb.size; (try simp at this); omega
  clear hb D3 c3_x_0 c3_x_1 c3_x_2 c3_x_3 c3_x_4 f3_x_0 f3_x_1 f3_x_2 f3_x_3 f3_x_4 c3_y_0 c3_y_1 c3_y_2 c3_y_3 c3_y_4 f3_y_0 f3_y_1 f3_y_2 f3_y_3 f3_y_4 c3_z_0 c3_z_1 c3_z_2 c3_z_3 c3_z_4 f3_z_0 f3_z_1 f3_z_2 f3_z_3 f3_z_4
  obtain ⟨⟨c4_x_0, c4_x_1, c4_x_2, c4_x_3, c4_x_4⟩, f4_x_0, f4_x_1, f4_x_2, f4_x_3, f4_x_4⟩ := K4_x
  obtain ⟨⟨c4_y_0, c4_y_1, c4_y_2, c4_y_3, c4_y_4⟩, f4_y_0, f4_y_1, f4_y_2, f4_y_3, f4_y_4⟩ := K4_y
  obtain ⟨⟨c4_z_0, c4_z_1, c4_z_2, c4_z_3, c4_z_4⟩, f4_z_0, f4_z_1, f4_z_2, f4_z_3, f4_z_4⟩ := K4_z
  have l4_x : w.heap.size < w4.heap.size := by omega
  have l4_y : w.heap.size + 1 < w4.heap.size := by omega
  go_wp2_with fail
  refine (Add_any _ _ _ _ _ _ _ _ _ _ _).mono ?_
  rintro e w5 ⟨rfl, hb⟩
  rw [HA.out]
  unfold Ret5
  (try simp only)
  have K5_x : Has5 w5 (w.heap.size) a b c d k := Has5.keep (by refine ⟨⟨?_, ?_, ?_, ?_, ?_⟩, ?_, ?_, ?_, ?_, ?_⟩ <;> go_cell) hb (by first | omega | (simp; done) | (simp; omega))
  have K5_y : Has5 w5 (w.heap.size + 1) a b c d k := Has5.keep (by refine ⟨⟨?_, ?_, ?_, ?_, ?_⟩, ?_, ?_, ?_, ?_, ?_⟩ <;> go_cell) hb (by first | omega | (simp; done) | (simp; omega))
  have K5_z : Has5 w5 (w.heap.size + 1 + 1) e f g h m := Has5.keep (by refine ⟨⟨?_, ?_, ?_, ?_, ?_⟩, ?_, ?_, ?_, ?_, ?_⟩ <;> go_cell) hb (by first | omega | (simp; done) | (simp; omega))
  have D5 : Below w.heap.size w w5 := Below.trans (by go_grown) (hb.mono (by first | omega | (simp; done) | (simp; omega)))
  have s5 : w.heap.size + 1 + 1 < w5.heap.size := by have := hb.size; (try simp at this); omega
  clear hb D4 c4_x_0 c4_x_1 c4_x_2 c4_x_3 c4_x_4 f4_x_0 f4_x_1 f4_x_2 f4_x_3 f4_x_4 c4_y_0 c4_y_1 c4_y_2 c4_y_3 c4_y_4 f4_y_0 f4_y_1 f4_y_2 f4_y_3 f4_y_4 c4_z_0 c4_z_1 c4_z_2 c4_z_3 c4_z_4 f4_z_0 f4_z_1 f4_z_2 f4_z_3 f4_z_4
  obtain ⟨⟨c5_x_0, c5_x_1, c5_x_2, c5_x_3, c5_x_4⟩, f5_x_0, f5_x_1, f5_x_2, f5_x_3, f5_x_4⟩ := K5_x
  obtain ⟨⟨c5_y_0, c5_y_1, c5_y_2, c5_y_3, c5_y_4⟩, f5_y_0, f5_y_1, f5_y_2, f5_y_3, f5_y_4⟩ := K5_y
  obtain ⟨⟨c5_z_0, c5_z_1, c5_z_2, c5_z_3, c5_z_4⟩, f5_z_0, f5_z_1, f5_z_2, f5_z_3, f5_z_4⟩ := K5_z
  have l5_x : w.heap.size < w5.heap.size := by omega
  have l5_y : w.heap.size + 1 < w5.heap.size := by omega
  go_wp2_with fail
  refine (Add_any _ _ _ _ _ _ _ _ _ _ _).mono ?_
  rintro e w6 ⟨rfl, hb⟩
  rw [HA2.out]
  unfold Ret5
  (try simp only)
  have K6_x : Has5 w6 (w.heap.size) a b c d k := Has5.keep (by refine ⟨⟨?_, ?_, ?_, ?_, ?_⟩, ?_, ?_, ?_, ?_, ?_⟩ <;> go_cell) hb (by first | omega | (simp; done) | (simp; omega))
  have K6_y : Has5 w6 (w.heap.size + 1) a b c d k := Has5.keep (by refine ⟨⟨?_, ?_, ?_, ?_, ?_⟩, ?_, ?_, ?_, ?_, ?_⟩ <;> go_cell) hb (by first | omega | (simp; done) | (simp; omega))
  have K6_z : Has5 w6 (w.heap.size + 1 + 1) e f g h m := Has5.keep (by refine ⟨⟨?_, ?_, ?_, ?_, ?_⟩, ?_, ?_, ?_, ?_, ?_⟩ <;> go_cell) hb (by first | omega | (simp; done) | (simp; omega))
  have K6_p : Has5 w6 (w5.heap.size) x0 x1 x2 x3 x4 := Has5.keep (by refine ⟨⟨?_, ?_, ?_, ?_, ?_⟩, ?_, ?_, ?_, ?_, ?_⟩ <;> go_cell) hb (by first | omega | (simp; done) | (simp; omega))
  have D6 : Below w.heap.size w w6 := Below.trans (by go_grown) (hb.mono (by first | omega | (simp; done) | (simp; omega)))
  have s6 : w5.heap.size < w6.heap.size := by have := hb.size; (try simp at this); omega
  clear hb D5 c5_x_0 c5_x_1 c5_x_2 c5_x_3 c5_x_4 f5_x_0 f5_x_1 f5_x_2 f5_x_3 f5_x_4 c5_y_0 c5_y_1 c5_y_2 c5_y_3 c5_y_4 f5_y_0 f5_y_1 f5_y_2 f5_y_3 f5_y_4 c5_z_0 c5_z_1 c5_z_2 c5_z_3 c5_z_4 f5_z_0 f5_z_1 f5_z_2 f5_z_3 f5_z_4
  obtain ⟨⟨c6_x_0, c6_x_1, c6_x_2, c6_x_3, c6_x_4⟩, f6_x_0, f6_x_1, f6_x_2, f6_x_3, f6_x_4⟩ := K6_x
  obtain ⟨⟨c6_y_0, c6_y_1, c6_y_2, c6_y_3, c6_y_4⟩, f6_y_0, f6_y_1, f6_y_2, f6_y_3, f6_y_4⟩ := K6_y
  obtain ⟨⟨c6_z_0, c6_z_1, c6_z_2, c6_z_3, c6_z_4⟩, f6_z_0, f6_z_1, f6_z_2, f6_z_3, f6_z_4⟩ := K6_z
  obtain ⟨⟨c6_p_0, c6_p_1, c6_p_2, c6_p_3, c6_p_4⟩, f6_p_0, f6_p_1, f6_p_2, f6_p_3, f6_p_4⟩ := K6_p
  have l6_x : w.heap.size < w6.heap.size := by omega
  have l6_y : w.heap.size + 1 < w6.heap.size := by omega
  have l6_z : w.heap.size + 1 + 1 < w6.heap.size := by omega
  by_cases hxe : xe = 0
  · by_cases hye : ye = 0
    · have HG := Lib.hid (HF.out hxe hye)
      subst hxe hye
      go_wp2_with fail
      refine (Cmp_any _ _ _ _ _ _ _ _ _ _ _).mono ?_
      rintro e WM ⟨rfl, hb⟩
      have DM : Below w.heap.size w WM := Below.trans (by go_grown) (hb.mono (by first | omega | (simp; done) | (simp; omega)))
      have sM := DM.size
      clear hb
      rw [HG.out]
      (try simp only)
      go_wp2_with fail
      refine (awake_any _).mono ?_
      rintro e WN ⟨rfl, hb⟩
      have DN : Below w.heap.size w WN := Below.trans (by go_grown) (hb.mono (by first | omega | (simp; done) | (simp; omega)))
      clear hb
      go_wp2_with fail
      go_returns
      exact ⟨rfl, DN⟩
    · subst hxe
      go_wp2_with fail
      refine (awake_any _).mono ?_
      rintro e WN ⟨rfl, hb⟩
      have DN : Below w.heap.size w WN := Below.trans (by go_grown) (hb.mono (by first | omega | (simp; done) | (simp; omega)))
      clear hb
      go_wp2_with fail
      go_returns
      exact ⟨rfl, DN⟩
  · go_wp2_with fail
    refine (awake_any _).mono ?_
    rintro e WN ⟨rfl, hb⟩
    have DN : Below w.heap.size w WN := Below.trans (by go_grown) (hb.mono (by first | omega | (simp; done) | (simp; omega)))
    clear hb
    go_wp2_with fail
    go_returns
    exact ⟨rfl, DN⟩

set_option maxRecDepth 100000 in
set_option maxHeartbeats 8000000 in
theorem AmpRanks_c2 (a b c d k p q r s l e f g h m t1 x0 x1 x2 x3 x4 xe y0 y1 y2 y3 y4 ye : Int) (w : World)
    (HC1 : Hid (cmpS ⟨⟨a, b, c, d⟩, k⟩ ⟨⟨p, q, r, s⟩, l⟩ = (t1, 0)))
    (HC2 : Hid (cmpS ⟨⟨p, q, r, s⟩, l⟩ ⟨⟨e, f, g, h⟩, m⟩ = (t1, 0)))
    (HC3 : Hid (cmpS ⟨⟨a, b, c, d⟩, k⟩ ⟨⟨e, f, g, h⟩, m⟩ = (t1, 0)))
    (HB : Hid (cmpS ⟨⟨p, q, r, s⟩, l⟩ ⟨⟨a, b, c, d⟩, k⟩ = (-t1, 0)))
    (HA : Hid (addS ⟨⟨a, b, c, d⟩, k⟩ ⟨⟨e, f, g, h⟩, m⟩ = (⟨⟨x0, x1, x2, x3⟩, x4⟩, xe)))
    (HA2 : Hid (addS ⟨⟨p, q, r, s⟩, l⟩ ⟨⟨e, f, g, h⟩, m⟩ = (⟨⟨y0, y1, y2, y3⟩, y4⟩, ye)))
    (HF : Hid (xe = 0 → ye = 0 → cmpS ⟨⟨x0, x1, x2, x3⟩, x4⟩ ⟨⟨y0, y1, y2, y3⟩, y4⟩ = (t1, 0)))
    (hr1 : -1 ≤ t1)
    (hr2 : t1 ≤ 1)
    (h1 : ¬ t1 = 0)
    (hb0 : (a == p && (b == q && (c == r && (d == s && k == l)))) = false) :
    Calls Try.prog 13 #[.agg #[.int .i64 a, .int .i64 b, .int .i64 c, .int .i64 d, .int .i64 k], .agg #[.int .i64 p, .int .i64 q, .int .i64 r, .int .i64 s, .int .i64 l], .agg #[.int .i64 e, .int .i64 f, .int .i64 g, .int .i64 h, .int .i64 m]] w fun e w' => e = .returned (.bool true) ∧ Below w.heap.size w w' := by
  go_enter Try.func13, Try.ntmps13
  go_wp2_with fail
  refine (Cmp_any _ _ _ _ _ _ _ _ _ _ _).mono ?_
  rintro e w1 ⟨rfl, hb⟩
  rw [HC1.out]
  (try simp only)
  have K1_x : Has5 w1 (w.heap.size) a b c d k := Has5.keep (by refine ⟨⟨?_, ?_, ?_, ?_, ?_⟩, ?_, ?_, ?_, ?_, ?_⟩ <;> go_cell) hb (by first | omega | (simp; done) | (simp; omega))
  have K1_y : Has5 w1 (w.heap.size + 1) p q r s l := Has5.keep (by refine ⟨⟨?_, ?_, ?_, ?_, ?_⟩, ?_, ?_, ?_, ?_, ?_⟩ <;> go_cell) hb (by first | omega | (simp; done) | (simp; omega))
  have K1_z : Has5 w1 (w.heap.size + 1 + 1) e f g h m := Has5.keep (by refine ⟨⟨?_, ?_, ?_, ?_, ?_⟩, ?_, ?_, ?_, ?_, ?_⟩ <;> go_cell) hb (by first | omega | (simp; done) | (simp; omega))
  have D1 : Below w.heap.size w w1 := Below.trans (by go_grown) (hb.mono (by first | omega | (simp; done) | (simp; omega)))
  have s1 : w.heap.size + 1 + 1 < w1.heap.size := by have := hb.size; (try simp at this); omega
  clear hb
  obtain ⟨⟨c1_x_0, c1_x_1, c1_x_2, c1_x_3, c1_x_4⟩, f1_x_0, f1_x_1, f1_x_2, f1_x_3, f1_x_4⟩ := K1_x
  obtain ⟨⟨c1_y_0, c1_y_1, c1_y_2, c1_y_3, c1_y_4⟩, f1_y_0, f1_y_1, f1_y_2, f1_y_3, f1_y_4⟩ := K1_y
  obtain ⟨⟨c1_z_0, c1_z_1, c1_z_2, c1_z_3, c1_z_4⟩, f1_z_0, f1_z_1, f1_z_2, f1_z_3, f1_z_4⟩ := K1_z
  have l1_x : w.heap.size < w1.heap.size := by omega
  have l1_y : w.heap.size + 1 < w1.heap.size := by omega
  go_wp2_with fail
  refine (Cmp_any _ _ _ _ _ _ _ _ _ _ _).mono ?_
  rintro e w2 ⟨rfl, hb⟩
  rw [HC2.out]
  (try simp only)
  have K2_x : Has5 w2 (w.heap.size) a b c d k := Has5.keep (by refine ⟨⟨?_, ?_, ?_, ?_, ?_⟩, ?_, ?_, ?_, ?_, ?_⟩ <;> go_cell) hb (by first | omega | (simp; done) | (simp; omega))
  have K2_y : Has5 w2 (w.heap.size + 1) p q r s l := Has5.keep (by refine ⟨⟨?_, ?_, ?_, ?_, ?_⟩, ?_, ?_, ?_, ?_, ?_⟩ <;> go_cell) hb (by first | omega | (simp; done) | (simp; omega))
  have K2_z : Has5 w2 (w.heap.size + 1 + 1) e f g h m := Has5.keep (by refine ⟨⟨?_, ?_, ?_, ?_, ?_⟩, ?_, ?_, ?_, ?_, ?_⟩ <;> go_cell) hb (by first | omega | (simp; done) | (simp; omega))
  have D2 : Below w.heap.size w w2 := Below.trans (by go_grown) (hb.mono (by first | omega | (simp; done) | (simp; omega)))
  have s2 : w.heap.size + 1 + 1 < w2.heap.size := by have := hb.size; (try simp at this); omega
  clear hb D1 c1_x_0 c1_x_1 c1_x_2 c1_x_3 c1_x_4 f1_x_0 f1_x_1 f1_x_2 f1_x_3 f1_x_4 c1_y_0 c1_y_1 c1_y_2 c1_y_3 c1_y_4 f1_y_0 f1_y_1 f1_y_2 f1_y_3 f1_y_4 c1_z_0 c1_z_1 c1_z_2 c1_z_3 c1_z_4 f1_z_0 f1_z_1 f1_z_2 f1_z_3 f1_z_4
  obtain ⟨⟨c2_x_0, c2_x_1, c2_x_2, c2_x_3, c2_x_4⟩, f2_x_0, f2_x_1, f2_x_2, f2_x_3, f2_x_4⟩ := K2_x
  obtain ⟨⟨c2_y_0, c2_y_1, c2_y_2, c2_y_3, c2_y_4⟩, f2_y_0, f2_y_1, f2_y_2, f2_y_3, f2_y_4⟩ := K2_y
  obtain ⟨⟨c2_z_0, c2_z_1, c2_z_2, c2_z_3, c2_z_4⟩, f2_z_0, f2_z_1, f2_z_2, f2_z_3, f2_z_4⟩ := K2_z
  have l2_x : w.heap.size < w2.heap.size := by omega
  have l2_y : w.heap.size + 1 < w2.heap.size := by omega
  go_wp2_with fail
  refine (Cmp_any _ _ _ _ _ _ _ _ _ _ _).mono ?_
  rintro e w3 ⟨rfl, hb⟩
  rw [HC3.out]
  (try simp only)
  have K3_x : Has5 w3 (w.heap.size) a b c d k := Has5.keep (by refine ⟨⟨?_, ?_, ?_, ?_, ?_⟩, ?_, ?_, ?_, ?_, ?_⟩ <;> go_cell) hb (by first | omega | (simp; done) | (simp; omega))
  have K3_y : Has5 w3 (w.heap.size + 1) p q r s l := Has5.keep (by refine ⟨⟨?_, ?_, ?_, ?_, ?_⟩, ?_, ?_, ?_, ?_, ?_⟩ <;> go_cell) hb (by first | omega | (simp; done) | (simp; omega))
  have K3_z : Has5 w3 (w.heap.size + 1 + 1) e f g h m := Has5.keep (by refine ⟨⟨?_, ?_, ?_, ?_, ?_⟩, ?_, ?_, ?_, ?_, ?_⟩ <;> go_cell) hb (by first | omega | (simp; done) | (simp; omega))
  have D3 : Below w.heap.size w w3 := Below.trans (by go_grown) (hb.mono (by first | omega | (simp; done) | (simp; omega)))
  have s3 : w.heap.size + 1 + 1 < w3.heap.size := by have := hb.size; (try simp at this); omega
  clear hb D2 c2_x_0 c2_x_1 c2_x_2 c2_x_3 c2_x_4 f2_x_0 f2_x_1 f2_x_2 f2_x_3 f2_x_4 c2_y_0 c2_y_1 c2_y_2 c2_y_3 c2_y_4 f2_y_0 f2_y_1 f2_y_2 f2_y_3 f2_y_4 c2_z_0 c2_z_1 c2_z_2 c2_z_3 c2_z_4 f2_z_0 f2_z_1 f2_z_2 f2_z_3 f2_z_4
  obtain ⟨⟨c3_x_0, c3_x_1, c3_x_2, c3_x_3, c3_x_4⟩, f3_x_0, f3_x_1, f3_x_2, f3_x_3, f3_x_4⟩ := K3_x
  obtain ⟨⟨c3_y_0, c3_y_1, c3_y_2, c3_y_3, c3_y_4⟩, f3_y_0, f3_y_1, f3_y_2, f3_y_3, f3_y_4⟩ := K3_y
  obtain ⟨⟨c3_z_0, c3_z_1, c3_z_2, c3_z_3, c3_z_4⟩, f3_z_0, f3_z_1, f3_z_2, f3_z_3, f3_z_4⟩ := K3_z
  have l3_x : w.heap.size < w3.heap.size := by omega
  have l3_y : w.heap.size + 1 < w3.heap.size := by omega
  go_wp2_with fail
  refine (Cmp_any _ _ _ _ _ _ _ _ _ _ _).mono ?_
  rintro e w4 ⟨rfl, hb⟩
  rw [HB.out]
  (try simp only)
  have K4_x : Has5 w4 (w.heap.size) a b c d k := Has5.keep (by refine ⟨⟨?_, ?_, ?_, ?_, ?_⟩, ?_, ?_, ?_, ?_, ?_⟩ <;> go_cell) hb (by first | omega | (simp; done) | (simp; omega))
  have K4_y : Has5 w4 (w.heap.size + 1) p q r s l := Has5.keep (by refine ⟨⟨?_, ?_, ?_, ?_, ?_⟩, ?_, ?_, ?_, ?_, ?_⟩ <;> go_cell) hb (by first | omega | (simp; done) | (simp; omega))
  have K4_z : Has5 w4 (w.heap.size + 1 + 1) e f g h m := Has5.keep (by refine ⟨⟨?_, ?_, ?_, ?_, ?_⟩, ?_, ?_, ?_, ?_, ?_⟩ <;> go_cell) hb (by first | omega | (simp; done) | (simp; omega))
  have D4 : Below w.heap.size w w4 := Below.trans (by go_grown) (hb.mono (by first | omega | (simp; done) | (simp; omega)))
  have s4 : w.heap.size + 1 + 1 < w4.heap.size := by have := hb.size; (try simp at this); omega
  clear hb D3 c3_x_0 c3_x_1 c3_x_2 c3_x_3 c3_x_4 f3_x_0 f3_x_1 f3_x_2 f3_x_3 f3_x_4 c3_y_0 c3_y_1 c3_y_2 c3_y_3 c3_y_4 f3_y_0 f3_y_1 f3_y_2 f3_y_3 f3_y_4 c3_z_0 c3_z_1 c3_z_2 c3_z_3 c3_z_4 f3_z_0 f3_z_1 f3_z_2 f3_z_3 f3_z_4
  obtain ⟨⟨c4_x_0, c4_x_1, c4_x_2, c4_x_3, c4_x_4⟩, f4_x_0, f4_x_1, f4_x_2, f4_x_3, f4_x_4⟩ := K4_x
  obtain ⟨⟨c4_y_0, c4_y_1, c4_y_2, c4_y_3, c4_y_4⟩, f4_y_0, f4_y_1, f4_y_2, f4_y_3, f4_y_4⟩ := K4_y
  obtain ⟨⟨c4_z_0, c4_z_1, c4_z_2, c4_z_3, c4_z_4⟩, f4_z_0, f4_z_1, f4_z_2, f4_z_3, f4_z_4⟩ := K4_z
  have l4_x : w.heap.size < w4.heap.size := by omega
  have l4_y : w.heap.size + 1 < w4.heap.size := by omega
  go_wp2_with (first | simp only [hb0] | fail)
  refine (Add_any _ _ _ _ _ _ _ _ _ _ _).mono ?_
  rintro e w5 ⟨rfl, hb⟩
  rw [HA.out]
  unfold Ret5
  (try simp only)
  have K5_x : Has5 w5 (w.heap.size) a b c d k := Has5.keep (by refine ⟨⟨?_, ?_, ?_, ?_, ?_⟩, ?_, ?_, ?_, ?_, ?_⟩ <;> go_cell) hb (by first | omega | (simp; done) | (simp; omega))
  have K5_y : Has5 w5 (w.heap.size + 1) p q r s l := Has5.keep (by refine ⟨⟨?_, ?_, ?_, ?_, ?_⟩, ?_, ?_, ?_, ?_, ?_⟩ <;> go_cell) hb (by first | omega | (simp; done) | (simp; omega))
  have K5_z : Has5 w5 (w.heap.size + 1 + 1) e f g h m := Has5.keep (by refine ⟨⟨?_, ?_, ?_, ?_, ?_⟩, ?_, ?_, ?_, ?_, ?_⟩ <;> go_cell) hb (by first | omega | (simp; done) | (simp; omega))
  have D5 : Below w.heap.size w w5 := Below.trans (by go_grown) (hb.mono (by first | omega | (simp; done) | (simp; omega)))
  have s5 : w.heap.size + 1 + 1 < w5.heap.size := by have := hb.size; (try simp at this); omega
  clear hb D4 c4_x_0 c4_x_1 c4_x_2 c4_x_3 c4_x_4 f4_x_0 f4_x_1 f4_x_2 f4_x_3 f4_x_4 c4_y_0 c4_y_1 c4_y_2 c4_y_3 c4_y_4 f4_y_0 f4_y_1 f4_y_2 f4_y_3 f4_y_4 c4_z_0 c4_z_1 c4_z_2 c4_z_3 c4_z_4 f4_z_0 f4_z_1 f4_z_2 f4_z_3 f4_z_4
  obtain ⟨⟨c5_x_0, c5_x_1, c5_x_2, c5_x_3, c5_x_4⟩, f5_x_0, f5_x_1, f5_x_2, f5_x_3, f5_x_4⟩ := K5_x
  obtain ⟨⟨c5_y_0, c5_y_1, c5_y_2, c5_y_3, c5_y_4⟩, f5_y_0, f5_y_1, f5_y_2, f5_y_3, f5_y_4⟩ := K5_y
  obtain ⟨⟨c5_z_0, c5_z_1, c5_z_2, c5_z_3, c5_z_4⟩, f5_z_0, f5_z_1, f5_z_2, f5_z_3, f5_z_4⟩ := K5_z
  have l5_x : w.heap.size < w5.heap.size := by omega
  have l5_y : w.heap.size + 1 < w5.heap.size := by omega
  go_wp2_with fail
  refine (Add_any _ _ _ _ _ _ _ _ _ _ _).mono ?_
  rintro e w6 ⟨rfl, hb⟩
  rw [HA2.out]
  unfold Ret5
  (try simp only)
  have K6_x : Has5 w6 (w.heap.size) a b c d k := Has5.keep (by refine ⟨⟨?_, ?_, ?_, ?_, ?_⟩, ?_, ?_, ?_, ?_, ?_⟩ <;> go_cell) hb (by first | omega | (simp; done) | (simp; omega))
  have K6_y : Has5 w6 (w.heap.size + 1) p q r s l := Has5.keep (by refine ⟨⟨?_, ?_, ?_, ?_, ?_⟩, ?_, ?_, ?_, ?_, ?_⟩ <;> go_cell) hb (by first | omega | (simp; done) | (simp; omega))
  have K6_z : Has5 w6 (w.heap.size + 1 + 1) e f g h m := Has5.keep (by refine ⟨⟨?_, ?_, ?_, ?_, ?_⟩, ?_, ?_, ?_, ?_, ?_⟩ <;> go_cell) hb (by first | omega | (simp; done) | (simp; omega))
  have K6_p : Has5 w6 (w5.heap.size) x0 x1 x2 x3 x4 := Has5.keep (by refine ⟨⟨?_, ?_, ?_, ?_, ?_⟩, ?_, ?_, ?_, ?_, ?_⟩ <;> go_cell) hb (by first | omega | (simp; done) | (simp; omega))
  have D6 : Below w.heap.size w w6 := Below.trans (by go_grown) (hb.mono (by first | omega | (simp; done) | (simp; omega)))
  have s6 : w5.heap.size < w6.heap.size := by have := hb.size; (try simp at this); omega
  clear hb D5 c5_x_0 c5_x_1 c5_x_2 c5_x_3 c5_x_4 f5_x_0 f5_x_1 f5_x_2 f5_x_3 f5_x_4 c5_y_0 c5_y_1 c5_y_2 c5_y_3 c5_y_4 f5_y_0 f5_y_1 f5_y_2 f5_y_3 f5_y_4 c5_z_0 c5_z_1 c5_z_2 c5_z_3 c5_z_4 f5_z_0 f5_z_1 f5_z_2 f5_z_3 f5_z_4
  obtain ⟨⟨c6_x_0, c6_x_1, c6_x_2, c6_x_3, c6_x_4⟩, f6_x_0, f6_x_1, f6_x_2, f6_x_3, f6_x_4⟩ := K6_x
  obtain ⟨⟨c6_y_0, c6_y_1, c6_y_2, c6_y_3, c6_y_4⟩, f6_y_0, f6_y_1, f6_y_2, f6_y_3, f6_y_4⟩ := K6_y
  obtain ⟨⟨c6_z_0, c6_z_1, c6_z_2, c6_z_3, c6_z_4⟩, f6_z_0, f6_z_1, f6_z_2, f6_z_3, f6_z_4⟩ := K6_z
  obtain ⟨⟨c6_p_0, c6_p_1, c6_p_2, c6_p_3, c6_p_4⟩, f6_p_0, f6_p_1, f6_p_2, f6_p_3, f6_p_4⟩ := K6_p
  have l6_x : w.heap.size < w6.heap.size := by omega
  have l6_y : w.heap.size + 1 < w6.heap.size := by omega
  have l6_z : w.heap.size + 1 + 1 < w6.heap.size := by omega
  by_cases hxe : xe = 0
  · by_cases hye : ye = 0
    · have HG := Lib.hid (HF.out hxe hye)
      subst hxe hye
      go_wp2_with fail
      refine (Cmp_any _ _ _ _ _ _ _ _ _ _ _).mono ?_
      rintro e WM ⟨rfl, hb⟩
      have DM : Below w.heap.size w WM := Below.trans (by go_grown) (hb.mono (by first | omega | (simp; done) | (simp; omega)))
      have sM := DM.size
      clear hb
      rw [HG.out]
      (try simp only)
      go_wp2_with fail
      refine (awake_any _).mono ?_
      rintro e WN ⟨rfl, hb⟩
      have DN : Below w.heap.size w WN := Below.trans (by go_grown) (hb.mono (by first | omega | (simp; done) | (simp; omega)))
      clear hb
      go_wp2_with fail
      go_returns
      exact ⟨rfl, DN⟩
    · subst hxe
      go_wp2_with fail
      refine (awake_any _).mono ?_
      rintro e WN ⟨rfl, hb⟩
      have DN : Below w.heap.size w WN := Below.trans (by go_grown) (hb.mono (by first | omega | (simp; done) | (simp; omega)))
      clear hb
      go_wp2_with fail
      go_returns
      exact ⟨rfl, DN⟩
  · go_wp2_with fail
    refine (awake_any _).mono ?_
    rintro e WN ⟨rfl, hb⟩
    have DN : Below w.heap.size w WN := Below.trans (by go_grown) (hb.mono (by first | omega | (simp; done) | (simp; omega)))
    clear hb
    go_wp2_with fail
    go_returns
    exact ⟨rfl, DN⟩

set_option maxRecDepth 100000 in
set_option maxHeartbeats 8000000 in
theorem AmpRanks_c4 (a b c d k p q r s l e f g h m t1 x0 x1 x2 x3 x4 xe y0 y1 y2 y3 y4 ye : Int) (w : World)
    (HC1 : Hid (cmpS ⟨⟨a, b, c, d⟩, k⟩ ⟨⟨p, q, r, s⟩, l⟩ = (t1, 0)))
    (HC2 : Hid (cmpS ⟨⟨p, q, r, s⟩, l⟩ ⟨⟨e, f, g, h⟩, m⟩ = (0, 0)))
    (HC3 : Hid (cmpS ⟨⟨a, b, c, d⟩, k⟩ ⟨⟨e, f, g, h⟩, m⟩ = (t1, 0)))
    (HB : Hid (cmpS ⟨⟨p, q, r, s⟩, l⟩ ⟨⟨a, b, c, d⟩, k⟩ = (-t1, 0)))
    (HA : Hid (addS ⟨⟨a, b, c, d⟩, k⟩ ⟨⟨e, f, g, h⟩, m⟩ = (⟨⟨x0, x1, x2, x3⟩, x4⟩, xe)))
    (HA2 : Hid (addS ⟨⟨p, q, r, s⟩, l⟩ ⟨⟨e, f, g, h⟩, m⟩ = (⟨⟨y0, y1, y2, y3⟩, y4⟩, ye)))
    (HF : Hid (xe = 0 → ye = 0 → cmpS ⟨⟨x0, x1, x2, x3⟩, x4⟩ ⟨⟨y0, y1, y2, y3⟩, y4⟩ = (t1, 0)))
    (hr1 : -1 ≤ t1)
    (hr2 : t1 ≤ 1)
    (h1 : ¬ t1 = 0)
    (hb0 : (a == p && (b == q && (c == r && (d == s && k == l)))) = false) :
    Calls Try.prog 13 #[.agg #[.int .i64 a, .int .i64 b, .int .i64 c, .int .i64 d, .int .i64 k], .agg #[.int .i64 p, .int .i64 q, .int .i64 r, .int .i64 s, .int .i64 l], .agg #[.int .i64 e, .int .i64 f, .int .i64 g, .int .i64 h, .int .i64 m]] w fun e w' => e = .returned (.bool true) ∧ Below w.heap.size w w' := by
  go_enter Try.func13, Try.ntmps13
  go_wp2_with fail
  refine (Cmp_any _ _ _ _ _ _ _ _ _ _ _).mono ?_
  rintro e w1 ⟨rfl, hb⟩
  rw [HC1.out]
  (try simp only)
  have K1_x : Has5 w1 (w.heap.size) a b c d k := Has5.keep (by refine ⟨⟨?_, ?_, ?_, ?_, ?_⟩, ?_, ?_, ?_, ?_, ?_⟩ <;> go_cell) hb (by first | omega | (simp; done) | (simp; omega))
  have K1_y : Has5 w1 (w.heap.size + 1) p q r s l := Has5.keep (by refine ⟨⟨?_, ?_, ?_, ?_, ?_⟩, ?_, ?_, ?_, ?_, ?_⟩ <;> go_cell) hb (by first | omega | (simp; done) | (simp; omega))
  have K1_z : Has5 w1 (w.heap.size + 1 + 1) e f g h m := Has5.keep (by refine ⟨⟨?_, ?_, ?_, ?_, ?_⟩, ?_, ?_, ?_, ?_, ?_⟩ <;> go_cell) hb (by first | omega | (simp; done) | (simp; omega))
  have D1 : Below w.heap.size w w1 := Below.trans (by go_grown) (hb.mono (by first | omega | (simp; done) | (simp; omega)))
  have s1 : w.heap.size + 1 + 1 < w1.heap.size := by have := hb.size; (try simp at this); omega
  clear hb
  obtain ⟨⟨c1_x_0, c1_x_1, c1_x_2, c1_x_3, c1_x_4⟩, f1_x_0, f1_x_1, f1_x_2, f1_x_3, f1_x_4⟩ := K1_x
  obtain ⟨⟨c1_y_0, c1_y_1, c1_y_2, c1_y_3, c1_y_4⟩, f1_y_0, f1_y_1, f1_y_2, f1_y_3, f1_y_4⟩ := K1_y
  obtain ⟨⟨c1_z_0, c1_z_1, c1_z_2, c1_z_3, c1_z_4⟩, f1_z_0, f1_z_1, f1_z_2, f1_z_3, f1_z_4⟩ := K1_z
  have l1_x : w.heap.size < w1.heap.size := by omega
  have l1_y : w.heap.size + 1 < w1.heap.size := by omega
  go_wp2_with fail
  refine (Cmp_any _ _ _ _ _ _ _ _ _ _ _).mono ?_
  rintro e w2 ⟨rfl, hb⟩
  rw [HC2.out]
  (try simp only)
  have K2_x : Has5 w2 (w.heap.size) a b c d k := Has5.keep (by refine ⟨⟨?_, ?_, ?_, ?_, ?_⟩, ?_, ?_, ?_, ?_, ?_⟩ <;> go_cell) hb (by first | omega | (simp; done) | (simp; omega))
  have K2_y : Has5 w2 (w.heap.size + 1) p q r s l := Has5.keep (by refine ⟨⟨?_, ?_, ?_, ?_, ?_⟩, ?_, ?_, ?_, ?_, ?_⟩ <;> go_cell) hb (by first | omega | (simp; done) | (simp; omega))
  have K2_z : Has5 w2 (w.heap.size + 1 + 1) e f g h m := Has5.keep (by refine ⟨⟨?_, ?_, ?_, ?_, ?_⟩, ?_, ?_, ?_, ?_, ?_⟩ <;> go_cell) hb (by first | omega | (simp; done) | (simp; omega))
  have D2 : Below w.heap.size w w2 := Below.trans (by go_grown) (hb.mono (by first | omega | (simp; done) | (simp; omega)))
  have s2 : w.heap.size + 1 + 1 < w2.heap.size := by have := hb.size; (try simp at this); omega
  clear hb D1 c1_x_0 c1_x_1 c1_x_2 c1_x_3 c1_x_4 f1_x_0 f1_x_1 f1_x_2 f1_x_3 f1_x_4 c1_y_0 c1_y_1 c1_y_2 c1_y_3 c1_y_4 f1_y_0 f1_y_1 f1_y_2 f1_y_3 f1_y_4 c1_z_0 c1_z_1 c1_z_2 c1_z_3 c1_z_4 f1_z_0 f1_z_1 f1_z_2 f1_z_3 f1_z_4
  obtain ⟨⟨c2_x_0, c2_x_1, c2_x_2, c2_x_3, c2_x_4⟩, f2_x_0, f2_x_1, f2_x_2, f2_x_3, f2_x_4⟩ := K2_x
  obtain ⟨⟨c2_y_0, c2_y_1, c2_y_2, c2_y_3, c2_y_4⟩, f2_y_0, f2_y_1, f2_y_2, f2_y_3, f2_y_4⟩ := K2_y
  obtain ⟨⟨c2_z_0, c2_z_1, c2_z_2, c2_z_3, c2_z_4⟩, f2_z_0, f2_z_1, f2_z_2, f2_z_3, f2_z_4⟩ := K2_z
  have l2_x : w.heap.size < w2.heap.size := by omega
  have l2_y : w.heap.size + 1 < w2.heap.size := by omega
  go_wp2_with fail
  refine (Cmp_any _ _ _ _ _ _ _ _ _ _ _).mono ?_
  rintro e w3 ⟨rfl, hb⟩
  rw [HC3.out]
  (try simp only)
  have K3_x : Has5 w3 (w.heap.size) a b c d k := Has5.keep (by refine ⟨⟨?_, ?_, ?_, ?_, ?_⟩, ?_, ?_, ?_, ?_, ?_⟩ <;> go_cell) hb (by first | omega | (simp; done) | (simp; omega))
  have K3_y : Has5 w3 (w.heap.size + 1) p q r s l := Has5.keep (by refine ⟨⟨?_, ?_, ?_, ?_, ?_⟩, ?_, ?_, ?_, ?_, ?_⟩ <;> go_cell) hb (by first | omega | (simp; done) | (simp; omega))
  have K3_z : Has5 w3 (w.heap.size + 1 + 1) e f g h m := Has5.keep (by refine ⟨⟨?_, ?_, ?_, ?_, ?_⟩, ?_, ?_, ?_, ?_, ?_⟩ <;> go_cell) hb (by first | omega | (simp; done) | (simp; omega))
  have D3 : Below w.heap.size w w3 := Below.trans (by go_grown) (hb.mono (by first | omega | (simp; done) | (simp; omega)))
  have s3 : w.heap.size + 1 + 1 < w3.heap.size := by have := hb.size; (try simp at this); omega
  clear hb D2 c2_x_0 c2_x_1 c2_x_2 c2_x_3 c2_x_4 f2_x_0 f2_x_1 f2_x_2 f2_x_3 f2_x_4 c2_y_0 c2_y_1 c2_y_2 c2_y_3 c2_y_4 f2_y_0 f2_y_1 f2_y_2 f2_y_3 f2_y_4 c2_z_0 c2_z_1 c2_z_2 c2_z_3 c2_z_4 f2_z_0 f2_z_1 f2_z_2 f2_z_3 f2_z_4
  obtain ⟨⟨c3_x_0, c3_x_1, c3_x_2, c3_x_3, c3_x_4⟩, f3_x_0, f3_x_1, f3_x_2, f3_x_3, f3_x_4⟩ := K3_x
  obtain ⟨⟨c3_y_0, c3_y_1, c3_y_2, c3_y_3, c3_y_4⟩, f3_y_0, f3_y_1, f3_y_2, f3_y_3, f3_y_4⟩ := K3_y
  obtain ⟨⟨c3_z_0, c3_z_1, c3_z_2, c3_z_3, c3_z_4⟩, f3_z_0, f3_z_1, f3_z_2, f3_z_3, f3_z_4⟩ := K3_z
  have l3_x : w.heap.size < w3.heap.size := by omega
  have l3_y : w.heap.size + 1 < w3.heap.size := by omega
  go_wp2_with fail
  refine (Cmp_any _ _ _ _ _ _ _ _ _ _ _).mono ?_
  rintro e w4 ⟨rfl, hb⟩
  rw [HB.out]
  (try simp only)
  have K4_x : Has5 w4 (w.heap.size) a b c d k := Has5.keep (by refine ⟨⟨?_, ?_, ?_, ?_, ?_⟩, ?_, ?_, ?_, ?_, ?_⟩ <;> go_cell) hb (by first | omega | (simp; done) | (simp; omega))
  have K4_y : Has5 w4 (w.heap.size + 1) p q r s l := Has5.keep (by refine ⟨⟨?_, ?_, ?_, ?_, ?_⟩, ?_, ?_, ?_, ?_, ?_⟩ <;> go_cell) hb (by first | omega | (simp; done) | (simp; omega))
  have K4_z : Has5 w4 (w.heap.size + 1 + 1) e f g h m := Has5.keep (by refine ⟨⟨?_, ?_, ?_, ?_, ?_⟩, ?_, ?_, ?_, ?_, ?_⟩ <;> go_cell) hb (by first | omega | (simp; done) | (simp; omega))
  have D4 : Below w.heap.size w w4 := Below.trans (by go_grown) (hb.mono (by first | omega | (simp; done) | (simp; omega)))
  have s4 : w.heap.size + 1 + 1 < w4.heap.size := by have := hb.size; (try simp at this); omega
  clear hb D3 c3_x_0 c3_x_1 c3_x_2 c3_x_3 c3_x_4 f3_x_0 f3_x_1 f3_x_2 f3_x_3 f3_x_4 c3_y_0 c3_y_1 c3_y_2 c3_y_3 c3_y_4 f3_y_0 f3_y_1 f3_y_2 f3_y_3 f3_y_4 c3_z_0 c3_z_1 c3_z_2 c3_z_3 c3_z_4 f3_z_0 f3_z_1 f3_z_2 f3_z_3 f3_z_4
  obtain ⟨⟨c4_x_0, c4_x_1, c4_x_2, c4_x_3, c4_x_4⟩, f4_x_0, f4_x_1, f4_x_2, f4_x_3, f4_x_4⟩ := K4_x
  obtain ⟨⟨c4_y_0, c4_y_1, c4_y_2, c4_y_3, c4_y_4⟩, f4_y_0, f4_y_1, f4_y_2, f4_y_3, f4_y_4⟩ := K4_y
  obtain ⟨⟨c4_z_0, c4_z_1, c4_z_2, c4_z_3, c4_z_4⟩, f4_z_0, f4_z_1, f4_z_2, f4_z_3, f4_z_4⟩ := K4_z
  have l4_x : w.heap.size < w4.heap.size := by omega
  have l4_y : w.heap.size + 1 < w4.heap.size := by omega
  go_wp2_with (first | simp only [hb0] | fail)
  refine (Add_any _ _ _ _ _ _ _ _ _ _ _).mono ?_
  rintro e w5 ⟨rfl, hb⟩
  rw [HA.out]
  unfold Ret5
  (try simp only)
  have K5_x : Has5 w5 (w.heap.size) a b c d k := Has5.keep (by refine ⟨⟨?_, ?_, ?_, ?_, ?_⟩, ?_, ?_, ?_, ?_, ?_⟩ <;> go_cell) hb (by first | omega | (simp; done) | (simp; omega))
  have K5_y : Has5 w5 (w.heap.size + 1) p q r s l := Has5.keep (by refine ⟨⟨?_, ?_, ?_, ?_, ?_⟩, ?_, ?_, ?_, ?_, ?_⟩ <;> go_cell) hb (by first | omega | (simp; done) | (simp; omega))
  have K5_z : Has5 w5 (w.heap.size + 1 + 1) e f g h m := Has5.keep (by refine ⟨⟨?_, ?_, ?_, ?_, ?_⟩, ?_, ?_, ?_, ?_, ?_⟩ <;> go_cell) hb (by first | omega | (simp; done) | (simp; omega))
  have D5 : Below w.heap.size w w5 := Below.trans (by go_grown) (hb.mono (by first | omega | (simp; done) | (simp; omega)))
  have s5 : w.heap.size + 1 + 1 < w5.heap.size := by have := hb.size; (try simp at this); omega
  clear hb D4 c4_x_0 c4_x_1 c4_x_2 c4_x_3 c4_x_4 f4_x_0 f4_x_1 f4_x_2 f4_x_3 f4_x_4 c4_y_0 c4_y_1 c4_y_2 c4_y_3 c4_y_4 f4_y_0 f4_y_1 f4_y_2 f4_y_3 f4_y_4 c4_z_0 c4_z_1 c4_z_2 c4_z_3 c4_z_4 f4_z_0 f4_z_1 f4_z_2 f4_z_3 f4_z_4
  obtain ⟨⟨c5_x_0, c5_x_1, c5_x_2, c5_x_3, c5_x_4⟩, f5_x_0, f5_x_1, f5_x_2, f5_x_3, f5_x_4⟩ := K5_x
  obtain ⟨⟨c5_y_0, c5_y_1, c5_y_2, c5_y_3, c5_y_4⟩, f5_y_0, f5_y_1, f5_y_2, f5_y_3, f5_y_4⟩ := K5_y
  obtain ⟨⟨c5_z_0, c5_z_1, c5_z_2, c5_z_3, c5_z_4⟩, f5_z_0, f5_z_1, f5_z_2, f5_z_3, f5_z_4⟩ := K5_z
  have l5_x : w.heap.size < w5.heap.size := by omega
  have l5_y : w.heap.size + 1 < w5.heap.size := by omega
  go_wp2_with fail
  refine (Add_any _ _ _ _ _ _ _ _ _ _ _).mono ?_
  rintro e w6 ⟨rfl, hb⟩
  rw [HA2.out]
  unfold Ret5
  (try simp only)
  have K6_x : Has5 w6 (w.heap.size) a b c d k := Has5.keep (by refine ⟨⟨?_, ?_, ?_, ?_, ?_⟩, ?_, ?_, ?_, ?_, ?_⟩ <;> go_cell) hb (by first | omega | (simp; done) | (simp; omega))
  have K6_y : Has5 w6 (w.heap.size + 1) p q r s l := Has5.keep (by refine ⟨⟨?_, ?_, ?_, ?_, ?_⟩, ?_, ?_, ?_, ?_, ?_⟩ <;> go_cell) hb (by first | omega | (simp; done) | (simp; omega))
  have K6_z : Has5 w6 (w.heap.size + 1 + 1) e f g h m := Has5.keep (by refine ⟨⟨?_, ?_, ?_, ?_, ?_⟩, ?_, ?_, ?_, ?_, ?_⟩ <;> go_cell) hb (by first | omega | (simp; done) | (simp; omega))
  have K6_p : Has5 w6 (w5.heap.size) x0 x1 x2 x3 x4 := Has5.keep (by refine ⟨⟨?_, ?_, ?_, ?_, ?_⟩, ?_, ?_, ?_, ?_, ?_⟩ <;> go_cell) hb (by first | omega | (simp; done) | (simp; omega))
  have D6 : Below w.heap.size w w6 := Below.trans (by go_grown) (hb.mono (by first | omega | (simp; done) | (simp; omega)))
  have s6 : w5.heap.size < w6.heap.size := by have := hb.size; (try simp at this); omega
  clear hb D5 c5_x_0 c5_x_1 c5_x_2 c5_x_3 c5_x_4 f5_x_0 f5_x_1 f5_x_2 f5_x_3 f5_x_4 c5_y_0 c5_y_1 c5_y_2 c5_y_3 c5_y_4 f5_y_0 f5_y_1 f5_y_2 f5_y_3 f5_y_4 c5_z_0 c5_z_1 c5_z_2 c5_z_3 c5_z_4 f5_z_0 f5_z_1 f5_z_2 f5_z_3 f5_z_4
  obtain ⟨⟨c6_x_0, c6_x_1, c6_x_2, c6_x_3, c6_x_4⟩, f6_x_0, f6_x_1, f6_x_2, f6_x_3, f6_x_4⟩ := K6_x
  obtain ⟨⟨c6_y_0, c6_y_1, c6_y_2, c6_y_3, c6_y_4⟩, f6_y_0, f6_y_1, f6_y_2, f6_y_3, f6_y_4⟩ := K6_y
  obtain ⟨⟨c6_z_0, c6_z_1, c6_z_2, c6_z_3, c6_z_4⟩, f6_z_0, f6_z_1, f6_z_2, f6_z_3, f6_z_4⟩ := K6_z
  obtain ⟨⟨c6_p_0, c6_p_1, c6_p_2, c6_p_3, c6_p_4⟩, f6_p_0, f6_p_1, f6_p_2, f6_p_3, f6_p_4⟩ := K6_p
  have l6_x : w.heap.size < w6.heap.size := by omega
  have l6_y : w.heap.size + 1 < w6.heap.size := by omega
  have l6_z : w.heap.size + 1 + 1 < w6.heap.size := by omega
  by_cases hxe : xe = 0
  · by_cases hye : ye = 0
    · have HG := Lib.hid (HF.out hxe hye)
      subst hxe hye
      go_wp2_with fail
      refine (Cmp_any _ _ _ _ _ _ _ _ _ _ _).mono ?_
      rintro e WM ⟨rfl, hb⟩
      have DM : Below w.heap.size w WM := Below.trans (by go_grown) (hb.mono (by first | omega | (simp; done) | (simp; omega)))
      have sM := DM.size
      clear hb
      rw [HG.out]
      (try simp only)
      go_wp2_with fail
      refine (awake_any _).mono ?_
      rintro e WN ⟨rfl, hb⟩
      have DN : Below w.heap.size w WN := Below.trans (by go_grown) (hb.mono (by first | omega | (simp; done) | (simp; omega)))
      clear hb
      go_wp2_with fail
      go_returns
      exact ⟨rfl, DN⟩
    · subst hxe
      go_wp2_with fail
      refine (awake_any _).mono ?_
      rintro e WN ⟨rfl, hb⟩
      have DN : Below w.heap.size w WN := Below.trans (by go_grown) (hb.mono (by first | omega | (simp; done) | (simp; omega)))
      clear hb
      go_wp2_with fail
      go_returns
      exact ⟨rfl, DN⟩
  · go_wp2_with fail
    refine (awake_any _).mono ?_
    rintro e WN ⟨rfl, hb⟩
    have DN : Below w.heap.size w WN := Below.trans (by go_grown) (hb.mono (by first | omega | (simp; done) | (simp; omega)))
    clear hb
    go_wp2_with fail
    go_returns
    exact ⟨rfl, DN⟩

set_option maxRecDepth 100000 in
set_option maxHeartbeats 8000000 in
theorem AmpRanks_c5 (a b c d k p q r s l e f g h m t1 t2 t3 x0 x1 x2 x3 x4 xe y0 y1 y2 y3 y4 ye : Int) (w : World)
    (HC1 : Hid (cmpS ⟨⟨a, b, c, d⟩, k⟩ ⟨⟨p, q, r, s⟩, l⟩ = (t1, 0)))
    (HC2 : Hid (cmpS ⟨⟨p, q, r, s⟩, l⟩ ⟨⟨e, f, g, h⟩, m⟩ = (t2, 0)))
    (HC3 : Hid (cmpS ⟨⟨a, b, c, d⟩, k⟩ ⟨⟨e, f, g, h⟩, m⟩ = (t3, 0)))
    (HB : Hid (cmpS ⟨⟨p, q, r, s⟩, l⟩ ⟨⟨a, b, c, d⟩, k⟩ = (-t1, 0)))
    (HA : Hid (addS ⟨⟨a, b, c, d⟩, k⟩ ⟨⟨e, f, g, h⟩, m⟩ = (⟨⟨x0, x1, x2, x3⟩, x4⟩, xe)))
    (HA2 : Hid (addS ⟨⟨p, q, r, s⟩, l⟩ ⟨⟨e, f, g, h⟩, m⟩ = (⟨⟨y0, y1, y2, y3⟩, y4⟩, ye)))
    (HF : Hid (xe = 0 → ye = 0 → cmpS ⟨⟨x0, x1, x2, x3⟩, x4⟩ ⟨⟨y0, y1, y2, y3⟩, y4⟩ = (t1, 0)))
    (hr1 : -1 ≤ t1)
    (hr2 : t1 ≤ 1)
    (h1 : ¬ t1 = 0)
    (h2 : ¬ t2 = 0)
    (h12 : ¬ t1 = t2)
    (hb0 : (a == p && (b == q && (c == r && (d == s && k == l)))) = false) :
    Calls Try.prog 13 #[.agg #[.int .i64 a, .int .i64 b, .int .i64 c, .int .i64 d, .int .i64 k], .agg #[.int .i64 p, .int .i64 q, .int .i64 r, .int .i64 s, .int .i64 l], .agg #[.int .i64 e, .int .i64 f, .int .i64 g, .int .i64 h, .int .i64 m]] w fun e w' => e = .returned (.bool true) ∧ Below w.heap.size w w' := by
  go_enter Try.func13, Try.ntmps13
  go_wp2_with fail
  refine (Cmp_any _ _ _ _ _ _ _ _ _ _ _).mono ?_
  rintro e w1 ⟨rfl, hb⟩
  rw [HC1.out]
  (try simp only)
  have K1_x : Has5 w1 (w.heap.size) a b c d k := Has5.keep (by refine ⟨⟨?_, ?_, ?_, ?_, ?_⟩, ?_, ?_, ?_, ?_, ?_⟩ <;> go_cell) hb (by first | omega | (simp; done) | (simp; omega))
  have K1_y : Has5 w1 (w.heap.size + 1) p q r s l := Has5.keep (by refine ⟨⟨?_, ?_, ?_, ?_, ?_⟩, ?_, ?_, ?_, ?_, ?_⟩ <;> go_cell) hb (by first | omega | (simp; done) | (simp; omega))
  have K1_z : Has5 w1 (w.heap.size + 1 + 1) e f g h m := Has5.keep (by refine ⟨⟨?_, ?_, ?_, ?_, ?_⟩, ?_, ?_, ?_, ?_, ?_⟩ <;> go_cell) hb (by first | omega | (simp; done) | (simp; omega))
  have D1 : Below w.heap.size w w1 := Below.trans (by go_grown) (hb.mono (by first | omega | (simp; done) | (simp; omega)))
  have s1 : w.heap.size + 1 + 1 < w1.heap.size := by have := hb.size; (try simp at this); omega
  clear hb
  obtain ⟨⟨c1_x_0, c1_x_1, c1_x_2, c1_x_3, c1_x_4⟩, f1_x_0, f1_x_1, f1_x_2, f1_x_3, f1_x_4⟩ := K1_x
  obtain ⟨⟨c1_y_0, c1_y_1, c1_y_2, c1_y_3, c1_y_4⟩, f1_y_0, f1_y_1, f1_y_2, f1_y_3, f1_y_4⟩ := K1_y
  obtain ⟨⟨c1_z_0, c1_z_1, c1_z_2, c1_z_3, c1_z_4⟩, f1_z_0, f1_z_1, f1_z_2, f1_z_3, f1_z_4⟩ := K1_z
  have l1_x : w.heap.size < w1.heap.size := by omega
  have l1_y : w.heap.size + 1 < w1.heap.size := by omega
  go_wp2_with fail
  refine (Cmp_any _ _ _ _ _ _ _ _ _ _ _).mono ?_
  rintro e w2 ⟨rfl, hb⟩
  rw [HC2.out]
  (try simp only)
  have K2_x : Has5 w2 (w.heap.size) a b c d k := Has5.keep (by refine ⟨⟨?_, ?_, ?_, ?_, ?_⟩, ?_, ?_, ?_, ?_, ?_⟩ <;> go_cell) hb (by first | omega | (simp; done) | (simp; omega))
  have K2_y : Has5 w2 (w.heap.size + 1) p q r s l := Has5.keep (by refine ⟨⟨?_, ?_, ?_, ?_, ?_⟩, ?_, ?_, ?_, ?_, ?_⟩ <;> go_cell) hb (by first | omega | (simp; done) | (simp; omega))
  have K2_z : Has5 w2 (w.heap.size + 1 + 1) e f g h m := Has5.keep (by refine ⟨⟨?_, ?_, ?_, ?_, ?_⟩, ?_, ?_, ?_, ?_, ?_⟩ <;> go_cell) hb (by first | omega | (simp; done) | (simp; omega))
  have D2 : Below w.heap.size w w2 := Below.trans (by go_grown) (hb.mono (by first | omega | (simp; done) | (simp; omega)))
  have s2 : w.heap.size + 1 + 1 < w2.heap.size := by have := hb.size; (try simp at this); omega
  clear hb D1 c1_x_0 c1_x_1 c1_x_2 c1_x_3 c1_x_4 f1_x_0 f1_x_1 f1_x_2 f1_x_3 f1_x_4 c1_y_0 c1_y_1 c1_y_2 c1_y_3 c1_y_4 f1_y_0 f1_y_1 f1_y_2 f1_y_3 f1_y_4 c1_z_0 c1_z_1 c1_z_2 c1_z_3 c1_z_4 f1_z_0 f1_z_1 f1_z_2 f1_z_3 f1_z_4
  obtain ⟨⟨c2_x_0, c2_x_1, c2_x_2, c2_x_3, c2_x_4⟩, f2_x_0, f2_x_1, f2_x_2, f2_x_3, f2_x_4⟩ := K2_x
  obtain ⟨⟨c2_y_0, c2_y_1, c2_y_2, c2_y_3, c2_y_4⟩, f2_y_0, f2_y_1, f2_y_2, f2_y_3, f2_y_4⟩ := K2_y
  obtain ⟨⟨c2_z_0, c2_z_1, c2_z_2, c2_z_3, c2_z_4⟩, f2_z_0, f2_z_1, f2_z_2, f2_z_3, f2_z_4⟩ := K2_z
  have l2_x : w.heap.size < w2.heap.size := by omega
  have l2_y : w.heap.size + 1 < w2.heap.size := by omega
  go_wp2_with fail
  refine (Cmp_any _ _ _ _ _ _ _ _ _ _ _).mono ?_
  rintro e w3 ⟨rfl, hb⟩
  rw [HC3.out]
  (try simp only)
  have K3_x : Has5 w3 (w.heap.size) a b c d k := Has5.keep (by refine ⟨⟨?_, ?_, ?_, ?_, ?_⟩, ?_, ?_, ?_, ?_, ?_⟩ <;> go_cell) hb (by first | omega | (simp; done) | (simp; omega))
  have K3_y : Has5 w3 (w.heap.size + 1) p q r s l := Has5.keep (by refine ⟨⟨?_, ?_, ?_, ?_, ?_⟩, ?_, ?_, ?_, ?_, ?_⟩ <;> go_cell) hb (by first | omega | (simp; done) | (simp; omega))
  have K3_z : Has5 w3 (w.heap.size + 1 + 1) e f g h m := Has5.keep (by refine ⟨⟨?_, ?_, ?_, ?_, ?_⟩, ?_, ?_, ?_, ?_, ?_⟩ <;> go_cell) hb (by first | omega | (simp; done) | (simp; omega))
  have D3 : Below w.heap.size w w3 := Below.trans (by go_grown) (hb.mono (by first | omega | (simp; done) | (simp; omega)))
  have s3 : w.heap.size + 1 + 1 < w3.heap.size := by have := hb.size; (try simp at this); omega
  clear hb D2 c2_x_0 c2_x_1 c2_x_2 c2_x_3 c2_x_4 f2_x_0 f2_x_1 f2_x_2 f2_x_3 f2_x_4 c2_y_0 c2_y_1 c2_y_2 c2_y_3 c2_y_4 f2_y_0 f2_y_1 f2_y_2 f2_y_3 f2_y_4 c2_z_0 c2_z_1 c2_z_2 c2_z_3 c2_z_4 f2_z_0 f2_z_1 f2_z_2 f2_z_3 f2_z_4
  obtain ⟨⟨c3_x_0, c3_x_1, c3_x_2, c3_x_3, c3_x_4⟩, f3_x_0, f3_x_1, f3_x_2, f3_x_3, f3_x_4⟩ := K3_x
  obtain ⟨⟨c3_y_0, c3_y_1, c3_y_2, c3_y_3, c3_y_4⟩, f3_y_0, f3_y_1, f3_y_2, f3_y_3, f3_y_4⟩ := K3_y
  obtain ⟨⟨c3_z_0, c3_z_1, c3_z_2, c3_z_3, c3_z_4⟩, f3_z_0, f3_z_1, f3_z_2, f3_z_3, f3_z_4⟩ := K3_z
  have l3_x : w.heap.size < w3.heap.size := by omega
  have l3_y : w.heap.size + 1 < w3.heap.size := by omega
  go_wp2_with fail
  refine (Cmp_any _ _ _ _ _ _ _ _ _ _ _).mono ?_
  rintro e w4 ⟨rfl, hb⟩
  rw [HB.out]
  (try simp only)
  have K4_x : Has5 w4 (w.heap.size) a b c d k := Has5.keep (by refine ⟨⟨?_, ?_, ?_, ?_, ?_⟩, ?_, ?_, ?_, ?_, ?_⟩ <;> go_cell) hb (by first | omega | (simp; done) | (simp; omega))
  have K4_y : Has5 w4 (w.heap.size + 1) p q r s l := Has5.keep (by refine ⟨⟨?_, ?_, ?_, ?_, ?_⟩, ?_, ?_, ?_, ?_, ?_⟩ <;> go_cell) hb (by first | omega | (simp; done) | (simp; omega))
  have K4_z : Has5 w4 (w.heap.size + 1 + 1) e f g h m := Has5.keep (by refine ⟨⟨?_, ?_, ?_, ?_, ?_⟩, ?_, ?_, ?_, ?_, ?_⟩ <;> go_cell) hb (by first | omega | (simp; done) | (simp; omega))
  have D4 : Below w.heap.size w w4 := Below.trans (by go_grown) (hb.mono (by first | omega | (simp; done) | (simp; omega)))
  have s4 : w.heap.size + 1 + 1 < w4.heap.size := by have := hb.size; (try simp at this); omega
  clear hb D3 c3_x_0 c3_x_1 c3_x_2 c3_x_3 c3_x_4 f3_x_0 f3_x_1 f3_x_2 f3_x_3 f3_x_4 c3_y_0 c3_y_1 c3_y_2 c3_y_3 c3_y_4 f3_y_0 f3_y_1 f3_y_2 f3_y_3 f3_y_4 c3_z_0 c3_z_1 c3_z_2 c3_z_3 c3_z_4 f3_z_0 f3_z_1 f3_z_2 f3_z_3 f3_z_4
  obtain ⟨⟨c4_x_0, c4_x_1, c4_x_2, c4_x_3, c4_x_4⟩, f4_x_0, f4_x_1, f4_x_2, f4_x_3, f4_x_4⟩ := K4_x
  obtain ⟨⟨c4_y_0, c4_y_1, c4_y_2, c4_y_3, c4_y_4⟩, f4_y_0, f4_y_1, f4_y_2, f4_y_3, f4_y_4⟩ := K4_y
  obtain ⟨⟨c4_z_0, c4_z_1, c4_z_2, c4_z_3, c4_z_4⟩, f4_z_0, f4_z_1, f4_z_2, f4_z_3, f4_z_4⟩ := K4_z
  have l4_x : w.heap.size < w4.heap.size := by omega
  have l4_y : w.heap.size + 1 < w4.heap.size := by omega
  go_wp2_with (first | simp only [hb0] | fail)
  refine (Add_any _ _ _ _ _ _ _ _ _ _ _).mono ?_
  rintro e w5 ⟨rfl, hb⟩
  rw [HA.out]
  unfold Ret5
  (try simp only)
  have K5_x : Has5 w5 (w.heap.size) a b c d k := Has5.keep (by refine ⟨⟨?_, ?_, ?_, ?_, ?_⟩, ?_, ?_, ?_, ?_, ?_⟩ <;> go_cell) hb (by first | omega | (simp; done) | (simp; omega))
  have K5_y : Has5 w5 (w.heap.size + 1) p q r s l := Has5.keep (by refine ⟨⟨?_, ?_, ?_, ?_, ?_⟩, ?_, ?_, ?_, ?_, ?_⟩ <;> go_cell) hb (by first | omega | (simp; done) | (simp; omega))
  have K5_z : Has5 w5 (w.heap.size + 1 + 1) e f g h m := Has5.keep (by refine ⟨⟨?_, ?_, ?_, ?_, ?_⟩, ?_, ?_, ?_, ?_, ?_⟩ <;> go_cell) hb (by first | omega | (simp; done) | (simp; omega))
  have D5 : Below w.heap.size w w5 := Below.trans (by go_grown) (hb.mono (by first | omega | (simp; done) | (simp; omega)))
  have s5 : w.heap.size + 1 + 1 < w5.heap.size := by have := hb.size; (try simp at this); omega
  clear hb D4 c4_x_0 c4_x_1 c4_x_2 c4_x_3 c4_x_4 f4_x_0 f4_x_1 f4_x_2 f4_x_3 f4_x_4 c4_y_0 c4_y_1 c4_y_2 c4_y_3 c4_y_4 f4_y_0 f4_y_1 f4_y_2 f4_y_3 f4_y_4 c4_z_0 c4_z_1 c4_z_2 c4_z_3 c4_z_4 f4_z_0 f4_z_1 f4_z_2 f4_z_3 f4_z_4
  obtain ⟨⟨c5_x_0, c5_x_1, c5_x_2, c5_x_3, c5_x_4⟩, f5_x_0, f5_x_1, f5_x_2, f5_x_3, f5_x_4⟩ := K5_x
  obtain ⟨⟨c5_y_0, c5_y_1, c5_y_2, c5_y_3, c5_y_4⟩, f5_y_0, f5_y_1, f5_y_2, f5_y_3, f5_y_4⟩ := K5_y
  obtain ⟨⟨c5_z_0, c5_z_1, c5_z_2, c5_z_3, c5_z_4⟩, f5_z_0, f5_z_1, f5_z_2, f5_z_3, f5_z_4⟩ := K5_z
  have l5_x : w.heap.size < w5.heap.size := by omega
  have l5_y : w.heap.size + 1 < w5.heap.size := by omega
  go_wp2_with fail
  refine (Add_any _ _ _ _ _ _ _ _ _ _ _).mono ?_
  rintro e w6 ⟨rfl, hb⟩
  rw [HA2.out]
  unfold Ret5
  (try simp only)
  have K6_x : Has5 w6 (w.heap.size) a b c d k := Has5.keep (by refine ⟨⟨?_, ?_, ?_, ?_, ?_⟩, ?_, ?_, ?_, ?_, ?_⟩ <;> go_cell) hb (by first | omega | (simp; done) | (simp; omega))
  have K6_y : Has5 w6 (w.heap.size + 1) p q r s l := Has5.keep (by refine ⟨⟨?_, ?_, ?_, ?_, ?_⟩, ?_, ?_, ?_, ?_, ?_⟩ <;> go_cell) hb (by first | omega | (simp; done) | (simp; omega))
  have K6_z : Has5 w6 (w.heap.size + 1 + 1) e f g h m := Has5.keep (by refine ⟨⟨?_, ?_, ?_, ?_, ?_⟩, ?_, ?_, ?_, ?_, ?_⟩ <;> go_cell) hb (by first | omega | (simp; done) | (simp; omega))
  have K6_p : Has5 w6 (w5.heap.size) x0 x1 x2 x3 x4 := Has5.keep (by refine ⟨⟨?_, ?_, ?_, ?_, ?_⟩, ?_, ?_, ?_, ?_, ?_⟩ <;> go_cell) hb (by first | omega | (simp; done) | (simp; omega))
  have D6 : Below w.heap.size w w6 := Below.trans (by go_grown) (hb.mono (by first | omega | (simp; done) | (simp; omega)))
  have s6 : w5.heap.size < w6.heap.size := by have := hb.size; (try simp at this); omega
  clear hb D5 c5_x_0 c5_x_1 c5_x_2 c5_x_3 c5_x_4 f5_x_0 f5_x_1 f5_x_2 f5_x_3 f5_x_4 c5_y_0 c5_y_1 c5_y_2 c5_y_3 c5_y_4 f5_y_0 f5_y_1 f5_y_2 f5_y_3 f5_y_4 c5_z_0 c5_z_1 c5_z_2 c5_z_3 c5_z_4 f5_z_0 f5_z_1 f5_z_2 f5_z_3 f5_z_4
  obtain ⟨⟨c6_x_0, c6_x_1, c6_x_2, c6_x_3, c6_x_4⟩, f6_x_0, f6_x_1, f6_x_2, f6_x_3, f6_x_4⟩ := K6_x
  obtain ⟨⟨c6_y_0, c6_y_1, c6_y_2, c6_y_3, c6_y_4⟩, f6_y_0, f6_y_1, f6_y_2, f6_y_3, f6_y_4⟩ := K6_y
  obtain ⟨⟨c6_z_0, c6_z_1, c6_z_2, c6_z_3, c6_z_4⟩, f6_z_0, f6_z_1, f6_z_2, f6_z_3, f6_z_4⟩ := K6_z
  obtain ⟨⟨c6_p_0, c6_p_1, c6_p_2, c6_p_3, c6_p_4⟩, f6_p_0, f6_p_1, f6_p_2, f6_p_3, f6_p_4⟩ := K6_p
  have l6_x : w.heap.size < w6.heap.size := by omega
  have l6_y : w.heap.size + 1 < w6.heap.size := by omega
  have l6_z : w.heap.size + 1 + 1 < w6.heap.size := by omega
  by_cases hxe : xe = 0
  · by_cases hye : ye = 0
    · have HG := Lib.hid (HF.out hxe hye)
      subst hxe hye
      go_wp2_with fail
      refine (Cmp_any _ _ _ _ _ _ _ _ _ _ _).mono ?_
      rintro e WM ⟨rfl, hb⟩
      have DM : Below w.heap.size w WM := Below.trans (by go_grown) (hb.mono (by first | omega | (simp; done) | (simp; omega)))
      have sM := DM.size
      clear hb
      rw [HG.out]
      (try simp only)
      go_wp2_with fail
      refine (awake_any _).mono ?_
      rintro e WN ⟨rfl, hb⟩
      have DN : Below w.heap.size w WN := Below.trans (by go_grown) (hb.mono (by first | omega | (simp; done) | (simp; omega)))
      clear hb
      go_wp2_with fail
      go_returns
      exact ⟨rfl, DN⟩
    · subst hxe
      go_wp2_with fail
      refine (awake_any _).mono ?_
      rintro e WN ⟨rfl, hb⟩
      have DN : Below w.heap.size w WN := Below.trans (by go_grown) (hb.mono (by first | omega | (simp; done) | (simp; omega)))
      clear hb
      go_wp2_with fail
      go_returns
      exact ⟨rfl, DN⟩
  · go_wp2_with fail
    refine (awake_any _).mono ?_
    rintro e WN ⟨rfl, hb⟩
    have DN : Below w.heap.size w WN := Below.trans (by go_grown) (hb.mono (by first | omega | (simp; done) | (simp; omega)))
    clear hb
    go_wp2_with fail
    go_returns
    exact ⟨rfl, DN⟩

theorem neq_num {a b c d k p q r s l : Int} (h : ¬ (⟨⟨a, b, c, d⟩, k⟩ : Nm) = ⟨⟨p, q, r, s⟩, l⟩) : (a == p && (b == q && (c == r && (d == s && k == l)))) = false := by
  apply Classical.byContradiction
  intro hn
  apply h
  simp at hn
  obtain ⟨rfl, rfl, rfl, rfl, rfl⟩ := hn
  rfl
theorem pair_ex (m : Int × Int) : ∃ t e, Hid (m = (t, e)) := by
  obtain ⟨t, e⟩ := m
  exact ⟨t, e, rfl⟩
theorem cmp_rng {x y : Nm} {t : Int} (h : cmpS x y = (t, 0)) : -1 ≤ t ∧ t ≤ 1 := by
  obtain ⟨_, _, _, _, h⟩ := cmpS_zero h
  rw [h]
  unfold sg
  have := sgS_vals (df (sc 40 x) (sc 40 y)).a (df (sc 40 x) (sc 40 y)).b
  omega
theorem AmpRanks_any (a b c d k p q r s l e f g h m : Int) (w : World) :
    Calls Try.prog 13 #[.agg #[.int .i64 a, .int .i64 b, .int .i64 c, .int .i64 d, .int .i64 k], .agg #[.int .i64 p, .int .i64 q, .int .i64 r, .int .i64 s, .int .i64 l], .agg #[.int .i64 e, .int .i64 f, .int .i64 g, .int .i64 h, .int .i64 m]] w fun e w' => e = .returned (.bool true) ∧ Below w.heap.size w w' := by
  obtain ⟨t1, e1, HC1⟩ := pair_ex (cmpS ⟨⟨a, b, c, d⟩, k⟩ ⟨⟨p, q, r, s⟩, l⟩)
  obtain ⟨t2, e2, HC2⟩ := pair_ex (cmpS ⟨⟨p, q, r, s⟩, l⟩ ⟨⟨e, f, g, h⟩, m⟩)
  obtain ⟨t3, e3, HC3⟩ := pair_ex (cmpS ⟨⟨a, b, c, d⟩, k⟩ ⟨⟨e, f, g, h⟩, m⟩)
  by_cases he : e1 = 0 ∧ e2 = 0 ∧ e3 = 0
  · obtain ⟨rfl, rfl, rfl⟩ := he
    obtain ⟨x0, x1, x2, x3, x4, xe, HA⟩ := res5 (addS ⟨⟨a, b, c, d⟩, k⟩ ⟨⟨e, f, g, h⟩, m⟩)
    obtain ⟨y0, y1, y2, y3, y4, ye, HA2⟩ := res5 (addS ⟨⟨p, q, r, s⟩, l⟩ ⟨⟨e, f, g, h⟩, m⟩)
    have HB := Lib.hid (rank_back HC1.out)
    obtain ⟨hr1, hr2⟩ := cmp_rng HC1.out
    obtain ⟨k1, k2, k3⟩ := rank_chain HC1.out HC2.out HC3.out
    have HF : Hid (xe = 0 → ye = 0 → cmpS ⟨⟨x0, x1, x2, x3⟩, x4⟩ ⟨⟨y0, y1, y2, y3⟩, y4⟩ = (t1, 0)) := Lib.hid (fun hx hy => by
      subst hx hy
      exact rank_more HC1.out HC2.out HA.out HA2.out)
    by_cases h1 : t1 = 0
    · have hxy := (rank_eq HC1.out).1 h1
      simp only [Nm.mk.injEq, C4.mk.injEq] at hxy
      obtain ⟨⟨rfl, rfl, rfl, rfl⟩, rfl⟩ := hxy
      obtain rfl := k2 h1
      subst h1
      by_cases h2 : t3 = 0
      · subst h2
        exact AmpRanks_c1 a b c d k e f g h m x0 x1 x2 x3 x4 xe y0 y1 y2 y3 y4 ye w HC1 HC2 HC3 HB HA HA2 HF
      · exact AmpRanks_c3 a b c d k e f g h m t3 x0 x1 x2 x3 x4 xe y0 y1 y2 y3 y4 ye w HC1 HC2 HC3 HB HA HA2 HF h2
    · have hb0 := neq_num (fun he => h1 ((rank_eq HC1.out).2 he))
      by_cases h12 : t1 = t2
      · obtain rfl := k1 h12
        subst h12
        exact AmpRanks_c2 a b c d k p q r s l e f g h m t3 x0 x1 x2 x3 x4 xe y0 y1 y2 y3 y4 ye w HC1 HC2 HC3 HB HA HA2 HF hr1 hr2 h1 hb0
      · by_cases h2 : t2 = 0
        · obtain rfl := k3 h2
          subst h2
          exact AmpRanks_c4 a b c d k p q r s l e f g h m t3 x0 x1 x2 x3 x4 xe y0 y1 y2 y3 y4 ye w HC1 HC2 HC3 HB HA HA2 HF hr1 hr2 h1 hb0
        · exact AmpRanks_c5 a b c d k p q r s l e f g h m t1 t2 t3 x0 x1 x2 x3 x4 xe y0 y1 y2 y3 y4 ye w HC1 HC2 HC3 HB HA HA2 HF hr1 hr2 h1 h2 h12 hb0
  · exact AmpRanks_bad a b c d k p q r s l e f g h m t1 e1 t2 e2 t3 e3 w HC1 HC2 HC3 he
end Go.Proofs.Ytmildncbkndcoaa
