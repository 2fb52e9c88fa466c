import Derived.Test.YtmildncbkndcoaaSd
import Derived.Test.YtmildncbkndcoaaPwm
import Derived.Test.YtmildncbkndcoaaAw
namespace Amp
def sgnS (z : Nm) : Int × Int := if vld z = true then (if relB z.v = true then (sgS z.v.a z.v.b, 0) else (0, 11)) else (0, 10)
theorem sgn_cmp (z : Nm) : cmpS z N0 = sgnS z := by
  cases hv : vld z
  · unfold cmpS sgnS; rw [hv]; rfl
  · cases hr : relB z.v
    · unfold cmpS sgnS; rw [hv, hr]; rfl
    · rw [sign_of hv hr]; unfold sgnS sg; rw [hv, hr]; rfl
theorem bg62 {z : Nm} (h : vld z = true) : big 4611686018427387903 z.v := big_mono (vld_sm h) (by omega)
theorem bg61 {z : Nm} (h : vld z = true) : (-2305843009213693952 ≤ z.v.a ∧ z.v.a ≤ 2305843009213693952) ∧ (-2305843009213693952 ≤ z.v.b ∧ z.v.b ≤ 2305843009213693952) := by
  have := vld_sm h
  simp only [big, bg] at this
  omega
end Amp
namespace Go.Proofs.Ytmildncbkndcoaa
open Go.RowKit Amp
attribute [local go_sem] ix0 ix1 ix2 ix3 jx0 jx1 jx2 jx3
attribute [local go_sem high] run_eqNum run_neNum run_eqArr run_eqArr22

set_option maxHeartbeats 2000000 in
theorem rSign_bad (a b c d k : Int) (w : World) (hv : Hid (vld ⟨⟨a, b, c, d⟩, k⟩ = false)) (HE : Hid (sgnS ⟨⟨a, b, c, d⟩, k⟩ = (0, 10))) :
    Calls Try.prog 43 #[.agg #[.int .i64 a, .int .i64 b, .int .i64 c, .int .i64 d, .int .i64 k]] w fun e w' => e = .returned (.tuple #[.int .i64 (sgnS ⟨⟨a, b, c, d⟩, k⟩).1, .int .i64 (sgnS ⟨⟨a, b, c, d⟩, k⟩).2]) ∧ Below w.heap.size w w' := by
  go_enter Try.func43, Try.ntmps43
  go_wp2_with fail
  refine (rValid_any _ _ _ _ _ _).mono ?_
  rintro e w1 ⟨rfl, hb⟩
  rw [hv.out]
  have K1_x : Has5 w1 (w.heap.size) a b c d k := Has5.keep (by refine ⟨⟨?_, ?_, ?_, ?_, ?_⟩, ?_, ?_, ?_, ?_, ?_⟩ <;> go_cell) hb (by first | omega | (simp; done) | (simp; omega))
  have D1 : Below w.heap.size w w1 := Below.trans (by go_grown) (hb.mono (by first | omega | (simp; done) | (simp; omega)))
  have s1 : w.heap.size < w1.heap.size := by have := hb.size; (try simp at this); omega
  clear hb
  obtain ⟨⟨c1_x_0, c1_x_1, c1_x_2, c1_x_3, c1_x_4⟩, f1_x_0, f1_x_1, f1_x_2, f1_x_3, f1_x_4⟩ := K1_x
  go_wp2_with fail
  go_returns
  exact ⟨by rw [HE.out]; rfl, by go_grown⟩

set_option maxHeartbeats 2000000 in
theorem rSign_no (a b c d k : Int) (w : World) (hv : Hid (vld ⟨⟨a, b, c, d⟩, k⟩ = true)) (hr : Hid (relB ⟨a, b, c, d⟩ = false)) (HE : Hid (sgnS ⟨⟨a, b, c, d⟩, k⟩ = (0, 11))) :
    Calls Try.prog 43 #[.agg #[.int .i64 a, .int .i64 b, .int .i64 c, .int .i64 d, .int .i64 k]] w fun e w' => e = .returned (.tuple #[.int .i64 (sgnS ⟨⟨a, b, c, d⟩, k⟩).1, .int .i64 (sgnS ⟨⟨a, b, c, d⟩, k⟩).2]) ∧ Below w.heap.size w w' := by
  go_enter Try.func43, Try.ntmps43
  go_wp2_with fail
  refine (rValid_any _ _ _ _ _ _).mono ?_
  rintro e w1 ⟨rfl, hb⟩
  rw [hv.out]
  have K1_x : Has5 w1 (w.heap.size) a b c d k := Has5.keep (by refine ⟨⟨?_, ?_, ?_, ?_, ?_⟩, ?_, ?_, ?_, ?_, ?_⟩ <;> go_cell) hb (by first | omega | (simp; done) | (simp; omega))
  have D1 : Below w.heap.size w w1 := Below.trans (by go_grown) (hb.mono (by first | omega | (simp; done) | (simp; omega)))
  have s1 : w.heap.size < w1.heap.size := by have := hb.size; (try simp at this); omega
  clear hb
  obtain ⟨⟨c1_x_0, c1_x_1, c1_x_2, c1_x_3, c1_x_4⟩, f1_x_0, f1_x_1, f1_x_2, f1_x_3, f1_x_4⟩ := K1_x
  go_wp2_with fail
  refine (isReal_any _ _ _ _ _ (bg62 hv.out)).mono ?_
  rintro e w2 ⟨rfl, hb⟩
  rw [hr.out]
  have K2_x : Has5 w2 (w.heap.size) a b c d k := Has5.keep (by refine ⟨⟨?_, ?_, ?_, ?_, ?_⟩, ?_, ?_, ?_, ?_, ?_⟩ <;> go_cell) hb (by first | omega | (simp; done) | (simp; omega))
  have D2 : Below w.heap.size w w2 := Below.trans (by go_grown) (hb.mono (by first | omega | (simp; done) | (simp; omega)))
  have s2 : w.heap.size < w2.heap.size := by have := hb.size; (try simp at this); omega
  clear hb D1 c1_x_0 c1_x_1 c1_x_2 c1_x_3 c1_x_4 f1_x_0 f1_x_1 f1_x_2 f1_x_3 f1_x_4
  obtain ⟨⟨c2_x_0, c2_x_1, c2_x_2, c2_x_3, c2_x_4⟩, f2_x_0, f2_x_1, f2_x_2, f2_x_3, f2_x_4⟩ := K2_x
  go_wp2_with fail
  go_returns
  exact ⟨by rw [HE.out]; rfl, by go_grown⟩

set_option maxHeartbeats 2000000 in
theorem rSign_ok (a b c d k : Int) (w : World) (hv : Hid (vld ⟨⟨a, b, c, d⟩, k⟩ = true)) (hr : Hid (relB ⟨a, b, c, d⟩ = true)) (HE : Hid (sgnS ⟨⟨a, b, c, d⟩, k⟩ = (sgS a b, 0))) :
    Calls Try.prog 43 #[.agg #[.int .i64 a, .int .i64 b, .int .i64 c, .int .i64 d, .int .i64 k]] w fun e w' => e = .returned (.tuple #[.int .i64 (sgnS ⟨⟨a, b, c, d⟩, k⟩).1, .int .i64 (sgnS ⟨⟨a, b, c, d⟩, k⟩).2]) ∧ Below w.heap.size w w' := by
  go_enter Try.func43, Try.ntmps43
  go_wp2_with fail
  refine (rValid_any _ _ _ _ _ _).mono ?_
  rintro e w1 ⟨rfl, hb⟩
  rw [hv.out]
  have K1_x : Has5 w1 (w.heap.size) a b c d k := Has5.keep (by refine ⟨⟨?_, ?_, ?_, ?_, ?_⟩, ?_, ?_, ?_, ?_, ?_⟩ <;> go_cell) hb (by first | omega | (simp; done) | (simp; omega))
  have D1 : Below w.heap.size w w1 := Below.trans (by go_grown) (hb.mono (by first | omega | (simp; done) | (simp; omega)))
  have s1 : w.heap.size < w1.heap.size := by have := hb.size; (try simp at this); omega
  clear hb
  obtain ⟨⟨c1_x_0, c1_x_1, c1_x_2, c1_x_3, c1_x_4⟩, f1_x_0, f1_x_1, f1_x_2, f1_x_3, f1_x_4⟩ := K1_x
  go_wp2_with fail
  refine (isReal_any _ _ _ _ _ (bg62 hv.out)).mono ?_
  rintro e w2 ⟨rfl, hb⟩
  rw [hr.out]
  have K2_x : Has5 w2 (w.heap.size) a b c d k := Has5.keep (by refine ⟨⟨?_, ?_, ?_, ?_, ?_⟩, ?_, ?_, ?_, ?_, ?_⟩ <;> go_cell) hb (by first | omega | (simp; done) | (simp; omega))
  have D2 : Below w.heap.size w w2 := Below.trans (by go_grown) (hb.mono (by first | omega | (simp; done) | (simp; omega)))
  have s2 : w.heap.size < w2.heap.size := by have := hb.size; (try simp at this); omega
  clear hb D1 c1_x_0 c1_x_1 c1_x_2 c1_x_3 c1_x_4 f1_x_0 f1_x_1 f1_x_2 f1_x_3 f1_x_4
  obtain ⟨⟨c2_x_0, c2_x_1, c2_x_2, c2_x_3, c2_x_4⟩, f2_x_0, f2_x_1, f2_x_2, f2_x_3, f2_x_4⟩ := K2_x
  go_wp2_with fail
  refine (side_any _ _ _ (bg61 hv.out).1 (bg61 hv.out).2).mono ?_
  rintro e w3 ⟨rfl, hb⟩
  have K3_x : Has5 w3 (w.heap.size) a b c d k := Has5.keep (by refine ⟨⟨?_, ?_, ?_, ?_, ?_⟩, ?_, ?_, ?_, ?_, ?_⟩ <;> go_cell) hb (by first | omega | (simp; done) | (simp; omega))
  have D3 : Below w.heap.size w w3 := Below.trans (by go_grown) (hb.mono (by first | omega | (simp; done) | (simp; omega)))
  have s3 : w.heap.size < w3.heap.size := by have := hb.size; (try simp at this); omega
  clear hb D2 c2_x_0 c2_x_1 c2_x_2 c2_x_3 c2_x_4 f2_x_0 f2_x_1 f2_x_2 f2_x_3 f2_x_4
  obtain ⟨⟨c3_x_0, c3_x_1, c3_x_2, c3_x_3, c3_x_4⟩, f3_x_0, f3_x_1, f3_x_2, f3_x_3, f3_x_4⟩ := K3_x
  go_wp2_with fail
  go_returns
  exact ⟨by rw [HE.out]; rfl, by go_grown⟩

theorem rSign_any (a b c d k : Int) (w : World) :
    Calls Try.prog 43 #[.agg #[.int .i64 a, .int .i64 b, .int .i64 c, .int .i64 d, .int .i64 k]] w fun e w' => e = .returned (.tuple #[.int .i64 (sgnS ⟨⟨a, b, c, d⟩, k⟩).1, .int .i64 (sgnS ⟨⟨a, b, c, d⟩, k⟩).2]) ∧ Below w.heap.size w w' := by
  cases hv : vld ⟨⟨a, b, c, d⟩, k⟩
  · exact rSign_bad a b c d k w (Lib.hid hv) (Lib.hid (by unfold sgnS; rw [hv]; rfl))
  · cases hr : relB ⟨a, b, c, d⟩
    · exact rSign_no a b c d k w (Lib.hid hv) (Lib.hid hr) (Lib.hid (by unfold sgnS; rw [hv]; simp only [hr]; rfl))
    · exact rSign_ok a b c d k w (Lib.hid hv) (Lib.hid hr) (Lib.hid (by unfold sgnS; rw [hv]; simp only [hr]; rfl))

set_option maxHeartbeats 4000000 in
theorem rCmp_b1 (a b c d k p q r s l : Int) (w : World) (hv : Hid (vld ⟨⟨a, b, c, d⟩, k⟩ = false)) (HE : Hid (cmpS ⟨⟨a, b, c, d⟩, k⟩ ⟨⟨p, q, r, s⟩, l⟩ = (0, 10))) :
    Calls Try.prog 45 #[.agg #[.int .i64 a, .int .i64 b, .int .i64 c, .int .i64 d, .int .i64 k], .agg #[.int .i64 p, .int .i64 q, .int .i64 r, .int .i64 s, .int .i64 l]] w fun e w' => e = .returned (.tuple #[.int .i64 (cmpS ⟨⟨a, b, c, d⟩, k⟩ ⟨⟨p, q, r, s⟩, l⟩).1, .int .i64 (cmpS ⟨⟨a, b, c, d⟩, k⟩ ⟨⟨p, q, r, s⟩, l⟩).2]) ∧ Below w.heap.size w w' := by
  go_enter Try.func45, Try.ntmps45
  go_wp2_with fail
  refine (rValid_any _ _ _ _ _ _).mono ?_
  rintro e w1 ⟨rfl, hb⟩
  rw [hv.out]
  have K1_x : Has5 w1 (w.heap.size) a b c d k := Has5.keep (by refine ⟨⟨?_, ?_, ?_, ?_, ?_⟩, ?_, ?_, ?_, ?_, ?_⟩ <;> go_cell) hb (by first | omega | (simp; done) | (simp; omega))
  have K1_y : Has5 w1 (w.heap.size + 1) p q r s l := Has5.keep (by refine ⟨⟨?_, ?_, ?_, ?_, ?_⟩, ?_, ?_, ?_, ?_, ?_⟩ <;> go_cell) hb (by first | omega | (simp; done) | (simp; omega))
  have D1 : Below w.heap.size w w1 := Below.trans (by go_grown) (hb.mono (by first | omega | (simp; done) | (simp; omega)))
  have s1 : w.heap.size + 1 < w1.heap.size := by have := hb.size; (try simp at this); omega
  clear hb
  obtain ⟨⟨c1_x_0, c1_x_1, c1_x_2, c1_x_3, c1_x_4⟩, f1_x_0, f1_x_1, f1_x_2, f1_x_3, f1_x_4⟩ := K1_x
  obtain ⟨⟨c1_y_0, c1_y_1, c1_y_2, c1_y_3, c1_y_4⟩, f1_y_0, f1_y_1, f1_y_2, f1_y_3, f1_y_4⟩ := K1_y
  have l1_x : w.heap.size < w1.heap.size := by omega
  go_wp2_with fail
  go_returns
  exact ⟨by rw [HE.out]; rfl, by go_grown⟩

set_option maxHeartbeats 4000000 in
theorem rCmp_b2 (a b c d k p q r s l : Int) (w : World) (hv : Hid (vld ⟨⟨a, b, c, d⟩, k⟩ = true)) (hv2 : Hid (vld ⟨⟨p, q, r, s⟩, l⟩ = false)) (HE : Hid (cmpS ⟨⟨a, b, c, d⟩, k⟩ ⟨⟨p, q, r, s⟩, l⟩ = (0, 10))) :
    Calls Try.prog 45 #[.agg #[.int .i64 a, .int .i64 b, .int .i64 c, .int .i64 d, .int .i64 k], .agg #[.int .i64 p, .int .i64 q, .int .i64 r, .int .i64 s, .int .i64 l]] w fun e w' => e = .returned (.tuple #[.int .i64 (cmpS ⟨⟨a, b, c, d⟩, k⟩ ⟨⟨p, q, r, s⟩, l⟩).1, .int .i64 (cmpS ⟨⟨a, b, c, d⟩, k⟩ ⟨⟨p, q, r, s⟩, l⟩).2]) ∧ Below w.heap.size w w' := by
  go_enter Try.func45, Try.ntmps45
  go_wp2_with fail
  refine (rValid_any _ _ _ _ _ _).mono ?_
  rintro e w1 ⟨rfl, hb⟩
  rw [hv.out]
  have K1_x : Has5 w1 (w.heap.size) a b c d k := Has5.keep (by refine ⟨⟨?_, ?_, ?_, ?_, ?_⟩, ?_, ?_, ?_, ?_, ?_⟩ <;> go_cell) hb (by first | omega | (simp; done) | (simp; omega))
  have K1_y : Has5 w1 (w.heap.size + 1) p q r s l := Has5.keep (by refine ⟨⟨?_, ?_, ?_, ?_, ?_⟩, ?_, ?_, ?_, ?_, ?_⟩ <;> go_cell) hb (by first | omega | (simp; done) | (simp; omega))
  have D1 : Below w.heap.size w w1 := Below.trans (by go_grown) (hb.mono (by first | omega | (simp; done) | (simp; omega)))
  have s1 : w.heap.size + 1 < w1.heap.size := by have := hb.size; (try simp at this); omega
  clear hb
  obtain ⟨⟨c1_x_0, c1_x_1, c1_x_2, c1_x_3, c1_x_4⟩, f1_x_0, f1_x_1, f1_x_2, f1_x_3, f1_x_4⟩ := K1_x
  obtain ⟨⟨c1_y_0, c1_y_1, c1_y_2, c1_y_3, c1_y_4⟩, f1_y_0, f1_y_1, f1_y_2, f1_y_3, f1_y_4⟩ := K1_y
  have l1_x : w.heap.size < w1.heap.size := by omega
  go_wp2_with fail
  refine (rValid_any _ _ _ _ _ _).mono ?_
  rintro e w2 ⟨rfl, hb⟩
  rw [hv2.out]
  have K2_x : Has5 w2 (w.heap.size) a b c d k := Has5.keep (by refine ⟨⟨?_, ?_, ?_, ?_, ?_⟩, ?_, ?_, ?_, ?_, ?_⟩ <;> go_cell) hb (by first | omega | (simp; done) | (simp; omega))
  have K2_y : Has5 w2 (w.heap.size + 1) p q r s l := Has5.keep (by refine ⟨⟨?_, ?_, ?_, ?_, ?_⟩, ?_, ?_, ?_, ?_, ?_⟩ <;> go_cell) hb (by first | omega | (simp; done) | (simp; omega))
  have D2 : Below w.heap.size w w2 := Below.trans (by go_grown) (hb.mono (by first | omega | (simp; done) | (simp; omega)))
  have s2 : w.heap.size + 1 < w2.heap.size := by have := hb.size; (try simp at this); omega
  clear hb D1 c1_x_0 c1_x_1 c1_x_2 c1_x_3 c1_x_4 f1_x_0 f1_x_1 f1_x_2 f1_x_3 f1_x_4 c1_y_0 c1_y_1 c1_y_2 c1_y_3 c1_y_4 f1_y_0 f1_y_1 f1_y_2 f1_y_3 f1_y_4
  obtain ⟨⟨c2_x_0, c2_x_1, c2_x_2, c2_x_3, c2_x_4⟩, f2_x_0, f2_x_1, f2_x_2, f2_x_3, f2_x_4⟩ := K2_x
  obtain ⟨⟨c2_y_0, c2_y_1, c2_y_2, c2_y_3, c2_y_4⟩, f2_y_0, f2_y_1, f2_y_2, f2_y_3, f2_y_4⟩ := K2_y
  have l2_x : w.heap.size < w2.heap.size := by omega
  go_wp2_with fail
  go_returns
  exact ⟨by rw [HE.out]; rfl, by go_grown⟩

set_option maxHeartbeats 4000000 in
theorem rCmp_n1 (a b c d k p q r s l : Int) (w : World) (hv : Hid (vld ⟨⟨a, b, c, d⟩, k⟩ = true)) (hv2 : Hid (vld ⟨⟨p, q, r, s⟩, l⟩ = true)) (hr : Hid (relB ⟨a, b, c, d⟩ = false)) (HE : Hid (cmpS ⟨⟨a, b, c, d⟩, k⟩ ⟨⟨p, q, r, s⟩, l⟩ = (0, 11))) :
    Calls Try.prog 45 #[.agg #[.int .i64 a, .int .i64 b, .int .i64 c, .int .i64 d, .int .i64 k], .agg #[.int .i64 p, .int .i64 q, .int .i64 r, .int .i64 s, .int .i64 l]] w fun e w' => e = .returned (.tuple #[.int .i64 (cmpS ⟨⟨a, b, c, d⟩, k⟩ ⟨⟨p, q, r, s⟩, l⟩).1, .int .i64 (cmpS ⟨⟨a, b, c, d⟩, k⟩ ⟨⟨p, q, r, s⟩, l⟩).2]) ∧ Below w.heap.size w w' := by
  go_enter Try.func45, Try.ntmps45
  go_wp2_with fail
  refine (rValid_any _ _ _ _ _ _).mono ?_
  rintro e w1 ⟨rfl, hb⟩
  rw [hv.out]
  have K1_x : Has5 w1 (w.heap.size) a b c d k := Has5.keep (by refine ⟨⟨?_, ?_, ?_, ?_, ?_⟩, ?_, ?_, ?_, ?_, ?_⟩ <;> go_cell) hb (by first | omega | (simp; done) | (simp; omega))
  have K1_y : Has5 w1 (w.heap.size + 1) p q r s l := Has5.keep (by refine ⟨⟨?_, ?_, ?_, ?_, ?_⟩, ?_, ?_, ?_, ?_, ?_⟩ <;> go_cell) hb (by first | omega | (simp; done) | (simp; omega))
  have D1 : Below w.heap.size w w1 := Below.trans (by go_grown) (hb.mono (by first | omega | (simp; done) | (simp; omega)))
  have s1 : w.heap.size + 1 < w1.heap.size := by have := hb.size; (try simp at this); omega
  clear hb
  obtain ⟨⟨c1_x_0, c1_x_1, c1_x_2, c1_x_3, c1_x_4⟩, f1_x_0, f1_x_1, f1_x_2, f1_x_3, f1_x_4⟩ := K1_x
  obtain ⟨⟨c1_y_0, c1_y_1, c1_y_2, c1_y_3, c1_y_4⟩, f1_y_0, f1_y_1, f1_y_2, f1_y_3, f1_y_4⟩ := K1_y
  have l1_x : w.heap.size < w1.heap.size := by omega
  go_wp2_with fail
  refine (rValid_any _ _ _ _ _ _).mono ?_
  rintro e w2 ⟨rfl, hb⟩
  rw [hv2.out]
  have K2_x : Has5 w2 (w.heap.size) a b c d k := Has5.keep (by refine ⟨⟨?_, ?_, ?_, ?_, ?_⟩, ?_, ?_, ?_, ?_, ?_⟩ <;> go_cell) hb (by first | omega | (simp; done) | (simp; omega))
  have K2_y : Has5 w2 (w.heap.size + 1) p q r s l := Has5.keep (by refine ⟨⟨?_, ?_, ?_, ?_, ?_⟩, ?_, ?_, ?_, ?_, ?_⟩ <;> go_cell) hb (by first | omega | (simp; done) | (simp; omega))
  have D2 : Below w.heap.size w w2 := Below.trans (by go_grown) (hb.mono (by first | omega | (simp; done) | (simp; omega)))
  have s2 : w.heap.size + 1 < w2.heap.size := by have := hb.size; (try simp at this); omega
  clear hb D1 c1_x_0 c1_x_1 c1_x_2 c1_x_3 c1_x_4 f1_x_0 f1_x_1 f1_x_2 f1_x_3 f1_x_4 c1_y_0 c1_y_1 c1_y_2 c1_y_3 c1_y_4 f1_y_0 f1_y_1 f1_y_2 f1_y_3 f1_y_4
  obtain ⟨⟨c2_x_0, c2_x_1, c2_x_2, c2_x_3, c2_x_4⟩, f2_x_0, f2_x_1, f2_x_2, f2_x_3, f2_x_4⟩ := K2_x
  obtain ⟨⟨c2_y_0, c2_y_1, c2_y_2, c2_y_3, c2_y_4⟩, f2_y_0, f2_y_1, f2_y_2, f2_y_3, f2_y_4⟩ := K2_y
  have l2_x : w.heap.size < w2.heap.size := by omega
  go_wp2_with fail
  refine (isReal_any _ _ _ _ _ (bg62 hv.out)).mono ?_
  rintro e w3 ⟨rfl, hb⟩
  rw [hr.out]
  have K3_x : Has5 w3 (w.heap.size) a b c d k := Has5.keep (by refine ⟨⟨?_, ?_, ?_, ?_, ?_⟩, ?_, ?_, ?_, ?_, ?_⟩ <;> go_cell) hb (by first | omega | (simp; done) | (simp; omega))
  have K3_y : Has5 w3 (w.heap.size + 1) p q r s l := Has5.keep (by refine ⟨⟨?_, ?_, ?_, ?_, ?_⟩, ?_, ?_, ?_, ?_, ?_⟩ <;> go_cell) hb (by first | omega | (simp; done) | (simp; omega))
  have D3 : Below w.heap.size w w3 := Below.trans (by go_grown) (hb.mono (by first | omega | (simp; done) | (simp; omega)))
  have s3 : w.heap.size + 1 < w3.heap.size := by have := hb.size; (try simp at this); omega
  clear hb D2 c2_x_0 c2_x_1 c2_x_2 c2_x_3 c2_x_4 f2_x_0 f2_x_1 f2_x_2 f2_x_3 f2_x_4 c2_y_0 c2_y_1 c2_y_2 c2_y_3 c2_y_4 f2_y_0 f2_y_1 f2_y_2 f2_y_3 f2_y_4
  obtain ⟨⟨c3_x_0, c3_x_1, c3_x_2, c3_x_3, c3_x_4⟩, f3_x_0, f3_x_1, f3_x_2, f3_x_3, f3_x_4⟩ := K3_x
  obtain ⟨⟨c3_y_0, c3_y_1, c3_y_2, c3_y_3, c3_y_4⟩, f3_y_0, f3_y_1, f3_y_2, f3_y_3, f3_y_4⟩ := K3_y
  have l3_x : w.heap.size < w3.heap.size := by omega
  go_wp2_with fail
  go_returns
  exact ⟨by rw [HE.out]; rfl, by go_grown⟩

set_option maxHeartbeats 4000000 in
theorem rCmp_n2 (a b c d k p q r s l : Int) (w : World) (hv : Hid (vld ⟨⟨a, b, c, d⟩, k⟩ = true)) (hv2 : Hid (vld ⟨⟨p, q, r, s⟩, l⟩ = true)) (hr : Hid (relB ⟨a, b, c, d⟩ = true)) (hr2 : Hid (relB ⟨p, q, r, s⟩ = false)) (HE : Hid (cmpS ⟨⟨a, b, c, d⟩, k⟩ ⟨⟨p, q, r, s⟩, l⟩ = (0, 11))) :
    Calls Try.prog 45 #[.agg #[.int .i64 a, .int .i64 b, .int .i64 c, .int .i64 d, .int .i64 k], .agg #[.int .i64 p, .int .i64 q, .int .i64 r, .int .i64 s, .int .i64 l]] w fun e w' => e = .returned (.tuple #[.int .i64 (cmpS ⟨⟨a, b, c, d⟩, k⟩ ⟨⟨p, q, r, s⟩, l⟩).1, .int .i64 (cmpS ⟨⟨a, b, c, d⟩, k⟩ ⟨⟨p, q, r, s⟩, l⟩).2]) ∧ Below w.heap.size w w' := by
  go_enter Try.func45, Try.ntmps45
  go_wp2_with fail
  refine (rValid_any _ _ _ _ _ _).mono ?_
  rintro e w1 ⟨rfl, hb⟩
  rw [hv.out]
  have K1_x : Has5 w1 (w.heap.size) a b c d k := Has5.keep (by refine ⟨⟨?_, ?_, ?_, ?_, ?_⟩, ?_, ?_, ?_, ?_, ?_⟩ <;> go_cell) hb (by first | omega | (simp; done) | (simp; omega))
  have K1_y : Has5 w1 (w.heap.size + 1) p q r s l := Has5.keep (by refine ⟨⟨?_, ?_, ?_, ?_, ?_⟩, ?_, ?_, ?_, ?_, ?_⟩ <;> go_cell) hb (by first | omega | (simp; done) | (simp; omega))
  have D1 : Below w.heap.size w w1 := Below.trans (by go_grown) (hb.mono (by first | omega | (simp; done) | (simp; omega)))
  have s1 : w.heap.size + 1 < w1.heap.size := by have := hb.size; (try simp at this); omega
  clear hb
  obtain ⟨⟨c1_x_0, c1_x_1, c1_x_2, c1_x_3, c1_x_4⟩, f1_x_0, f1_x_1, f1_x_2, f1_x_3, f1_x_4⟩ := K1_x
  obtain ⟨⟨c1_y_0, c1_y_1, c1_y_2, c1_y_3, c1_y_4⟩, f1_y_0, f1_y_1, f1_y_2, f1_y_3, f1_y_4⟩ := K1_y
  have l1_x : w.heap.size < w1.heap.size := by omega
  go_wp2_with fail
  refine (rValid_any _ _ _ _ _ _).mono ?_
  rintro e w2 ⟨rfl, hb⟩
  rw [hv2.out]
  have K2_x : Has5 w2 (w.heap.size) a b c d k := Has5.keep (by refine ⟨⟨?_, ?_, ?_, ?_, ?_⟩, ?_, ?_, ?_, ?_, ?_⟩ <;> go_cell) hb (by first | omega | (simp; done) | (simp; omega))
  have K2_y : Has5 w2 (w.heap.size + 1) p q r s l := Has5.keep (by refine ⟨⟨?_, ?_, ?_, ?_, ?_⟩, ?_, ?_, ?_, ?_, ?_⟩ <;> go_cell) hb (by first | omega | (simp; done) | (simp; omega))
  have D2 : Below w.heap.size w w2 := Below.trans (by go_grown) (hb.mono (by first | omega | (simp; done) | (simp; omega)))
  have s2 : w.heap.size + 1 < w2.heap.size := by have := hb.size; (try simp at this); omega
  clear hb D1 c1_x_0 c1_x_1 c1_x_2 c1_x_3 c1_x_4 f1_x_0 f1_x_1 f1_x_2 f1_x_3 f1_x_4 c1_y_0 c1_y_1 c1_y_2 c1_y_3 c1_y_4 f1_y_0 f1_y_1 f1_y_2 f1_y_3 f1_y_4
  obtain ⟨⟨c2_x_0, c2_x_1, c2_x_2, c2_x_3, c2_x_4⟩, f2_x_0, f2_x_1, f2_x_2, f2_x_3, f2_x_4⟩ := K2_x
  obtain ⟨⟨c2_y_0, c2_y_1, c2_y_2, c2_y_3, c2_y_4⟩, f2_y_0, f2_y_1, f2_y_2, f2_y_3, f2_y_4⟩ := K2_y
  have l2_x : w.heap.size < w2.heap.size := by omega
  go_wp2_with fail
  refine (isReal_any _ _ _ _ _ (bg62 hv.out)).mono ?_
  rintro e w3 ⟨rfl, hb⟩
  rw [hr.out]
  have K3_x : Has5 w3 (w.heap.size) a b c d k := Has5.keep (by refine ⟨⟨?_, ?_, ?_, ?_, ?_⟩, ?_, ?_, ?_, ?_, ?_⟩ <;> go_cell) hb (by first | omega | (simp; done) | (simp; omega))
  have K3_y : Has5 w3 (w.heap.size + 1) p q r s l := Has5.keep (by refine ⟨⟨?_, ?_, ?_, ?_, ?_⟩, ?_, ?_, ?_, ?_, ?_⟩ <;> go_cell) hb (by first | omega | (simp; done) | (simp; omega))
  have D3 : Below w.heap.size w w3 := Below.trans (by go_grown) (hb.mono (by first | omega | (simp; done) | (simp; omega)))
  have s3 : w.heap.size + 1 < w3.heap.size := by have := hb.size; (try simp at this); omega
  clear hb D2 c2_x_0 c2_x_1 c2_x_2 c2_x_3 c2_x_4 f2_x_0 f2_x_1 f2_x_2 f2_x_3 f2_x_4 c2_y_0 c2_y_1 c2_y_2 c2_y_3 c2_y_4 f2_y_0 f2_y_1 f2_y_2 f2_y_3 f2_y_4
  obtain ⟨⟨c3_x_0, c3_x_1, c3_x_2, c3_x_3, c3_x_4⟩, f3_x_0, f3_x_1, f3_x_2, f3_x_3, f3_x_4⟩ := K3_x
  obtain ⟨⟨c3_y_0, c3_y_1, c3_y_2, c3_y_3, c3_y_4⟩, f3_y_0, f3_y_1, f3_y_2, f3_y_3, f3_y_4⟩ := K3_y
  have l3_x : w.heap.size < w3.heap.size := by omega
  go_wp2_with fail
  refine (isReal_any _ _ _ _ _ (bg62 hv2.out)).mono ?_
  rintro e w4 ⟨rfl, hb⟩
  rw [hr2.out]
  have K4_x : Has5 w4 (w.heap.size) a b c d k := Has5.keep (by refine ⟨⟨?_, ?_, ?_, ?_, ?_⟩, ?_, ?_, ?_, ?_, ?_⟩ <;> go_cell) hb (by first | omega | (simp; done) | (simp; omega))
  have K4_y : Has5 w4 (w.heap.size + 1) p q r s l := Has5.keep (by refine ⟨⟨?_, ?_, ?_, ?_, ?_⟩, ?_, ?_, ?_, ?_, ?_⟩ <;> go_cell) hb (by first | omega | (simp; done) | (simp; omega))
  have D4 : Below w.heap.size w w4 := Below.trans (by go_grown) (hb.mono (by first | omega | (simp; done) | (simp; omega)))
  have s4 : w.heap.size + 1 < w4.heap.size := by have := hb.size; (try simp at this); omega
  clear hb D3 c3_x_0 c3_x_1 c3_x_2 c3_x_3 c3_x_4 f3_x_0 f3_x_1 f3_x_2 f3_x_3 f3_x_4 c3_y_0 c3_y_1 c3_y_2 c3_y_3 c3_y_4 f3_y_0 f3_y_1 f3_y_2 f3_y_3 f3_y_4
  obtain ⟨⟨c4_x_0, c4_x_1, c4_x_2, c4_x_3, c4_x_4⟩, f4_x_0, f4_x_1, f4_x_2, f4_x_3, f4_x_4⟩ := K4_x
  obtain ⟨⟨c4_y_0, c4_y_1, c4_y_2, c4_y_3, c4_y_4⟩, f4_y_0, f4_y_1, f4_y_2, f4_y_3, f4_y_4⟩ := K4_y
  have l4_x : w.heap.size < w4.heap.size := by omega
  go_wp2_with fail
  go_returns
  exact ⟨by rw [HE.out]; rfl, by go_grown⟩

set_option maxHeartbeats 4000000 in
theorem rCmp_ok (a b c d k p q r s l : Int) (w : World) (hv : Hid (vld ⟨⟨a, b, c, d⟩, k⟩ = true)) (hv2 : Hid (vld ⟨⟨p, q, r, s⟩, l⟩ = true)) (hr : Hid (relB ⟨a, b, c, d⟩ = true)) (hr2 : Hid (relB ⟨p, q, r, s⟩ = true)) (HE : Hid (cmpS ⟨⟨a, b, c, d⟩, k⟩ ⟨⟨p, q, r, s⟩, l⟩ = (sgS (comb ⟨⟨a, b, c, d⟩, k⟩ ⟨⟨p, q, r, s⟩, l⟩ (-1)).1.a (comb ⟨⟨a, b, c, d⟩, k⟩ ⟨⟨p, q, r, s⟩, l⟩ (-1)).1.b, 0))) :
    Calls Try.prog 45 #[.agg #[.int .i64 a, .int .i64 b, .int .i64 c, .int .i64 d, .int .i64 k], .agg #[.int .i64 p, .int .i64 q, .int .i64 r, .int .i64 s, .int .i64 l]] w fun e w' => e = .returned (.tuple #[.int .i64 (cmpS ⟨⟨a, b, c, d⟩, k⟩ ⟨⟨p, q, r, s⟩, l⟩).1, .int .i64 (cmpS ⟨⟨a, b, c, d⟩, k⟩ ⟨⟨p, q, r, s⟩, l⟩).2]) ∧ Below w.heap.size w w' := by
  have HB := Lib.hid (comb_bd2 hv.out hv2.out)
  go_enter Try.func45, Try.ntmps45
  go_wp2_with fail
  refine (rValid_any _ _ _ _ _ _).mono ?_
  rintro e w1 ⟨rfl, hb⟩
  rw [hv.out]
  have K1_x : Has5 w1 (w.heap.size) a b c d k := Has5.keep (by refine ⟨⟨?_, ?_, ?_, ?_, ?_⟩, ?_, ?_, ?_, ?_, ?_⟩ <;> go_cell) hb (by first | omega | (simp; done) | (simp; omega))
  have K1_y : Has5 w1 (w.heap.size + 1) p q r s l := Has5.keep (by refine ⟨⟨?_, ?_, ?_, ?_, ?_⟩, ?_, ?_, ?_, ?_, ?_⟩ <;> go_cell) hb (by first | omega | (simp; done) | (simp; omega))
  have D1 : Below w.heap.size w w1 := Below.trans (by go_grown) (hb.mono (by first | omega | (simp; done) | (simp; omega)))
  have s1 : w.heap.size + 1 < w1.heap.size := by have := hb.size; (try simp at this); omega
  clear hb
  obtain ⟨⟨c1_x_0, c1_x_1, c1_x_2, c1_x_3, c1_x_4⟩, f1_x_0, f1_x_1, f1_x_2, f1_x_3, f1_x_4⟩ := K1_x
  obtain ⟨⟨c1_y_0, c1_y_1, c1_y_2, c1_y_3, c1_y_4⟩, f1_y_0, f1_y_1, f1_y_2, f1_y_3, f1_y_4⟩ := K1_y
  have l1_x : w.heap.size < w1.heap.size := by omega
  go_wp2_with fail
  refine (rValid_any _ _ _ _ _ _).mono ?_
  rintro e w2 ⟨rfl, hb⟩
  rw [hv2.out]
  have K2_x : Has5 w2 (w.heap.size) a b c d k := Has5.keep (by refine ⟨⟨?_, ?_, ?_, ?_, ?_⟩, ?_, ?_, ?_, ?_, ?_⟩ <;> go_cell) hb (by first | omega | (simp; done) | (simp; omega))
  have K2_y : Has5 w2 (w.heap.size + 1) p q r s l := Has5.keep (by refine ⟨⟨?_, ?_, ?_, ?_, ?_⟩, ?_, ?_, ?_, ?_, ?_⟩ <;> go_cell) hb (by first | omega | (simp; done) | (simp; omega))
  have D2 : Below w.heap.size w w2 := Below.trans (by go_grown) (hb.mono (by first | omega | (simp; done) | (simp; omega)))
  have s2 : w.heap.size + 1 < w2.heap.size := by have := hb.size; (try simp at this); omega
  clear hb D1 c1_x_0 c1_x_1 c1_x_2 c1_x_3 c1_x_4 f1_x_0 f1_x_1 f1_x_2 f1_x_3 f1_x_4 c1_y_0 c1_y_1 c1_y_2 c1_y_3 c1_y_4 f1_y_0 f1_y_1 f1_y_2 f1_y_3 f1_y_4
  obtain ⟨⟨c2_x_0, c2_x_1, c2_x_2, c2_x_3, c2_x_4⟩, f2_x_0, f2_x_1, f2_x_2, f2_x_3, f2_x_4⟩ := K2_x
  obtain ⟨⟨c2_y_0, c2_y_1, c2_y_2, c2_y_3, c2_y_4⟩, f2_y_0, f2_y_1, f2_y_2, f2_y_3, f2_y_4⟩ := K2_y
  have l2_x : w.heap.size < w2.heap.size := by omega
  go_wp2_with fail
  refine (isReal_any _ _ _ _ _ (bg62 hv.out)).mono ?_
  rintro e w3 ⟨rfl, hb⟩
  rw [hr.out]
  have K3_x : Has5 w3 (w.heap.size) a b c d k := Has5.keep (by refine ⟨⟨?_, ?_, ?_, ?_, ?_⟩, ?_, ?_, ?_, ?_, ?_⟩ <;> go_cell) hb (by first | omega | (simp; done) | (simp; omega))
  have K3_y : Has5 w3 (w.heap.size + 1) p q r s l := Has5.keep (by refine ⟨⟨?_, ?_, ?_, ?_, ?_⟩, ?_, ?_, ?_, ?_, ?_⟩ <;> go_cell) hb (by first | omega | (simp; done) | (simp; omega))
  have D3 : Below w.heap.size w w3 := Below.trans (by go_grown) (hb.mono (by first | omega | (simp; done) | (simp; omega)))
  have s3 : w.heap.size + 1 < w3.heap.size := by have := hb.size; (try simp at this); omega
  clear hb D2 c2_x_0 c2_x_1 c2_x_2 c2_x_3 c2_x_4 f2_x_0 f2_x_1 f2_x_2 f2_x_3 f2_x_4 c2_y_0 c2_y_1 c2_y_2 c2_y_3 c2_y_4 f2_y_0 f2_y_1 f2_y_2 f2_y_3 f2_y_4
  obtain ⟨⟨c3_x_0, c3_x_1, c3_x_2, c3_x_3, c3_x_4⟩, f3_x_0, f3_x_1, f3_x_2, f3_x_3, f3_x_4⟩ := K3_x
  obtain ⟨⟨c3_y_0, c3_y_1, c3_y_2, c3_y_3, c3_y_4⟩, f3_y_0, f3_y_1, f3_y_2, f3_y_3, f3_y_4⟩ := K3_y
  have l3_x : w.heap.size < w3.heap.size := by omega
  go_wp2_with fail
  refine (isReal_any _ _ _ _ _ (bg62 hv2.out)).mono ?_
  rintro e w4 ⟨rfl, hb⟩
  rw [hr2.out]
  have K4_x : Has5 w4 (w.heap.size) a b c d k := Has5.keep (by refine ⟨⟨?_, ?_, ?_, ?_, ?_⟩, ?_, ?_, ?_, ?_, ?_⟩ <;> go_cell) hb (by first | omega | (simp; done) | (simp; omega))
  have K4_y : Has5 w4 (w.heap.size + 1) p q r s l := Has5.keep (by refine ⟨⟨?_, ?_, ?_, ?_, ?_⟩, ?_, ?_, ?_, ?_, ?_⟩ <;> go_cell) hb (by first | omega | (simp; done) | (simp; omega))
  have D4 : Below w.heap.size w w4 := Below.trans (by go_grown) (hb.mono (by first | omega | (simp; done) | (simp; omega)))
  have s4 : w.heap.size + 1 < w4.heap.size := by have := hb.size; (try simp at this); omega
  clear hb D3 c3_x_0 c3_x_1 c3_x_2 c3_x_3 c3_x_4 f3_x_0 f3_x_1 f3_x_2 f3_x_3 f3_x_4 c3_y_0 c3_y_1 c3_y_2 c3_y_3 c3_y_4 f3_y_0 f3_y_1 f3_y_2 f3_y_3 f3_y_4
  obtain ⟨⟨c4_x_0, c4_x_1, c4_x_2, c4_x_3, c4_x_4⟩, f4_x_0, f4_x_1, f4_x_2, f4_x_3, f4_x_4⟩ := K4_x
  obtain ⟨⟨c4_y_0, c4_y_1, c4_y_2, c4_y_3, c4_y_4⟩, f4_y_0, f4_y_1, f4_y_2, f4_y_3, f4_y_4⟩ := K4_y
  have l4_x : w.heap.size < w4.heap.size := by omega
  go_wp2_with fail
  refine (rCombined_sub _ _ _ _ _ _ _ _ _ _ _ hv.out hv2.out).mono ?_
  rintro e w5 ⟨rfl, hb⟩
  unfold Ret4
  generalize comb ⟨⟨a, b, c, d⟩, k⟩ ⟨⟨p, q, r, s⟩, l⟩ (-1) = m at *
  obtain ⟨⟨x, y, z, u⟩, n⟩ := m
  have K5_x : Has5 w5 (w.heap.size) a b c d k := Has5.keep (by refine ⟨⟨?_, ?_, ?_, ?_, ?_⟩, ?_, ?_, ?_, ?_, ?_⟩ <;> go_cell) hb (by first | omega | (simp; done) | (simp; omega))
  have K5_y : Has5 w5 (w.heap.size + 1) p q r s l := Has5.keep (by refine ⟨⟨?_, ?_, ?_, ?_, ?_⟩, ?_, ?_, ?_, ?_, ?_⟩ <;> go_cell) hb (by first | omega | (simp; done) | (simp; omega))
  have D5 : Below w.heap.size w w5 := Below.trans (by go_grown) (hb.mono (by first | omega | (simp; done) | (simp; omega)))
  have s5 : w.heap.size + 1 < w5.heap.size := by have := hb.size; (try simp at this); omega
  clear hb D4 c4_x_0 c4_x_1 c4_x_2 c4_x_3 c4_x_4 f4_x_0 f4_x_1 f4_x_2 f4_x_3 f4_x_4 c4_y_0 c4_y_1 c4_y_2 c4_y_3 c4_y_4 f4_y_0 f4_y_1 f4_y_2 f4_y_3 f4_y_4
  obtain ⟨⟨c5_x_0, c5_x_1, c5_x_2, c5_x_3, c5_x_4⟩, f5_x_0, f5_x_1, f5_x_2, f5_x_3, f5_x_4⟩ := K5_x
  obtain ⟨⟨c5_y_0, c5_y_1, c5_y_2, c5_y_3, c5_y_4⟩, f5_y_0, f5_y_1, f5_y_2, f5_y_3, f5_y_4⟩ := K5_y
  have l5_x : w.heap.size < w5.heap.size := by omega
  go_wp2_with fail
  refine (side_any _ _ _ HB.out.1 HB.out.2.1).mono ?_
  rintro e w6 ⟨rfl, hb⟩
  have K6_x : Has5 w6 (w.heap.size) a b c d k := Has5.keep (by refine ⟨⟨?_, ?_, ?_, ?_, ?_⟩, ?_, ?_, ?_, ?_, ?_⟩ <;> go_cell) hb (by first | omega | (simp; done) | (simp; omega))
  have K6_y : Has5 w6 (w.heap.size + 1) p q r s l := Has5.keep (by refine ⟨⟨?_, ?_, ?_, ?_, ?_⟩, ?_, ?_, ?_, ?_, ?_⟩ <;> go_cell) hb (by first | omega | (simp; done) | (simp; omega))
  have D6 : Below w.heap.size w w6 := Below.trans (by go_grown) (hb.mono (by first | omega | (simp; done) | (simp; omega)))
  have s6 : w.heap.size + 1 < w6.heap.size := by have := hb.size; (try simp at this); omega
  clear hb D5 c5_x_0 c5_x_1 c5_x_2 c5_x_3 c5_x_4 f5_x_0 f5_x_1 f5_x_2 f5_x_3 f5_x_4 c5_y_0 c5_y_1 c5_y_2 c5_y_3 c5_y_4 f5_y_0 f5_y_1 f5_y_2 f5_y_3 f5_y_4
  obtain ⟨⟨c6_x_0, c6_x_1, c6_x_2, c6_x_3, c6_x_4⟩, f6_x_0, f6_x_1, f6_x_2, f6_x_3, f6_x_4⟩ := K6_x
  obtain ⟨⟨c6_y_0, c6_y_1, c6_y_2, c6_y_3, c6_y_4⟩, f6_y_0, f6_y_1, f6_y_2, f6_y_3, f6_y_4⟩ := K6_y
  have l6_x : w.heap.size < w6.heap.size := by omega
  go_wp2_with fail
  go_returns
  exact ⟨by rw [HE.out]; rfl, by go_grown⟩

theorem rCmp_any (a b c d k p q r s l : Int) (w : World) :
    Calls Try.prog 45 #[.agg #[.int .i64 a, .int .i64 b, .int .i64 c, .int .i64 d, .int .i64 k], .agg #[.int .i64 p, .int .i64 q, .int .i64 r, .int .i64 s, .int .i64 l]] w fun e w' => e = .returned (.tuple #[.int .i64 (cmpS ⟨⟨a, b, c, d⟩, k⟩ ⟨⟨p, q, r, s⟩, l⟩).1, .int .i64 (cmpS ⟨⟨a, b, c, d⟩, k⟩ ⟨⟨p, q, r, s⟩, l⟩).2]) ∧ Below w.heap.size w w' := by
  cases hv : vld ⟨⟨a, b, c, d⟩, k⟩
  · exact rCmp_b1 a b c d k p q r s l w (Lib.hid hv) (Lib.hid (by unfold cmpS; simp only [hv, Bool.false_and, Bool.false_eq_true, if_false]))
  cases hv2 : vld ⟨⟨p, q, r, s⟩, l⟩
  · exact rCmp_b2 a b c d k p q r s l w (Lib.hid hv) (Lib.hid hv2) (Lib.hid (by unfold cmpS; simp only [hv, hv2, Bool.and_false, Bool.false_eq_true, if_false]))
  cases hr : relB ⟨a, b, c, d⟩
  · exact rCmp_n1 a b c d k p q r s l w (Lib.hid hv) (Lib.hid hv2) (Lib.hid hr) (Lib.hid (by unfold cmpS; simp only [hv, hv2, hr, Bool.and_self, Bool.false_and, Bool.false_eq_true, if_false, if_true]))
  cases hr2 : relB ⟨p, q, r, s⟩
  · exact rCmp_n2 a b c d k p q r s l w (Lib.hid hv) (Lib.hid hv2) (Lib.hid hr) (Lib.hid hr2) (Lib.hid (by unfold cmpS; simp only [hv, hv2, hr, hr2, Bool.and_self, Bool.and_false, Bool.false_eq_true, if_false, if_true]))
  exact rCmp_ok a b c d k p q r s l w (Lib.hid hv) (Lib.hid hv2) (Lib.hid hr) (Lib.hid hr2) (Lib.hid (by unfold cmpS; simp only [hv, hv2, hr, hr2, Bool.and_self, if_true]))

set_option maxHeartbeats 4000000 in
theorem AmpOrders_any (a b c d k p q r s l : Int) (w : World) :
    Calls Try.prog 8 #[.agg #[.int .i64 a, .int .i64 b, .int .i64 c, .int .i64 d, .int .i64 k], .agg #[.int .i64 p, .int .i64 q, .int .i64 r, .int .i64 s, .int .i64 l]] w fun e w' => e = .returned (.bool true) ∧ Below w.heap.size w w' := by
  obtain ⟨t1, e1, H1⟩ : ∃ t e, Hid (sgnS ⟨⟨a, b, c, d⟩, k⟩ = (t, e)) := ⟨_, _, rfl⟩
  obtain ⟨t2, e2, H2⟩ : ∃ t e, Hid (cmpS ⟨⟨a, b, c, d⟩, k⟩ ⟨⟨p, q, r, s⟩, l⟩ = (t, e)) := ⟨_, _, rfl⟩
  go_enter Try.func8, Try.ntmps8
  go_wp2_with fail
  refine (Sign_any _ _ _ _ _ _).mono ?_
  rintro e w1 ⟨rfl, hb⟩
  rw [sgn_cmp, H1.out]
  simp only
  have K1_x : Has5 w1 (w.heap.size) a b c d k := Has5.keep (by refine ⟨⟨?_, ?_, ?_, ?_, ?_⟩, ?_, ?_, ?_, ?_, ?_⟩ <;> go_cell) hb (by first | omega | (simp; done) | (simp; omega))
  have K1_y : Has5 w1 (w.heap.size + 1) p q r s l := Has5.keep (by refine ⟨⟨?_, ?_, ?_, ?_, ?_⟩, ?_, ?_, ?_, ?_, ?_⟩ <;> go_cell) hb (by first | omega | (simp; done) | (simp; omega))
  have D1 : Below w.heap.size w w1 := Below.trans (by go_grown) (hb.mono (by first | omega | (simp; done) | (simp; omega)))
  have s1 : w.heap.size + 1 < w1.heap.size := by have := hb.size; (try simp at this); omega
  clear hb
  obtain ⟨⟨c1_x_0, c1_x_1, c1_x_2, c1_x_3, c1_x_4⟩, f1_x_0, f1_x_1, f1_x_2, f1_x_3, f1_x_4⟩ := K1_x
  obtain ⟨⟨c1_y_0, c1_y_1, c1_y_2, c1_y_3, c1_y_4⟩, f1_y_0, f1_y_1, f1_y_2, f1_y_3, f1_y_4⟩ := K1_y
  have l1_x : w.heap.size < w1.heap.size := by omega
  go_wp2_with fail
  refine (rSign_any _ _ _ _ _ _).mono ?_
  rintro e w2 ⟨rfl, hb⟩
  rw [H1.out]
  simp only
  have K2_x : Has5 w2 (w.heap.size) a b c d k := Has5.keep (by refine ⟨⟨?_, ?_, ?_, ?_, ?_⟩, ?_, ?_, ?_, ?_, ?_⟩ <;> go_cell) hb (by first | omega | (simp; done) | (simp; omega))
  have K2_y : Has5 w2 (w.heap.size + 1) p q r s l := Has5.keep (by refine ⟨⟨?_, ?_, ?_, ?_, ?_⟩, ?_, ?_, ?_, ?_, ?_⟩ <;> go_cell) hb (by first | omega | (simp; done) | (simp; omega))
  have D2 : Below w.heap.size w w2 := Below.trans (by go_grown) (hb.mono (by first | omega | (simp; done) | (simp; omega)))
  have s2 : w.heap.size + 1 < w2.heap.size := by have := hb.size; (try simp at this); omega
  clear hb D1 c1_x_0 c1_x_1 c1_x_2 c1_x_3 c1_x_4 f1_x_0 f1_x_1 f1_x_2 f1_x_3 f1_x_4 c1_y_0 c1_y_1 c1_y_2 c1_y_3 c1_y_4 f1_y_0 f1_y_1 f1_y_2 f1_y_3 f1_y_4
  obtain ⟨⟨c2_x_0, c2_x_1, c2_x_2, c2_x_3, c2_x_4⟩, f2_x_0, f2_x_1, f2_x_2, f2_x_3, f2_x_4⟩ := K2_x
  obtain ⟨⟨c2_y_0, c2_y_1, c2_y_2, c2_y_3, c2_y_4⟩, f2_y_0, f2_y_1, f2_y_2, f2_y_3, f2_y_4⟩ := K2_y
  have l2_x : w.heap.size < w2.heap.size := by omega
  go_wp2_with fail
  refine (Cmp_any _ _ _ _ _ _ _ _ _ _ _).mono ?_
  rintro e w3 ⟨rfl, hb⟩
  rw [H2.out]
  simp only
  have K3_x : Has5 w3 (w.heap.size) a b c d k := Has5.keep (by refine ⟨⟨?_, ?_, ?_, ?_, ?_⟩, ?_, ?_, ?_, ?_, ?_⟩ <;> go_cell) hb (by first | omega | (simp; done) | (simp; omega))
  have K3_y : Has5 w3 (w.heap.size + 1) p q r s l := Has5.keep (by refine ⟨⟨?_, ?_, ?_, ?_, ?_⟩, ?_, ?_, ?_, ?_, ?_⟩ <;> go_cell) hb (by first | omega | (simp; done) | (simp; omega))
  have D3 : Below w.heap.size w w3 := Below.trans (by go_grown) (hb.mono (by first | omega | (simp; done) | (simp; omega)))
  have s3 : w.heap.size + 1 < w3.heap.size := by have := hb.size; (try simp at this); omega
  clear hb D2 c2_x_0 c2_x_1 c2_x_2 c2_x_3 c2_x_4 f2_x_0 f2_x_1 f2_x_2 f2_x_3 f2_x_4 c2_y_0 c2_y_1 c2_y_2 c2_y_3 c2_y_4 f2_y_0 f2_y_1 f2_y_2 f2_y_3 f2_y_4
  obtain ⟨⟨c3_x_0, c3_x_1, c3_x_2, c3_x_3, c3_x_4⟩, f3_x_0, f3_x_1, f3_x_2, f3_x_3, f3_x_4⟩ := K3_x
  obtain ⟨⟨c3_y_0, c3_y_1, c3_y_2, c3_y_3, c3_y_4⟩, f3_y_0, f3_y_1, f3_y_2, f3_y_3, f3_y_4⟩ := K3_y
  have l3_x : w.heap.size < w3.heap.size := by omega
  go_wp2_with fail
  refine (rCmp_any _ _ _ _ _ _ _ _ _ _ _).mono ?_
  rintro e w4 ⟨rfl, hb⟩
  rw [H2.out]
  simp only
  have K4_x : Has5 w4 (w.heap.size) a b c d k := Has5.keep (by refine ⟨⟨?_, ?_, ?_, ?_, ?_⟩, ?_, ?_, ?_, ?_, ?_⟩ <;> go_cell) hb (by first | omega | (simp; done) | (simp; omega))
  have K4_y : Has5 w4 (w.heap.size + 1) p q r s l := Has5.keep (by refine ⟨⟨?_, ?_, ?_, ?_, ?_⟩, ?_, ?_, ?_, ?_, ?_⟩ <;> go_cell) hb (by first | omega | (simp; done) | (simp; omega))
  have D4 : Below w.heap.size w w4 := Below.trans (by go_grown) (hb.mono (by first | omega | (simp; done) | (simp; omega)))
  have s4 : w.heap.size + 1 < w4.heap.size := by have := hb.size; (try simp at this); omega
  clear hb D3 c3_x_0 c3_x_1 c3_x_2 c3_x_3 c3_x_4 f3_x_0 f3_x_1 f3_x_2 f3_x_3 f3_x_4 c3_y_0 c3_y_1 c3_y_2 c3_y_3 c3_y_4 f3_y_0 f3_y_1 f3_y_2 f3_y_3 f3_y_4
  obtain ⟨⟨c4_x_0, c4_x_1, c4_x_2, c4_x_3, c4_x_4⟩, f4_x_0, f4_x_1, f4_x_2, f4_x_3, f4_x_4⟩ := K4_x
  obtain ⟨⟨c4_y_0, c4_y_1, c4_y_2, c4_y_3, c4_y_4⟩, f4_y_0, f4_y_1, f4_y_2, f4_y_3, f4_y_4⟩ := K4_y
  have l4_x : w.heap.size < w4.heap.size := by omega
  go_wp2_with fail
  refine (awake_any _).mono ?_
  rintro e w5 ⟨rfl, hb⟩
  have D5 : Below w.heap.size w w5 := Below.trans (by go_grown) (hb.mono (by first | omega | (simp; done) | (simp; omega)))
  clear hb
  go_wp2_with fail
  go_returns
  exact ⟨rfl, D5⟩
end Go.Proofs.Ytmildncbkndcoaa
