import Derived.Test.YtkcbkcgampoclaaFf9
namespace Prb
def okT (t : Int) : Prop := t % 2 = 0 ∧ t ≤ 2000000
instance (t : Int) : Decidable (okT t) := by unfold okT; infer_instance
/-- The four readings of a fringe, or the error. -/
def rdS (m x y : Int) : (Int × Int × Int × Int) × Int :=
  if vfS m x y = true then (if okT (m + x) ∧ okT (m + y) ∧ okT (m - x) ∧ okT (m - y) then (((m + x) / 2, (m + y) / 2, (m - x) / 2, (m - y) / 2), 0) else ((0, 0, 0, 0), 2)) else ((0, 0, 0, 0), 90)
theorem rdS_no {m x y : Int} (h : vfS m x y = false) : rdS m x y = ((0, 0, 0, 0), 90) := by unfold rdS; rw [h]; rfl
theorem rdS_arg {m x y : Int} (h : vfS m x y = true) (g : ¬ (okT (m + x) ∧ okT (m + y) ∧ okT (m - x) ∧ okT (m - y))) : rdS m x y = ((0, 0, 0, 0), 2) := by unfold rdS; rw [if_pos h, if_neg g]
theorem rdS_ok {m x y : Int} (h : vfS m x y = true) (g : okT (m + x) ∧ okT (m + y) ∧ okT (m - x) ∧ okT (m - y)) : rdS m x y = (((m + x) / 2, (m + y) / 2, (m - x) / 2, (m - y) / 2), 0) := by unfold rdS; rw [if_pos h, if_pos g]
theorem abs_le {m x : Int} (h0 : 0 ≤ m) (h : x * x ≤ m * m) : -m ≤ x ∧ x ≤ m := by
  constructor
  · apply Classical.byContradiction; intro hn
    have h1 : (m + 1) * (m + 1) ≤ (-x) * (-x) := Int.mul_le_mul (by omega) (by omega) (by omega) (by omega)
    rw [Int.neg_mul_neg] at h1
    have h2 : (m + 1) * (m + 1) = m * m + 2 * m + 1 := by grind
    omega
  · apply Classical.byContradiction; intro hn
    have h1 : (m + 1) * (m + 1) ≤ x * x := Int.mul_le_mul (by omega) (by omega) (by omega) (by omega)
    have h2 : (m + 1) * (m + 1) = m * m + 2 * m + 1 := by grind
    omega
theorem vf_abs {m x y : Int} (h : vfS m x y = true) : (0 ≤ m ∧ m ≤ 2000000) ∧ (-m ≤ x ∧ x ≤ m) ∧ (-m ≤ y ∧ y ≤ m) := by
  have hv : vfP m x y := of_decide_eq_true h
  obtain ⟨m0, x0, y0, hq⟩ := hv
  have bx := sq_bd x0
  have by' := sq_bd y0
  exact ⟨m0, abs_le m0.1 (by omega), abs_le m0.1 (by omega)⟩
/-- What becomes of four numbers that are halved one after another. -/
def hv (k j : Nat) (z t : Int) : Int := if j < k then t / 2 else z
theorem t_facts {t : Int} (h : 0 ≤ t ∧ t ≤ 4000000) : Go.RowKit.wrap64 (t.tdiv 2) = t / 2 ∧ Go.RowKit.wrap64 (t.tmod 2) = t % 2 ∧ t.tmod 2 = t % 2 ∧ t.tdiv 2 = t / 2 := by
  have e1 : t.tdiv 2 = t / 2 := Int.tdiv_eq_ediv_of_nonneg h.1
  have e2 : t.tmod 2 = t % 2 := Int.tmod_eq_emod_of_nonneg h.1
  rw [e1, e2]
  refine ⟨?_, ?_, rfl, rfl⟩ <;> simp only [Go.RowKit.wrap64] <;> omega
/-- The readings of a fringe of readings. -/
theorem fr_back {a b c d M X Y : Int} (h : frS a b c d = ((M, X, Y), 0)) : rdS M X Y = ((a, b, c, d), 0) := by
  by_cases h1 : rgR a ∧ rgR b ∧ rgR c ∧ rgR d
  · by_cases h2 : a + c = b + d ∧ vfS (a + c) (a - c) (b - d) = true
    · rw [frS_ok h1 h2] at h
      simp only [Prod.mk.injEq, and_true] at h
      obtain ⟨rfl, rfl, rfl⟩ := h
      obtain ⟨r0, r1, r2, r3⟩ := h1
      unfold rgR at r0 r1 r2 r3
      rw [rdS_ok h2.2 (by unfold okT; omega)]
      simp only [Prod.mk.injEq, and_true]
      omega
    · rw [frS_no h1 h2] at h
      simp only [Prod.mk.injEq] at h
      omega
  · rw [frS_arg h1] at h
    simp only [Prod.mk.injEq] at h
    omega
end Prb
namespace Go.Proofs.Ytkcbkcgampoclaa
open Go.RowKit Prb
attribute [local go_sem] kx0 kx1 kx2 kx3
def RdRet (s : (Int × Int × Int × Int) × Int) : Ending := .returned (.tuple #[.agg #[.int .i64 s.1.1, .int .i64 s.1.2.1, .int .i64 s.1.2.2.1, .int .i64 s.1.2.2.2], .int .i64 s.2])
set_option maxRecDepth 100000 in
set_option maxHeartbeats 4000000 in
theorem pReadings_any (m x y : Int) (w : World) : Calls Try.prog 11 #[.agg #[.int .i64 m, .int .i64 x, .int .i64 y]] w fun e w' => e = RdRet (rdS m x y) ∧ Below w.heap.size w w' := by
  cases hv : vfS m x y
  · have HE := Lib.hid (rdS_no hv)
    have HV := Lib.hid hv
    clear hv
    go_enter Try.func11, Try.ntmps11
    go_wp2_with fail
    refine (pValid_any _ _ _ _).mono ?_
    rw [HV.out]
    rintro e w5 ⟨rfl, hb5⟩
    have HT5 := (show H4 (_ : World) (w.heap.size + 1) 0 0 0 0 from (by refine ⟨⟨?_, ?_, ?_, ?_⟩, ?_, ?_, ?_, ?_⟩ <;> go_cell)).keep hb5
    have HF5 := (show H3 (_ : World) w.heap.size m x y from (by refine ⟨⟨?_, ?_, ?_⟩, ?_, ?_, ?_⟩ <;> go_cell)).keep hb5
    have HB := Lib.hid (show Below w.heap.size w w5 from Below.trans (by go_grown) (hb5.mono (by first | omega | (simp; done) | (simp; omega))))
    obtain ⟨⟨cu0, cu1, cu2, cu3⟩, cg0, cg1, cg2, cg3⟩ := HT5
    obtain ⟨⟨v0, v1, v2⟩, k0, k1, k2⟩ := HF5
    have hs5 : w.heap.size + 2 ≤ w5.heap.size := by have h9 := hb5.size; simp at h9; omega
    have hbl := HB.out
    have hq1 : ¬ w5.heap.size = w.heap.size + 1 := by omega
    have hq2 : ¬ w.heap.size + 1 = w5.heap.size := by omega
    have hq3 : w.heap.size + 1 < w5.heap.size := by omega
    have hq4 : w.heap.size < w5.heap.size := by omega
    have hq5 : ¬ w.heap.size = w5.heap.size := by omega
    have hq6 : ¬ w5.heap.size + 1 = w.heap.size + 1 := by omega
    have hq7 : ¬ w.heap.size + 1 = w5.heap.size + 1 := by omega
    clear hb5
    go_wp2_with fail
    refine bodyPost_ret (v := .tuple #[.agg #[.int .i64 (0), .int .i64 (0), .int .i64 (0), .int .i64 (0)], .int .i64 90]) (by simp [results, Try.results11, go_sem, *]) rfl ⟨by rw [HE.out]; rfl, by go_grown⟩
  · obtain ⟨m0, x0, y0⟩ := vf_abs hv
    obtain ⟨t0, ht0⟩ : ∃ t, m + x = t := ⟨_, rfl⟩
    obtain ⟨t1, ht1⟩ : ∃ t, m + y = t := ⟨_, rfl⟩
    obtain ⟨t2, ht2⟩ : ∃ t, m - x = t := ⟨_, rfl⟩
    obtain ⟨t3, ht3⟩ : ∃ t, m - y = t := ⟨_, rfl⟩
    have b0 : 0 ≤ t0 ∧ t0 ≤ 4000000 := by omega
    have b1 : 0 ≤ t1 ∧ t1 ≤ 4000000 := by omega
    have b2 : 0 ≤ t2 ∧ t2 ≤ 4000000 := by omega
    have b3 : 0 ≤ t3 ∧ t3 ≤ 4000000 := by omega
    have HA : Hid (¬ (okT t0 ∧ okT t1 ∧ okT t2 ∧ okT t3) → rdS m x y = ((0, 0, 0, 0), 2)) := Lib.hid (by rw [← ht0, ← ht1, ← ht2, ← ht3]; exact rdS_arg hv)
    have HO : Hid ((okT t0 ∧ okT t1 ∧ okT t2 ∧ okT t3) → rdS m x y = ((t0 / 2, t1 / 2, t2 / 2, t3 / 2), 0)) := Lib.hid (by rw [← ht0, ← ht1, ← ht2, ← ht3]; exact rdS_ok hv)
    have w0 : wrap64 (m + x) = t0 := by rw [ht0]; simp only [wrap64]; omega
    have w1 : wrap64 (m + y) = t1 := by rw [ht1]; simp only [wrap64]; omega
    have w2 : wrap64 (m - x) = t2 := by rw [ht2]; simp only [wrap64]; omega
    have w3 : wrap64 (m - y) = t3 := by rw [ht3]; simp only [wrap64]; omega
    have HV := Lib.hid hv
    clear hv ht0 ht1 ht2 ht3 m0 x0 y0
    go_enter Try.func11, Try.ntmps11
    go_wp2_with fail
    refine (pValid_any _ _ _ _).mono ?_
    rw [HV.out]
    rintro e w5 ⟨rfl, hb5⟩
    have HT5 := (show H4 (_ : World) (w.heap.size + 1) 0 0 0 0 from (by refine ⟨⟨?_, ?_, ?_, ?_⟩, ?_, ?_, ?_, ?_⟩ <;> go_cell)).keep hb5
    have HF5 := (show H3 (_ : World) w.heap.size m x y from (by refine ⟨⟨?_, ?_, ?_⟩, ?_, ?_, ?_⟩ <;> go_cell)).keep hb5
    have HB := Lib.hid (show Below w.heap.size w w5 from Below.trans (by go_grown) (hb5.mono (by first | omega | (simp; done) | (simp; omega))))
    obtain ⟨⟨cu0, cu1, cu2, cu3⟩, cg0, cg1, cg2, cg3⟩ := HT5
    obtain ⟨⟨v0, v1, v2⟩, k0, k1, k2⟩ := HF5
    have hs5 : w.heap.size + 2 ≤ w5.heap.size := by have h9 := hb5.size; simp at h9; omega
    have hbl := HB.out
    have hq1 : ¬ w5.heap.size = w.heap.size + 1 := by omega
    have hq2 : ¬ w.heap.size + 1 = w5.heap.size := by omega
    have hq3 : w.heap.size + 1 < w5.heap.size := by omega
    have hq4 : w.heap.size < w5.heap.size := by omega
    have hq5 : ¬ w.heap.size = w5.heap.size := by omega
    have hq6 : ¬ w5.heap.size + 1 = w.heap.size + 1 := by omega
    have hq7 : ¬ w.heap.size + 1 = w5.heap.size + 1 := by omega
    clear hb5
    go_wp2_with fail
    go_loopw [33] (fun iv wr => ∃ (z : Int) (k : Nat), iv = .int .i64 z ∧ z = k ∧ k ≤ 4 ∧ Hid (∀ j, j < k → okT (f4 t0 t1 t2 t3 j)) ∧ Hid (H4 wr w5.heap.size (Prb.hv k 0 t0 t0) (Prb.hv k 1 t1 t1) (Prb.hv k 2 t2 t2) (Prb.hv k 3 t3 t3)) ∧ Hid (H4 wr (w.heap.size + 1) 0 0 0 0) ∧ Hid (Below w.heap.size w wr) ∧ w5.heap.size < wr.heap.size) (fun iv _ => 4 - (intOf iv).toNat)
    case atStart => exact ⟨0, 0, rfl, rfl, by omega, Lib.hid (fun j hj => by omega), Lib.hid (by simp only [Prb.hv, Nat.not_lt_zero, if_false]; refine ⟨⟨?_, ?_, ?_, ?_⟩, ?_, ?_, ?_, ?_⟩ <;> go_cell), Lib.hid (by refine ⟨⟨?_, ?_, ?_, ?_⟩, ?_, ?_, ?_, ?_⟩ <;> first | assumption | go_cell), Lib.hid (by go_grown), by first | (simp; done) | (simp; omega) | omega⟩
    case round =>
      obtain ⟨z, k, rfl, hz, hk, HR, HH, HT, HB2, hs⟩ := hrel
      clear HB hbl cu0 cu1 cu2 cu3 cg0 cg1 cg2 cg3 v0 v1 v2 k0 k1 k2 hs5
      have hbl := HB2.out
      obtain ⟨⟨cu0, cu1, cu2, cu3⟩, cg0, cg1, cg2, cg3⟩ := HT.out
      by_cases hlt : k < 4
      · have hcs : k = 0 ∨ k = 1 ∨ k = 2 ∨ k = 3 := by omega
        rcases hcs with rfl | rfl | rfl | rfl
        · obtain rfl : z = 0 := by omega
          clear hz hk hlt
          obtain ⟨d1, d2, d3, d4⟩ := t_facts b0
          have n0 : ¬ t0 < 0 := by omega
          have HH1 : H4 wr w5.heap.size t0 t1 t2 t3 := HH.out
          by_cases c1 : t0 % 2 = 0
          · rw [c1] at d2 d3
            by_cases c2 : 2000000 < t0
            · have HE := Lib.hid (HA.out (fun h => by have h4 := h.1; unfold okT at h4; omega))
              clear HH HA HO
              go_wp2_with fail
              refine bodyPost_ret (v := .tuple #[.agg #[.int .i64 (0), .int .i64 (0), .int .i64 (0), .int .i64 (0)], .int .i64 2]) (by simp [results, Try.results11, go_sem, *]) rfl ⟨by rw [HE.out]; rfl, by go_grown⟩
            · have HR' : Hid (∀ j, j < 1 → okT (f4 t0 t1 t2 t3 j)) := Lib.hid (fun j hj => by
                by_cases e : j = 0
                · subst e; exact ⟨c1, by show t0 ≤ 2000000; omega⟩
                · exact HR.out j (by omega))
              obtain ⟨⟨p0, p1, p2, p3⟩, q0, q1, q2, q3⟩ := HH1
              clear HR HH HA HO
              go_wp2_with fail
              go_roundw
              case rel => exact ⟨1, 1, by first | rfl | simp, rfl, by omega, HR', Lib.hid (show H4 _ w5.heap.size (t0 / 2) t1 t2 t3 from by refine ⟨⟨?_, ?_, ?_, ?_⟩, ?_, ?_, ?_, ?_⟩ <;> go_cell), Lib.hid (by refine ⟨⟨?_, ?_, ?_, ?_⟩, ?_, ?_, ?_, ?_⟩ <;> go_cell), Lib.hid (by go_grown), by first | exact hs | (simp; done) | (simp; omega)⟩
              case measure => first | (simp [intOf]; done) | (simp [intOf]; omega)
          · have c3 : t0 % 2 = 1 := by omega
            rw [c3] at d2 d3
            have HE := Lib.hid (HA.out (fun h => by have h4 := h.1; unfold okT at h4; omega))
            clear HH HA HO
            go_wp2_with fail
            refine bodyPost_ret (v := .tuple #[.agg #[.int .i64 (0), .int .i64 (0), .int .i64 (0), .int .i64 (0)], .int .i64 2]) (by simp [results, Try.results11, go_sem, *]) rfl ⟨by rw [HE.out]; rfl, by go_grown⟩
        · obtain rfl : z = 1 := by omega
          clear hz hk hlt
          obtain ⟨d1, d2, d3, d4⟩ := t_facts b1
          have n0 : ¬ t1 < 0 := by omega
          have HH1 : H4 wr w5.heap.size (t0 / 2) t1 t2 t3 := HH.out
          by_cases c1 : t1 % 2 = 0
          · rw [c1] at d2 d3
            by_cases c2 : 2000000 < t1
            · have HE := Lib.hid (HA.out (fun h => by have h4 := h.2.1; unfold okT at h4; omega))
              clear HH HA HO
              go_wp2_with fail
              refine bodyPost_ret (v := .tuple #[.agg #[.int .i64 (0), .int .i64 (0), .int .i64 (0), .int .i64 (0)], .int .i64 2]) (by simp [results, Try.results11, go_sem, *]) rfl ⟨by rw [HE.out]; rfl, by go_grown⟩
            · have HR' : Hid (∀ j, j < 2 → okT (f4 t0 t1 t2 t3 j)) := Lib.hid (fun j hj => by
                by_cases e : j = 1
                · subst e; exact ⟨c1, by show t1 ≤ 2000000; omega⟩
                · exact HR.out j (by omega))
              obtain ⟨⟨p0, p1, p2, p3⟩, q0, q1, q2, q3⟩ := HH1
              clear HR HH HA HO
              go_wp2_with fail
              go_roundw
              case rel => exact ⟨2, 2, by first | rfl | simp, rfl, by omega, HR', Lib.hid (show H4 _ w5.heap.size (t0 / 2) (t1 / 2) t2 t3 from by refine ⟨⟨?_, ?_, ?_, ?_⟩, ?_, ?_, ?_, ?_⟩ <;> go_cell), Lib.hid (by refine ⟨⟨?_, ?_, ?_, ?_⟩, ?_, ?_, ?_, ?_⟩ <;> go_cell), Lib.hid (by go_grown), by first | exact hs | (simp; done) | (simp; omega)⟩
              case measure => first | (simp [intOf]; done) | (simp [intOf]; omega)
          · have c3 : t1 % 2 = 1 := by omega
            rw [c3] at d2 d3
            have HE := Lib.hid (HA.out (fun h => by have h4 := h.2.1; unfold okT at h4; omega))
            clear HH HA HO
            go_wp2_with fail
            refine bodyPost_ret (v := .tuple #[.agg #[.int .i64 (0), .int .i64 (0), .int .i64 (0), .int .i64 (0)], .int .i64 2]) (by simp [results, Try.results11, go_sem, *]) rfl ⟨by rw [HE.out]; rfl, by go_grown⟩
        · obtain rfl : z = 2 := by omega
          clear hz hk hlt
          obtain ⟨d1, d2, d3, d4⟩ := t_facts b2
          have n0 : ¬ t2 < 0 := by omega
          have HH1 : H4 wr w5.heap.size (t0 / 2) (t1 / 2) t2 t3 := HH.out
          by_cases c1 : t2 % 2 = 0
          · rw [c1] at d2 d3
            by_cases c2 : 2000000 < t2
            · have HE := Lib.hid (HA.out (fun h => by have h4 := h.2.2.1; unfold okT at h4; omega))
              clear HH HA HO
              go_wp2_with fail
              refine bodyPost_ret (v := .tuple #[.agg #[.int .i64 (0), .int .i64 (0), .int .i64 (0), .int .i64 (0)], .int .i64 2]) (by simp [results, Try.results11, go_sem, *]) rfl ⟨by rw [HE.out]; rfl, by go_grown⟩
            · have HR' : Hid (∀ j, j < 3 → okT (f4 t0 t1 t2 t3 j)) := Lib.hid (fun j hj => by
                by_cases e : j = 2
                · subst e; exact ⟨c1, by show t2 ≤ 2000000; omega⟩
                · exact HR.out j (by omega))
              obtain ⟨⟨p0, p1, p2, p3⟩, q0, q1, q2, q3⟩ := HH1
              clear HR HH HA HO
              go_wp2_with fail
              go_roundw
              case rel => exact ⟨3, 3, by first | rfl | simp, rfl, by omega, HR', Lib.hid (show H4 _ w5.heap.size (t0 / 2) (t1 / 2) (t2 / 2) t3 from by refine ⟨⟨?_, ?_, ?_, ?_⟩, ?_, ?_, ?_, ?_⟩ <;> go_cell), Lib.hid (by refine ⟨⟨?_, ?_, ?_, ?_⟩, ?_, ?_, ?_, ?_⟩ <;> go_cell), Lib.hid (by go_grown), by first | exact hs | (simp; done) | (simp; omega)⟩
              case measure => first | (simp [intOf]; done) | (simp [intOf]; omega)
          · have c3 : t2 % 2 = 1 := by omega
            rw [c3] at d2 d3
            have HE := Lib.hid (HA.out (fun h => by have h4 := h.2.2.1; unfold okT at h4; omega))
            clear HH HA HO
            go_wp2_with fail
            refine bodyPost_ret (v := .tuple #[.agg #[.int .i64 (0), .int .i64 (0), .int .i64 (0), .int .i64 (0)], .int .i64 2]) (by simp [results, Try.results11, go_sem, *]) rfl ⟨by rw [HE.out]; rfl, by go_grown⟩
        · obtain rfl : z = 3 := by omega
          clear hz hk hlt
          obtain ⟨d1, d2, d3, d4⟩ := t_facts b3
          have n0 : ¬ t3 < 0 := by omega
          have HH1 : H4 wr w5.heap.size (t0 / 2) (t1 / 2) (t2 / 2) t3 := HH.out
          by_cases c1 : t3 % 2 = 0
          · rw [c1] at d2 d3
            by_cases c2 : 2000000 < t3
            · have HE := Lib.hid (HA.out (fun h => by have h4 := h.2.2.2; unfold okT at h4; omega))
              clear HH HA HO
              go_wp2_with fail
              refine bodyPost_ret (v := .tuple #[.agg #[.int .i64 (0), .int .i64 (0), .int .i64 (0), .int .i64 (0)], .int .i64 2]) (by simp [results, Try.results11, go_sem, *]) rfl ⟨by rw [HE.out]; rfl, by go_grown⟩
            · have HR' : Hid (∀ j, j < 4 → okT (f4 t0 t1 t2 t3 j)) := Lib.hid (fun j hj => by
                by_cases e : j = 3
                · subst e; exact ⟨c1, by show t3 ≤ 2000000; omega⟩
                · exact HR.out j (by omega))
              obtain ⟨⟨p0, p1, p2, p3⟩, q0, q1, q2, q3⟩ := HH1
              clear HR HH HA HO
              go_wp2_with fail
              go_roundw
              case rel => exact ⟨4, 4, by first | rfl | simp, rfl, by omega, HR', Lib.hid (show H4 _ w5.heap.size (t0 / 2) (t1 / 2) (t2 / 2) (t3 / 2) from by refine ⟨⟨?_, ?_, ?_, ?_⟩, ?_, ?_, ?_, ?_⟩ <;> go_cell), Lib.hid (by refine ⟨⟨?_, ?_, ?_, ?_⟩, ?_, ?_, ?_, ?_⟩ <;> go_cell), Lib.hid (by go_grown), by first | exact hs | (simp; done) | (simp; omega)⟩
              case measure => first | (simp [intOf]; done) | (simp [intOf]; omega)
          · have c3 : t3 % 2 = 1 := by omega
            rw [c3] at d2 d3
            have HE := Lib.hid (HA.out (fun h => by have h4 := h.2.2.2; unfold okT at h4; omega))
            clear HH HA HO
            go_wp2_with fail
            refine bodyPost_ret (v := .tuple #[.agg #[.int .i64 (0), .int .i64 (0), .int .i64 (0), .int .i64 (0)], .int .i64 2]) (by simp [results, Try.results11, go_sem, *]) rfl ⟨by rw [HE.out]; rfl, by go_grown⟩
      · obtain rfl : k = 4 := by omega
        obtain rfl : z = 4 := by omega
        clear hz hk hlt
        have HE := Lib.hid (HO.out ⟨HR.out 0 (by omega), HR.out 1 (by omega), HR.out 2 (by omega), HR.out 3 (by omega)⟩)
        have HH1 : H4 wr w5.heap.size (t0 / 2) (t1 / 2) (t2 / 2) (t3 / 2) := HH.out
        obtain ⟨⟨p0, p1, p2, p3⟩, q0, q1, q2, q3⟩ := HH1
        clear HR HH HA HO
        go_wp2_with fail
        refine bodyPost_ret (v := .tuple #[.agg #[.int .i64 (t0 / 2), .int .i64 (t1 / 2), .int .i64 (t2 / 2), .int .i64 (t3 / 2)], .int .i64 0]) (by simp [results, Try.results11, go_sem, *]) rfl ⟨by rw [HE.out]; rfl, by go_grown⟩
set_option maxRecDepth 100000 in
set_option maxHeartbeats 4000000 in
theorem rReadings_any (m x y : Int) (w : World) : Calls Try.prog 12 #[.agg #[.int .i64 m, .int .i64 x, .int .i64 y]] w fun e w' => e = RdRet (rdS m x y) ∧ Below w.heap.size w w' := by
  cases hv : vfS m x y
  · have HE := Lib.hid (rdS_no hv)
    have HV := Lib.hid hv
    clear hv
    go_enter Try.func12, Try.ntmps12
    go_wp2_with fail
    refine (rValid_any _ _ _ _).mono ?_
    rw [HV.out]
    rintro e w5 ⟨rfl, hb5⟩
    have HT5 := (show H4 (_ : World) (w.heap.size + 1) 0 0 0 0 from (by refine ⟨⟨?_, ?_, ?_, ?_⟩, ?_, ?_, ?_, ?_⟩ <;> go_cell)).keep hb5
    have HF5 := (show H3 (_ : World) w.heap.size m x y from (by refine ⟨⟨?_, ?_, ?_⟩, ?_, ?_, ?_⟩ <;> go_cell)).keep hb5
    have HB := Lib.hid (show Below w.heap.size w w5 from Below.trans (by go_grown) (hb5.mono (by first | omega | (simp; done) | (simp; omega))))
    obtain ⟨⟨cu0, cu1, cu2, cu3⟩, cg0, cg1, cg2, cg3⟩ := HT5
    obtain ⟨⟨v0, v1, v2⟩, k0, k1, k2⟩ := HF5
    have hs5 : w.heap.size + 2 ≤ w5.heap.size := by have h9 := hb5.size; simp at h9; omega
    have hbl := HB.out
    have hq1 : ¬ w5.heap.size = w.heap.size + 1 := by omega
    have hq2 : ¬ w.heap.size + 1 = w5.heap.size := by omega
    have hq3 : w.heap.size + 1 < w5.heap.size := by omega
    have hq4 : w.heap.size < w5.heap.size := by omega
    have hq5 : ¬ w.heap.size = w5.heap.size := by omega
    have hq6 : ¬ w5.heap.size + 1 = w.heap.size + 1 := by omega
    have hq7 : ¬ w.heap.size + 1 = w5.heap.size + 1 := by omega
    clear hb5
    go_wp2_with fail
    refine bodyPost_ret (v := .tuple #[.agg #[.int .i64 (0), .int .i64 (0), .int .i64 (0), .int .i64 (0)], .int .i64 90]) (by simp [results, Try.results12, go_sem, *]) rfl ⟨by rw [HE.out]; rfl, by go_grown⟩
  · obtain ⟨m0, x0, y0⟩ := vf_abs hv
    obtain ⟨t0, ht0⟩ : ∃ t, m + x = t := ⟨_, rfl⟩
    obtain ⟨t1, ht1⟩ : ∃ t, m + y = t := ⟨_, rfl⟩
    obtain ⟨t2, ht2⟩ : ∃ t, m - x = t := ⟨_, rfl⟩
    obtain ⟨t3, ht3⟩ : ∃ t, m - y = t := ⟨_, rfl⟩
    have b0 : 0 ≤ t0 ∧ t0 ≤ 4000000 := by omega
    have b1 : 0 ≤ t1 ∧ t1 ≤ 4000000 := by omega
    have b2 : 0 ≤ t2 ∧ t2 ≤ 4000000 := by omega
    have b3 : 0 ≤ t3 ∧ t3 ≤ 4000000 := by omega
    have HA : Hid (¬ (okT t0 ∧ okT t1 ∧ okT t2 ∧ okT t3) → rdS m x y = ((0, 0, 0, 0), 2)) := Lib.hid (by rw [← ht0, ← ht1, ← ht2, ← ht3]; exact rdS_arg hv)
    have HO : Hid ((okT t0 ∧ okT t1 ∧ okT t2 ∧ okT t3) → rdS m x y = ((t0 / 2, t1 / 2, t2 / 2, t3 / 2), 0)) := Lib.hid (by rw [← ht0, ← ht1, ← ht2, ← ht3]; exact rdS_ok hv)
    have w0 : wrap64 (m + x) = t0 := by rw [ht0]; simp only [wrap64]; omega
    have w1 : wrap64 (m + y) = t1 := by rw [ht1]; simp only [wrap64]; omega
    have w2 : wrap64 (m - x) = t2 := by rw [ht2]; simp only [wrap64]; omega
    have w3 : wrap64 (m - y) = t3 := by rw [ht3]; simp only [wrap64]; omega
    have HV := Lib.hid hv
    clear hv ht0 ht1 ht2 ht3 m0 x0 y0
    go_enter Try.func12, Try.ntmps12
    go_wp2_with fail
    refine (rValid_any _ _ _ _).mono ?_
    rw [HV.out]
    rintro e w5 ⟨rfl, hb5⟩
    have HT5 := (show H4 (_ : World) (w.heap.size + 1) 0 0 0 0 from (by refine ⟨⟨?_, ?_, ?_, ?_⟩, ?_, ?_, ?_, ?_⟩ <;> go_cell)).keep hb5
    have HF5 := (show H3 (_ : World) w.heap.size m x y from (by refine ⟨⟨?_, ?_, ?_⟩, ?_, ?_, ?_⟩ <;> go_cell)).keep hb5
    have HB := Lib.hid (show Below w.heap.size w w5 from Below.trans (by go_grown) (hb5.mono (by first | omega | (simp; done) | (simp; omega))))
    obtain ⟨⟨cu0, cu1, cu2, cu3⟩, cg0, cg1, cg2, cg3⟩ := HT5
    obtain ⟨⟨v0, v1, v2⟩, k0, k1, k2⟩ := HF5
    have hs5 : w.heap.size + 2 ≤ w5.heap.size := by have h9 := hb5.size; simp at h9; omega
    have hbl := HB.out
    have hq1 : ¬ w5.heap.size = w.heap.size + 1 := by omega
    have hq2 : ¬ w.heap.size + 1 = w5.heap.size := by omega
    have hq3 : w.heap.size + 1 < w5.heap.size := by omega
    have hq4 : w.heap.size < w5.heap.size := by omega
    have hq5 : ¬ w.heap.size = w5.heap.size := by omega
    have hq6 : ¬ w5.heap.size + 1 = w.heap.size + 1 := by omega
    have hq7 : ¬ w.heap.size + 1 = w5.heap.size + 1 := by omega
    clear hb5
    go_wp2_with fail
    go_loopw [34] (fun iv wr => ∃ (z : Int) (k : Nat), iv = .int .i64 z ∧ z = k ∧ k ≤ 4 ∧ Hid (∀ j, j < k → okT (f4 t0 t1 t2 t3 j)) ∧ Hid (H4 wr (w5.heap.size + 1) (Prb.hv k 0 0 t0) (Prb.hv k 1 0 t1) (Prb.hv k 2 0 t2) (Prb.hv k 3 0 t3)) ∧ Hid (H4 wr (w.heap.size + 1) 0 0 0 0) ∧ Hid (Below w.heap.size w wr) ∧ (w5.heap.size + 1) < wr.heap.size) (fun iv _ => 4 - (intOf iv).toNat)
    case atStart => exact ⟨0, 0, rfl, rfl, by omega, Lib.hid (fun j hj => by omega), Lib.hid (by simp only [Prb.hv, Nat.not_lt_zero, if_false]; refine ⟨⟨?_, ?_, ?_, ?_⟩, ?_, ?_, ?_, ?_⟩ <;> go_cell), Lib.hid (by refine ⟨⟨?_, ?_, ?_, ?_⟩, ?_, ?_, ?_, ?_⟩ <;> first | assumption | go_cell), Lib.hid (by go_grown), by first | (simp; done) | (simp; omega) | omega⟩
    case round =>
      obtain ⟨z, k, rfl, hz, hk, HR, HH, HT, HB2, hs⟩ := hrel
      clear HB hbl cu0 cu1 cu2 cu3 cg0 cg1 cg2 cg3 v0 v1 v2 k0 k1 k2 hs5
      have hbl := HB2.out
      obtain ⟨⟨cu0, cu1, cu2, cu3⟩, cg0, cg1, cg2, cg3⟩ := HT.out
      by_cases hlt : k < 4
      · have hcs : k = 0 ∨ k = 1 ∨ k = 2 ∨ k = 3 := by omega
        rcases hcs with rfl | rfl | rfl | rfl
        · obtain rfl : z = 0 := by omega
          clear hz hk hlt
          obtain ⟨d1, d2, d3, d4⟩ := t_facts b0
          have n0 : ¬ t0 < 0 := by omega
          have HH1 : H4 wr (w5.heap.size + 1) 0 0 0 0 := HH.out
          by_cases c1 : t0 % 2 = 0
          · rw [c1] at d2 d3
            by_cases c2 : 2000000 < t0
            · have HE := Lib.hid (HA.out (fun h => by have h4 := h.1; unfold okT at h4; omega))
              clear HH HA HO
              go_wp2_with fail
              refine bodyPost_ret (v := .tuple #[.agg #[.int .i64 (0), .int .i64 (0), .int .i64 (0), .int .i64 (0)], .int .i64 2]) (by simp [results, Try.results12, go_sem, *]) rfl ⟨by rw [HE.out]; rfl, by go_grown⟩
            · have HR' : Hid (∀ j, j < 1 → okT (f4 t0 t1 t2 t3 j)) := Lib.hid (fun j hj => by
                by_cases e : j = 0
                · subst e; exact ⟨c1, by show t0 ≤ 2000000; omega⟩
                · exact HR.out j (by omega))
              obtain ⟨⟨p0, p1, p2, p3⟩, q0, q1, q2, q3⟩ := HH1
              clear HR HH HA HO
              go_wp2_with fail
              go_roundw
              case rel => exact ⟨1, 1, by first | rfl | simp, rfl, by omega, HR', Lib.hid (show H4 _ (w5.heap.size + 1) (t0 / 2) 0 0 0 from by refine ⟨⟨?_, ?_, ?_, ?_⟩, ?_, ?_, ?_, ?_⟩ <;> go_cell), Lib.hid (by refine ⟨⟨?_, ?_, ?_, ?_⟩, ?_, ?_, ?_, ?_⟩ <;> go_cell), Lib.hid (by go_grown), by first | exact hs | (simp; done) | (simp; omega)⟩
              case measure => first | (simp [intOf]; done) | (simp [intOf]; omega)
          · have c3 : t0 % 2 = 1 := by omega
            rw [c3] at d2 d3
            have HE := Lib.hid (HA.out (fun h => by have h4 := h.1; unfold okT at h4; omega))
            clear HH HA HO
            go_wp2_with fail
            refine bodyPost_ret (v := .tuple #[.agg #[.int .i64 (0), .int .i64 (0), .int .i64 (0), .int .i64 (0)], .int .i64 2]) (by simp [results, Try.results12, go_sem, *]) rfl ⟨by rw [HE.out]; rfl, by go_grown⟩
        · obtain rfl : z = 1 := by omega
          clear hz hk hlt
          obtain ⟨d1, d2, d3, d4⟩ := t_facts b1
          have n0 : ¬ t1 < 0 := by omega
          have HH1 : H4 wr (w5.heap.size + 1) (t0 / 2) 0 0 0 := HH.out
          by_cases c1 : t1 % 2 = 0
          · rw [c1] at d2 d3
            by_cases c2 : 2000000 < t1
            · have HE := Lib.hid (HA.out (fun h => by have h4 := h.2.1; unfold okT at h4; omega))
              clear HH HA HO
              go_wp2_with fail
              refine bodyPost_ret (v := .tuple #[.agg #[.int .i64 (0), .int .i64 (0), .int .i64 (0), .int .i64 (0)], .int .i64 2]) (by simp [results, Try.results12, go_sem, *]) rfl ⟨by rw [HE.out]; rfl, by go_grown⟩
            · have HR' : Hid (∀ j, j < 2 → okT (f4 t0 t1 t2 t3 j)) := Lib.hid (fun j hj => by
                by_cases e : j = 1
                · subst e; exact ⟨c1, by show t1 ≤ 2000000; omega⟩
                · exact HR.out j (by omega))
              obtain ⟨⟨p0, p1, p2, p3⟩, q0, q1, q2, q3⟩ := HH1
              clear HR HH HA HO
              go_wp2_with fail
              go_roundw
              case rel => exact ⟨2, 2, by first | rfl | simp, rfl, by omega, HR', Lib.hid (show H4 _ (w5.heap.size + 1) (t0 / 2) (t1 / 2) 0 0 from by refine ⟨⟨?_, ?_, ?_, ?_⟩, ?_, ?_, ?_, ?_⟩ <;> go_cell), Lib.hid (by refine ⟨⟨?_, ?_, ?_, ?_⟩, ?_, ?_, ?_, ?_⟩ <;> go_cell), Lib.hid (by go_grown), by first | exact hs | (simp; done) | (simp; omega)⟩
              case measure => first | (simp [intOf]; done) | (simp [intOf]; omega)
          · have c3 : t1 % 2 = 1 := by omega
            rw [c3] at d2 d3
            have HE := Lib.hid (HA.out (fun h => by have h4 := h.2.1; unfold okT at h4; omega))
            clear HH HA HO
            go_wp2_with fail
            refine bodyPost_ret (v := .tuple #[.agg #[.int .i64 (0), .int .i64 (0), .int .i64 (0), .int .i64 (0)], .int .i64 2]) (by simp [results, Try.results12, go_sem, *]) rfl ⟨by rw [HE.out]; rfl, by go_grown⟩
        · obtain rfl : z = 2 := by omega
          clear hz hk hlt
          obtain ⟨d1, d2, d3, d4⟩ := t_facts b2
          have n0 : ¬ t2 < 0 := by omega
          have HH1 : H4 wr (w5.heap.size + 1) (t0 / 2) (t1 / 2) 0 0 := HH.out
          by_cases c1 : t2 % 2 = 0
          · rw [c1] at d2 d3
            by_cases c2 : 2000000 < t2
            · have HE := Lib.hid (HA.out (fun h => by have h4 := h.2.2.1; unfold okT at h4; omega))
              clear HH HA HO
              go_wp2_with fail
              refine bodyPost_ret (v := .tuple #[.agg #[.int .i64 (0), .int .i64 (0), .int .i64 (0), .int .i64 (0)], .int .i64 2]) (by simp [results, Try.results12, go_sem, *]) rfl ⟨by rw [HE.out]; rfl, by go_grown⟩
            · have HR' : Hid (∀ j, j < 3 → okT (f4 t0 t1 t2 t3 j)) := Lib.hid (fun j hj => by
                by_cases e : j = 2
                · subst e; exact ⟨c1, by show t2 ≤ 2000000; omega⟩
                · exact HR.out j (by omega))
              obtain ⟨⟨p0, p1, p2, p3⟩, q0, q1, q2, q3⟩ := HH1
              clear HR HH HA HO
              go_wp2_with fail
              go_roundw
              case rel => exact ⟨3, 3, by first | rfl | simp, rfl, by omega, HR', Lib.hid (show H4 _ (w5.heap.size + 1) (t0 / 2) (t1 / 2) (t2 / 2) 0 from by refine ⟨⟨?_, ?_, ?_, ?_⟩, ?_, ?_, ?_, ?_⟩ <;> go_cell), Lib.hid (by refine ⟨⟨?_, ?_, ?_, ?_⟩, ?_, ?_, ?_, ?_⟩ <;> go_cell), Lib.hid (by go_grown), by first | exact hs | (simp; done) | (simp; omega)⟩
              case measure => first | (simp [intOf]; done) | (simp [intOf]; omega)
          · have c3 : t2 % 2 = 1 := by omega
            rw [c3] at d2 d3
            have HE := Lib.hid (HA.out (fun h => by have h4 := h.2.2.1; unfold okT at h4; omega))
            clear HH HA HO
            go_wp2_with fail
            refine bodyPost_ret (v := .tuple #[.agg #[.int .i64 (0), .int .i64 (0), .int .i64 (0), .int .i64 (0)], .int .i64 2]) (by simp [results, Try.results12, go_sem, *]) rfl ⟨by rw [HE.out]; rfl, by go_grown⟩
        · obtain rfl : z = 3 := by omega
          clear hz hk hlt
          obtain ⟨d1, d2, d3, d4⟩ := t_facts b3
          have n0 : ¬ t3 < 0 := by omega
          have HH1 : H4 wr (w5.heap.size + 1) (t0 / 2) (t1 / 2) (t2 / 2) 0 := HH.out
          by_cases c1 : t3 % 2 = 0
          · rw [c1] at d2 d3
            by_cases c2 : 2000000 < t3
            · have HE := Lib.hid (HA.out (fun h => by have h4 := h.2.2.2; unfold okT at h4; omega))
              clear HH HA HO
              go_wp2_with fail
              refine bodyPost_ret (v := .tuple #[.agg #[.int .i64 (0), .int .i64 (0), .int .i64 (0), .int .i64 (0)], .int .i64 2]) (by simp [results, Try.results12, go_sem, *]) rfl ⟨by rw [HE.out]; rfl, by go_grown⟩
            · have HR' : Hid (∀ j, j < 4 → okT (f4 t0 t1 t2 t3 j)) := Lib.hid (fun j hj => by
                by_cases e : j = 3
                · subst e; exact ⟨c1, by show t3 ≤ 2000000; omega⟩
                · exact HR.out j (by omega))
              obtain ⟨⟨p0, p1, p2, p3⟩, q0, q1, q2, q3⟩ := HH1
              clear HR HH HA HO
              go_wp2_with fail
              go_roundw
              case rel => exact ⟨4, 4, by first | rfl | simp, rfl, by omega, HR', Lib.hid (show H4 _ (w5.heap.size + 1) (t0 / 2) (t1 / 2) (t2 / 2) (t3 / 2) from by refine ⟨⟨?_, ?_, ?_, ?_⟩, ?_, ?_, ?_, ?_⟩ <;> go_cell), Lib.hid (by refine ⟨⟨?_, ?_, ?_, ?_⟩, ?_, ?_, ?_, ?_⟩ <;> go_cell), Lib.hid (by go_grown), by first | exact hs | (simp; done) | (simp; omega)⟩
              case measure => first | (simp [intOf]; done) | (simp [intOf]; omega)
          · have c3 : t3 % 2 = 1 := by omega
            rw [c3] at d2 d3
            have HE := Lib.hid (HA.out (fun h => by have h4 := h.2.2.2; unfold okT at h4; omega))
            clear HH HA HO
            go_wp2_with fail
            refine bodyPost_ret (v := .tuple #[.agg #[.int .i64 (0), .int .i64 (0), .int .i64 (0), .int .i64 (0)], .int .i64 2]) (by simp [results, Try.results12, go_sem, *]) rfl ⟨by rw [HE.out]; rfl, by go_grown⟩
      · obtain rfl : k = 4 := by omega
        obtain rfl : z = 4 := by omega
        clear hz hk hlt
        have HE := Lib.hid (HO.out ⟨HR.out 0 (by omega), HR.out 1 (by omega), HR.out 2 (by omega), HR.out 3 (by omega)⟩)
        have HH1 : H4 wr (w5.heap.size + 1) (t0 / 2) (t1 / 2) (t2 / 2) (t3 / 2) := HH.out
        obtain ⟨⟨p0, p1, p2, p3⟩, q0, q1, q2, q3⟩ := HH1
        clear HR HH HA HO
        go_wp2_with fail
        refine bodyPost_ret (v := .tuple #[.agg #[.int .i64 (t0 / 2), .int .i64 (t1 / 2), .int .i64 (t2 / 2), .int .i64 (t3 / 2)], .int .i64 0]) (by simp [results, Try.results12, go_sem, *]) rfl ⟨by rw [HE.out]; rfl, by go_grown⟩
end Go.Proofs.Ytkcbkcgampoclaa
