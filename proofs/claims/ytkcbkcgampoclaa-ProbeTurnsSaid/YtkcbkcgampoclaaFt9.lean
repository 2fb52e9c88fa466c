import Derived.Test.YtkcbkcgampoclaaPp9
import Derived.Test.YtkcbkcgampoclaaFa9
import Derived.Test.YtkcbkcgampoclaaFf9
namespace Prb
theorem vf_mirror {m x y : Int} (h : vfS m x y = true) : vfS m (-x) (-y) = true ∧ vfS m y (-x) = true := by
  obtain ⟨h0, h1, h2, h3⟩ := vf_prop h
  have e1 : (-x) * (-x) = x * x := Int.neg_mul_neg x x
  have e2 : (-y) * (-y) = y * y := Int.neg_mul_neg y y
  have k1 : vfP m (-x) (-y) := ⟨h0, by omega, by omega, by omega⟩
  have k2 : vfP m y (-x) := ⟨h0, by omega, by omega, by omega⟩
  exact ⟨decide_eq_true k1, decide_eq_true k2⟩
/-- The fringe of four readings, and what becomes of it when they begin one later. -/
theorem fr_cases (a b c d : Int) : (∃ E, frS a b c d = ((0, 0, 0), E) ∧ ¬ E = 0) ∨
    ∃ M X Y, frS a b c d = ((M, X, Y), 0) ∧ frS b c d a = ((M, Y, -X), 0) ∧ vfS M X Y = true := by
  by_cases h1 : rgR a ∧ rgR b ∧ rgR c ∧ rgR d
  · by_cases h2 : a + c = b + d ∧ vfS (a + c) (a - c) (b - d) = true
    · right
      refine ⟨a + c, a - c, b - d, frS_ok h1 h2, ?_, h2.2⟩
      have h3 := (vf_mirror h2.2).2
      rw [show -(a - c) = c - a from by omega] at h3 ⊢
      have h4 : b + d = c + a ∧ vfS (b + d) (b - d) (c - a) = true := ⟨by omega, by rw [← h2.1]; exact h3⟩
      rw [frS_ok ⟨h1.2.1, h1.2.2.1, h1.2.2.2, h1.1⟩ h4, h2.1]
    · left
      exact ⟨90, frS_no h1 h2, by omega⟩
  · left
    exact ⟨2, frS_arg h1, by omega⟩
theorem vf_zero {m x y : Int} (h : vfS m x y = true) (hm : m = 0) : x = 0 ∧ y = 0 := by
  obtain ⟨h0, h1, h2, h3⟩ := vf_prop h
  subst hm
  have b1 := sq_bd h1
  have b2 := sq_bd h2
  constructor
  · apply Classical.byContradiction; intro hn
    have : 0 < x * x := by
      by_cases hp : 0 < x
      · exact Int.mul_pos hp hp
      · rw [← Int.neg_mul_neg]; exact Int.mul_pos (by omega) (by omega)
    omega
  · apply Classical.byContradiction; intro hn
    have : 0 < y * y := by
      by_cases hp : 0 < y
      · exact Int.mul_pos hp hp
      · rw [← Int.neg_mul_neg]; exact Int.mul_pos (by omega) (by omega)
    omega
end Prb
namespace Go.Proofs.Ytkcbkcgampoclaa
open Go.RowKit Prb
attribute [local go_sem] kx0 kx1 kx2 kx3
attribute [local go_sem high] run_sameA4 run_sameA4n run_sameFr run_sameFrn run_sameRt run_sameRtn
set_option maxRecDepth 100000 in
set_option maxHeartbeats 8000000 in
theorem ProbeTurns_any (a b c d : Int) (w : World) : Calls Try.prog 6 #[.agg #[.int .i64 a, .int .i64 b, .int .i64 c, .int .i64 d]] w fun e w' => e = .returned (.bool true) ∧ Below w.heap.size w w' := by
  rcases fr_cases a b c d with ⟨E, hF, hE⟩ | ⟨M, X, Y, hF, hG, hv⟩
  · have HF := Lib.hid hF
    have e0 : (E != 0) = true := bne_iff_ne.2 hE
    clear hF hE
    go_enter Try.func6, Try.ntmps6
    go_wp2_with fail
    refine (pFringe_any a b c d _).mono ?_
    rw [HF.out]
    unfold FrRet
    rintro e w1 ⟨rfl, hb⟩
    have T1_0 := (show H4 (_ : World) w.heap.size a b c d from (by refine ⟨⟨?_, ?_, ?_, ?_⟩, ?_, ?_, ?_, ?_⟩ <;> first | go_cell | assumption)).keep hb
    have HB1 := Lib.hid (show Below w.heap.size w w1 from Below.trans (by go_grown) (hb.mono (by first | omega | (simp; done) | (simp; omega))))
    have hs1 : w.heap.size < w1.heap.size := by have h9 := hb.size; (try simp at h9); omega
    clear hb
    have hbl := HB1.out
    obtain ⟨⟨h1_0_0, h1_0_1, h1_0_2, h1_0_3⟩, z1_0_0, z1_0_1, z1_0_2, z1_0_3⟩ := T1_0
    have l1_0 : w.heap.size < w1.heap.size := by omega
    have e1_0 : ¬ w.heap.size = w1.heap.size := by omega
    have f1_0 : ¬ w1.heap.size = w.heap.size := by omega
    go_wp2_with fail
    refine (awake_any _).mono ?_
    rintro e w2 ⟨rfl, hb⟩
    have T2_0 := (show H4 (_ : World) w.heap.size a b c d from (by refine ⟨⟨?_, ?_, ?_, ?_⟩, ?_, ?_, ?_, ?_⟩ <;> first | go_cell | assumption)).keep hb
    have T2_1 := (show H3 (_ : World) w1.heap.size 0 0 0 from (by refine ⟨⟨?_, ?_, ?_⟩, ?_, ?_, ?_⟩ <;> first | go_cell | assumption)).keep hb
    have HB2 := Lib.hid (show Below w.heap.size w w2 from Below.trans (by go_grown) (hb.mono (by first | omega | (simp; done) | (simp; omega))))
    have hs2 : w1.heap.size < w2.heap.size := by have h9 := hb.size; (try simp at h9); omega
    clear hb hbl h1_0_0 h1_0_1 h1_0_2 h1_0_3 z1_0_0 z1_0_1 z1_0_2 z1_0_3
    have hbl := HB2.out
    obtain ⟨⟨h2_0_0, h2_0_1, h2_0_2, h2_0_3⟩, z2_0_0, z2_0_1, z2_0_2, z2_0_3⟩ := T2_0
    obtain ⟨⟨h2_1_0, h2_1_1, h2_1_2⟩, z2_1_0, z2_1_1, z2_1_2⟩ := T2_1
    have l2_0 : w.heap.size < w2.heap.size := by omega
    have e2_0 : ¬ w.heap.size = w2.heap.size := by omega
    have f2_0 : ¬ w2.heap.size = w.heap.size := by omega
    have l2_1 : w1.heap.size < w2.heap.size := by omega
    have e2_1 : ¬ w1.heap.size = w2.heap.size := by omega
    have f2_1 : ¬ w2.heap.size = w1.heap.size := by omega
    go_wp2_with fail
    go_returns
    exact ⟨by first | rfl | (simp; done), by go_grown⟩
  have HF := Lib.hid hF
  have HG := Lib.hid hG
  have hm2 := vf_mirror hv
  have hx : (-1000000 ≤ X ∧ X ≤ 1000000) ∧ (-1000000 ≤ Y ∧ Y ≤ 1000000) := ⟨(vf_prop hv).2.1, (vf_prop hv).2.2.1⟩
  have wX : wrap64 (-X) = -X := by simp only [wrap64]; omega
  have wY : wrap64 (-Y) = -Y := by simp only [wrap64]; omega
  by_cases hM : M = 0
  · obtain ⟨hX, hY⟩ := vf_zero hv hM
    have HVI := Lib.hid (viS_zero hv hM)
    have m0 : (M == 0) = true := beq_iff_eq.2 hM
    obtain ⟨vn, vd, ve, hvi, hve⟩ : ∃ vn vd ve, viS M X Y = ((vn, vd), ve) ∧ ve = 5 := ⟨0, 0, 5, viS_zero hv hM, rfl⟩
    have HO1 := Lib.hid (ocS_zero hv ⟨hX, hY⟩)
    have HO2 := Lib.hid (ocS_zero hm2.2 ⟨hY, by omega⟩)
    have HO3 := Lib.hid (ocS_zero hm2.1 ⟨by omega, by omega⟩)
    clear hX hY
    have HVI := Lib.hid hvi
    clear hvi hF hG hv hm2 hx hM
    subst hve
    go_enter Try.func6, Try.ntmps6
    go_wp2_with fail
    refine (pFringe_any a b c d _).mono ?_
    rw [HF.out]
    unfold FrRet
    rintro e w1 ⟨rfl, hb⟩
    have T1_0 := (show H4 (_ : World) w.heap.size a b c d from (by refine ⟨⟨?_, ?_, ?_, ?_⟩, ?_, ?_, ?_, ?_⟩ <;> first | go_cell | assumption)).keep hb
    have HB1 := Lib.hid (show Below w.heap.size w w1 from Below.trans (by go_grown) (hb.mono (by first | omega | (simp; done) | (simp; omega))))
    have hs1 : w.heap.size < w1.heap.size := by have h9 := hb.size; (try simp at h9); omega
    clear hb
    have hbl := HB1.out
    obtain ⟨⟨h1_0_0, h1_0_1, h1_0_2, h1_0_3⟩, z1_0_0, z1_0_1, z1_0_2, z1_0_3⟩ := T1_0
    have l1_0 : w.heap.size < w1.heap.size := by omega
    have e1_0 : ¬ w.heap.size = w1.heap.size := by omega
    have f1_0 : ¬ w1.heap.size = w.heap.size := by omega
    go_wp2_with fail
    refine (pFringe_any b c d a _).mono ?_
    rw [HG.out]
    unfold FrRet
    rintro e w2 ⟨rfl, hb⟩
    have T2_0 := (show H4 (_ : World) w.heap.size a b c d from (by refine ⟨⟨?_, ?_, ?_, ?_⟩, ?_, ?_, ?_, ?_⟩ <;> first | go_cell | assumption)).keep hb
    have T2_1 := (show H3 (_ : World) w1.heap.size M X Y from (by refine ⟨⟨?_, ?_, ?_⟩, ?_, ?_, ?_⟩ <;> first | go_cell | assumption)).keep hb
    have HB2 := Lib.hid (show Below w.heap.size w w2 from Below.trans (by go_grown) (hb.mono (by first | omega | (simp; done) | (simp; omega))))
    have hs2 : w1.heap.size < w2.heap.size := by have h9 := hb.size; (try simp at h9); omega
    clear hb hbl h1_0_0 h1_0_1 h1_0_2 h1_0_3 z1_0_0 z1_0_1 z1_0_2 z1_0_3
    have hbl := HB2.out
    obtain ⟨⟨h2_0_0, h2_0_1, h2_0_2, h2_0_3⟩, z2_0_0, z2_0_1, z2_0_2, z2_0_3⟩ := T2_0
    obtain ⟨⟨h2_1_0, h2_1_1, h2_1_2⟩, z2_1_0, z2_1_1, z2_1_2⟩ := T2_1
    have l2_0 : w.heap.size < w2.heap.size := by omega
    have e2_0 : ¬ w.heap.size = w2.heap.size := by omega
    have f2_0 : ¬ w2.heap.size = w.heap.size := by omega
    have l2_1 : w1.heap.size < w2.heap.size := by omega
    have e2_1 : ¬ w1.heap.size = w2.heap.size := by omega
    have f2_1 : ¬ w2.heap.size = w1.heap.size := by omega
    go_wp2_with fail
    refine (pVisibility_any M X Y _).mono ?_
    rw [HVI.out]
    unfold ViRet
    rintro e w3 ⟨rfl, hb⟩
    have T3_0 := (show H4 (_ : World) w.heap.size a b c d from (by refine ⟨⟨?_, ?_, ?_, ?_⟩, ?_, ?_, ?_, ?_⟩ <;> first | go_cell | assumption)).keep hb
    have T3_1 := (show H3 (_ : World) w1.heap.size M X Y from (by refine ⟨⟨?_, ?_, ?_⟩, ?_, ?_, ?_⟩ <;> first | go_cell | assumption)).keep hb
    have T3_2 := (show H3 (_ : World) w2.heap.size M Y (-X) from (by refine ⟨⟨?_, ?_, ?_⟩, ?_, ?_, ?_⟩ <;> first | go_cell | assumption)).keep hb
    have HB3 := Lib.hid (show Below w.heap.size w w3 from Below.trans (by go_grown) (hb.mono (by first | omega | (simp; done) | (simp; omega))))
    have hs3 : w2.heap.size < w3.heap.size := by have h9 := hb.size; (try simp at h9); omega
    clear hb hbl h2_0_0 h2_0_1 h2_0_2 h2_0_3 z2_0_0 z2_0_1 z2_0_2 z2_0_3 h2_1_0 h2_1_1 h2_1_2 z2_1_0 z2_1_1 z2_1_2
    have hbl := HB3.out
    obtain ⟨⟨h3_0_0, h3_0_1, h3_0_2, h3_0_3⟩, z3_0_0, z3_0_1, z3_0_2, z3_0_3⟩ := T3_0
    obtain ⟨⟨h3_1_0, h3_1_1, h3_1_2⟩, z3_1_0, z3_1_1, z3_1_2⟩ := T3_1
    obtain ⟨⟨h3_2_0, h3_2_1, h3_2_2⟩, z3_2_0, z3_2_1, z3_2_2⟩ := T3_2
    have l3_0 : w.heap.size < w3.heap.size := by omega
    have e3_0 : ¬ w.heap.size = w3.heap.size := by omega
    have f3_0 : ¬ w3.heap.size = w.heap.size := by omega
    have l3_1 : w1.heap.size < w3.heap.size := by omega
    have e3_1 : ¬ w1.heap.size = w3.heap.size := by omega
    have f3_1 : ¬ w3.heap.size = w1.heap.size := by omega
    have l3_2 : w2.heap.size < w3.heap.size := by omega
    have e3_2 : ¬ w2.heap.size = w3.heap.size := by omega
    have f3_2 : ¬ w3.heap.size = w2.heap.size := by omega
    go_wp2_with fail
    refine (pOctant_any M X Y _).mono ?_
    rw [HO1.out]
    unfold OcRet
    rintro e w4 ⟨rfl, hb⟩
    have T4_0 := (show H4 (_ : World) w.heap.size a b c d from (by refine ⟨⟨?_, ?_, ?_, ?_⟩, ?_, ?_, ?_, ?_⟩ <;> first | go_cell | assumption)).keep hb
    have T4_1 := (show H3 (_ : World) w1.heap.size M X Y from (by refine ⟨⟨?_, ?_, ?_⟩, ?_, ?_, ?_⟩ <;> first | go_cell | assumption)).keep hb
    have T4_2 := (show H3 (_ : World) w2.heap.size M Y (-X) from (by refine ⟨⟨?_, ?_, ?_⟩, ?_, ?_, ?_⟩ <;> first | go_cell | assumption)).keep hb
    have T4_3 := (show H2 (_ : World) w3.heap.size vn vd from (by refine ⟨⟨?_, ?_⟩, ?_, ?_⟩ <;> first | go_cell | assumption)).keep hb
    have HB4 := Lib.hid (show Below w.heap.size w w4 from Below.trans (by go_grown) (hb.mono (by first | omega | (simp; done) | (simp; omega))))
    have hs4 : w3.heap.size < w4.heap.size := by have h9 := hb.size; (try simp at h9); omega
    clear hb hbl h3_0_0 h3_0_1 h3_0_2 h3_0_3 z3_0_0 z3_0_1 z3_0_2 z3_0_3 h3_1_0 h3_1_1 h3_1_2 z3_1_0 z3_1_1 z3_1_2 h3_2_0 h3_2_1 h3_2_2 z3_2_0 z3_2_1 z3_2_2
    have hbl := HB4.out
    obtain ⟨⟨h4_0_0, h4_0_1, h4_0_2, h4_0_3⟩, z4_0_0, z4_0_1, z4_0_2, z4_0_3⟩ := T4_0
    obtain ⟨⟨h4_1_0, h4_1_1, h4_1_2⟩, z4_1_0, z4_1_1, z4_1_2⟩ := T4_1
    obtain ⟨⟨h4_2_0, h4_2_1, h4_2_2⟩, z4_2_0, z4_2_1, z4_2_2⟩ := T4_2
    obtain ⟨⟨h4_3_0, h4_3_1⟩, z4_3_0, z4_3_1⟩ := T4_3
    have l4_0 : w.heap.size < w4.heap.size := by omega
    have e4_0 : ¬ w.heap.size = w4.heap.size := by omega
    have f4_0 : ¬ w4.heap.size = w.heap.size := by omega
    have l4_1 : w1.heap.size < w4.heap.size := by omega
    have e4_1 : ¬ w1.heap.size = w4.heap.size := by omega
    have f4_1 : ¬ w4.heap.size = w1.heap.size := by omega
    have l4_2 : w2.heap.size < w4.heap.size := by omega
    have e4_2 : ¬ w2.heap.size = w4.heap.size := by omega
    have f4_2 : ¬ w4.heap.size = w2.heap.size := by omega
    have l4_3 : w3.heap.size < w4.heap.size := by omega
    have e4_3 : ¬ w3.heap.size = w4.heap.size := by omega
    have f4_3 : ¬ w4.heap.size = w3.heap.size := by omega
    go_wp2_with fail
    refine (pOctant_any M Y (-X) _).mono ?_
    rw [HO2.out]
    unfold OcRet
    rintro e w5 ⟨rfl, hb⟩
    have T5_0 := (show H4 (_ : World) w.heap.size a b c d from (by refine ⟨⟨?_, ?_, ?_, ?_⟩, ?_, ?_, ?_, ?_⟩ <;> first | go_cell | assumption)).keep hb
    have T5_1 := (show H3 (_ : World) w1.heap.size M X Y from (by refine ⟨⟨?_, ?_, ?_⟩, ?_, ?_, ?_⟩ <;> first | go_cell | assumption)).keep hb
    have T5_2 := (show H3 (_ : World) w2.heap.size M Y (-X) from (by refine ⟨⟨?_, ?_, ?_⟩, ?_, ?_, ?_⟩ <;> first | go_cell | assumption)).keep hb
    have T5_3 := (show H2 (_ : World) w3.heap.size vn vd from (by refine ⟨⟨?_, ?_⟩, ?_, ?_⟩ <;> first | go_cell | assumption)).keep hb
    have HB5 := Lib.hid (show Below w.heap.size w w5 from Below.trans (by go_grown) (hb.mono (by first | omega | (simp; done) | (simp; omega))))
    have hs5 : w3.heap.size < w5.heap.size := by have h9 := hb.size; (try simp at h9); omega
    clear hb hbl h4_0_0 h4_0_1 h4_0_2 h4_0_3 z4_0_0 z4_0_1 z4_0_2 z4_0_3 h4_1_0 h4_1_1 h4_1_2 z4_1_0 z4_1_1 z4_1_2 h4_2_0 h4_2_1 h4_2_2 z4_2_0 z4_2_1 z4_2_2 h4_3_0 h4_3_1 z4_3_0 z4_3_1
    have hbl := HB5.out
    obtain ⟨⟨h5_0_0, h5_0_1, h5_0_2, h5_0_3⟩, z5_0_0, z5_0_1, z5_0_2, z5_0_3⟩ := T5_0
    obtain ⟨⟨h5_1_0, h5_1_1, h5_1_2⟩, z5_1_0, z5_1_1, z5_1_2⟩ := T5_1
    obtain ⟨⟨h5_2_0, h5_2_1, h5_2_2⟩, z5_2_0, z5_2_1, z5_2_2⟩ := T5_2
    obtain ⟨⟨h5_3_0, h5_3_1⟩, z5_3_0, z5_3_1⟩ := T5_3
    have l5_0 : w.heap.size < w5.heap.size := by omega
    have e5_0 : ¬ w.heap.size = w5.heap.size := by omega
    have f5_0 : ¬ w5.heap.size = w.heap.size := by omega
    have l5_1 : w1.heap.size < w5.heap.size := by omega
    have e5_1 : ¬ w1.heap.size = w5.heap.size := by omega
    have f5_1 : ¬ w5.heap.size = w1.heap.size := by omega
    have l5_2 : w2.heap.size < w5.heap.size := by omega
    have e5_2 : ¬ w2.heap.size = w5.heap.size := by omega
    have f5_2 : ¬ w5.heap.size = w2.heap.size := by omega
    have l5_3 : w3.heap.size < w5.heap.size := by omega
    have e5_3 : ¬ w3.heap.size = w5.heap.size := by omega
    have f5_3 : ¬ w5.heap.size = w3.heap.size := by omega
    go_wp2_with fail
    refine (pOctant_any M (-X) (-Y) _).mono ?_
    rw [HO3.out]
    unfold OcRet
    rintro e w6 ⟨rfl, hb⟩
    have T6_0 := (show H4 (_ : World) w.heap.size a b c d from (by refine ⟨⟨?_, ?_, ?_, ?_⟩, ?_, ?_, ?_, ?_⟩ <;> first | go_cell | assumption)).keep hb
    have T6_1 := (show H3 (_ : World) w1.heap.size M X Y from (by refine ⟨⟨?_, ?_, ?_⟩, ?_, ?_, ?_⟩ <;> first | go_cell | assumption)).keep hb
    have T6_2 := (show H3 (_ : World) w2.heap.size M Y (-X) from (by refine ⟨⟨?_, ?_, ?_⟩, ?_, ?_, ?_⟩ <;> first | go_cell | assumption)).keep hb
    have T6_3 := (show H2 (_ : World) w3.heap.size vn vd from (by refine ⟨⟨?_, ?_⟩, ?_, ?_⟩ <;> first | go_cell | assumption)).keep hb
    have HB6 := Lib.hid (show Below w.heap.size w w6 from Below.trans (by go_grown) (hb.mono (by first | omega | (simp; done) | (simp; omega))))
    have hs6 : w3.heap.size < w6.heap.size := by have h9 := hb.size; (try simp at h9); omega
    clear hb hbl h5_0_0 h5_0_1 h5_0_2 h5_0_3 z5_0_0 z5_0_1 z5_0_2 z5_0_3 h5_1_0 h5_1_1 h5_1_2 z5_1_0 z5_1_1 z5_1_2 h5_2_0 h5_2_1 h5_2_2 z5_2_0 z5_2_1 z5_2_2 h5_3_0 h5_3_1 z5_3_0 z5_3_1
    have hbl := HB6.out
    obtain ⟨⟨h6_0_0, h6_0_1, h6_0_2, h6_0_3⟩, z6_0_0, z6_0_1, z6_0_2, z6_0_3⟩ := T6_0
    obtain ⟨⟨h6_1_0, h6_1_1, h6_1_2⟩, z6_1_0, z6_1_1, z6_1_2⟩ := T6_1
    obtain ⟨⟨h6_2_0, h6_2_1, h6_2_2⟩, z6_2_0, z6_2_1, z6_2_2⟩ := T6_2
    obtain ⟨⟨h6_3_0, h6_3_1⟩, z6_3_0, z6_3_1⟩ := T6_3
    have l6_0 : w.heap.size < w6.heap.size := by omega
    have e6_0 : ¬ w.heap.size = w6.heap.size := by omega
    have f6_0 : ¬ w6.heap.size = w.heap.size := by omega
    have l6_1 : w1.heap.size < w6.heap.size := by omega
    have e6_1 : ¬ w1.heap.size = w6.heap.size := by omega
    have f6_1 : ¬ w6.heap.size = w1.heap.size := by omega
    have l6_2 : w2.heap.size < w6.heap.size := by omega
    have e6_2 : ¬ w2.heap.size = w6.heap.size := by omega
    have f6_2 : ¬ w6.heap.size = w2.heap.size := by omega
    have l6_3 : w3.heap.size < w6.heap.size := by omega
    have e6_3 : ¬ w3.heap.size = w6.heap.size := by omega
    have f6_3 : ¬ w6.heap.size = w3.heap.size := by omega
    go_wp2_with fail
    refine (awake_any _).mono ?_
    rintro e w7 ⟨rfl, hb⟩
    have T7_0 := (show H4 (_ : World) w.heap.size a b c d from (by refine ⟨⟨?_, ?_, ?_, ?_⟩, ?_, ?_, ?_, ?_⟩ <;> first | go_cell | assumption)).keep hb
    have T7_1 := (show H3 (_ : World) w1.heap.size M X Y from (by refine ⟨⟨?_, ?_, ?_⟩, ?_, ?_, ?_⟩ <;> first | go_cell | assumption)).keep hb
    have T7_2 := (show H3 (_ : World) w2.heap.size M Y (-X) from (by refine ⟨⟨?_, ?_, ?_⟩, ?_, ?_, ?_⟩ <;> first | go_cell | assumption)).keep hb
    have T7_3 := (show H2 (_ : World) w3.heap.size vn vd from (by refine ⟨⟨?_, ?_⟩, ?_, ?_⟩ <;> first | go_cell | assumption)).keep hb
    have HB7 := Lib.hid (show Below w.heap.size w w7 from Below.trans (by go_grown) (hb.mono (by first | omega | (simp; done) | (simp; omega))))
    have hs7 : w3.heap.size < w7.heap.size := by have h9 := hb.size; (try simp at h9); omega
    clear hb hbl h6_0_0 h6_0_1 h6_0_2 h6_0_3 z6_0_0 z6_0_1 z6_0_2 z6_0_3 h6_1_0 h6_1_1 h6_1_2 z6_1_0 z6_1_1 z6_1_2 h6_2_0 h6_2_1 h6_2_2 z6_2_0 z6_2_1 z6_2_2 h6_3_0 h6_3_1 z6_3_0 z6_3_1
    have hbl := HB7.out
    obtain ⟨⟨h7_0_0, h7_0_1, h7_0_2, h7_0_3⟩, z7_0_0, z7_0_1, z7_0_2, z7_0_3⟩ := T7_0
    obtain ⟨⟨h7_1_0, h7_1_1, h7_1_2⟩, z7_1_0, z7_1_1, z7_1_2⟩ := T7_1
    obtain ⟨⟨h7_2_0, h7_2_1, h7_2_2⟩, z7_2_0, z7_2_1, z7_2_2⟩ := T7_2
    obtain ⟨⟨h7_3_0, h7_3_1⟩, z7_3_0, z7_3_1⟩ := T7_3
    have l7_0 : w.heap.size < w7.heap.size := by omega
    have e7_0 : ¬ w.heap.size = w7.heap.size := by omega
    have f7_0 : ¬ w7.heap.size = w.heap.size := by omega
    have l7_1 : w1.heap.size < w7.heap.size := by omega
    have e7_1 : ¬ w1.heap.size = w7.heap.size := by omega
    have f7_1 : ¬ w7.heap.size = w1.heap.size := by omega
    have l7_2 : w2.heap.size < w7.heap.size := by omega
    have e7_2 : ¬ w2.heap.size = w7.heap.size := by omega
    have f7_2 : ¬ w7.heap.size = w2.heap.size := by omega
    have l7_3 : w3.heap.size < w7.heap.size := by omega
    have e7_3 : ¬ w3.heap.size = w7.heap.size := by omega
    have f7_3 : ¬ w7.heap.size = w3.heap.size := by omega
    go_wp2_with fail
    go_returns
    exact ⟨by first | rfl | (simp; done), by go_grown⟩
  by_cases hxy : X = 0 ∧ Y = 0
  · have hvr := vi_range hv hM
    obtain ⟨vn, vd, hvi⟩ : ∃ vn vd, viS M X Y = ((vn, vd), 0) := ⟨_, _, viS_ok hv hM⟩
    rw [hvi] at hvr
    simp only at hvr
    have r0 : ¬ vn < 0 := by omega
    have r1 : ¬ vd < 1 := by omega
    have r2 : ¬ vd < vn := by omega
    have m0 : (M == 0) = false := beq_eq_false_iff_ne.2 hM
    clear hvr
    obtain ⟨hX, hY⟩ := hxy
    have HO1 := Lib.hid (ocS_zero hv ⟨hX, hY⟩)
    have HO2 := Lib.hid (ocS_zero hm2.2 ⟨hY, by omega⟩)
    have HO3 := Lib.hid (ocS_zero hm2.1 ⟨by omega, by omega⟩)
    clear hX hY
    have HVI := Lib.hid hvi
    clear hvi hF hG hv hm2 hx hM
    go_enter Try.func6, Try.ntmps6
    go_wp2_with fail
    refine (pFringe_any a b c d _).mono ?_
    rw [HF.out]
    unfold FrRet
    rintro e w1 ⟨rfl, hb⟩
    have T1_0 := (show H4 (_ : World) w.heap.size a b c d from (by refine ⟨⟨?_, ?_, ?_, ?_⟩, ?_, ?_, ?_, ?_⟩ <;> first | go_cell | assumption)).keep hb
    have HB1 := Lib.hid (show Below w.heap.size w w1 from Below.trans (by go_grown) (hb.mono (by first | omega | (simp; done) | (simp; omega))))
    have hs1 : w.heap.size < w1.heap.size := by have h9 := hb.size; (try simp at h9); omega
    clear hb
    have hbl := HB1.out
    obtain ⟨⟨h1_0_0, h1_0_1, h1_0_2, h1_0_3⟩, z1_0_0, z1_0_1, z1_0_2, z1_0_3⟩ := T1_0
    have l1_0 : w.heap.size < w1.heap.size := by omega
    have e1_0 : ¬ w.heap.size = w1.heap.size := by omega
    have f1_0 : ¬ w1.heap.size = w.heap.size := by omega
    go_wp2_with fail
    refine (pFringe_any b c d a _).mono ?_
    rw [HG.out]
    unfold FrRet
    rintro e w2 ⟨rfl, hb⟩
    have T2_0 := (show H4 (_ : World) w.heap.size a b c d from (by refine ⟨⟨?_, ?_, ?_, ?_⟩, ?_, ?_, ?_, ?_⟩ <;> first | go_cell | assumption)).keep hb
    have T2_1 := (show H3 (_ : World) w1.heap.size M X Y from (by refine ⟨⟨?_, ?_, ?_⟩, ?_, ?_, ?_⟩ <;> first | go_cell | assumption)).keep hb
    have HB2 := Lib.hid (show Below w.heap.size w w2 from Below.trans (by go_grown) (hb.mono (by first | omega | (simp; done) | (simp; omega))))
    have hs2 : w1.heap.size < w2.heap.size := by have h9 := hb.size; (try simp at h9); omega
    clear hb hbl h1_0_0 h1_0_1 h1_0_2 h1_0_3 z1_0_0 z1_0_1 z1_0_2 z1_0_3
    have hbl := HB2.out
    obtain ⟨⟨h2_0_0, h2_0_1, h2_0_2, h2_0_3⟩, z2_0_0, z2_0_1, z2_0_2, z2_0_3⟩ := T2_0
    obtain ⟨⟨h2_1_0, h2_1_1, h2_1_2⟩, z2_1_0, z2_1_1, z2_1_2⟩ := T2_1
    have l2_0 : w.heap.size < w2.heap.size := by omega
    have e2_0 : ¬ w.heap.size = w2.heap.size := by omega
    have f2_0 : ¬ w2.heap.size = w.heap.size := by omega
    have l2_1 : w1.heap.size < w2.heap.size := by omega
    have e2_1 : ¬ w1.heap.size = w2.heap.size := by omega
    have f2_1 : ¬ w2.heap.size = w1.heap.size := by omega
    go_wp2_with fail
    refine (pVisibility_any M X Y _).mono ?_
    rw [HVI.out]
    unfold ViRet
    rintro e w3 ⟨rfl, hb⟩
    have T3_0 := (show H4 (_ : World) w.heap.size a b c d from (by refine ⟨⟨?_, ?_, ?_, ?_⟩, ?_, ?_, ?_, ?_⟩ <;> first | go_cell | assumption)).keep hb
    have T3_1 := (show H3 (_ : World) w1.heap.size M X Y from (by refine ⟨⟨?_, ?_, ?_⟩, ?_, ?_, ?_⟩ <;> first | go_cell | assumption)).keep hb
    have T3_2 := (show H3 (_ : World) w2.heap.size M Y (-X) from (by refine ⟨⟨?_, ?_, ?_⟩, ?_, ?_, ?_⟩ <;> first | go_cell | assumption)).keep hb
    have HB3 := Lib.hid (show Below w.heap.size w w3 from Below.trans (by go_grown) (hb.mono (by first | omega | (simp; done) | (simp; omega))))
    have hs3 : w2.heap.size < w3.heap.size := by have h9 := hb.size; (try simp at h9); omega
    clear hb hbl h2_0_0 h2_0_1 h2_0_2 h2_0_3 z2_0_0 z2_0_1 z2_0_2 z2_0_3 h2_1_0 h2_1_1 h2_1_2 z2_1_0 z2_1_1 z2_1_2
    have hbl := HB3.out
    obtain ⟨⟨h3_0_0, h3_0_1, h3_0_2, h3_0_3⟩, z3_0_0, z3_0_1, z3_0_2, z3_0_3⟩ := T3_0
    obtain ⟨⟨h3_1_0, h3_1_1, h3_1_2⟩, z3_1_0, z3_1_1, z3_1_2⟩ := T3_1
    obtain ⟨⟨h3_2_0, h3_2_1, h3_2_2⟩, z3_2_0, z3_2_1, z3_2_2⟩ := T3_2
    have l3_0 : w.heap.size < w3.heap.size := by omega
    have e3_0 : ¬ w.heap.size = w3.heap.size := by omega
    have f3_0 : ¬ w3.heap.size = w.heap.size := by omega
    have l3_1 : w1.heap.size < w3.heap.size := by omega
    have e3_1 : ¬ w1.heap.size = w3.heap.size := by omega
    have f3_1 : ¬ w3.heap.size = w1.heap.size := by omega
    have l3_2 : w2.heap.size < w3.heap.size := by omega
    have e3_2 : ¬ w2.heap.size = w3.heap.size := by omega
    have f3_2 : ¬ w3.heap.size = w2.heap.size := by omega
    go_wp2_with fail
    refine (pOctant_any M X Y _).mono ?_
    rw [HO1.out]
    unfold OcRet
    rintro e w4 ⟨rfl, hb⟩
    have T4_0 := (show H4 (_ : World) w.heap.size a b c d from (by refine ⟨⟨?_, ?_, ?_, ?_⟩, ?_, ?_, ?_, ?_⟩ <;> first | go_cell | assumption)).keep hb
    have T4_1 := (show H3 (_ : World) w1.heap.size M X Y from (by refine ⟨⟨?_, ?_, ?_⟩, ?_, ?_, ?_⟩ <;> first | go_cell | assumption)).keep hb
    have T4_2 := (show H3 (_ : World) w2.heap.size M Y (-X) from (by refine ⟨⟨?_, ?_, ?_⟩, ?_, ?_, ?_⟩ <;> first | go_cell | assumption)).keep hb
    have T4_3 := (show H2 (_ : World) w3.heap.size vn vd from (by refine ⟨⟨?_, ?_⟩, ?_, ?_⟩ <;> first | go_cell | assumption)).keep hb
    have HB4 := Lib.hid (show Below w.heap.size w w4 from Below.trans (by go_grown) (hb.mono (by first | omega | (simp; done) | (simp; omega))))
    have hs4 : w3.heap.size < w4.heap.size := by have h9 := hb.size; (try simp at h9); omega
    clear hb hbl h3_0_0 h3_0_1 h3_0_2 h3_0_3 z3_0_0 z3_0_1 z3_0_2 z3_0_3 h3_1_0 h3_1_1 h3_1_2 z3_1_0 z3_1_1 z3_1_2 h3_2_0 h3_2_1 h3_2_2 z3_2_0 z3_2_1 z3_2_2
    have hbl := HB4.out
    obtain ⟨⟨h4_0_0, h4_0_1, h4_0_2, h4_0_3⟩, z4_0_0, z4_0_1, z4_0_2, z4_0_3⟩ := T4_0
    obtain ⟨⟨h4_1_0, h4_1_1, h4_1_2⟩, z4_1_0, z4_1_1, z4_1_2⟩ := T4_1
    obtain ⟨⟨h4_2_0, h4_2_1, h4_2_2⟩, z4_2_0, z4_2_1, z4_2_2⟩ := T4_2
    obtain ⟨⟨h4_3_0, h4_3_1⟩, z4_3_0, z4_3_1⟩ := T4_3
    have l4_0 : w.heap.size < w4.heap.size := by omega
    have e4_0 : ¬ w.heap.size = w4.heap.size := by omega
    have f4_0 : ¬ w4.heap.size = w.heap.size := by omega
    have l4_1 : w1.heap.size < w4.heap.size := by omega
    have e4_1 : ¬ w1.heap.size = w4.heap.size := by omega
    have f4_1 : ¬ w4.heap.size = w1.heap.size := by omega
    have l4_2 : w2.heap.size < w4.heap.size := by omega
    have e4_2 : ¬ w2.heap.size = w4.heap.size := by omega
    have f4_2 : ¬ w4.heap.size = w2.heap.size := by omega
    have l4_3 : w3.heap.size < w4.heap.size := by omega
    have e4_3 : ¬ w3.heap.size = w4.heap.size := by omega
    have f4_3 : ¬ w4.heap.size = w3.heap.size := by omega
    go_wp2_with fail
    refine (pOctant_any M Y (-X) _).mono ?_
    rw [HO2.out]
    unfold OcRet
    rintro e w5 ⟨rfl, hb⟩
    have T5_0 := (show H4 (_ : World) w.heap.size a b c d from (by refine ⟨⟨?_, ?_, ?_, ?_⟩, ?_, ?_, ?_, ?_⟩ <;> first | go_cell | assumption)).keep hb
    have T5_1 := (show H3 (_ : World) w1.heap.size M X Y from (by refine ⟨⟨?_, ?_, ?_⟩, ?_, ?_, ?_⟩ <;> first | go_cell | assumption)).keep hb
    have T5_2 := (show H3 (_ : World) w2.heap.size M Y (-X) from (by refine ⟨⟨?_, ?_, ?_⟩, ?_, ?_, ?_⟩ <;> first | go_cell | assumption)).keep hb
    have T5_3 := (show H2 (_ : World) w3.heap.size vn vd from (by refine ⟨⟨?_, ?_⟩, ?_, ?_⟩ <;> first | go_cell | assumption)).keep hb
    have HB5 := Lib.hid (show Below w.heap.size w w5 from Below.trans (by go_grown) (hb.mono (by first | omega | (simp; done) | (simp; omega))))
    have hs5 : w3.heap.size < w5.heap.size := by have h9 := hb.size; (try simp at h9); omega
    clear hb hbl h4_0_0 h4_0_1 h4_0_2 h4_0_3 z4_0_0 z4_0_1 z4_0_2 z4_0_3 h4_1_0 h4_1_1 h4_1_2 z4_1_0 z4_1_1 z4_1_2 h4_2_0 h4_2_1 h4_2_2 z4_2_0 z4_2_1 z4_2_2 h4_3_0 h4_3_1 z4_3_0 z4_3_1
    have hbl := HB5.out
    obtain ⟨⟨h5_0_0, h5_0_1, h5_0_2, h5_0_3⟩, z5_0_0, z5_0_1, z5_0_2, z5_0_3⟩ := T5_0
    obtain ⟨⟨h5_1_0, h5_1_1, h5_1_2⟩, z5_1_0, z5_1_1, z5_1_2⟩ := T5_1
    obtain ⟨⟨h5_2_0, h5_2_1, h5_2_2⟩, z5_2_0, z5_2_1, z5_2_2⟩ := T5_2
    obtain ⟨⟨h5_3_0, h5_3_1⟩, z5_3_0, z5_3_1⟩ := T5_3
    have l5_0 : w.heap.size < w5.heap.size := by omega
    have e5_0 : ¬ w.heap.size = w5.heap.size := by omega
    have f5_0 : ¬ w5.heap.size = w.heap.size := by omega
    have l5_1 : w1.heap.size < w5.heap.size := by omega
    have e5_1 : ¬ w1.heap.size = w5.heap.size := by omega
    have f5_1 : ¬ w5.heap.size = w1.heap.size := by omega
    have l5_2 : w2.heap.size < w5.heap.size := by omega
    have e5_2 : ¬ w2.heap.size = w5.heap.size := by omega
    have f5_2 : ¬ w5.heap.size = w2.heap.size := by omega
    have l5_3 : w3.heap.size < w5.heap.size := by omega
    have e5_3 : ¬ w3.heap.size = w5.heap.size := by omega
    have f5_3 : ¬ w5.heap.size = w3.heap.size := by omega
    go_wp2_with fail
    refine (pOctant_any M (-X) (-Y) _).mono ?_
    rw [HO3.out]
    unfold OcRet
    rintro e w6 ⟨rfl, hb⟩
    have T6_0 := (show H4 (_ : World) w.heap.size a b c d from (by refine ⟨⟨?_, ?_, ?_, ?_⟩, ?_, ?_, ?_, ?_⟩ <;> first | go_cell | assumption)).keep hb
    have T6_1 := (show H3 (_ : World) w1.heap.size M X Y from (by refine ⟨⟨?_, ?_, ?_⟩, ?_, ?_, ?_⟩ <;> first | go_cell | assumption)).keep hb
    have T6_2 := (show H3 (_ : World) w2.heap.size M Y (-X) from (by refine ⟨⟨?_, ?_, ?_⟩, ?_, ?_, ?_⟩ <;> first | go_cell | assumption)).keep hb
    have T6_3 := (show H2 (_ : World) w3.heap.size vn vd from (by refine ⟨⟨?_, ?_⟩, ?_, ?_⟩ <;> first | go_cell | assumption)).keep hb
    have HB6 := Lib.hid (show Below w.heap.size w w6 from Below.trans (by go_grown) (hb.mono (by first | omega | (simp; done) | (simp; omega))))
    have hs6 : w3.heap.size < w6.heap.size := by have h9 := hb.size; (try simp at h9); omega
    clear hb hbl h5_0_0 h5_0_1 h5_0_2 h5_0_3 z5_0_0 z5_0_1 z5_0_2 z5_0_3 h5_1_0 h5_1_1 h5_1_2 z5_1_0 z5_1_1 z5_1_2 h5_2_0 h5_2_1 h5_2_2 z5_2_0 z5_2_1 z5_2_2 h5_3_0 h5_3_1 z5_3_0 z5_3_1
    have hbl := HB6.out
    obtain ⟨⟨h6_0_0, h6_0_1, h6_0_2, h6_0_3⟩, z6_0_0, z6_0_1, z6_0_2, z6_0_3⟩ := T6_0
    obtain ⟨⟨h6_1_0, h6_1_1, h6_1_2⟩, z6_1_0, z6_1_1, z6_1_2⟩ := T6_1
    obtain ⟨⟨h6_2_0, h6_2_1, h6_2_2⟩, z6_2_0, z6_2_1, z6_2_2⟩ := T6_2
    obtain ⟨⟨h6_3_0, h6_3_1⟩, z6_3_0, z6_3_1⟩ := T6_3
    have l6_0 : w.heap.size < w6.heap.size := by omega
    have e6_0 : ¬ w.heap.size = w6.heap.size := by omega
    have f6_0 : ¬ w6.heap.size = w.heap.size := by omega
    have l6_1 : w1.heap.size < w6.heap.size := by omega
    have e6_1 : ¬ w1.heap.size = w6.heap.size := by omega
    have f6_1 : ¬ w6.heap.size = w1.heap.size := by omega
    have l6_2 : w2.heap.size < w6.heap.size := by omega
    have e6_2 : ¬ w2.heap.size = w6.heap.size := by omega
    have f6_2 : ¬ w6.heap.size = w2.heap.size := by omega
    have l6_3 : w3.heap.size < w6.heap.size := by omega
    have e6_3 : ¬ w3.heap.size = w6.heap.size := by omega
    have f6_3 : ¬ w6.heap.size = w3.heap.size := by omega
    go_wp2_with fail
    refine (awake_any _).mono ?_
    rintro e w7 ⟨rfl, hb⟩
    have T7_0 := (show H4 (_ : World) w.heap.size a b c d from (by refine ⟨⟨?_, ?_, ?_, ?_⟩, ?_, ?_, ?_, ?_⟩ <;> first | go_cell | assumption)).keep hb
    have T7_1 := (show H3 (_ : World) w1.heap.size M X Y from (by refine ⟨⟨?_, ?_, ?_⟩, ?_, ?_, ?_⟩ <;> first | go_cell | assumption)).keep hb
    have T7_2 := (show H3 (_ : World) w2.heap.size M Y (-X) from (by refine ⟨⟨?_, ?_, ?_⟩, ?_, ?_, ?_⟩ <;> first | go_cell | assumption)).keep hb
    have T7_3 := (show H2 (_ : World) w3.heap.size vn vd from (by refine ⟨⟨?_, ?_⟩, ?_, ?_⟩ <;> first | go_cell | assumption)).keep hb
    have HB7 := Lib.hid (show Below w.heap.size w w7 from Below.trans (by go_grown) (hb.mono (by first | omega | (simp; done) | (simp; omega))))
    have hs7 : w3.heap.size < w7.heap.size := by have h9 := hb.size; (try simp at h9); omega
    clear hb hbl h6_0_0 h6_0_1 h6_0_2 h6_0_3 z6_0_0 z6_0_1 z6_0_2 z6_0_3 h6_1_0 h6_1_1 h6_1_2 z6_1_0 z6_1_1 z6_1_2 h6_2_0 h6_2_1 h6_2_2 z6_2_0 z6_2_1 z6_2_2 h6_3_0 h6_3_1 z6_3_0 z6_3_1
    have hbl := HB7.out
    obtain ⟨⟨h7_0_0, h7_0_1, h7_0_2, h7_0_3⟩, z7_0_0, z7_0_1, z7_0_2, z7_0_3⟩ := T7_0
    obtain ⟨⟨h7_1_0, h7_1_1, h7_1_2⟩, z7_1_0, z7_1_1, z7_1_2⟩ := T7_1
    obtain ⟨⟨h7_2_0, h7_2_1, h7_2_2⟩, z7_2_0, z7_2_1, z7_2_2⟩ := T7_2
    obtain ⟨⟨h7_3_0, h7_3_1⟩, z7_3_0, z7_3_1⟩ := T7_3
    have l7_0 : w.heap.size < w7.heap.size := by omega
    have e7_0 : ¬ w.heap.size = w7.heap.size := by omega
    have f7_0 : ¬ w7.heap.size = w.heap.size := by omega
    have l7_1 : w1.heap.size < w7.heap.size := by omega
    have e7_1 : ¬ w1.heap.size = w7.heap.size := by omega
    have f7_1 : ¬ w7.heap.size = w1.heap.size := by omega
    have l7_2 : w2.heap.size < w7.heap.size := by omega
    have e7_2 : ¬ w2.heap.size = w7.heap.size := by omega
    have f7_2 : ¬ w7.heap.size = w2.heap.size := by omega
    have l7_3 : w3.heap.size < w7.heap.size := by omega
    have e7_3 : ¬ w3.heap.size = w7.heap.size := by omega
    have f7_3 : ¬ w7.heap.size = w3.heap.size := by omega
    go_wp2_with fail
    go_returns
    exact ⟨by first | rfl | (simp; done), by go_grown⟩
  · have hvr := vi_range hv hM
    obtain ⟨vn, vd, hvi⟩ : ∃ vn vd, viS M X Y = ((vn, vd), 0) := ⟨_, _, viS_ok hv hM⟩
    rw [hvi] at hvr
    simp only at hvr
    have r0 : ¬ vn < 0 := by omega
    have r1 : ¬ vd < 1 := by omega
    have r2 : ¬ vd < vn := by omega
    have m0 : (M == 0) = false := beq_eq_false_iff_ne.2 hM
    clear hvr
    obtain ⟨n, hn⟩ : ∃ n, Amp.octS X Y = n := ⟨_, rfl⟩
    have hnr := (Amp.oct_top hxy).2
    have ht := Amp.oct_turn hxy
    have hop := Amp.oct_opp hxy
    rw [hn] at hnr ht hop
    have HO1 := Lib.hid (ocS_ok hv hxy)
    have HO2 := Lib.hid (ocS_ok hm2.2 (show ¬ (Y = 0 ∧ -X = 0) by omega))
    have HO3 := Lib.hid (ocS_ok hm2.1 (show ¬ (-X = 0 ∧ -Y = 0) by omega))
    have HO1 := Lib.hid (show ocS M X Y = (n, 0) from by rw [HO1.out, hn])
    have HO2 := Lib.hid (show ocS M Y (-X) = ((n + 6) % 8, 0) from by rw [HO2.out, ht])
    have HO3 := Lib.hid (show ocS M (-X) (-Y) = ((n + 4) % 8, 0) from by rw [HO3.out, hop])
    have n6 : wrap64 (n + 6) = n + 6 := by simp only [wrap64]; omega
    have n4 : wrap64 (n + 4) = n + 4 := by simp only [wrap64]; omega
    have t6 : (n + 6).tmod 8 = (n + 6) % 8 := Int.tmod_eq_emod_of_nonneg (by omega)
    have t4 : (n + 4).tmod 8 = (n + 4) % 8 := Int.tmod_eq_emod_of_nonneg (by omega)
    have w6 : wrap64 ((n + 6) % 8) = (n + 6) % 8 := by simp only [wrap64]; omega
    have w4' : wrap64 ((n + 4) % 8) = (n + 4) % 8 := by simp only [wrap64]; omega
    obtain ⟨q6, hq6⟩ : ∃ q, (n + 6) % 8 = q := ⟨_, rfl⟩
    obtain ⟨q4, hq4⟩ : ∃ q, (n + 4) % 8 = q := ⟨_, rfl⟩
    rw [hq6] at t6 w6 HO2
    rw [hq4] at t4 w4' HO3
    clear hn hnr ht hop hq6 hq4 hxy
    have HVI := Lib.hid hvi
    clear hvi hF hG hv hm2 hx hM
    go_enter Try.func6, Try.ntmps6
    go_wp2_with fail
    refine (pFringe_any a b c d _).mono ?_
    rw [HF.out]
    unfold FrRet
    rintro e w1 ⟨rfl, hb⟩
    have T1_0 := (show H4 (_ : World) w.heap.size a b c d from (by refine ⟨⟨?_, ?_, ?_, ?_⟩, ?_, ?_, ?_, ?_⟩ <;> first | go_cell | assumption)).keep hb
    have HB1 := Lib.hid (show Below w.heap.size w w1 from Below.trans (by go_grown) (hb.mono (by first | omega | (simp; done) | (simp; omega))))
    have hs1 : w.heap.size < w1.heap.size := by have h9 := hb.size; (try simp at h9); omega
    clear hb
    have hbl := HB1.out
    obtain ⟨⟨h1_0_0, h1_0_1, h1_0_2, h1_0_3⟩, z1_0_0, z1_0_1, z1_0_2, z1_0_3⟩ := T1_0
    have l1_0 : w.heap.size < w1.heap.size := by omega
    have e1_0 : ¬ w.heap.size = w1.heap.size := by omega
    have f1_0 : ¬ w1.heap.size = w.heap.size := by omega
    go_wp2_with fail
    refine (pFringe_any b c d a _).mono ?_
    rw [HG.out]
    unfold FrRet
    rintro e w2 ⟨rfl, hb⟩
    have T2_0 := (show H4 (_ : World) w.heap.size a b c d from (by refine ⟨⟨?_, ?_, ?_, ?_⟩, ?_, ?_, ?_, ?_⟩ <;> first | go_cell | assumption)).keep hb
    have T2_1 := (show H3 (_ : World) w1.heap.size M X Y from (by refine ⟨⟨?_, ?_, ?_⟩, ?_, ?_, ?_⟩ <;> first | go_cell | assumption)).keep hb
    have HB2 := Lib.hid (show Below w.heap.size w w2 from Below.trans (by go_grown) (hb.mono (by first | omega | (simp; done) | (simp; omega))))
    have hs2 : w1.heap.size < w2.heap.size := by have h9 := hb.size; (try simp at h9); omega
    clear hb hbl h1_0_0 h1_0_1 h1_0_2 h1_0_3 z1_0_0 z1_0_1 z1_0_2 z1_0_3
    have hbl := HB2.out
    obtain ⟨⟨h2_0_0, h2_0_1, h2_0_2, h2_0_3⟩, z2_0_0, z2_0_1, z2_0_2, z2_0_3⟩ := T2_0
    obtain ⟨⟨h2_1_0, h2_1_1, h2_1_2⟩, z2_1_0, z2_1_1, z2_1_2⟩ := T2_1
    have l2_0 : w.heap.size < w2.heap.size := by omega
    have e2_0 : ¬ w.heap.size = w2.heap.size := by omega
    have f2_0 : ¬ w2.heap.size = w.heap.size := by omega
    have l2_1 : w1.heap.size < w2.heap.size := by omega
    have e2_1 : ¬ w1.heap.size = w2.heap.size := by omega
    have f2_1 : ¬ w2.heap.size = w1.heap.size := by omega
    go_wp2_with fail
    refine (pVisibility_any M X Y _).mono ?_
    rw [HVI.out]
    unfold ViRet
    rintro e w3 ⟨rfl, hb⟩
    have T3_0 := (show H4 (_ : World) w.heap.size a b c d from (by refine ⟨⟨?_, ?_, ?_, ?_⟩, ?_, ?_, ?_, ?_⟩ <;> first | go_cell | assumption)).keep hb
    have T3_1 := (show H3 (_ : World) w1.heap.size M X Y from (by refine ⟨⟨?_, ?_, ?_⟩, ?_, ?_, ?_⟩ <;> first | go_cell | assumption)).keep hb
    have T3_2 := (show H3 (_ : World) w2.heap.size M Y (-X) from (by refine ⟨⟨?_, ?_, ?_⟩, ?_, ?_, ?_⟩ <;> first | go_cell | assumption)).keep hb
    have HB3 := Lib.hid (show Below w.heap.size w w3 from Below.trans (by go_grown) (hb.mono (by first | omega | (simp; done) | (simp; omega))))
    have hs3 : w2.heap.size < w3.heap.size := by have h9 := hb.size; (try simp at h9); omega
    clear hb hbl h2_0_0 h2_0_1 h2_0_2 h2_0_3 z2_0_0 z2_0_1 z2_0_2 z2_0_3 h2_1_0 h2_1_1 h2_1_2 z2_1_0 z2_1_1 z2_1_2
    have hbl := HB3.out
    obtain ⟨⟨h3_0_0, h3_0_1, h3_0_2, h3_0_3⟩, z3_0_0, z3_0_1, z3_0_2, z3_0_3⟩ := T3_0
    obtain ⟨⟨h3_1_0, h3_1_1, h3_1_2⟩, z3_1_0, z3_1_1, z3_1_2⟩ := T3_1
    obtain ⟨⟨h3_2_0, h3_2_1, h3_2_2⟩, z3_2_0, z3_2_1, z3_2_2⟩ := T3_2
    have l3_0 : w.heap.size < w3.heap.size := by omega
    have e3_0 : ¬ w.heap.size = w3.heap.size := by omega
    have f3_0 : ¬ w3.heap.size = w.heap.size := by omega
    have l3_1 : w1.heap.size < w3.heap.size := by omega
    have e3_1 : ¬ w1.heap.size = w3.heap.size := by omega
    have f3_1 : ¬ w3.heap.size = w1.heap.size := by omega
    have l3_2 : w2.heap.size < w3.heap.size := by omega
    have e3_2 : ¬ w2.heap.size = w3.heap.size := by omega
    have f3_2 : ¬ w3.heap.size = w2.heap.size := by omega
    go_wp2_with fail
    refine (pOctant_any M X Y _).mono ?_
    rw [HO1.out]
    unfold OcRet
    rintro e w4 ⟨rfl, hb⟩
    have T4_0 := (show H4 (_ : World) w.heap.size a b c d from (by refine ⟨⟨?_, ?_, ?_, ?_⟩, ?_, ?_, ?_, ?_⟩ <;> first | go_cell | assumption)).keep hb
    have T4_1 := (show H3 (_ : World) w1.heap.size M X Y from (by refine ⟨⟨?_, ?_, ?_⟩, ?_, ?_, ?_⟩ <;> first | go_cell | assumption)).keep hb
    have T4_2 := (show H3 (_ : World) w2.heap.size M Y (-X) from (by refine ⟨⟨?_, ?_, ?_⟩, ?_, ?_, ?_⟩ <;> first | go_cell | assumption)).keep hb
    have T4_3 := (show H2 (_ : World) w3.heap.size vn vd from (by refine ⟨⟨?_, ?_⟩, ?_, ?_⟩ <;> first | go_cell | assumption)).keep hb
    have HB4 := Lib.hid (show Below w.heap.size w w4 from Below.trans (by go_grown) (hb.mono (by first | omega | (simp; done) | (simp; omega))))
    have hs4 : w3.heap.size < w4.heap.size := by have h9 := hb.size; (try simp at h9); omega
    clear hb hbl h3_0_0 h3_0_1 h3_0_2 h3_0_3 z3_0_0 z3_0_1 z3_0_2 z3_0_3 h3_1_0 h3_1_1 h3_1_2 z3_1_0 z3_1_1 z3_1_2 h3_2_0 h3_2_1 h3_2_2 z3_2_0 z3_2_1 z3_2_2
    have hbl := HB4.out
    obtain ⟨⟨h4_0_0, h4_0_1, h4_0_2, h4_0_3⟩, z4_0_0, z4_0_1, z4_0_2, z4_0_3⟩ := T4_0
    obtain ⟨⟨h4_1_0, h4_1_1, h4_1_2⟩, z4_1_0, z4_1_1, z4_1_2⟩ := T4_1
    obtain ⟨⟨h4_2_0, h4_2_1, h4_2_2⟩, z4_2_0, z4_2_1, z4_2_2⟩ := T4_2
    obtain ⟨⟨h4_3_0, h4_3_1⟩, z4_3_0, z4_3_1⟩ := T4_3
    have l4_0 : w.heap.size < w4.heap.size := by omega
    have e4_0 : ¬ w.heap.size = w4.heap.size := by omega
    have f4_0 : ¬ w4.heap.size = w.heap.size := by omega
    have l4_1 : w1.heap.size < w4.heap.size := by omega
    have e4_1 : ¬ w1.heap.size = w4.heap.size := by omega
    have f4_1 : ¬ w4.heap.size = w1.heap.size := by omega
    have l4_2 : w2.heap.size < w4.heap.size := by omega
    have e4_2 : ¬ w2.heap.size = w4.heap.size := by omega
    have f4_2 : ¬ w4.heap.size = w2.heap.size := by omega
    have l4_3 : w3.heap.size < w4.heap.size := by omega
    have e4_3 : ¬ w3.heap.size = w4.heap.size := by omega
    have f4_3 : ¬ w4.heap.size = w3.heap.size := by omega
    go_wp2_with fail
    refine (pOctant_any M Y (-X) _).mono ?_
    rw [HO2.out]
    unfold OcRet
    rintro e w5 ⟨rfl, hb⟩
    have T5_0 := (show H4 (_ : World) w.heap.size a b c d from (by refine ⟨⟨?_, ?_, ?_, ?_⟩, ?_, ?_, ?_, ?_⟩ <;> first | go_cell | assumption)).keep hb
    have T5_1 := (show H3 (_ : World) w1.heap.size M X Y from (by refine ⟨⟨?_, ?_, ?_⟩, ?_, ?_, ?_⟩ <;> first | go_cell | assumption)).keep hb
    have T5_2 := (show H3 (_ : World) w2.heap.size M Y (-X) from (by refine ⟨⟨?_, ?_, ?_⟩, ?_, ?_, ?_⟩ <;> first | go_cell | assumption)).keep hb
    have T5_3 := (show H2 (_ : World) w3.heap.size vn vd from (by refine ⟨⟨?_, ?_⟩, ?_, ?_⟩ <;> first | go_cell | assumption)).keep hb
    have HB5 := Lib.hid (show Below w.heap.size w w5 from Below.trans (by go_grown) (hb.mono (by first | omega | (simp; done) | (simp; omega))))
    have hs5 : w3.heap.size < w5.heap.size := by have h9 := hb.size; (try simp at h9); omega
    clear hb hbl h4_0_0 h4_0_1 h4_0_2 h4_0_3 z4_0_0 z4_0_1 z4_0_2 z4_0_3 h4_1_0 h4_1_1 h4_1_2 z4_1_0 z4_1_1 z4_1_2 h4_2_0 h4_2_1 h4_2_2 z4_2_0 z4_2_1 z4_2_2 h4_3_0 h4_3_1 z4_3_0 z4_3_1
    have hbl := HB5.out
    obtain ⟨⟨h5_0_0, h5_0_1, h5_0_2, h5_0_3⟩, z5_0_0, z5_0_1, z5_0_2, z5_0_3⟩ := T5_0
    obtain ⟨⟨h5_1_0, h5_1_1, h5_1_2⟩, z5_1_0, z5_1_1, z5_1_2⟩ := T5_1
    obtain ⟨⟨h5_2_0, h5_2_1, h5_2_2⟩, z5_2_0, z5_2_1, z5_2_2⟩ := T5_2
    obtain ⟨⟨h5_3_0, h5_3_1⟩, z5_3_0, z5_3_1⟩ := T5_3
    have l5_0 : w.heap.size < w5.heap.size := by omega
    have e5_0 : ¬ w.heap.size = w5.heap.size := by omega
    have f5_0 : ¬ w5.heap.size = w.heap.size := by omega
    have l5_1 : w1.heap.size < w5.heap.size := by omega
    have e5_1 : ¬ w1.heap.size = w5.heap.size := by omega
    have f5_1 : ¬ w5.heap.size = w1.heap.size := by omega
    have l5_2 : w2.heap.size < w5.heap.size := by omega
    have e5_2 : ¬ w2.heap.size = w5.heap.size := by omega
    have f5_2 : ¬ w5.heap.size = w2.heap.size := by omega
    have l5_3 : w3.heap.size < w5.heap.size := by omega
    have e5_3 : ¬ w3.heap.size = w5.heap.size := by omega
    have f5_3 : ¬ w5.heap.size = w3.heap.size := by omega
    go_wp2_with fail
    refine (pOctant_any M (-X) (-Y) _).mono ?_
    rw [HO3.out]
    unfold OcRet
    rintro e w6 ⟨rfl, hb⟩
    have T6_0 := (show H4 (_ : World) w.heap.size a b c d from (by refine ⟨⟨?_, ?_, ?_, ?_⟩, ?_, ?_, ?_, ?_⟩ <;> first | go_cell | assumption)).keep hb
    have T6_1 := (show H3 (_ : World) w1.heap.size M X Y from (by refine ⟨⟨?_, ?_, ?_⟩, ?_, ?_, ?_⟩ <;> first | go_cell | assumption)).keep hb
    have T6_2 := (show H3 (_ : World) w2.heap.size M Y (-X) from (by refine ⟨⟨?_, ?_, ?_⟩, ?_, ?_, ?_⟩ <;> first | go_cell | assumption)).keep hb
    have T6_3 := (show H2 (_ : World) w3.heap.size vn vd from (by refine ⟨⟨?_, ?_⟩, ?_, ?_⟩ <;> first | go_cell | assumption)).keep hb
    have HB6 := Lib.hid (show Below w.heap.size w w6 from Below.trans (by go_grown) (hb.mono (by first | omega | (simp; done) | (simp; omega))))
    have hs6 : w3.heap.size < w6.heap.size := by have h9 := hb.size; (try simp at h9); omega
    clear hb hbl h5_0_0 h5_0_1 h5_0_2 h5_0_3 z5_0_0 z5_0_1 z5_0_2 z5_0_3 h5_1_0 h5_1_1 h5_1_2 z5_1_0 z5_1_1 z5_1_2 h5_2_0 h5_2_1 h5_2_2 z5_2_0 z5_2_1 z5_2_2 h5_3_0 h5_3_1 z5_3_0 z5_3_1
    have hbl := HB6.out
    obtain ⟨⟨h6_0_0, h6_0_1, h6_0_2, h6_0_3⟩, z6_0_0, z6_0_1, z6_0_2, z6_0_3⟩ := T6_0
    obtain ⟨⟨h6_1_0, h6_1_1, h6_1_2⟩, z6_1_0, z6_1_1, z6_1_2⟩ := T6_1
    obtain ⟨⟨h6_2_0, h6_2_1, h6_2_2⟩, z6_2_0, z6_2_1, z6_2_2⟩ := T6_2
    obtain ⟨⟨h6_3_0, h6_3_1⟩, z6_3_0, z6_3_1⟩ := T6_3
    have l6_0 : w.heap.size < w6.heap.size := by omega
    have e6_0 : ¬ w.heap.size = w6.heap.size := by omega
    have f6_0 : ¬ w6.heap.size = w.heap.size := by omega
    have l6_1 : w1.heap.size < w6.heap.size := by omega
    have e6_1 : ¬ w1.heap.size = w6.heap.size := by omega
    have f6_1 : ¬ w6.heap.size = w1.heap.size := by omega
    have l6_2 : w2.heap.size < w6.heap.size := by omega
    have e6_2 : ¬ w2.heap.size = w6.heap.size := by omega
    have f6_2 : ¬ w6.heap.size = w2.heap.size := by omega
    have l6_3 : w3.heap.size < w6.heap.size := by omega
    have e6_3 : ¬ w3.heap.size = w6.heap.size := by omega
    have f6_3 : ¬ w6.heap.size = w3.heap.size := by omega
    go_wp2_with fail
    refine (awake_any _).mono ?_
    rintro e w7 ⟨rfl, hb⟩
    have T7_0 := (show H4 (_ : World) w.heap.size a b c d from (by refine ⟨⟨?_, ?_, ?_, ?_⟩, ?_, ?_, ?_, ?_⟩ <;> first | go_cell | assumption)).keep hb
    have T7_1 := (show H3 (_ : World) w1.heap.size M X Y from (by refine ⟨⟨?_, ?_, ?_⟩, ?_, ?_, ?_⟩ <;> first | go_cell | assumption)).keep hb
    have T7_2 := (show H3 (_ : World) w2.heap.size M Y (-X) from (by refine ⟨⟨?_, ?_, ?_⟩, ?_, ?_, ?_⟩ <;> first | go_cell | assumption)).keep hb
    have T7_3 := (show H2 (_ : World) w3.heap.size vn vd from (by refine ⟨⟨?_, ?_⟩, ?_, ?_⟩ <;> first | go_cell | assumption)).keep hb
    have HB7 := Lib.hid (show Below w.heap.size w w7 from Below.trans (by go_grown) (hb.mono (by first | omega | (simp; done) | (simp; omega))))
    have hs7 : w3.heap.size < w7.heap.size := by have h9 := hb.size; (try simp at h9); omega
    clear hb hbl h6_0_0 h6_0_1 h6_0_2 h6_0_3 z6_0_0 z6_0_1 z6_0_2 z6_0_3 h6_1_0 h6_1_1 h6_1_2 z6_1_0 z6_1_1 z6_1_2 h6_2_0 h6_2_1 h6_2_2 z6_2_0 z6_2_1 z6_2_2 h6_3_0 h6_3_1 z6_3_0 z6_3_1
    have hbl := HB7.out
    obtain ⟨⟨h7_0_0, h7_0_1, h7_0_2, h7_0_3⟩, z7_0_0, z7_0_1, z7_0_2, z7_0_3⟩ := T7_0
    obtain ⟨⟨h7_1_0, h7_1_1, h7_1_2⟩, z7_1_0, z7_1_1, z7_1_2⟩ := T7_1
    obtain ⟨⟨h7_2_0, h7_2_1, h7_2_2⟩, z7_2_0, z7_2_1, z7_2_2⟩ := T7_2
    obtain ⟨⟨h7_3_0, h7_3_1⟩, z7_3_0, z7_3_1⟩ := T7_3
    have l7_0 : w.heap.size < w7.heap.size := by omega
    have e7_0 : ¬ w.heap.size = w7.heap.size := by omega
    have f7_0 : ¬ w7.heap.size = w.heap.size := by omega
    have l7_1 : w1.heap.size < w7.heap.size := by omega
    have e7_1 : ¬ w1.heap.size = w7.heap.size := by omega
    have f7_1 : ¬ w7.heap.size = w1.heap.size := by omega
    have l7_2 : w2.heap.size < w7.heap.size := by omega
    have e7_2 : ¬ w2.heap.size = w7.heap.size := by omega
    have f7_2 : ¬ w7.heap.size = w2.heap.size := by omega
    have l7_3 : w3.heap.size < w7.heap.size := by omega
    have e7_3 : ¬ w3.heap.size = w7.heap.size := by omega
    have f7_3 : ¬ w7.heap.size = w3.heap.size := by omega
    go_wp2_with fail
    go_returns
    exact ⟨by first | rfl | (simp; done), by go_grown⟩
end Go.Proofs.Ytkcbkcgampoclaa
