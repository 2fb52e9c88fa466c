import Derived.Test.YtkcbkcgampoclaaMx9
import Derived.Test.YtkcbkcgampoclaaRo9
import Derived.Test.YtkcbkcgampoclaaFa9
namespace Go.Proofs.Ytkcbkcgampoclaa
open Go.RowKit Prb
attribute [local go_sem high] run_sameA4 run_sameA4n run_sameFr run_sameFrn run_sameRt run_sameRtn
set_option maxRecDepth 100000 in
set_option maxHeartbeats 8000000 in
theorem ProbeVectors_any (m x y : Int) (n cap : Nat) (ao : Option Addr) (M X Y : Nat → Int) (w : World) (hn : n ≤ 9223372036854775807) (hc : Frs w ao n M X Y) :
    Calls Try.prog 4 #[.agg #[.int .i64 m, .int .i64 x, .int .i64 y], .slice ao n cap] w fun e w' => e = .returned (.bool true) ∧ Below w.heap.size w w' := by
  obtain ⟨⟨⟨vn, vd⟩, ve⟩, hvi⟩ : ∃ s, viS m x y = s := ⟨_, rfl⟩
  obtain ⟨⟨oc, oe⟩, hoc⟩ : ∃ s, ocS m x y = s := ⟨_, rfl⟩
  obtain ⟨⟨⟨sm, sx, sy⟩, se⟩, hmx⟩ : ∃ s, mxS n M X Y = s := ⟨_, rfl⟩
  have HC := Lib.hid hc
  have HVI := Lib.hid hvi
  have HOC := Lib.hid hoc
  have HMX := Lib.hid hmx
  clear hc hvi hoc hmx
  go_enter Try.func4, Try.ntmps4
  go_wp2_with fail
  refine (pVisibility_any m x y _).mono ?_
  rw [HVI.out]
  unfold ViRet
  rintro e w1 ⟨rfl, hb⟩
  have T1_0 := (show H3 (_ : World) w.heap.size m x y from (by refine ⟨⟨?_, ?_, ?_⟩, ?_, ?_, ?_⟩ <;> first | go_cell | assumption)).keep hb
  have HB1 := Lib.hid (show Below w.heap.size w w1 from Below.trans (by go_grown) (hb.mono (by first | omega | (simp; done) | (simp; omega))))
  have hs1 : w.heap.size < w1.heap.size := by have h9 := hb.size; (try simp at h9); omega
  clear hb
  have hbl := HB1.out
  obtain ⟨⟨h1_0_0, h1_0_1, h1_0_2⟩, z1_0_0, z1_0_1, z1_0_2⟩ := T1_0
  have l1_0 : w.heap.size < w1.heap.size := by omega
  have e1_0 : ¬ w.heap.size = w1.heap.size := by omega
  have f1_0 : ¬ w1.heap.size = w.heap.size := by omega
  go_wp2_with fail
  refine (rVisibility_any m x y _).mono ?_
  rw [HVI.out]
  unfold ViRet
  rintro e w2 ⟨rfl, hb⟩
  have T2_0 := (show H3 (_ : World) w.heap.size m x y from (by refine ⟨⟨?_, ?_, ?_⟩, ?_, ?_, ?_⟩ <;> first | go_cell | assumption)).keep hb
  have T2_1 := (show H2 (_ : World) w1.heap.size vn vd from (by refine ⟨⟨?_, ?_⟩, ?_, ?_⟩ <;> first | go_cell | assumption)).keep hb
  have HB2 := Lib.hid (show Below w.heap.size w w2 from Below.trans (by go_grown) (hb.mono (by first | omega | (simp; done) | (simp; omega))))
  have hs2 : w1.heap.size < w2.heap.size := by have h9 := hb.size; (try simp at h9); omega
  clear hb hbl h1_0_0 h1_0_1 h1_0_2 z1_0_0 z1_0_1 z1_0_2
  have hbl := HB2.out
  obtain ⟨⟨h2_0_0, h2_0_1, h2_0_2⟩, z2_0_0, z2_0_1, z2_0_2⟩ := T2_0
  obtain ⟨⟨h2_1_0, h2_1_1⟩, z2_1_0, z2_1_1⟩ := T2_1
  have l2_0 : w.heap.size < w2.heap.size := by omega
  have e2_0 : ¬ w.heap.size = w2.heap.size := by omega
  have f2_0 : ¬ w2.heap.size = w.heap.size := by omega
  have l2_1 : w1.heap.size < w2.heap.size := by omega
  have e2_1 : ¬ w1.heap.size = w2.heap.size := by omega
  have f2_1 : ¬ w2.heap.size = w1.heap.size := by omega
  go_wp2_with fail
  refine (pOctant_any m x y _).mono ?_
  rw [HOC.out]
  unfold OcRet
  rintro e w3 ⟨rfl, hb⟩
  have T3_0 := (show H3 (_ : World) w.heap.size m x y from (by refine ⟨⟨?_, ?_, ?_⟩, ?_, ?_, ?_⟩ <;> first | go_cell | assumption)).keep hb
  have T3_1 := (show H2 (_ : World) w1.heap.size vn vd from (by refine ⟨⟨?_, ?_⟩, ?_, ?_⟩ <;> first | go_cell | assumption)).keep hb
  have T3_2 := (show H2 (_ : World) w2.heap.size vn vd from (by refine ⟨⟨?_, ?_⟩, ?_, ?_⟩ <;> first | go_cell | assumption)).keep hb
  have HB3 := Lib.hid (show Below w.heap.size w w3 from Below.trans (by go_grown) (hb.mono (by first | omega | (simp; done) | (simp; omega))))
  have hs3 : w2.heap.size < w3.heap.size := by have h9 := hb.size; (try simp at h9); omega
  clear hb hbl h2_0_0 h2_0_1 h2_0_2 z2_0_0 z2_0_1 z2_0_2 h2_1_0 h2_1_1 z2_1_0 z2_1_1
  have hbl := HB3.out
  obtain ⟨⟨h3_0_0, h3_0_1, h3_0_2⟩, z3_0_0, z3_0_1, z3_0_2⟩ := T3_0
  obtain ⟨⟨h3_1_0, h3_1_1⟩, z3_1_0, z3_1_1⟩ := T3_1
  obtain ⟨⟨h3_2_0, h3_2_1⟩, z3_2_0, z3_2_1⟩ := T3_2
  have l3_0 : w.heap.size < w3.heap.size := by omega
  have e3_0 : ¬ w.heap.size = w3.heap.size := by omega
  have f3_0 : ¬ w3.heap.size = w.heap.size := by omega
  have l3_1 : w1.heap.size < w3.heap.size := by omega
  have e3_1 : ¬ w1.heap.size = w3.heap.size := by omega
  have f3_1 : ¬ w3.heap.size = w1.heap.size := by omega
  have l3_2 : w2.heap.size < w3.heap.size := by omega
  have e3_2 : ¬ w2.heap.size = w3.heap.size := by omega
  have f3_2 : ¬ w3.heap.size = w2.heap.size := by omega
  go_wp2_with fail
  refine (rOctant_any m x y _).mono ?_
  rw [HOC.out]
  unfold OcRet
  rintro e w4 ⟨rfl, hb⟩
  have T4_0 := (show H3 (_ : World) w.heap.size m x y from (by refine ⟨⟨?_, ?_, ?_⟩, ?_, ?_, ?_⟩ <;> first | go_cell | assumption)).keep hb
  have T4_1 := (show H2 (_ : World) w1.heap.size vn vd from (by refine ⟨⟨?_, ?_⟩, ?_, ?_⟩ <;> first | go_cell | assumption)).keep hb
  have T4_2 := (show H2 (_ : World) w2.heap.size vn vd from (by refine ⟨⟨?_, ?_⟩, ?_, ?_⟩ <;> first | go_cell | assumption)).keep hb
  have HB4 := Lib.hid (show Below w.heap.size w w4 from Below.trans (by go_grown) (hb.mono (by first | omega | (simp; done) | (simp; omega))))
  have hs4 : w2.heap.size < w4.heap.size := by have h9 := hb.size; (try simp at h9); omega
  clear hb hbl h3_0_0 h3_0_1 h3_0_2 z3_0_0 z3_0_1 z3_0_2 h3_1_0 h3_1_1 z3_1_0 z3_1_1 h3_2_0 h3_2_1 z3_2_0 z3_2_1
  have hbl := HB4.out
  obtain ⟨⟨h4_0_0, h4_0_1, h4_0_2⟩, z4_0_0, z4_0_1, z4_0_2⟩ := T4_0
  obtain ⟨⟨h4_1_0, h4_1_1⟩, z4_1_0, z4_1_1⟩ := T4_1
  obtain ⟨⟨h4_2_0, h4_2_1⟩, z4_2_0, z4_2_1⟩ := T4_2
  have l4_0 : w.heap.size < w4.heap.size := by omega
  have e4_0 : ¬ w.heap.size = w4.heap.size := by omega
  have f4_0 : ¬ w4.heap.size = w.heap.size := by omega
  have l4_1 : w1.heap.size < w4.heap.size := by omega
  have e4_1 : ¬ w1.heap.size = w4.heap.size := by omega
  have f4_1 : ¬ w4.heap.size = w1.heap.size := by omega
  have l4_2 : w2.heap.size < w4.heap.size := by omega
  have e4_2 : ¬ w2.heap.size = w4.heap.size := by omega
  have f4_2 : ¬ w4.heap.size = w2.heap.size := by omega
  go_wp2_with fail
  refine (pMixed_any n cap ao M X Y _ hn (HC.out.keep (by go_grown))).mono ?_
  rw [HMX.out]
  unfold FrRet
  rintro e w5 ⟨rfl, hb⟩
  have T5_0 := (show H3 (_ : World) w.heap.size m x y from (by refine ⟨⟨?_, ?_, ?_⟩, ?_, ?_, ?_⟩ <;> first | go_cell | assumption)).keep hb
  have T5_1 := (show H2 (_ : World) w1.heap.size vn vd from (by refine ⟨⟨?_, ?_⟩, ?_, ?_⟩ <;> first | go_cell | assumption)).keep hb
  have T5_2 := (show H2 (_ : World) w2.heap.size vn vd from (by refine ⟨⟨?_, ?_⟩, ?_, ?_⟩ <;> first | go_cell | assumption)).keep hb
  have HB5 := Lib.hid (show Below w.heap.size w w5 from Below.trans (by go_grown) (hb.mono (by first | omega | (simp; done) | (simp; omega))))
  have hs5 : w2.heap.size < w5.heap.size := by have h9 := hb.size; (try simp at h9); omega
  clear hb hbl h4_0_0 h4_0_1 h4_0_2 z4_0_0 z4_0_1 z4_0_2 h4_1_0 h4_1_1 z4_1_0 z4_1_1 h4_2_0 h4_2_1 z4_2_0 z4_2_1
  have hbl := HB5.out
  obtain ⟨⟨h5_0_0, h5_0_1, h5_0_2⟩, z5_0_0, z5_0_1, z5_0_2⟩ := T5_0
  obtain ⟨⟨h5_1_0, h5_1_1⟩, z5_1_0, z5_1_1⟩ := T5_1
  obtain ⟨⟨h5_2_0, h5_2_1⟩, z5_2_0, z5_2_1⟩ := T5_2
  have l5_0 : w.heap.size < w5.heap.size := by omega
  have e5_0 : ¬ w.heap.size = w5.heap.size := by omega
  have f5_0 : ¬ w5.heap.size = w.heap.size := by omega
  have l5_1 : w1.heap.size < w5.heap.size := by omega
  have e5_1 : ¬ w1.heap.size = w5.heap.size := by omega
  have f5_1 : ¬ w5.heap.size = w1.heap.size := by omega
  have l5_2 : w2.heap.size < w5.heap.size := by omega
  have e5_2 : ¬ w2.heap.size = w5.heap.size := by omega
  have f5_2 : ¬ w5.heap.size = w2.heap.size := by omega
  go_wp2_with fail
  refine (rMixed_any n cap ao M X Y _ hn (HC.out.keep (by go_grown))).mono ?_
  rw [HMX.out]
  unfold FrRet
  rintro e w6 ⟨rfl, hb⟩
  have T6_0 := (show H3 (_ : World) w.heap.size m x y from (by refine ⟨⟨?_, ?_, ?_⟩, ?_, ?_, ?_⟩ <;> first | go_cell | assumption)).keep hb
  have T6_1 := (show H2 (_ : World) w1.heap.size vn vd from (by refine ⟨⟨?_, ?_⟩, ?_, ?_⟩ <;> first | go_cell | assumption)).keep hb
  have T6_2 := (show H2 (_ : World) w2.heap.size vn vd from (by refine ⟨⟨?_, ?_⟩, ?_, ?_⟩ <;> first | go_cell | assumption)).keep hb
  have T6_3 := (show H3 (_ : World) w5.heap.size sm sx sy from (by refine ⟨⟨?_, ?_, ?_⟩, ?_, ?_, ?_⟩ <;> first | go_cell | assumption)).keep hb
  have HB6 := Lib.hid (show Below w.heap.size w w6 from Below.trans (by go_grown) (hb.mono (by first | omega | (simp; done) | (simp; omega))))
  have hs6 : w5.heap.size < w6.heap.size := by have h9 := hb.size; (try simp at h9); omega
  clear hb hbl h5_0_0 h5_0_1 h5_0_2 z5_0_0 z5_0_1 z5_0_2 h5_1_0 h5_1_1 z5_1_0 z5_1_1 h5_2_0 h5_2_1 z5_2_0 z5_2_1
  have hbl := HB6.out
  obtain ⟨⟨h6_0_0, h6_0_1, h6_0_2⟩, z6_0_0, z6_0_1, z6_0_2⟩ := T6_0
  obtain ⟨⟨h6_1_0, h6_1_1⟩, z6_1_0, z6_1_1⟩ := T6_1
  obtain ⟨⟨h6_2_0, h6_2_1⟩, z6_2_0, z6_2_1⟩ := T6_2
  obtain ⟨⟨h6_3_0, h6_3_1, h6_3_2⟩, z6_3_0, z6_3_1, z6_3_2⟩ := T6_3
  have l6_0 : w.heap.size < w6.heap.size := by omega
  have e6_0 : ¬ w.heap.size = w6.heap.size := by omega
  have f6_0 : ¬ w6.heap.size = w.heap.size := by omega
  have l6_1 : w1.heap.size < w6.heap.size := by omega
  have e6_1 : ¬ w1.heap.size = w6.heap.size := by omega
  have f6_1 : ¬ w6.heap.size = w1.heap.size := by omega
  have l6_2 : w2.heap.size < w6.heap.size := by omega
  have e6_2 : ¬ w2.heap.size = w6.heap.size := by omega
  have f6_2 : ¬ w6.heap.size = w2.heap.size := by omega
  have l6_3 : w5.heap.size < w6.heap.size := by omega
  have e6_3 : ¬ w5.heap.size = w6.heap.size := by omega
  have f6_3 : ¬ w6.heap.size = w5.heap.size := by omega
  go_wp2_with fail
  refine (awake_any _).mono ?_
  rintro e w7 ⟨rfl, hb⟩
  have T7_0 := (show H3 (_ : World) w.heap.size m x y from (by refine ⟨⟨?_, ?_, ?_⟩, ?_, ?_, ?_⟩ <;> first | go_cell | assumption)).keep hb
  have T7_1 := (show H2 (_ : World) w1.heap.size vn vd from (by refine ⟨⟨?_, ?_⟩, ?_, ?_⟩ <;> first | go_cell | assumption)).keep hb
  have T7_2 := (show H2 (_ : World) w2.heap.size vn vd from (by refine ⟨⟨?_, ?_⟩, ?_, ?_⟩ <;> first | go_cell | assumption)).keep hb
  have T7_3 := (show H3 (_ : World) w5.heap.size sm sx sy from (by refine ⟨⟨?_, ?_, ?_⟩, ?_, ?_, ?_⟩ <;> first | go_cell | assumption)).keep hb
  have T7_4 := (show H3 (_ : World) w6.heap.size sm sx sy from (by refine ⟨⟨?_, ?_, ?_⟩, ?_, ?_, ?_⟩ <;> first | go_cell | assumption)).keep hb
  have HB7 := Lib.hid (show Below w.heap.size w w7 from Below.trans (by go_grown) (hb.mono (by first | omega | (simp; done) | (simp; omega))))
  have hs7 : w6.heap.size < w7.heap.size := by have h9 := hb.size; (try simp at h9); omega
  clear hb hbl h6_0_0 h6_0_1 h6_0_2 z6_0_0 z6_0_1 z6_0_2 h6_1_0 h6_1_1 z6_1_0 z6_1_1 h6_2_0 h6_2_1 z6_2_0 z6_2_1 h6_3_0 h6_3_1 h6_3_2 z6_3_0 z6_3_1 z6_3_2
  have hbl := HB7.out
  obtain ⟨⟨h7_0_0, h7_0_1, h7_0_2⟩, z7_0_0, z7_0_1, z7_0_2⟩ := T7_0
  obtain ⟨⟨h7_1_0, h7_1_1⟩, z7_1_0, z7_1_1⟩ := T7_1
  obtain ⟨⟨h7_2_0, h7_2_1⟩, z7_2_0, z7_2_1⟩ := T7_2
  obtain ⟨⟨h7_3_0, h7_3_1, h7_3_2⟩, z7_3_0, z7_3_1, z7_3_2⟩ := T7_3
  obtain ⟨⟨h7_4_0, h7_4_1, h7_4_2⟩, z7_4_0, z7_4_1, z7_4_2⟩ := T7_4
  have l7_0 : w.heap.size < w7.heap.size := by omega
  have e7_0 : ¬ w.heap.size = w7.heap.size := by omega
  have f7_0 : ¬ w7.heap.size = w.heap.size := by omega
  have l7_1 : w1.heap.size < w7.heap.size := by omega
  have e7_1 : ¬ w1.heap.size = w7.heap.size := by omega
  have f7_1 : ¬ w7.heap.size = w1.heap.size := by omega
  have l7_2 : w2.heap.size < w7.heap.size := by omega
  have e7_2 : ¬ w2.heap.size = w7.heap.size := by omega
  have f7_2 : ¬ w7.heap.size = w2.heap.size := by omega
  have l7_3 : w5.heap.size < w7.heap.size := by omega
  have e7_3 : ¬ w5.heap.size = w7.heap.size := by omega
  have f7_3 : ¬ w7.heap.size = w5.heap.size := by omega
  have l7_4 : w6.heap.size < w7.heap.size := by omega
  have e7_4 : ¬ w6.heap.size = w7.heap.size := by omega
  have f7_4 : ¬ w7.heap.size = w6.heap.size := by omega
  go_wp2_with fail
  go_returns
  exact ⟨by first | rfl | (simp; done), by go_grown⟩
end Go.Proofs.Ytkcbkcgampoclaa
