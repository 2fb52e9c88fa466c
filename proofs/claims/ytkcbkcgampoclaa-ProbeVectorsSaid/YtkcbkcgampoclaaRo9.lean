import Derived.Test.YtkcbkcgampoclaaPp9
namespace Prb
theorem octB_cases {x y : Int} : (((x + y) * (x + y) < 2 * x * x) ∧ Amp.octB x y = 0) ∨ ((¬ (x + y) * (x + y) < 2 * x * x) ∧ ((x + y) * (x + y) < 2 * y * y) ∧ Amp.octB x y = 2) ∨ ((¬ (x + y) * (x + y) < 2 * x * x) ∧ (¬ (x + y) * (x + y) < 2 * y * y) ∧ Amp.octB x y = 1) := by
  unfold Amp.octB
  by_cases h : (x + y) * (x + y) < 2 * x * x
  · exact Or.inl ⟨h, if_pos h⟩
  · by_cases g : (x + y) * (x + y) < 2 * y * y
    · exact Or.inr (Or.inl ⟨h, g, by rw [if_neg h, if_pos g]⟩)
    · exact Or.inr (Or.inr ⟨h, g, by rw [if_neg h, if_neg g]⟩)
end Prb
namespace Go.Proofs.Ytkcbkcgampoclaa
open Go.RowKit Amp Prb
/-- The reference's octant within so many turns. -/
def OctR (n : Nat) : Prop := ∀ (x y : Int) (w : World), okV x y → Qd n x y →
    Calls Try.prog 29 #[.int .i64 x, .int .i64 y] w fun e w' => e = .returned (.int .i64 (octF n x y)) ∧ w = w'
set_option maxRecDepth 100000 in
set_option maxHeartbeats 2000000 in
theorem octB_any (n : Nat) (x y : Int) (w : World) (hxy : okV x y) (hx : 0 < x) (hy : 0 ≤ y) :
    Calls Try.prog 29 #[.int .i64 x, .int .i64 y] w fun e w' => e = .returned (.int .i64 (octF n x y)) ∧ w = w' := by
  rw [octF_stop hx hy]
  have c0 : ¬ x ≤ 0 := by omega
  have c1 : ¬ y < 0 := by omega
  obtain ⟨⟨x0, x1⟩, y0, y1⟩ := hxy
  have bs := sq_bd (x := x + y) (B := 2000000) (by omega)
  have bx := sq_bd (x := x) (B := 1000000) (by omega)
  have by' := sq_bd (x := y) (B := 1000000) (by omega)
  have e1 : 2 * x * x = 2 * (x * x) := by grind
  have e2 : 2 * y * y = 2 * (y * y) := by grind
  have w1 : wrap64 (x + y) = x + y := by simp only [wrap64]; omega
  have w2 : wrap64 ((x + y) * (x + y)) = (x + y) * (x + y) := by simp only [wrap64]; omega
  have w3 : wrap64 (2 * x) = 2 * x := by simp only [wrap64]; omega
  have w4 : wrap64 (2 * y) = 2 * y := by simp only [wrap64]; omega
  have w5 : wrap64 (2 * x * x) = 2 * x * x := by simp only [wrap64]; omega
  have w6 : wrap64 (2 * y * y) = 2 * y * y := by simp only [wrap64]; omega
  clear bs bx by' e1 e2 x0 x1 y0 y1 hx hy
  rcases octB_cases (x := x) (y := y) with ⟨h, he⟩ | ⟨h, g, he⟩ | ⟨h, g, he⟩
  · have HE := Lib.hid he
    clear he
    go_enter Try.func29, Try.ntmps29
    go_wp2_with fail
    go_returns
    exact ⟨by rw [HE.out] <;> rfl, by first | rfl | trivial⟩
  · have HE := Lib.hid he
    clear he
    go_enter Try.func29, Try.ntmps29
    go_wp2_with fail
    go_returns
    exact ⟨by rw [HE.out] <;> rfl, by first | rfl | trivial⟩
  · have HE := Lib.hid he
    clear he
    go_enter Try.func29, Try.ntmps29
    go_wp2_with fail
    go_returns
    exact ⟨by rw [HE.out] <;> rfl, by first | rfl | trivial⟩
theorem octR_zero : OctR 0 := fun x y w hxy hq => octB_any 0 x y w hxy hq.1 hq.2
set_option maxRecDepth 100000 in
set_option maxHeartbeats 2000000 in
theorem octR_succ (n : Nat) (h : OctR n) : OctR (n + 1) := by
  intro x y w hxy hq
  by_cases hc : x ≤ 0 ∨ y < 0
  · rw [octF_go hc]
    have hq2 : Qd n y (-x) := by
      rcases hq with hq | hq
      · omega
      · exact hq
    have ho := octF_top n y (-x) hq2
    obtain ⟨r, hr⟩ : ∃ r, octF n y (-x) = r := ⟨_, rfl⟩
    rw [hr] at ho ⊢
    have hxy2 : okV y (-x) := ⟨hxy.2, by have := hxy.1; omega⟩
    have HC := Lib.hid (h y (-x) w hxy2 hq2)
    have hcc : x ≤ 0 ∨ (¬ x ≤ 0 ∧ y < 0) := by omega
    have wx : wrap64 (-x) = -x := by have := hxy.1; simp only [wrap64]; omega
    have wr' : wrap64 (r + 2) = r + 2 := by have := ho.2; simp only [wrap64]; omega
    have tr' : (r + 2).tmod 8 = (r + 2) % 8 := Int.tmod_eq_emod_of_nonneg (by have := ho.2; omega)
    have wm : wrap64 ((r + 2) % 8) = (r + 2) % 8 := by simp only [wrap64]; omega
    have HR := Lib.hid hr
    clear ho hr hq2 hc hxy hxy2 hq
    rcases hcc with h1 | ⟨h1, h2⟩
    · go_enter Try.func29, Try.ntmps29
      go_wp2_with fail
      refine (HC.out).mono ?_
      rw [HR.out]
      rintro e w' ⟨rfl, rfl⟩
      go_wp2_with fail
      go_returns
      exact ⟨by first | rfl | (rw [tr']; done) | (rw [wr', tr', wm]; done) | (simp [*]; done), by first | rfl | trivial⟩
    · go_enter Try.func29, Try.ntmps29
      go_wp2_with fail
      refine (HC.out).mono ?_
      rw [HR.out]
      rintro e w' ⟨rfl, rfl⟩
      go_wp2_with fail
      go_returns
      exact ⟨by first | rfl | (rw [tr']; done) | (rw [wr', tr', wm]; done) | (simp [*]; done), by first | rfl | trivial⟩
  · exact octB_any (n + 1) x y w hxy (by omega) (by omega)
theorem octR_three : OctR 3 := octR_succ 2 (octR_succ 1 (octR_succ 0 octR_zero))
set_option maxRecDepth 100000 in
set_option maxHeartbeats 4000000 in
theorem rOctant_any (m x y : Int) (w : World) : Calls Try.prog 17 #[.agg #[.int .i64 m, .int .i64 x, .int .i64 y]] w fun e w' => e = OcRet (ocS m x y) ∧ Below w.heap.size w w' := by
  cases hv : vfS m x y
  · have HE := Lib.hid (ocS_no hv)
    have HV := Lib.hid hv
    clear hv
    go_enter Try.func17, Try.ntmps17
    go_wp2_with fail
    refine (rValid_any m x y _).mono ?_
    rw [HV.out]
    rintro e w1 ⟨rfl, hb⟩
    have T1_0 := (show H3 (_ : World) w.heap.size m x y from (by refine ⟨⟨?_, ?_, ?_⟩, ?_, ?_, ?_⟩ <;> first | go_cell | assumption)).keep hb
    have HB1 := Lib.hid (show Below w.heap.size w w1 from Below.trans (by go_grown) (hb.mono (by first | omega | (simp; done) | (simp; omega))))
    have hs1 : w.heap.size < w1.heap.size := by have h9 := hb.size; (try simp at h9); omega
    clear hb
    have hbl := HB1.out
    obtain ⟨⟨h1_0_0, h1_0_1, h1_0_2⟩, z1_0_0, z1_0_1, z1_0_2⟩ := T1_0
    have l1_0 : w.heap.size < w1.heap.size := by omega
    have e1_0 : ¬ w.heap.size = w1.heap.size := by omega
    have f1_0 : ¬ w1.heap.size = w.heap.size := by omega
    go_wp2_with fail
    go_ret2
    exact ⟨by rw [HE.out] <;> rfl, by go_grown⟩
  by_cases hz : x = 0 ∧ y = 0
  · have HE := Lib.hid (ocS_zero hv hz)
    have HV := Lib.hid hv
    have z0 : (x == 0) = true := beq_iff_eq.2 hz.1
    have z1 : (y == 0) = true := beq_iff_eq.2 hz.2
    clear hv hz
    go_enter Try.func17, Try.ntmps17
    go_wp2_with fail
    refine (rValid_any m x y _).mono ?_
    rw [HV.out]
    rintro e w1 ⟨rfl, hb⟩
    have T1_0 := (show H3 (_ : World) w.heap.size m x y from (by refine ⟨⟨?_, ?_, ?_⟩, ?_, ?_, ?_⟩ <;> first | go_cell | assumption)).keep hb
    have HB1 := Lib.hid (show Below w.heap.size w w1 from Below.trans (by go_grown) (hb.mono (by first | omega | (simp; done) | (simp; omega))))
    have hs1 : w.heap.size < w1.heap.size := by have h9 := hb.size; (try simp at h9); omega
    clear hb
    have hbl := HB1.out
    obtain ⟨⟨h1_0_0, h1_0_1, h1_0_2⟩, z1_0_0, z1_0_1, z1_0_2⟩ := T1_0
    have l1_0 : w.heap.size < w1.heap.size := by omega
    have e1_0 : ¬ w.heap.size = w1.heap.size := by omega
    have f1_0 : ¬ w1.heap.size = w.heap.size := by omega
    go_wp2_with fail
    go_ret2
    exact ⟨by rw [HE.out] <;> rfl, by go_grown⟩
  have HE := Lib.hid (ocS_ok hv hz)
  have hok : okV x y := ⟨(vf_prop hv).2.1, (vf_prop hv).2.2.1⟩
  have HO := Lib.hid (fun w => octR_three x y w hok (qd3 hz))
  have HV := Lib.hid hv
  have hcz : (x = 0 ∧ ¬ y = 0) ∨ ¬ x = 0 := by omega
  have zz : ((x == 0) = true ∧ (y == 0) = false) ∨ (x == 0) = false := by
    rcases hcz with h | h
    · exact Or.inl ⟨beq_iff_eq.2 h.1, beq_eq_false_iff_ne.2 h.2⟩
    · exact Or.inr (beq_eq_false_iff_ne.2 h)
  clear hv hz hok hcz
  go_enter Try.func17, Try.ntmps17
  go_wp2_with fail
  refine (rValid_any m x y _).mono ?_
  rw [HV.out]
  rintro e w1 ⟨rfl, hb⟩
  have T1_0 := (show H3 (_ : World) w.heap.size m x y from (by refine ⟨⟨?_, ?_, ?_⟩, ?_, ?_, ?_⟩ <;> first | go_cell | assumption)).keep hb
  have HB1 := Lib.hid (show Below w.heap.size w w1 from Below.trans (by go_grown) (hb.mono (by first | omega | (simp; done) | (simp; omega))))
  have hs1 : w.heap.size < w1.heap.size := by have h9 := hb.size; (try simp at h9); omega
  clear hb
  have hbl := HB1.out
  obtain ⟨⟨h1_0_0, h1_0_1, h1_0_2⟩, z1_0_0, z1_0_1, z1_0_2⟩ := T1_0
  have l1_0 : w.heap.size < w1.heap.size := by omega
  have e1_0 : ¬ w.heap.size = w1.heap.size := by omega
  have f1_0 : ¬ w1.heap.size = w.heap.size := by omega
  rcases zz with ⟨zz0, zz1⟩ | zz0
  · go_wp2_with fail
    refine (HO.out _).mono ?_
    rintro e w' ⟨rfl, rfl⟩
    go_wp2_with fail
    go_ret2
    exact ⟨by rw [HE.out] <;> rfl, by go_grown⟩
  · go_wp2_with fail
    refine (HO.out _).mono ?_
    rintro e w' ⟨rfl, rfl⟩
    go_wp2_with fail
    go_ret2
    exact ⟨by rw [HE.out] <;> rfl, by go_grown⟩
end Go.Proofs.Ytkcbkcgampoclaa
