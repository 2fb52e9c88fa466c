import Derived.Test.YtkcbkcgampoclaaFv9
namespace Prb
/-- The visibility of a fringe, or the error. -/
def gcV (m x y : Int) : Nat := Nat.gcd (x * x + y * y).natAbs (m * m).natAbs
def viS (m x y : Int) : (Int × Int) × Int :=
  if vfS m x y = true then (if m = 0 then ((0, 0), 5) else (((x * x + y * y) / (gcV m x y : Int), m * m / (gcV m x y : Int)), 0)) else ((0, 0), 90)
theorem viS_no {m x y : Int} (h : vfS m x y = false) : viS m x y = ((0, 0), 90) := by unfold viS; rw [h]; rfl
theorem viS_zero {m x y : Int} (h : vfS m x y = true) (g : m = 0) : viS m x y = ((0, 0), 5) := by unfold viS; rw [if_pos h, if_pos g]
theorem viS_ok {m x y : Int} (h : vfS m x y = true) (g : ¬ m = 0) : viS m x y = (((x * x + y * y) / (gcV m x y : Int), m * m / (gcV m x y : Int)), 0) := by unfold viS; rw [if_pos h, if_neg g]
theorem vf_prop {m x y : Int} (h : vfS m x y = true) : vfP m x y := of_decide_eq_true h
theorem vi_facts {m x y : Int} (h : vfS m x y = true) (hm : ¬ m = 0) : ∃ (n d g : Nat), x * x + y * y = n ∧ m * m = d ∧ gcV m x y = g ∧ Nat.gcd n d = g ∧ n ≤ d ∧ d ≤ 4000000000000 ∧ 0 < d ∧ 0 < g ∧ g ≤ d := by
  obtain ⟨m0, x0, y0, hq⟩ := vf_prop h
  have bx := sq_bd x0
  have by' := sq_bd y0
  have bm := sq_bd (x := m) (B := 2000000) (by omega)
  have hp : 0 < m * m := Int.mul_pos (by omega) (by omega)
  obtain ⟨n, hn⟩ := Int.eq_ofNat_of_zero_le (show 0 ≤ x * x + y * y by omega)
  obtain ⟨d, hd⟩ := Int.eq_ofNat_of_zero_le (show 0 ≤ m * m by omega)
  refine ⟨n, d, gcV m x y, hn, hd, rfl, ?_, by omega, by omega, by omega, ?_, ?_⟩
  · unfold gcV; rw [hn, hd]; rfl
  · unfold gcV; rw [hn, hd]; exact Nat.gcd_pos_of_pos_right _ (by show 0 < d; omega)
  · unfold gcV; rw [hn, hd]; exact Nat.gcd_le_right _ (by show 0 < d; omega)
theorem vi_range {m x y : Int} (h : vfS m x y = true) (hm : ¬ m = 0) : 0 ≤ (viS m x y).1.1 ∧ 1 ≤ (viS m x y).1.2 ∧ (viS m x y).1.1 ≤ (viS m x y).1.2 := by
  rw [viS_ok h hm]
  obtain ⟨n, d, g, e1, e2, e3, _, h1, _, h2, h3, h4⟩ := vi_facts h hm
  simp only [e1, e2, e3]
  refine ⟨Int.ediv_nonneg (by omega) (by omega), ?_, Int.ediv_le_ediv (by omega) (by omega)⟩
  exact (Int.le_ediv_iff_mul_le (by omega)).2 (by omega)
end Prb
namespace Go.Proofs.Ytkcbkcgampoclaa
open Go.RowKit Prb
def ViRet (s : (Int × Int) × Int) : Ending := .returned (.tuple #[.agg #[.int .i64 s.1.1, .int .i64 s.1.2], .int .i64 s.2])
set_option maxRecDepth 100000 in
set_option maxHeartbeats 4000000 in
theorem pGcd_any (a b : Nat) (w : World) (ha : a ≤ 4611686018427387904) (hb : b ≤ 4611686018427387904) :
    Calls Try.prog 26 #[.int .i64 a, .int .i64 b] w fun e w' => e = .returned (.int .i64 (Nat.gcd a b)) ∧ Below w.heap.size w w' := by
  go_enter Try.func26, Try.ntmps26
  go_wp2_with fail
  go_loopw [0, 1] (fun av bv wr => ∃ x y : Nat, av = .int .i64 x ∧ bv = .int .i64 y ∧ x ≤ 4611686018427387904 ∧ y ≤ 4611686018427387904 ∧ Hid (Nat.gcd x y = Nat.gcd a b) ∧ Hid (Below w.heap.size w wr)) (fun _ bv _ => (intOf bv).toNat)
  case atStart => exact ⟨a, b, rfl, rfl, ha, hb, Lib.hid rfl, Lib.hid (Below.refl _ _)⟩
  case round =>
    obtain ⟨x, y, rfl, rfl, hx, hy, HG, HB⟩ := hrel
    by_cases h0 : y = 0
    · have h1 : ((y : Int) != 0) = false := by simp [h0]
      have HE : Hid (x = Nat.gcd a b) := Lib.hid (by rw [← HG.out, h0, Nat.gcd_zero_right])
      clear h0
      go_wp2_with fail
      refine bodyPost_ret (v := .int .i64 x) (by simp [results, Try.results26, go_sem]) rfl ⟨by rw [← HE.out], HB.out⟩
    · have h1 : ((y : Int) != 0) = true := bne_iff_ne.2 (by omega)
      have hlt : x % y < y := Nat.mod_lt _ (by omega)
      have z0 : ((y : Int) == 0) = false := beq_eq_false_iff_ne.2 (by omega)
      have z1 : ¬ (y : Int) = 0 := by omega
      have z2 : ¬ (y : Int) = -1 := by omega
      have wt : (x : Int).tmod (y : Int) = ((x % y : Nat) : Int) := by
        rw [Int.tmod_eq_emod_of_nonneg (by omega)]
        exact (Int.natCast_emod x y).symm
      have ww : wrap64 ((x % y : Nat) : Int) = ((x % y : Nat) : Int) := by
        have : x % y ≤ 4611686018427387904 := by omega
        generalize x % y = r at *
        simp only [wrap64]; omega
      have HN : Hid (Nat.gcd y (x % y) = Nat.gcd a b) := Lib.hid (by rw [← HG.out, Nat.gcd_comm x y, Nat.gcd_rec y x, Nat.gcd_comm])
      go_upto_region 2 with fail
      go_quiet (fail)
      go_wp2_with fail
      go_roundw
      case rel => exact ⟨y, x % y, rfl, by first | rfl | rw [wt] | (rw [wt, ww]), hy, by omega, HN, Lib.hid (drewN_below HB.out)⟩
      case measure => first | (simp [intOf]; done) | (simp [intOf, wt, ww]; omega)
set_option maxRecDepth 100000 in
set_option maxHeartbeats 4000000 in
theorem pVisibility_any (m x y : Int) (w : World) : Calls Try.prog 14 #[.agg #[.int .i64 m, .int .i64 x, .int .i64 y]] w fun e w' => e = ViRet (viS m x y) ∧ Below w.heap.size w w' := by
  cases hv : vfS m x y
  · have HE := Lib.hid (viS_no hv)
    have HV := Lib.hid hv
    clear hv
    go_enter Try.func14, Try.ntmps14
    go_wp2_with fail
    refine (pValid_any _ _ _ _).mono ?_
    rw [HV.out]
    rintro e w5 ⟨rfl, hb5⟩
    have HT5 := (show H2 (_ : World) (w.heap.size + 1) 0 0 from (by refine ⟨⟨?_, ?_⟩, ?_, ?_⟩ <;> go_cell)).keep hb5
    have HF5 := (show H3 (_ : World) w.heap.size m x y from (by refine ⟨⟨?_, ?_, ?_⟩, ?_, ?_, ?_⟩ <;> go_cell)).keep hb5
    have HB := Lib.hid (show Below w.heap.size w w5 from Below.trans (by go_grown) (hb5.mono (by first | omega | (simp; done) | (simp; omega))))
    obtain ⟨⟨u0, u1⟩, g0, g1⟩ := HT5
    obtain ⟨⟨v0, v1, v2⟩, k0, k1, k2⟩ := HF5
    have hs5 : w.heap.size + 2 ≤ w5.heap.size := by have h9 := hb5.size; simp at h9; omega
    have hbl := HB.out
    clear hb5
    go_wp2_with fail
    refine bodyPost_ret (v := .tuple #[.agg #[.int .i64 (0), .int .i64 (0)], .int .i64 90]) (by simp [results, Try.results14, go_sem, *]) rfl ⟨by rw [HE.out]; rfl, by go_grown⟩
  by_cases hm : m = 0
  · have HE := Lib.hid (viS_zero hv hm)
    have HV := Lib.hid hv
    have hm1 : (m == 0) = true := beq_iff_eq.2 hm
    clear hv hm
    go_enter Try.func14, Try.ntmps14
    go_wp2_with fail
    refine (pValid_any _ _ _ _).mono ?_
    rw [HV.out]
    rintro e w5 ⟨rfl, hb5⟩
    have HT5 := (show H2 (_ : World) (w.heap.size + 1) 0 0 from (by refine ⟨⟨?_, ?_⟩, ?_, ?_⟩ <;> go_cell)).keep hb5
    have HF5 := (show H3 (_ : World) w.heap.size m x y from (by refine ⟨⟨?_, ?_, ?_⟩, ?_, ?_, ?_⟩ <;> go_cell)).keep hb5
    have HB := Lib.hid (show Below w.heap.size w w5 from Below.trans (by go_grown) (hb5.mono (by first | omega | (simp; done) | (simp; omega))))
    obtain ⟨⟨u0, u1⟩, g0, g1⟩ := HT5
    obtain ⟨⟨v0, v1, v2⟩, k0, k1, k2⟩ := HF5
    have hs5 : w.heap.size + 2 ≤ w5.heap.size := by have h9 := hb5.size; simp at h9; omega
    have hbl := HB.out
    clear hb5
    go_wp2_with fail
    refine bodyPost_ret (v := .tuple #[.agg #[.int .i64 (0), .int .i64 (0)], .int .i64 5]) (by simp [results, Try.results14, go_sem, *]) rfl ⟨by rw [HE.out]; rfl, by go_grown⟩
  · skip
    obtain ⟨n, d, g, e1, e2, e3, e4, h1, h2, h3, h4, h5⟩ := vi_facts hv hm
    have HE := Lib.hid (show viS m x y = ((((n / g : Nat) : Int), ((d / g : Nat) : Int)), 0) from by rw [viS_ok hv hm, e1, e2, e3]; rfl)
    obtain ⟨m0, x0, y0, hq⟩ := vf_prop hv
    have bx := sq_bd x0
    have by' := sq_bd y0
    have wx : wrap64 (x * x) = x * x := by simp only [wrap64]; omega
    have wy : wrap64 (y * y) = y * y := by simp only [wrap64]; omega
    have wm : wrap64 (m * m) = (d : Int) := by rw [e2]; simp only [wrap64]; omega
    have ws : wrap64 (x * x + y * y) = (n : Int) := by rw [e1]; simp only [wrap64]; omega
    have hm1 : (m == 0) = false := beq_eq_false_iff_ne.2 hm
    have hng : n / g ≤ n := Nat.div_le_self _ _
    have hdg : d / g ≤ d := Nat.div_le_self _ _
    have gz : ¬ (g : Int) = 0 := by omega
    have gz1 : ¬ (g : Int) = -1 := by omega
    have gz2 : ((g : Int) == 0) = false := beq_eq_false_iff_ne.2 gz
    have tn : (n : Int).tdiv (g : Int) = ((n / g : Nat) : Int) := by rw [Int.tdiv_eq_ediv_of_nonneg (by omega)]; rfl
    have td : (d : Int).tdiv (g : Int) = ((d / g : Nat) : Int) := by rw [Int.tdiv_eq_ediv_of_nonneg (by omega)]; rfl
    have tn' : wrap64 ((n / g : Nat) : Int) = ((n / g : Nat) : Int) := by generalize n / g = r at *; simp only [wrap64]; omega
    have td' : wrap64 ((d / g : Nat) : Int) = ((d / g : Nat) : Int) := by generalize d / g = r at *; simp only [wrap64]; omega
    have tn2 : wrap64 ((n : Int) / (g : Int)) = (n : Int) / (g : Int) := by rw [← Int.natCast_ediv]; exact tn'
    have td2 : wrap64 ((d : Int) / (g : Int)) = (d : Int) / (g : Int) := by rw [← Int.natCast_ediv]; exact td'
    have HG := Lib.hid (And.intro e4 (And.intro h1 (And.intro h2 (And.intro h3 h4))))
    have HV := Lib.hid hv
    clear hv e1 e2 e3 e4 m0 x0 y0 hq bx by' h5 hm hng hdg
    go_enter Try.func14, Try.ntmps14
    go_wp2_with fail
    refine (pValid_any _ _ _ _).mono ?_
    rw [HV.out]
    rintro e w5 ⟨rfl, hb5⟩
    have HT5 := (show H2 (_ : World) (w.heap.size + 1) 0 0 from (by refine ⟨⟨?_, ?_⟩, ?_, ?_⟩ <;> go_cell)).keep hb5
    have HF5 := (show H3 (_ : World) w.heap.size m x y from (by refine ⟨⟨?_, ?_, ?_⟩, ?_, ?_, ?_⟩ <;> go_cell)).keep hb5
    have HB := Lib.hid (show Below w.heap.size w w5 from Below.trans (by go_grown) (hb5.mono (by first | omega | (simp; done) | (simp; omega))))
    obtain ⟨⟨u0, u1⟩, g0, g1⟩ := HT5
    obtain ⟨⟨v0, v1, v2⟩, k0, k1, k2⟩ := HF5
    have hs5 : w.heap.size + 2 ≤ w5.heap.size := by have h9 := hb5.size; simp at h9; omega
    have hbl := HB.out
    clear hb5
    go_upto_region 5 with fail
    go_quiet (fail)
    go_wp2_with fail
    refine (pGcd_any n d _ (by have := HG.out; omega) (by have := HG.out; omega)).mono ?_
    rw [HG.out.1]
    rintro e w6 ⟨rfl, hb6⟩
    have HT6 := (show H2 (_ : World) (w.heap.size + 1) 0 0 from (by refine ⟨⟨?_, ?_⟩, ?_, ?_⟩ <;> first | assumption | go_cell)).keep hb6
    have HB6 := Lib.hid ((drewN_below HB.out).trans (hb6.mono (by first | exact HB.out.size | (simp; done) | (simp; omega))))
    clear HB hbl u0 u1 g0 g1 hb6 v0 v1 v2 k0 k1 k2 hs5
    obtain ⟨⟨u0, u1⟩, g0, g1⟩ := HT6
    have hbl := HB6.out
    go_upto_region 7 with fail
    go_region
    all_goals go_wp2_with fail
    all_goals (refine bodyPost_ret (v := .tuple #[.agg #[.int .i64 (((n / g : Nat) : Int)), .int .i64 (((d / g : Nat) : Int))], .int .i64 0]) (by simp [results, Try.results14, go_sem, *]) rfl ⟨by rw [HE.out]; rfl, by go_grown⟩)
set_option maxRecDepth 100000 in
set_option maxHeartbeats 4000000 in
theorem rVisibility_any (m x y : Int) (w : World) : Calls Try.prog 15 #[.agg #[.int .i64 m, .int .i64 x, .int .i64 y]] w fun e w' => e = ViRet (viS m x y) ∧ Below w.heap.size w w' := by
  cases hv : vfS m x y
  · have HE := Lib.hid (viS_no hv)
    have HV := Lib.hid hv
    clear hv
    go_enter Try.func15, Try.ntmps15
    go_wp2_with fail
    refine (rValid_any _ _ _ _).mono ?_
    rw [HV.out]
    rintro e w5 ⟨rfl, hb5⟩
    have HT5 := (show H2 (_ : World) (w.heap.size + 1) 0 0 from (by refine ⟨⟨?_, ?_⟩, ?_, ?_⟩ <;> go_cell)).keep hb5
    have HF5 := (show H3 (_ : World) w.heap.size m x y from (by refine ⟨⟨?_, ?_, ?_⟩, ?_, ?_, ?_⟩ <;> go_cell)).keep hb5
    have HB := Lib.hid (show Below w.heap.size w w5 from Below.trans (by go_grown) (hb5.mono (by first | omega | (simp; done) | (simp; omega))))
    obtain ⟨⟨u0, u1⟩, g0, g1⟩ := HT5
    obtain ⟨⟨v0, v1, v2⟩, k0, k1, k2⟩ := HF5
    have hs5 : w.heap.size + 2 ≤ w5.heap.size := by have h9 := hb5.size; simp at h9; omega
    have hbl := HB.out
    clear hb5
    go_wp2_with fail
    refine bodyPost_ret (v := .tuple #[.agg #[.int .i64 (0), .int .i64 (0)], .int .i64 90]) (by simp [results, Try.results15, go_sem, *]) rfl ⟨by rw [HE.out]; rfl, by go_grown⟩
  by_cases hm : m = 0
  · have HE := Lib.hid (viS_zero hv hm)
    have HV := Lib.hid hv
    have hm1 : (m == 0) = true := beq_iff_eq.2 hm
    clear hv hm
    go_enter Try.func15, Try.ntmps15
    go_wp2_with fail
    refine (rValid_any _ _ _ _).mono ?_
    rw [HV.out]
    rintro e w5 ⟨rfl, hb5⟩
    have HT5 := (show H2 (_ : World) (w.heap.size + 1) 0 0 from (by refine ⟨⟨?_, ?_⟩, ?_, ?_⟩ <;> go_cell)).keep hb5
    have HF5 := (show H3 (_ : World) w.heap.size m x y from (by refine ⟨⟨?_, ?_, ?_⟩, ?_, ?_, ?_⟩ <;> go_cell)).keep hb5
    have HB := Lib.hid (show Below w.heap.size w w5 from Below.trans (by go_grown) (hb5.mono (by first | omega | (simp; done) | (simp; omega))))
    obtain ⟨⟨u0, u1⟩, g0, g1⟩ := HT5
    obtain ⟨⟨v0, v1, v2⟩, k0, k1, k2⟩ := HF5
    have hs5 : w.heap.size + 2 ≤ w5.heap.size := by have h9 := hb5.size; simp at h9; omega
    have hbl := HB.out
    clear hb5
    go_wp2_with fail
    refine bodyPost_ret (v := .tuple #[.agg #[.int .i64 (0), .int .i64 (0)], .int .i64 5]) (by simp [results, Try.results15, go_sem, *]) rfl ⟨by rw [HE.out]; rfl, by go_grown⟩
  · skip
    obtain ⟨n, d, g, e1, e2, e3, e4, h1, h2, h3, h4, h5⟩ := vi_facts hv hm
    have HE := Lib.hid (show viS m x y = ((((n / g : Nat) : Int), ((d / g : Nat) : Int)), 0) from by rw [viS_ok hv hm, e1, e2, e3]; rfl)
    obtain ⟨m0, x0, y0, hq⟩ := vf_prop hv
    have bx := sq_bd x0
    have by' := sq_bd y0
    have wx : wrap64 (x * x) = x * x := by simp only [wrap64]; omega
    have wy : wrap64 (y * y) = y * y := by simp only [wrap64]; omega
    have wm : wrap64 (m * m) = (d : Int) := by rw [e2]; simp only [wrap64]; omega
    have ws : wrap64 (x * x + y * y) = (n : Int) := by rw [e1]; simp only [wrap64]; omega
    have hm1 : (m == 0) = false := beq_eq_false_iff_ne.2 hm
    have hng : n / g ≤ n := Nat.div_le_self _ _
    have hdg : d / g ≤ d := Nat.div_le_self _ _
    have gz : ¬ (g : Int) = 0 := by omega
    have gz1 : ¬ (g : Int) = -1 := by omega
    have gz2 : ((g : Int) == 0) = false := beq_eq_false_iff_ne.2 gz
    have tn : (n : Int).tdiv (g : Int) = ((n / g : Nat) : Int) := by rw [Int.tdiv_eq_ediv_of_nonneg (by omega)]; rfl
    have td : (d : Int).tdiv (g : Int) = ((d / g : Nat) : Int) := by rw [Int.tdiv_eq_ediv_of_nonneg (by omega)]; rfl
    have tn' : wrap64 ((n / g : Nat) : Int) = ((n / g : Nat) : Int) := by generalize n / g = r at *; simp only [wrap64]; omega
    have td' : wrap64 ((d / g : Nat) : Int) = ((d / g : Nat) : Int) := by generalize d / g = r at *; simp only [wrap64]; omega
    have tn2 : wrap64 ((n : Int) / (g : Int)) = (n : Int) / (g : Int) := by rw [← Int.natCast_ediv]; exact tn'
    have td2 : wrap64 ((d : Int) / (g : Int)) = (d : Int) / (g : Int) := by rw [← Int.natCast_ediv]; exact td'
    have HG := Lib.hid (And.intro e4 (And.intro h1 (And.intro h2 (And.intro h3 h4))))
    have HV := Lib.hid hv
    clear hv e1 e2 e3 e4 m0 x0 y0 hq bx by' h5 hm hng hdg
    go_enter Try.func15, Try.ntmps15
    go_wp2_with fail
    refine (rValid_any _ _ _ _).mono ?_
    rw [HV.out]
    rintro e w5 ⟨rfl, hb5⟩
    have HT5 := (show H2 (_ : World) (w.heap.size + 1) 0 0 from (by refine ⟨⟨?_, ?_⟩, ?_, ?_⟩ <;> go_cell)).keep hb5
    have HF5 := (show H3 (_ : World) w.heap.size m x y from (by refine ⟨⟨?_, ?_, ?_⟩, ?_, ?_, ?_⟩ <;> go_cell)).keep hb5
    have HB := Lib.hid (show Below w.heap.size w w5 from Below.trans (by go_grown) (hb5.mono (by first | omega | (simp; done) | (simp; omega))))
    obtain ⟨⟨u0, u1⟩, g0, g1⟩ := HT5
    obtain ⟨⟨v0, v1, v2⟩, k0, k1, k2⟩ := HF5
    have hs5 : w.heap.size + 2 ≤ w5.heap.size := by have h9 := hb5.size; simp at h9; omega
    have hbl := HB.out
    clear hb5
    go_upto_region 5 with fail
    go_quiet (fail)
    go_wp2_with fail
    go_loopw [6, 7] (fun av bv wr => ∃ p q : Nat, av = .int .i64 p ∧ bv = .int .i64 q ∧ p ≤ 4000000000000 ∧ q ≤ 4000000000000 ∧ Hid (Nat.gcd p q = g) ∧ Hid (H2 wr (w.heap.size + 1) 0 0) ∧ Hid (Below w.heap.size w wr)) (fun _ bv _ => (intOf bv).toNat)
    case atStart => exact ⟨n, d, by first | rfl | rw [ws], by first | rfl | rw [wm], by have := HG.out; omega, by have := HG.out; omega, Lib.hid HG.out.1, Lib.hid (by refine ⟨⟨?_, ?_⟩, ?_, ?_⟩ <;> first | assumption | go_cell), Lib.hid (drewN_below HB.out)⟩
    case round =>
      obtain ⟨p, q, rfl, rfl, hp, hq, HQ, HT6, HB6⟩ := hrel
      clear HB hbl u0 u1 g0 g1 v0 v1 v2 k0 k1 k2 hs5
      by_cases h0 : q = 0
      · have h1 : ¬ (0 : Int) < (q : Int) := by omega
        have HQ2 : Hid (p = g) := Lib.hid (by rw [← HQ.out, h0, Nat.gcd_zero_right])
        obtain rfl := HQ2.out
        clear h0 HQ2 HQ
        obtain ⟨⟨u0, u1⟩, g0, g1⟩ := HT6.out
        have hbl := HB6.out
        go_wp2_with fail
        go_upto_region 9 with fail
        go_region
        all_goals go_wp2_with fail
        all_goals (refine bodyPost_ret (v := .tuple #[.agg #[.int .i64 (((n / p : Nat) : Int)), .int .i64 (((d / p : Nat) : Int))], .int .i64 0]) (by simp [results, Try.results15, go_sem, *]) rfl ⟨by rw [HE.out]; rfl, by go_grown⟩)
      · clear ws wm wx wy tn td tn' td' tn2 td2 gz gz1 gz2 HE HV HG
        have h1 : (0 : Int) < (q : Int) := by omega
        have hlt : p % q < q := Nat.mod_lt _ (by omega)
        have z0 : ((q : Int) == 0) = false := beq_eq_false_iff_ne.2 (by omega)
        have z1 : ¬ (q : Int) = 0 := by omega
        have z2 : ¬ (q : Int) = -1 := by omega
        have wt : (p : Int).tmod (q : Int) = ((p % q : Nat) : Int) := by
          rw [Int.tmod_eq_emod_of_nonneg (by omega)]
          exact (Int.natCast_emod p q).symm
        have ww : wrap64 ((p % q : Nat) : Int) = ((p % q : Nat) : Int) := by
          have : p % q ≤ 4000000000000 := by omega
          generalize p % q = r at *
          simp only [wrap64]; omega
        have HN : Hid (Nat.gcd q (p % q) = g) := Lib.hid (by rw [← HQ.out, Nat.gcd_comm p q, Nat.gcd_rec q p, Nat.gcd_comm])
        go_upto_region 8 with fail
        go_quiet (fail)
        go_wp2_with fail
        go_roundw
        case rel => exact ⟨q, p % q, rfl, by first | rfl | rw [wt] | (rw [wt, ww]), hq, Nat.le_trans (Nat.le_of_lt hlt) hq, HN, Lib.hid (by obtain ⟨⟨u0, u1⟩, g0, g1⟩ := HT6.out; refine ⟨⟨?_, ?_⟩, ?_, ?_⟩ <;> first | assumption | go_cell), Lib.hid (drewN_below HB6.out)⟩
        case measure => first | (simp [intOf]; done) | (simp [intOf, wt, ww]; omega)
end Go.Proofs.Ytkcbkcgampoclaa
