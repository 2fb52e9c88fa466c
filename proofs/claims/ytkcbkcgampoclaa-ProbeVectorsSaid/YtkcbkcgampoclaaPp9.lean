import Derived.Test.YtkcbkcgampoclaaPo9
import Derived.Deep.RegionHeld2
import Derived.Deep.DeepCutAuto
namespace Prb
/-- The octant of a fringe, or the error. -/
def ocS (m x y : Int) : Int × Int := if vfS m x y = true then (if x = 0 ∧ y = 0 then (0, 5) else (Amp.octS x y, 0)) else (0, 90)
theorem ocS_no {m x y : Int} (h : vfS m x y = false) : ocS m x y = (0, 90) := by unfold ocS; rw [h]; rfl
theorem ocS_zero {m x y : Int} (h : vfS m x y = true) (g : x = 0 ∧ y = 0) : ocS m x y = (0, 5) := by unfold ocS; rw [if_pos h, if_pos g]
theorem ocS_ok {m x y : Int} (h : vfS m x y = true) (g : ¬ (x = 0 ∧ y = 0)) : ocS m x y = (Amp.octS x y, 0) := by unfold ocS; rw [if_pos h, if_neg g]
end Prb
namespace Go.Proofs.Ytkcbkcgampoclaa
open Go.RowKit Amp Prb
theorem act_all9 : (∀ (a : Act) (v : Value), a.put none v = a) ∧ (∀ (a : Act) (d : Tmp) (v : Value), a.put (some d) v = { a with tmps := a.tmps.setIfInBounds d v }) ∧ (∀ {α : Type} (l : List α) (i : Nat) (v : α), l.toArray.setIfInBounds i v = (l.set i v).toArray) ∧ (∀ {α : Type} (x : α) (l : List α) (v : α), (x :: l).set 0 v = v :: l) ∧ (∀ {α : Type} (x : α) (l : List α) (n : Nat) (v : α), (x :: l).set (n + 1) v = x :: l.set n v) :=
  ⟨fun _ _ => rfl, fun _ _ _ => rfl, fun l i v => List.setIfInBounds_toArray l i v, fun _ _ _ => rfl, fun _ _ _ _ => rfl⟩
theorem along_at (x y z : Int) (k : Nat) (hz : z = k) (hk : k < 8) (hxy : okV x y) (p q n : Int) (hp : alP x y k = p) (hq : alQ x y k = q) (hn : -q = n) (w : World) :
    Calls Try.prog 27 #[.agg #[.int .i64 x, .int .i64 0, .int .i64 y, .int .i64 0, .int .i64 0], .int .i64 z] w fun e w' => e = .returned (.agg #[.int .i64 p, .int .i64 q, .int .i64 0, .int .i64 n, .int .i64 0]) ∧ Below w.heap.size w w' := by
  subst hz; subst hp; subst hq; subst hn
  exact along_any x y k hk hxy w
def OcRet (s : Int × Int) : Ending := .returned (.tuple #[.int .i64 s.1, .int .i64 s.2])
set_option maxRecDepth 100000 in
set_option maxHeartbeats 8000000 in
theorem pOctant_any (m x y : Int) (w : World) : Calls Try.prog 16 #[.agg #[.int .i64 m, .int .i64 x, .int .i64 y]] w fun e w' => e = OcRet (ocS m x y) ∧ Below w.heap.size w w' := by
  cases hv : vfS m x y
  · have HE := Lib.hid (ocS_no hv)
    have HV := Lib.hid hv
    clear hv
    go_enter Try.func16, Try.ntmps16
    go_wp2_with fail
    refine (pValid_any m x y _).mono ?_
    rw [HV.out]
    rintro e w1 ⟨rfl, hb⟩
    have T1_0 := (show H3 (_ : World) w.heap.size m x y from (by refine ⟨⟨?_, ?_, ?_⟩, ?_, ?_, ?_⟩ <;> first | go_cell | assumption)).keep hb
    have HB1 := Lib.hid (show Below w.heap.size w w1 from Below.trans (by go_grown) (hb.mono (by first | omega | (simp; done) | (simp; omega))))
    have hs1 : w.heap.size < w1.heap.size := by have h9 := hb.size; (try simp at h9); omega
    clear hb
    have hbl := HB1.out
    obtain ⟨⟨h1_0_0, h1_0_1, h1_0_2⟩, z1_0_0, z1_0_1, z1_0_2⟩ := T1_0
    have l1_0 : w.heap.size < w1.heap.size := by omega
    have e1_0 : ¬ w.heap.size = w1.heap.size := by omega
    have f1_0 : ¬ w1.heap.size = w.heap.size := by omega
    go_wp2_with fail
    go_ret2
    exact ⟨by rw [HE.out] <;> rfl, by go_grown⟩
  by_cases hz : x = 0 ∧ y = 0
  · have HE := Lib.hid (ocS_zero hv hz)
    have HV := Lib.hid hv
    have z0 : (x == 0) = true := beq_iff_eq.2 hz.1
    have z1 : (y == 0) = true := beq_iff_eq.2 hz.2
    clear hv hz
    go_enter Try.func16, Try.ntmps16
    go_wp2_with fail
    refine (pValid_any m x y _).mono ?_
    rw [HV.out]
    rintro e w1 ⟨rfl, hb⟩
    have T1_0 := (show H3 (_ : World) w.heap.size m x y from (by refine ⟨⟨?_, ?_, ?_⟩, ?_, ?_, ?_⟩ <;> first | go_cell | assumption)).keep hb
    have HB1 := Lib.hid (show Below w.heap.size w w1 from Below.trans (by go_grown) (hb.mono (by first | omega | (simp; done) | (simp; omega))))
    have hs1 : w.heap.size < w1.heap.size := by have h9 := hb.size; (try simp at h9); omega
    clear hb
    have hbl := HB1.out
    obtain ⟨⟨h1_0_0, h1_0_1, h1_0_2⟩, z1_0_0, z1_0_1, z1_0_2⟩ := T1_0
    have l1_0 : w.heap.size < w1.heap.size := by omega
    have e1_0 : ¬ w.heap.size = w1.heap.size := by omega
    have f1_0 : ¬ w1.heap.size = w.heap.size := by omega
    go_wp2_with fail
    go_ret2
    exact ⟨by rw [HE.out] <;> rfl, by go_grown⟩
  have HE := Lib.hid (ocS_ok hv hz)
  have HB7 := Lib.hid (best_oct hz)
  have hok : okV x y := ⟨(vf_prop hv).2.1, (vf_prop hv).2.2.1⟩
  have HOK := Lib.hid hok
  have HV := Lib.hid hv
  have hcz : (x = 0 ∧ ¬ y = 0) ∨ ¬ x = 0 := by omega
  have zz : ((x == 0) = true ∧ (y == 0) = false) ∨ (x == 0) = false := by
    rcases hcz with h | h
    · exact Or.inl ⟨beq_iff_eq.2 h.1, beq_eq_false_iff_ne.2 h.2⟩
    · exact Or.inr (beq_eq_false_iff_ne.2 h)
  clear hv hz hok hcz
  go_enter Try.func16, Try.ntmps16
  go_wp2_with fail
  refine (pValid_any m x y _).mono ?_
  rw [HV.out]
  rintro e w1 ⟨rfl, hb⟩
  have T1_0 := (show H3 (_ : World) w.heap.size m x y from (by refine ⟨⟨?_, ?_, ?_⟩, ?_, ?_, ?_⟩ <;> first | go_cell | assumption)).keep hb
  have HB1 := Lib.hid (show Below w.heap.size w w1 from Below.trans (by go_grown) (hb.mono (by first | omega | (simp; done) | (simp; omega))))
  have hs1 : w.heap.size < w1.heap.size := by have h9 := hb.size; (try simp at h9); omega
  clear hb
  have hbl := HB1.out
  obtain ⟨⟨h1_0_0, h1_0_1, h1_0_2⟩, z1_0_0, z1_0_1, z1_0_2⟩ := T1_0
  have l1_0 : w.heap.size < w1.heap.size := by omega
  have e1_0 : ¬ w.heap.size = w1.heap.size := by omega
  have f1_0 : ¬ w1.heap.size = w.heap.size := by omega
  rcases zz with ⟨zz0, zz1⟩ | zz0
  · obtain ⟨p0, hp0⟩ : ∃ p, alP x y 0 = p := ⟨_, rfl⟩
    obtain ⟨q0, hq0⟩ : ∃ q, alQ x y 0 = q := ⟨_, rfl⟩
    obtain ⟨n0, hn0⟩ : ∃ n, -q0 = n := ⟨_, rfl⟩
    have HPQ := Lib.hid (And.intro hp0 (And.intro hq0 hn0))
    clear hp0 hq0 hn0
    go_wp2_with fail
    refine (along_at x y 0 0 rfl (by decide) HOK.out p0 q0 n0 HPQ.out.1 HPQ.out.2.1 HPQ.out.2.2 _).mono ?_
    rintro e w2 ⟨rfl, hb⟩
    have T2_0 := (show H3 (_ : World) w.heap.size m x y from (by refine ⟨⟨?_, ?_, ?_⟩, ?_, ?_, ?_⟩ <;> first | go_cell | assumption)).keep hb
    have T2_1 := (show H5 (_ : World) w1.heap.size x 0 y 0 0 from (by refine ⟨⟨?_, ?_, ?_, ?_, ?_⟩, ?_, ?_, ?_, ?_, ?_⟩ <;> first | go_cell | assumption)).keep hb
    have HB2 := Lib.hid (show Below w.heap.size w w2 from Below.trans (by go_grown) (hb.mono (by first | omega | (simp; done) | (simp; omega))))
    have hs2 : w1.heap.size < w2.heap.size := by have h9 := hb.size; (try simp at h9); omega
    clear hb hbl h1_0_0 h1_0_1 h1_0_2 z1_0_0 z1_0_1 z1_0_2
    have hbl := HB2.out
    obtain ⟨⟨h2_0_0, h2_0_1, h2_0_2⟩, z2_0_0, z2_0_1, z2_0_2⟩ := T2_0
    obtain ⟨⟨h2_1_0, h2_1_1, h2_1_2, h2_1_3, h2_1_4⟩, z2_1_0, z2_1_1, z2_1_2, z2_1_3, z2_1_4⟩ := T2_1
    have l2_0 : w.heap.size < w2.heap.size := by omega
    have e2_0 : ¬ w.heap.size = w2.heap.size := by omega
    have f2_0 : ¬ w2.heap.size = w.heap.size := by omega
    have l2_1 : w1.heap.size < w2.heap.size := by omega
    have e2_1 : ¬ w1.heap.size = w2.heap.size := by omega
    have f2_1 : ¬ w2.heap.size = w1.heap.size := by omega
    go_wp2_with fail
    go_loopw [5, 7] (fun ov iv wr => ∃ (z o : Int) (j : Nat), ov = .int .i64 o ∧ iv = .int .i64 z ∧ z = (j : Int) + 1 ∧ j ≤ 7 ∧ Hid (o = (bestO x y j : Int)) ∧ Hid (∃ p q n, alP x y (bestO x y j) = p ∧ alQ x y (bestO x y j) = q ∧ -q = n ∧ H5 wr w2.heap.size p q 0 n 0) ∧ Hid (H5 wr w1.heap.size x 0 y 0 0) ∧ Hid (Below w.heap.size w wr) ∧ w2.heap.size < wr.heap.size) (fun _ iv _ => 8 - (intOf iv).toNat)
    case atStart => exact ⟨1, 0, 0, rfl, rfl, rfl, by omega, Lib.hid rfl, Lib.hid ⟨p0, q0, n0, HPQ.out.1, HPQ.out.2.1, HPQ.out.2.2, by refine ⟨⟨?_, ?_, ?_, ?_, ?_⟩, ?_, ?_, ?_, ?_, ?_⟩ <;> first | go_cell | assumption⟩, Lib.hid (by refine ⟨⟨?_, ?_, ?_, ?_, ?_⟩, ?_, ?_, ?_, ?_, ?_⟩ <;> first | go_cell | assumption), Lib.hid (by go_grown), by simp⟩
    case round =>
      obtain ⟨z, o, j, rfl, rfl, hz, hj, HO, HM, HVc, HBr, hsr⟩ := hrel
      clear hbl hs2 h2_0_0 h2_0_1 h2_0_2 z2_0_0 z2_0_1 z2_0_2 h2_1_0 h2_1_1 h2_1_2 h2_1_3 h2_1_4 z2_1_0 z2_1_1 z2_1_2 z2_1_3 z2_1_4
      have hbl := HBr.out
      have lr0 : w1.heap.size < wr.heap.size := by omega
      have lr1 : ¬ w1.heap.size = wr.heap.size := by omega
      have lr2 : ¬ w2.heap.size = wr.heap.size := by omega
      by_cases hlt : j < 7
      · have hlt' : z < 8 := by omega
        obtain ⟨pb, qb, nb, hpb, hqb, hnb, hM⟩ := HM.out
        obtain ⟨⟨m0, m1, m2, m3, m4⟩, mf0, mf1, mf2, mf3, mf4⟩ := hM
        obtain ⟨⟨u0, u1, u2, u3, u4⟩, uf0, uf1, uf2, uf3, uf4⟩ := HVc.out
        obtain ⟨p1, hp1⟩ : ∃ p, alP x y (j + 1) = p := ⟨_, rfl⟩
        obtain ⟨q1, hq1⟩ : ∃ q, alQ x y (j + 1) = q := ⟨_, rfl⟩
        obtain ⟨n1, hn1⟩ : ∃ n, -q1 = n := ⟨_, rfl⟩
        obtain ⟨c, hc⟩ : ∃ c, cpS x y (j + 1) (bestO x y j) = c := ⟨_, rfl⟩
        have HC : Hid (cmpS ⟨⟨p1, q1, 0, n1⟩, 0⟩ ⟨⟨pb, qb, 0, nb⟩, 0⟩ = (c, 0)) := Lib.hid (by have h := cmS HOK.out (j + 1) (bestO x y j); unfold alS at h; rw [hp1, hq1, hpb, hqb, hn1, hnb, hc] at h; exact h)
        have HPQ1 := Lib.hid (And.intro hp1 (And.intro hq1 hn1))
        have HPQb := Lib.hid (And.intro hpb (And.intro hqb hnb))
        have HCC := Lib.hid hc
        have HJ := Lib.hid (And.intro hz (And.intro hj hlt))
        clear hp1 hq1 hn1 hpb hqb hnb hc HM HVc HBr HPQ hz hj hlt
        go_wp2_with fail
        refine (along_at x y z (j + 1) (by have h9 := HJ.out; omega) (by have h9 := HJ.out; omega) HOK.out p1 q1 n1 HPQ1.out.1 HPQ1.out.2.1 HPQ1.out.2.2 _).mono ?_
        rintro e w3 ⟨rfl, hb⟩
        have T3_0 := (show H5 (_ : World) w1.heap.size x 0 y 0 0 from (by refine ⟨⟨?_, ?_, ?_, ?_, ?_⟩, ?_, ?_, ?_, ?_, ?_⟩ <;> first | go_cell | assumption)).keep hb
        have T3_1 := (show H5 (_ : World) w2.heap.size pb qb 0 nb 0 from (by refine ⟨⟨?_, ?_, ?_, ?_, ?_⟩, ?_, ?_, ?_, ?_, ?_⟩ <;> first | go_cell | assumption)).keep hb
        have HB3 := Lib.hid (show Below w.heap.size w w3 from Below.trans (by go_grown) (hb.mono (by first | omega | (simp; done) | (simp; omega))))
        have hs3 : w2.heap.size < w3.heap.size := by have h9 := hb.size; (try simp at h9); omega
        clear hb hbl m0 m1 m2 m3 m4 mf0 mf1 mf2 mf3 mf4 u0 u1 u2 u3 u4 uf0 uf1 uf2 uf3 uf4
        have hbl := HB3.out
        obtain ⟨⟨h3_0_0, h3_0_1, h3_0_2, h3_0_3, h3_0_4⟩, z3_0_0, z3_0_1, z3_0_2, z3_0_3, z3_0_4⟩ := T3_0
        obtain ⟨⟨h3_1_0, h3_1_1, h3_1_2, h3_1_3, h3_1_4⟩, z3_1_0, z3_1_1, z3_1_2, z3_1_3, z3_1_4⟩ := T3_1
        have l3_0 : w1.heap.size < w3.heap.size := by omega
        have e3_0 : ¬ w1.heap.size = w3.heap.size := by omega
        have f3_0 : ¬ w3.heap.size = w1.heap.size := by omega
        have l3_1 : w2.heap.size < w3.heap.size := by omega
        have e3_1 : ¬ w2.heap.size = w3.heap.size := by omega
        have f3_1 : ¬ w3.heap.size = w2.heap.size := by omega
        clear lr0 lr1 lr2 hsr
        go_wp2_with fail
        refine (Cmp_any _ _ _ _ _ _ _ _ _ _ _).mono ?_
        rw [HC.out]
        rintro e w4 ⟨rfl, hb⟩
        have T4_0 := (show H5 (_ : World) w1.heap.size x 0 y 0 0 from (by refine ⟨⟨?_, ?_, ?_, ?_, ?_⟩, ?_, ?_, ?_, ?_, ?_⟩ <;> first | go_cell | assumption)).keep hb
        have T4_1 := (show H5 (_ : World) w2.heap.size pb qb 0 nb 0 from (by refine ⟨⟨?_, ?_, ?_, ?_, ?_⟩, ?_, ?_, ?_, ?_, ?_⟩ <;> first | go_cell | assumption)).keep hb
        have T4_2 := (show H5 (_ : World) w3.heap.size p1 q1 0 n1 0 from (by refine ⟨⟨?_, ?_, ?_, ?_, ?_⟩, ?_, ?_, ?_, ?_, ?_⟩ <;> first | go_cell | assumption)).keep hb
        have HB4 := Lib.hid (show Below w.heap.size w w4 from Below.trans (by go_grown) (hb.mono (by first | omega | (simp; done) | (simp; omega))))
        have hs4 : w3.heap.size < w4.heap.size := by have h9 := hb.size; (try simp at h9); omega
        clear hb hbl h3_0_0 h3_0_1 h3_0_2 h3_0_3 h3_0_4 z3_0_0 z3_0_1 z3_0_2 z3_0_3 z3_0_4 h3_1_0 h3_1_1 h3_1_2 h3_1_3 h3_1_4 z3_1_0 z3_1_1 z3_1_2 z3_1_3 z3_1_4
        have hbl := HB4.out
        obtain ⟨⟨h4_0_0, h4_0_1, h4_0_2, h4_0_3, h4_0_4⟩, z4_0_0, z4_0_1, z4_0_2, z4_0_3, z4_0_4⟩ := T4_0
        obtain ⟨⟨h4_1_0, h4_1_1, h4_1_2, h4_1_3, h4_1_4⟩, z4_1_0, z4_1_1, z4_1_2, z4_1_3, z4_1_4⟩ := T4_1
        obtain ⟨⟨h4_2_0, h4_2_1, h4_2_2, h4_2_3, h4_2_4⟩, z4_2_0, z4_2_1, z4_2_2, z4_2_3, z4_2_4⟩ := T4_2
        have l4_0 : w1.heap.size < w4.heap.size := by omega
        have e4_0 : ¬ w1.heap.size = w4.heap.size := by omega
        have f4_0 : ¬ w4.heap.size = w1.heap.size := by omega
        have l4_1 : w2.heap.size < w4.heap.size := by omega
        have e4_1 : ¬ w2.heap.size = w4.heap.size := by omega
        have f4_1 : ¬ w4.heap.size = w2.heap.size := by omega
        have l4_2 : w3.heap.size < w4.heap.size := by omega
        have e4_2 : ¬ w3.heap.size = w4.heap.size := by omega
        have f4_2 : ¬ w4.heap.size = w3.heap.size := by omega
        have wz : wrap64 (z + 1) = z + 1 := by have := HJ.out; simp only [wrap64]; omega
        by_cases hc0 : 0 < c
        · have HBE : Hid (bestO x y (j + 1) = j + 1) := Lib.hid (by show (if 0 < cpS x y (j + 1) (bestO x y j) then j + 1 else bestO x y j) = j + 1; rw [HCC.out, if_pos hc0])
          go_upto_region 13 with fail
          refine wp_region_held_drew (S := fun w' => w'.cell? ⟨w3.heap.size, 0, none⟩ = some (.int .i64 p1) ∧ w'.cell? ⟨w3.heap.size, 1, none⟩ = some (.int .i64 q1) ∧ w'.cell? ⟨w3.heap.size, 2, none⟩ = some (.int .i64 0) ∧ w'.cell? ⟨w3.heap.size, 3, none⟩ = some (.int .i64 n1) ∧ w'.cell? ⟨w3.heap.size, 4, none⟩ = some (.int .i64 0)) (by kernel_rfl) (by refine ⟨?_, ?_, ?_, ?_, ?_⟩ <;> first | go_cell | assumption) (fun hHeld => ?_)
          refine wpAnyH_take (i := 0) (oi := _) (v := ?_) rfl (by kernel_rfl) (by kernel_rfl) (by kernel_rfl) (fun _ _ _ h => h) (Or.inl ⟨by rfl, ?_⟩) (by assumption) ?_
          rotate_left
          · intro w hSw; obtain ⟨s0, s1, s2, s3, s4⟩ := hSw; go_simp; (try with_reducible rfl)
          try change wpAnyH _ _ _ _ _ _ _ (Act.put _ (some 45) _) _
          try simp only [act_all9]
          refine wpAnyH_take (i := 1) (oi := _) (v := ?_) rfl (by kernel_rfl) (by kernel_rfl) (by kernel_rfl) (fun _ _ _ h => h) (Or.inl ⟨by rfl, ?_⟩) (by assumption) ?_
          rotate_left
          · intro w hSw; obtain ⟨s0, s1, s2, s3, s4⟩ := hSw; go_simp; (try with_reducible rfl)
          try change wpAnyH _ _ _ _ _ _ _ (Act.put _ (some 46) _) _
          try simp only [act_all9]
          refine wpAnyH_take (i := 2) (oi := _) (v := ?_) rfl (by kernel_rfl) (by kernel_rfl) (by kernel_rfl) (fun _ _ _ h => h) (Or.inl ⟨by rfl, ?_⟩) (by assumption) ?_
          rotate_left
          · intro w hSw; obtain ⟨s0, s1, s2, s3, s4⟩ := hSw; go_simp; (try with_reducible rfl)
          try change wpAnyH _ _ _ _ _ _ _ (Act.put _ (some 5) _) _
          try simp only [act_all9]
          refine wpAnyH_ready (rs := [3]) (by kernel_rfl) (by simp) ?_
          refine AllReadyH.cons (o := _) rfl (fun K hK => ?_) AllReadyH.nil
          go_simp
          refine hK.out _ _ (by refine ⟨?_, ?_, ?_, ?_, ?_⟩ <;> first | go_cell | assumption) (fun hHeld => ?_)
          clear hK K
          try simp only [act_all9]
          refine wpAnyH_done (by kernel_rfl) ?_ _
          go_wp2_with fail
          all_goals go_roundw
          case rel => exact ⟨z + 1, z, j + 1, rfl, by first | rfl | rw [wz], by have := HJ.out; omega, by have := HJ.out; omega, Lib.hid (by rw [HBE.out]; have := HJ.out; omega), Lib.hid ⟨p1, q1, n1, by rw [HBE.out]; exact HPQ1.out.1, by rw [HBE.out]; exact HPQ1.out.2.1, HPQ1.out.2.2, by refine ⟨⟨?_, ?_, ?_, ?_, ?_⟩, ?_, ?_, ?_, ?_, ?_⟩ <;> first | go_cell | assumption⟩, Lib.hid (by refine ⟨⟨?_, ?_, ?_, ?_, ?_⟩, ?_, ?_, ?_, ?_, ?_⟩ <;> first | go_cell | assumption), Lib.hid (by go_grown), by first | omega | (simp; done) | (simp; omega)⟩
          case measure => have h9 := HJ.out; first | (simp [intOf]; done) | (simp [intOf]; omega)
        · have HBE : Hid (bestO x y (j + 1) = bestO x y j) := Lib.hid (by show (if 0 < cpS x y (j + 1) (bestO x y j) then j + 1 else bestO x y j) = bestO x y j; rw [HCC.out, if_neg hc0])
          go_wp2_with fail
          go_roundw
          case rel => exact ⟨z + 1, o, j + 1, rfl, by first | rfl | rw [wz], by have := HJ.out; omega, by have := HJ.out; omega, Lib.hid (by rw [HBE.out]; exact HO.out), Lib.hid ⟨pb, qb, nb, by rw [HBE.out]; exact HPQb.out.1, by rw [HBE.out]; exact HPQb.out.2.1, HPQb.out.2.2, by refine ⟨⟨?_, ?_, ?_, ?_, ?_⟩, ?_, ?_, ?_, ?_, ?_⟩ <;> first | go_cell | assumption⟩, Lib.hid (by refine ⟨⟨?_, ?_, ?_, ?_, ?_⟩, ?_, ?_, ?_, ?_, ?_⟩ <;> first | go_cell | assumption), Lib.hid (by go_grown), by first | omega | (simp; done) | (simp; omega)⟩
          case measure => have h9 := HJ.out; first | (simp [intOf]; done) | (simp [intOf]; omega)
      · obtain rfl : j = 7 := by omega
        have hzn : ¬ z < 8 := by omega
        have HE2 : Hid (ocS m x y = (o, 0)) := Lib.hid (by rw [HE.out, ← HB7.out, HO.out])
        go_wp2_with fail
        go_ret2
        exact ⟨by rw [HE2.out] <;> rfl, by go_grown⟩
  · obtain ⟨p0, hp0⟩ : ∃ p, alP x y 0 = p := ⟨_, rfl⟩
    obtain ⟨q0, hq0⟩ : ∃ q, alQ x y 0 = q := ⟨_, rfl⟩
    obtain ⟨n0, hn0⟩ : ∃ n, -q0 = n := ⟨_, rfl⟩
    have HPQ := Lib.hid (And.intro hp0 (And.intro hq0 hn0))
    clear hp0 hq0 hn0
    go_wp2_with fail
    refine (along_at x y 0 0 rfl (by decide) HOK.out p0 q0 n0 HPQ.out.1 HPQ.out.2.1 HPQ.out.2.2 _).mono ?_
    rintro e w2 ⟨rfl, hb⟩
    have T2_0 := (show H3 (_ : World) w.heap.size m x y from (by refine ⟨⟨?_, ?_, ?_⟩, ?_, ?_, ?_⟩ <;> first | go_cell | assumption)).keep hb
    have T2_1 := (show H5 (_ : World) w1.heap.size x 0 y 0 0 from (by refine ⟨⟨?_, ?_, ?_, ?_, ?_⟩, ?_, ?_, ?_, ?_, ?_⟩ <;> first | go_cell | assumption)).keep hb
    have HB2 := Lib.hid (show Below w.heap.size w w2 from Below.trans (by go_grown) (hb.mono (by first | omega | (simp; done) | (simp; omega))))
    have hs2 : w1.heap.size < w2.heap.size := by have h9 := hb.size; (try simp at h9); omega
    clear hb hbl h1_0_0 h1_0_1 h1_0_2 z1_0_0 z1_0_1 z1_0_2
    have hbl := HB2.out
    obtain ⟨⟨h2_0_0, h2_0_1, h2_0_2⟩, z2_0_0, z2_0_1, z2_0_2⟩ := T2_0
    obtain ⟨⟨h2_1_0, h2_1_1, h2_1_2, h2_1_3, h2_1_4⟩, z2_1_0, z2_1_1, z2_1_2, z2_1_3, z2_1_4⟩ := T2_1
    have l2_0 : w.heap.size < w2.heap.size := by omega
    have e2_0 : ¬ w.heap.size = w2.heap.size := by omega
    have f2_0 : ¬ w2.heap.size = w.heap.size := by omega
    have l2_1 : w1.heap.size < w2.heap.size := by omega
    have e2_1 : ¬ w1.heap.size = w2.heap.size := by omega
    have f2_1 : ¬ w2.heap.size = w1.heap.size := by omega
    go_wp2_with fail
    go_loopw [5, 7] (fun ov iv wr => ∃ (z o : Int) (j : Nat), ov = .int .i64 o ∧ iv = .int .i64 z ∧ z = (j : Int) + 1 ∧ j ≤ 7 ∧ Hid (o = (bestO x y j : Int)) ∧ Hid (∃ p q n, alP x y (bestO x y j) = p ∧ alQ x y (bestO x y j) = q ∧ -q = n ∧ H5 wr w2.heap.size p q 0 n 0) ∧ Hid (H5 wr w1.heap.size x 0 y 0 0) ∧ Hid (Below w.heap.size w wr) ∧ w2.heap.size < wr.heap.size) (fun _ iv _ => 8 - (intOf iv).toNat)
    case atStart => exact ⟨1, 0, 0, rfl, rfl, rfl, by omega, Lib.hid rfl, Lib.hid ⟨p0, q0, n0, HPQ.out.1, HPQ.out.2.1, HPQ.out.2.2, by refine ⟨⟨?_, ?_, ?_, ?_, ?_⟩, ?_, ?_, ?_, ?_, ?_⟩ <;> first | go_cell | assumption⟩, Lib.hid (by refine ⟨⟨?_, ?_, ?_, ?_, ?_⟩, ?_, ?_, ?_, ?_, ?_⟩ <;> first | go_cell | assumption), Lib.hid (by go_grown), by simp⟩
    case round =>
      obtain ⟨z, o, j, rfl, rfl, hz, hj, HO, HM, HVc, HBr, hsr⟩ := hrel
      clear hbl hs2 h2_0_0 h2_0_1 h2_0_2 z2_0_0 z2_0_1 z2_0_2 h2_1_0 h2_1_1 h2_1_2 h2_1_3 h2_1_4 z2_1_0 z2_1_1 z2_1_2 z2_1_3 z2_1_4
      have hbl := HBr.out
      have lr0 : w1.heap.size < wr.heap.size := by omega
      have lr1 : ¬ w1.heap.size = wr.heap.size := by omega
      have lr2 : ¬ w2.heap.size = wr.heap.size := by omega
      by_cases hlt : j < 7
      · have hlt' : z < 8 := by omega
        obtain ⟨pb, qb, nb, hpb, hqb, hnb, hM⟩ := HM.out
        obtain ⟨⟨m0, m1, m2, m3, m4⟩, mf0, mf1, mf2, mf3, mf4⟩ := hM
        obtain ⟨⟨u0, u1, u2, u3, u4⟩, uf0, uf1, uf2, uf3, uf4⟩ := HVc.out
        obtain ⟨p1, hp1⟩ : ∃ p, alP x y (j + 1) = p := ⟨_, rfl⟩
        obtain ⟨q1, hq1⟩ : ∃ q, alQ x y (j + 1) = q := ⟨_, rfl⟩
        obtain ⟨n1, hn1⟩ : ∃ n, -q1 = n := ⟨_, rfl⟩
        obtain ⟨c, hc⟩ : ∃ c, cpS x y (j + 1) (bestO x y j) = c := ⟨_, rfl⟩
        have HC : Hid (cmpS ⟨⟨p1, q1, 0, n1⟩, 0⟩ ⟨⟨pb, qb, 0, nb⟩, 0⟩ = (c, 0)) := Lib.hid (by have h := cmS HOK.out (j + 1) (bestO x y j); unfold alS at h; rw [hp1, hq1, hpb, hqb, hn1, hnb, hc] at h; exact h)
        have HPQ1 := Lib.hid (And.intro hp1 (And.intro hq1 hn1))
        have HPQb := Lib.hid (And.intro hpb (And.intro hqb hnb))
        have HCC := Lib.hid hc
        have HJ := Lib.hid (And.intro hz (And.intro hj hlt))
        clear hp1 hq1 hn1 hpb hqb hnb hc HM HVc HBr HPQ hz hj hlt
        go_wp2_with fail
        refine (along_at x y z (j + 1) (by have h9 := HJ.out; omega) (by have h9 := HJ.out; omega) HOK.out p1 q1 n1 HPQ1.out.1 HPQ1.out.2.1 HPQ1.out.2.2 _).mono ?_
        rintro e w3 ⟨rfl, hb⟩
        have T3_0 := (show H5 (_ : World) w1.heap.size x 0 y 0 0 from (by refine ⟨⟨?_, ?_, ?_, ?_, ?_⟩, ?_, ?_, ?_, ?_, ?_⟩ <;> first | go_cell | assumption)).keep hb
        have T3_1 := (show H5 (_ : World) w2.heap.size pb qb 0 nb 0 from (by refine ⟨⟨?_, ?_, ?_, ?_, ?_⟩, ?_, ?_, ?_, ?_, ?_⟩ <;> first | go_cell | assumption)).keep hb
        have HB3 := Lib.hid (show Below w.heap.size w w3 from Below.trans (by go_grown) (hb.mono (by first | omega | (simp; done) | (simp; omega))))
        have hs3 : w2.heap.size < w3.heap.size := by have h9 := hb.size; (try simp at h9); omega
        clear hb hbl m0 m1 m2 m3 m4 mf0 mf1 mf2 mf3 mf4 u0 u1 u2 u3 u4 uf0 uf1 uf2 uf3 uf4
        have hbl := HB3.out
        obtain ⟨⟨h3_0_0, h3_0_1, h3_0_2, h3_0_3, h3_0_4⟩, z3_0_0, z3_0_1, z3_0_2, z3_0_3, z3_0_4⟩ := T3_0
        obtain ⟨⟨h3_1_0, h3_1_1, h3_1_2, h3_1_3, h3_1_4⟩, z3_1_0, z3_1_1, z3_1_2, z3_1_3, z3_1_4⟩ := T3_1
        have l3_0 : w1.heap.size < w3.heap.size := by omega
        have e3_0 : ¬ w1.heap.size = w3.heap.size := by omega
        have f3_0 : ¬ w3.heap.size = w1.heap.size := by omega
        have l3_1 : w2.heap.size < w3.heap.size := by omega
        have e3_1 : ¬ w2.heap.size = w3.heap.size := by omega
        have f3_1 : ¬ w3.heap.size = w2.heap.size := by omega
        clear lr0 lr1 lr2 hsr
        go_wp2_with fail
        refine (Cmp_any _ _ _ _ _ _ _ _ _ _ _).mono ?_
        rw [HC.out]
        rintro e w4 ⟨rfl, hb⟩
        have T4_0 := (show H5 (_ : World) w1.heap.size x 0 y 0 0 from (by refine ⟨⟨?_, ?_, ?_, ?_, ?_⟩, ?_, ?_, ?_, ?_, ?_⟩ <;> first | go_cell | assumption)).keep hb
        have T4_1 := (show H5 (_ : World) w2.heap.size pb qb 0 nb 0 from (by refine ⟨⟨?_, ?_, ?_, ?_, ?_⟩, ?_, ?_, ?_, ?_, ?_⟩ <;> first | go_cell | assumption)).keep hb
        have T4_2 := (show H5 (_ : World) w3.heap.size p1 q1 0 n1 0 from (by refine ⟨⟨?_, ?_, ?_, ?_, ?_⟩, ?_, ?_, ?_, ?_, ?_⟩ <;> first | go_cell | assumption)).keep hb
        have HB4 := Lib.hid (show Below w.heap.size w w4 from Below.trans (by go_grown) (hb.mono (by first | omega | (simp; done) | (simp; omega))))
        have hs4 : w3.heap.size < w4.heap.size := by have h9 := hb.size; (try simp at h9); omega
        clear hb hbl h3_0_0 h3_0_1 h3_0_2 h3_0_3 h3_0_4 z3_0_0 z3_0_1 z3_0_2 z3_0_3 z3_0_4 h3_1_0 h3_1_1 h3_1_2 h3_1_3 h3_1_4 z3_1_0 z3_1_1 z3_1_2 z3_1_3 z3_1_4
        have hbl := HB4.out
        obtain ⟨⟨h4_0_0, h4_0_1, h4_0_2, h4_0_3, h4_0_4⟩, z4_0_0, z4_0_1, z4_0_2, z4_0_3, z4_0_4⟩ := T4_0
        obtain ⟨⟨h4_1_0, h4_1_1, h4_1_2, h4_1_3, h4_1_4⟩, z4_1_0, z4_1_1, z4_1_2, z4_1_3, z4_1_4⟩ := T4_1
        obtain ⟨⟨h4_2_0, h4_2_1, h4_2_2, h4_2_3, h4_2_4⟩, z4_2_0, z4_2_1, z4_2_2, z4_2_3, z4_2_4⟩ := T4_2
        have l4_0 : w1.heap.size < w4.heap.size := by omega
        have e4_0 : ¬ w1.heap.size = w4.heap.size := by omega
        have f4_0 : ¬ w4.heap.size = w1.heap.size := by omega
        have l4_1 : w2.heap.size < w4.heap.size := by omega
        have e4_1 : ¬ w2.heap.size = w4.heap.size := by omega
        have f4_1 : ¬ w4.heap.size = w2.heap.size := by omega
        have l4_2 : w3.heap.size < w4.heap.size := by omega
        have e4_2 : ¬ w3.heap.size = w4.heap.size := by omega
        have f4_2 : ¬ w4.heap.size = w3.heap.size := by omega
        have wz : wrap64 (z + 1) = z + 1 := by have := HJ.out; simp only [wrap64]; omega
        by_cases hc0 : 0 < c
        · have HBE : Hid (bestO x y (j + 1) = j + 1) := Lib.hid (by show (if 0 < cpS x y (j + 1) (bestO x y j) then j + 1 else bestO x y j) = j + 1; rw [HCC.out, if_pos hc0])
          go_upto_region 13 with fail
          refine wp_region_held_drew (S := fun w' => w'.cell? ⟨w3.heap.size, 0, none⟩ = some (.int .i64 p1) ∧ w'.cell? ⟨w3.heap.size, 1, none⟩ = some (.int .i64 q1) ∧ w'.cell? ⟨w3.heap.size, 2, none⟩ = some (.int .i64 0) ∧ w'.cell? ⟨w3.heap.size, 3, none⟩ = some (.int .i64 n1) ∧ w'.cell? ⟨w3.heap.size, 4, none⟩ = some (.int .i64 0)) (by kernel_rfl) (by refine ⟨?_, ?_, ?_, ?_, ?_⟩ <;> first | go_cell | assumption) (fun hHeld => ?_)
          refine wpAnyH_take (i := 0) (oi := _) (v := ?_) rfl (by kernel_rfl) (by kernel_rfl) (by kernel_rfl) (fun _ _ _ h => h) (Or.inl ⟨by rfl, ?_⟩) (by assumption) ?_
          rotate_left
          · intro w hSw; obtain ⟨s0, s1, s2, s3, s4⟩ := hSw; go_simp; (try with_reducible rfl)
          try change wpAnyH _ _ _ _ _ _ _ (Act.put _ (some 45) _) _
          try simp only [act_all9]
          refine wpAnyH_take (i := 1) (oi := _) (v := ?_) rfl (by kernel_rfl) (by kernel_rfl) (by kernel_rfl) (fun _ _ _ h => h) (Or.inl ⟨by rfl, ?_⟩) (by assumption) ?_
          rotate_left
          · intro w hSw; obtain ⟨s0, s1, s2, s3, s4⟩ := hSw; go_simp; (try with_reducible rfl)
          try change wpAnyH _ _ _ _ _ _ _ (Act.put _ (some 46) _) _
          try simp only [act_all9]
          refine wpAnyH_take (i := 2) (oi := _) (v := ?_) rfl (by kernel_rfl) (by kernel_rfl) (by kernel_rfl) (fun _ _ _ h => h) (Or.inl ⟨by rfl, ?_⟩) (by assumption) ?_
          rotate_left
          · intro w hSw; obtain ⟨s0, s1, s2, s3, s4⟩ := hSw; go_simp; (try with_reducible rfl)
          try change wpAnyH _ _ _ _ _ _ _ (Act.put _ (some 5) _) _
          try simp only [act_all9]
          refine wpAnyH_ready (rs := [3]) (by kernel_rfl) (by simp) ?_
          refine AllReadyH.cons (o := _) rfl (fun K hK => ?_) AllReadyH.nil
          go_simp
          refine hK.out _ _ (by refine ⟨?_, ?_, ?_, ?_, ?_⟩ <;> first | go_cell | assumption) (fun hHeld => ?_)
          clear hK K
          try simp only [act_all9]
          refine wpAnyH_done (by kernel_rfl) ?_ _
          go_wp2_with fail
          all_goals go_roundw
          case rel => exact ⟨z + 1, z, j + 1, rfl, by first | rfl | rw [wz], by have := HJ.out; omega, by have := HJ.out; omega, Lib.hid (by rw [HBE.out]; have := HJ.out; omega), Lib.hid ⟨p1, q1, n1, by rw [HBE.out]; exact HPQ1.out.1, by rw [HBE.out]; exact HPQ1.out.2.1, HPQ1.out.2.2, by refine ⟨⟨?_, ?_, ?_, ?_, ?_⟩, ?_, ?_, ?_, ?_, ?_⟩ <;> first | go_cell | assumption⟩, Lib.hid (by refine ⟨⟨?_, ?_, ?_, ?_, ?_⟩, ?_, ?_, ?_, ?_, ?_⟩ <;> first | go_cell | assumption), Lib.hid (by go_grown), by first | omega | (simp; done) | (simp; omega)⟩
          case measure => have h9 := HJ.out; first | (simp [intOf]; done) | (simp [intOf]; omega)
        · have HBE : Hid (bestO x y (j + 1) = bestO x y j) := Lib.hid (by show (if 0 < cpS x y (j + 1) (bestO x y j) then j + 1 else bestO x y j) = bestO x y j; rw [HCC.out, if_neg hc0])
          go_wp2_with fail
          go_roundw
          case rel => exact ⟨z + 1, o, j + 1, rfl, by first | rfl | rw [wz], by have := HJ.out; omega, by have := HJ.out; omega, Lib.hid (by rw [HBE.out]; exact HO.out), Lib.hid ⟨pb, qb, nb, by rw [HBE.out]; exact HPQb.out.1, by rw [HBE.out]; exact HPQb.out.2.1, HPQb.out.2.2, by refine ⟨⟨?_, ?_, ?_, ?_, ?_⟩, ?_, ?_, ?_, ?_, ?_⟩ <;> first | go_cell | assumption⟩, Lib.hid (by refine ⟨⟨?_, ?_, ?_, ?_, ?_⟩, ?_, ?_, ?_, ?_, ?_⟩ <;> first | go_cell | assumption), Lib.hid (by go_grown), by first | omega | (simp; done) | (simp; omega)⟩
          case measure => have h9 := HJ.out; first | (simp [intOf]; done) | (simp [intOf]; omega)
      · obtain rfl : j = 7 := by omega
        have hzn : ¬ z < 8 := by omega
        have HE2 : Hid (ocS m x y = (o, 0)) := Lib.hid (by rw [HE.out, ← HB7.out, HO.out])
        go_wp2_with fail
        go_ret2
        exact ⟨by rw [HE2.out] <;> rfl, by go_grown⟩

end Go.Proofs.Ytkcbkcgampoclaa
