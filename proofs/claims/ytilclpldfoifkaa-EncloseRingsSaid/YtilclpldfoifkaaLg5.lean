import Derived.Test.YtilclpldfoifkaaR5h
import Derived.Test.YtilclpldfoifkaaR5u
import Derived.Test.YtilclpldfoifkaaEo
import Derived.Deep.DeepCutAuto
import Derived.Test.YtilclpldfoifkaaR5v
import Derived.Test.YtilclpldfoifkaaR5d
import Derived.Test.YtilclpldfoifkaaRa
namespace Go.Proofs.Ytilclpldfoifkaa
open Go.RowKit Encl

set_option maxRecDepth 100000 in
set_option maxHeartbeats 4000000 in
theorem rPart_any (a d : Int) (w : World) (ha : -1000000000 ≤ a ∧ a ≤ 1000000000) (hd : 1 ≤ d ∧ d ≤ 1000000000) :
    Calls Try.prog 82 #[.int .i64 a, .int .i64 d] w fun e w' => e = OutS (scS a 1073741824 d) ∧ Below w.heap.size w w' := by
  obtain ⟨m1, hm1⟩ : ∃ m, a * 1073741824 / d = m := ⟨_, rfl⟩
  obtain ⟨m2, hm2⟩ : ∃ m, -a * 1073741824 / d = m := ⟨_, rfl⟩
  have HS : Hid (scS a 1073741824 d = inR ⟨m1, -m2⟩) := Lib.hid (by unfold scS fl ce; rw [← hm1, ← hm2, Int.neg_mul])
  rw [HS.out]
  have HB1 : Hid (∀ w : World, Calls Try.prog 121 #[.int .i64 (a * 1073741824), .int .i64 d] w fun e w' => e = .returned (.int .i64 m1) ∧ Below w.heap.size w w') := Lib.hid (fun w => by rw [← hm1]; exact rBelow_pos _ _ w (by omega) (by omega) (by omega) (by omega))
  have HB2 : Hid (∀ w : World, Calls Try.prog 121 #[.int .i64 (-a * 1073741824), .int .i64 d] w fun e w' => e = .returned (.int .i64 m2) ∧ Below w.heap.size w w') := Lib.hid (fun w => by rw [← hm2]; exact rBelow_pos _ _ w (by omega) (by omega) (by omega) (by omega))
  have wm2 : wrap64 (-m2) = -m2 := by
    have e1 := Int.mul_ediv_add_emod (-a * 1073741824) d
    have l0 := Int.emod_nonneg (-a * 1073741824) (show d ≠ 0 by omega)
    have l1 := Int.emod_lt_of_pos (-a * 1073741824) (show 0 < d by omega)
    have : m2.natAbs ≤ (-a * 1073741824).natAbs := by
      rw [← hm2]
      exact Int.natAbs_ediv_le_natAbs _ _
    simp only [wrap64]; omega
  have wa : wrap64 (a * 1073741824) = a * 1073741824 := by simp only [wrap64]; omega
  have wn : wrap64 (-a) = -a := by simp only [wrap64]; omega
  have wna : wrap64 (-a * 1073741824) = -a * 1073741824 := by simp only [wrap64]; omega
  obtain ⟨rr, hrr⟩ : ∃ rr, rn 0 (inR ⟨m1, -m2⟩) = rr := ⟨_, rfl⟩
  have HR := Lib.hid hrr
  obtain ⟨⟨p, q⟩, ee⟩ := rr
  have HN : Hid (OutS (inR ⟨m1, -m2⟩) = .returned (.tuple #[.agg #[.int .i64 p, .int .i64 q], .int .i64 ee])) := Lib.hid (rn_OutS hrr)
  rw [HN.out]
  have n1 : ¬ d < 1 := by omega
  have n2 : ¬ 1000000000 < d := by omega
  have n3 : ¬ a < -1000000000 := by omega
  have n4 : ¬ 1000000000 < a := by omega
  clear ha hd hrr hm1 hm2
  go_enter Try.func82, Try.ntmps82
  go_wp2_with fail
  have hs0 : w.heap.size < ((w.alloc (Obj.cells #[.int .i64 0, .int .i64 0] 23)).alloc (Obj.cells #[.int .i64 0] 71)).heap.size := by simp; omega
  refine (HB1.out _).mono ?_
  rintro e w1 ⟨rfl, hb⟩
  have D1 : Below w.heap.size w w1 := Below.trans (by go_grown) (hb.mono (by first | omega | (simp; done) | (simp; omega)))
  have s1 : w.heap.size + 1 < w1.heap.size := by have hs := hb.size; (try simp at hs); omega
  obtain ⟨k1, k2⟩ := bcl hb
  have d0 := (k1 w.heap.size 0 (by first | omega | (simp; done) | (simp; omega))).trans (by go_cell : _ = some (.int .i64 0))
  have f0 := (k2 w.heap.size 0 (by first | omega | (simp; done) | (simp; omega))).trans (by go_cell : _ = false)
  have d1 := (k1 w.heap.size 1 (by first | omega | (simp; done) | (simp; omega))).trans (by go_cell : _ = some (.int .i64 0))
  have f1 := (k2 w.heap.size 1 (by first | omega | (simp; done) | (simp; omega))).trans (by go_cell : _ = false)
  have gc := (k1 (w.heap.size + 1) 0 (by first | omega | (simp; done) | (simp; omega))).trans (by go_cell : _ = some (.int .i64 0))
  have gf := (k2 (w.heap.size + 1) 0 (by first | omega | (simp; done) | (simp; omega))).trans (by go_cell : _ = false)
  clear hb k1 k2 hs0
  go_wp2_with fail
  refine (HB2.out _).mono ?_
  rintro e w2 ⟨rfl, hb⟩
  have D2 := D1.trans (hb.mono D1.size)
  have s2 : w.heap.size + 1 < w2.heap.size := by have hs := hb.size; omega
  have s2a : w.heap.size < w2.heap.size := by omega
  obtain ⟨k1, k2⟩ := bcl hb
  have dd0 := (k1 w.heap.size 0 (by omega)).trans d0
  have ff0 := (k2 w.heap.size 0 (by omega)).trans f0
  have dd1 := (k1 w.heap.size 1 (by omega)).trans d1
  have ff1 := (k2 w.heap.size 1 (by omega)).trans f1
  have gd := (k1 (w.heap.size + 1) 0 (by omega)).trans gc
  have gg := (k2 (w.heap.size + 1) 0 (by omega)).trans gf
  clear hb k1 k2 D1 s1 d0 d1 f0 f1 gc gf
  go_wp2_with fail
  refine (rSpan_any m1 (-m2) 0 (w.heap.size + 1) _ gd gg).mono ?_
  rw [HR.out]
  rintro e w3 ⟨he, hb⟩
  obtain rfl : e = .returned (.agg #[.int .i64 p, .int .i64 q]) := he
  have D3 := D2.trans (hb.below (by omega) D2.size)
  have s3 : w.heap.size + 1 < w3.heap.size := by have := hb.size; omega
  have s3a : w.heap.size < w3.heap.size := by omega
  have z0 := (hb.cells.1 w.heap.size 0 (by omega) (by omega)).trans dd0
  have y0 := (hb.cells.2 w.heap.size 0 (by omega) (by omega)).trans ff0
  have z1 := (hb.cells.1 w.heap.size 1 (by omega) (by omega)).trans dd1
  have y1 := (hb.cells.2 w.heap.size 1 (by omega) (by omega)).trans ff1
  have g0 := hb.cell
  clear hb D2 s2 s2a dd0 dd1 ff0 ff1 gd gg
  go_upto_region 5 with fail
  have b3 : Below w3.heap.size w3 (w3.alloc (Obj.cells #[.int .i64 p, .int .i64 q] 23)) := bal (Below.refl _ _) _
  have D4 := D3.trans (b3.mono D3.size)
  have c0 : (w3.alloc (Obj.cells #[.int .i64 p, .int .i64 q] 23)).cell? ⟨w3.heap.size, 0, none⟩ = some (.int .i64 p) := by go_cell
  have c1 : (w3.alloc (Obj.cells #[.int .i64 p, .int .i64 q] 23)).cell? ⟨w3.heap.size, 1, none⟩ = some (.int .i64 q) := by go_cell
  have cg := (b3.cell (p := ⟨w.heap.size + 1, 0, none⟩) s3).trans g0
  have ed0 := (b3.cell (p := ⟨w.heap.size, 0, none⟩) s3a).trans z0
  have ef0 := (b3.frozen (p := ⟨w.heap.size, 0, none⟩) s3a).trans y0
  have ed1 := (b3.cell (p := ⟨w.heap.size, 1, none⟩) s3a).trans z1
  have ef1 := (b3.frozen (p := ⟨w.heap.size, 1, none⟩) s3a).trans y1
  have n5 : ¬ w3.heap.size = w.heap.size := by omega
  have n6 : ¬ w.heap.size + 1 = w.heap.size := by omega
  have sE : w.heap.size < (w3.alloc (Obj.cells #[.int .i64 p, .int .i64 q] 23)).heap.size := by simp; omega
  clear b3 D3 z0 z1 y0 y1 g0
  generalize (w3.alloc (Obj.cells #[.int .i64 p, .int .i64 q] 23)) = U at *
  generalize w3.heap.size = PB at *
  refine wp_region_held_drew (S := fun w' => w'.cell? ⟨PB, 0, none⟩ = some (.int .i64 p) ∧ w'.cell? ⟨PB, 1, none⟩ = some (.int .i64 q) ∧ w'.cell? ⟨w.heap.size + 1, 0, none⟩ = some (.int .i64 ee)) (by kernel_rfl) ⟨c0, c1, cg⟩ (fun hHeld => ?_)
  refine wpAnyH_take (i := 0) (oi := _) (v := ?_) rfl (by kernel_rfl) (by kernel_rfl) (by kernel_rfl) (fun _ _ _ h => h) (Or.inl ⟨by rfl, ?_⟩) (by assumption) ?_
  rotate_left
  · intro w hSw; obtain ⟨_, _, _⟩ := hSw; go_simp; (try with_reducible rfl)
  try change wpAnyH _ _ _ _ _ _ _ (Act.put _ (some 37) _) _
  try simp only [act_all]
  refine wpAnyH_take (i := 1) (oi := _) (v := ?_) rfl (by kernel_rfl) (by kernel_rfl) (by kernel_rfl) (fun _ _ _ h => h) (Or.inl ⟨by rfl, ?_⟩) (by assumption) ?_
  rotate_left
  · intro w hSw; obtain ⟨_, _, _⟩ := hSw; go_simp; (try with_reducible rfl)
  try change wpAnyH _ _ _ _ _ _ _ (Act.put _ (some 38) _) _
  try simp only [act_all]
  refine wpAnyH_take (i := 2) (oi := _) (v := ?_) rfl (by kernel_rfl) (by kernel_rfl) (by kernel_rfl) (fun _ _ _ h => h) (Or.inl ⟨by rfl, ?_⟩) (by assumption) ?_
  rotate_left
  · intro w hSw; obtain ⟨_, _, _⟩ := hSw; go_simp; (try with_reducible rfl)
  try change wpAnyH _ _ _ _ _ _ _ (Act.put _ (some 39) _) _
  try simp only [act_all]
  refine wpAnyH_take (i := 3) (oi := _) (v := ?_) rfl (by kernel_rfl) (by kernel_rfl) (by kernel_rfl) (fun _ _ _ h => h) (Or.inl ⟨by rfl, ?_⟩) (by assumption) ?_
  rotate_left
  · intro w hSw; obtain ⟨_, _, _⟩ := hSw; go_simp; (try with_reducible rfl)
  try change wpAnyH _ _ _ _ _ _ _ (Act.put _ (some 40) _) _
  try simp only [act_all]
  refine wpAnyH_take (i := 4) (oi := _) (v := ?_) rfl (by kernel_rfl) (by kernel_rfl) (by kernel_rfl) (fun _ _ _ h => h) (Or.inl ⟨by rfl, ?_⟩) (by assumption) ?_
  rotate_left
  · intro w hSw; obtain ⟨_, _, _⟩ := hSw; go_simp; (try with_reducible rfl)
  try change wpAnyH _ _ _ _ _ _ _ (Act.put _ (some 41) _) _
  try simp only [act_all]
  refine wpAnyH_ready (rs := [5]) (by kernel_rfl) (by simp) ?_
  refine AllReadyH.cons (o := _) rfl (fun K hK => ?_) AllReadyH.nil
  go_simp
  refine hK.out _ _ (by refine ⟨?_, ?_, ?_⟩ <;> go_cell) (fun hHeld => ?_)
  clear hK K
  try simp only [act_all]
  refine wpAnyH_take (i := 6) (oi := _) (v := ?_) rfl (by kernel_rfl) (by kernel_rfl) (by kernel_rfl) (fun _ _ _ h => h) (Or.inl ⟨by rfl, ?_⟩) (by assumption) ?_
  rotate_left
  · intro w hSw; obtain ⟨_, _, _⟩ := hSw; go_simp; (try with_reducible rfl)
  try change wpAnyH _ _ _ _ _ _ _ (Act.put _ (some 5) _) _
  try simp only [act_all]
  refine wpAnyH_done (by kernel_rfl) ?_ _
  have HDF := D4
  clear D4
  go_wp2_with fail
  refine bodyPost_ret (v := .tuple #[.agg #[.int .i64 p, .int .i64 q], .int .i64 ee]) (by simp [results, Try.results82, go_sem, *]) rfl ⟨rfl, by go_grown⟩

/-- The program's Ring, also for arguments out of range. -/
def ringO (t a n : Int) : Out Rc := if t < 0 ∨ 1000000 < t ∨ a < 0 ∨ 1000000 < a then .bad 2 else ringS t a n
set_option maxRecDepth 100000 in
set_option maxHeartbeats 2000000 in
theorem eRing_any (t a n : Int) (w : World) :
    Calls Try.prog 38 #[.int .i64 t, .int .i64 a, .int .i64 n] w fun e w' => e = OutR (ringO t a n) ∧ Below w.heap.size w w' := by
  by_cases h1 : t < 0
  case neg =>
    by_cases h2 : 1000000 < t
    case neg =>
      by_cases h3 : a < 0
      case neg =>
        by_cases h4 : 1000000 < a
        case neg =>
          rw [show ringO t a n = ringS t a n from if_neg (by omega)]
          exact Ring_any t a n w (by omega) (by omega)
        all_goals
          rw [show ringO t a n = .bad 2 from if_pos (by omega)]
          go_enter Try.func38, Try.ntmps38
          go_wp2_with fail
          refine bodyPost_ret (v := .tuple #[.agg #[.int .i64 0, .int .i64 0, .int .i64 0, .int .i64 0], .int .i64 2]) (by simp [results, Try.results38, go_sem]) rfl ⟨rfl, by go_grown⟩
      all_goals
        rw [show ringO t a n = .bad 2 from if_pos (by omega)]
        go_enter Try.func38, Try.ntmps38
        go_wp2_with fail
        refine bodyPost_ret (v := .tuple #[.agg #[.int .i64 0, .int .i64 0, .int .i64 0, .int .i64 0], .int .i64 2]) (by simp [results, Try.results38, go_sem]) rfl ⟨rfl, by go_grown⟩
    all_goals
      rw [show ringO t a n = .bad 2 from if_pos (by omega)]
      go_enter Try.func38, Try.ntmps38
      go_wp2_with fail
      refine bodyPost_ret (v := .tuple #[.agg #[.int .i64 0, .int .i64 0, .int .i64 0, .int .i64 0], .int .i64 2]) (by simp [results, Try.results38, go_sem]) rfl ⟨rfl, by go_grown⟩
  all_goals
    rw [show ringO t a n = .bad 2 from if_pos (by omega)]
    go_enter Try.func38, Try.ntmps38
    go_wp2_with fail
    refine bodyPost_ret (v := .tuple #[.agg #[.int .i64 0, .int .i64 0, .int .i64 0, .int .i64 0], .int .i64 2]) (by simp [results, Try.results38, go_sem]) rfl ⟨rfl, by go_grown⟩
end Go.Proofs.Ytilclpldfoifkaa

namespace Encl
def ringW (T A : Sp) (u : Rc) : Rc × Int :=
  let v := mulW 0 ⟨A, ⟨0, 0⟩⟩ u
  let z := subW v.2 ⟨T, ⟨0, 0⟩⟩ v.1
  let x := mulW z.2 ⟨T, ⟨0, 0⟩⟩ v.1
  let d := subW x.2 ⟨⟨1073741824, 1073741824⟩, ⟨0, 0⟩⟩ x.1
  divW d.2 z.1 d.1
theorem mulW_cases (x y : Rc) : (∃ z, mulR x y = .ok z ∧ mulW 0 x y = (z, 0)) ∨ (∃ z, mulR x y = .bad 4 ∧ mulW 0 x y = (z, 4)) := by
  obtain ⟨h, g⟩ := mulW_eq x y
  cases hm : mulR x y with
  | ok z => rw [hm] at h; exact .inl ⟨z, rfl, h⟩
  | bad k => rw [hm] at h; obtain rfl := g k hm; exact .inr ⟨_, rfl, h⟩
theorem subW_cases (x y : Rc) : (∃ z, subR x y = .ok z ∧ subW 0 x y = (z, 0)) ∨ (∃ z, subR x y = .bad 4 ∧ subW 0 x y = (z, 4)) := by
  unfold subW subR subS
  rcases addS_cases x.re (negS y.re) with ⟨s, h⟩ | h <;> rw [h]
  · rcases addS_cases x.im (negS y.im) with ⟨t, g⟩ | g <;> rw [g]
    · exact .inl ⟨_, rfl, rfl⟩
    · exact .inr ⟨_, rfl, rfl⟩
  · exact .inr ⟨_, rfl, rfl⟩
theorem subW_okR {e e' : Int} {x y z : Rc} (h : subW e x y = (z, e')) : okS z.re = true ∧ okS z.im = true := by
  unfold subW at h
  obtain ⟨h1, h2⟩ := Prod.mk.inj h
  rw [← h1]
  exact ⟨rn_okS (e' := _) rfl (fun _ h => subS_ok h), rn_okS (e' := _) rfl (fun _ h => subS_ok h)⟩
theorem subW_four (x y : Rc) : subW 4 x y = (R0, 4) := rfl
theorem divW_four (x y : Rc) : divW 4 x y = (R0, 4) := rfl
end Encl
namespace Go.Proofs.Ytilclpldfoifkaa
open Go.RowKit Encl
theorem OutR_form2 (o : Out Rc) : ∃ p q p' q' er : Int, OutR o = .returned (.tuple #[.agg #[.int .i64 p, .int .i64 q, .int .i64 p', .int .i64 q'], .int .i64 er]) := by
  cases o with
  | ok x => exact ⟨_, _, _, _, _, rfl⟩
  | bad k => exact ⟨_, _, _, _, _, rfl⟩
theorem fin_ring {t a n : Int} {T A : Sp} {u : Rc} (hT : scS t 1073741824 1000000 = .ok T) (hA : scS a 1073741824 1000000 = .ok A) (hu : unitS n = .ok u) : fin (ringW T A u).1 (ringW T A u).2 = ringS t a n := by
  unfold ringW ringS
  rw [hT, hA, hu]
  simp only [Out.bind_ok]
  rcases mulW_cases ⟨A, ⟨0, 0⟩⟩ u with ⟨v, h1, h2⟩ | ⟨v, h1, h2⟩ <;> rw [h1, h2] <;> simp only [Out.bind_ok, Out.bind_bad]
  · rcases subW_cases ⟨T, ⟨0, 0⟩⟩ v with ⟨z, h3, h4⟩ | ⟨z, h3, h4⟩ <;> rw [h3, h4] <;> simp only [Out.bind_ok, Out.bind_bad]
    · rcases mulW_cases ⟨T, ⟨0, 0⟩⟩ v with ⟨x, h5, h6⟩ | ⟨x, h5, h6⟩ <;> rw [h5, h6] <;> simp only [Out.bind_ok, Out.bind_bad]
      · rcases subW_cases ⟨⟨1073741824, 1073741824⟩, ⟨0, 0⟩⟩ x with ⟨d, h7, h8⟩ | ⟨d, h7, h8⟩ <;> rw [h7, h8] <;> simp only [Out.bind_ok, Out.bind_bad]
        · exact fin_div z d
        · rw [divW_four]; rfl
      · rw [subW_four]; simp only; rw [divW_four]; rfl
    · rw [mulW_four]; simp only; rw [subW_four]; simp only; rw [divW_four]; rfl
  · rw [subW_four]; simp only; rw [mulW_four]; simp only; rw [subW_four]; simp only; rw [divW_four]; rfl

set_option maxRecDepth 100000 in
set_option maxHeartbeats 8000000 in
theorem rRingV_any (t a n : Int) (w : World) (ht : 0 ≤ t ∧ t ≤ 1000000) (ha : 0 ≤ a ∧ a ≤ 1000000) (hn0 : -9223372036854775808 ≤ n) (hn1 : n ≤ 9223372036854775807) :
    Calls Try.prog 39 #[.int .i64 t, .int .i64 a, .int .i64 n] w fun e w' => e = OutR (ringS t a n) ∧ Below w.heap.size w w' := by
  obtain ⟨T, hT⟩ : ∃ T, scS t 1073741824 1000000 = .ok T := ⟨_, inR_ok (by rw [okS_iff]; have := fl_le_ce t 1073741824 (show (0 : Int) < 1000000 by omega); unfold fl ce at this ⊢; simp only; omega)⟩
  obtain ⟨A, hA⟩ : ∃ A, scS a 1073741824 1000000 = .ok A := ⟨_, inR_ok (by rw [okS_iff]; have := fl_le_ce a 1073741824 (show (0 : Int) < 1000000 by omega); unfold fl ce at this ⊢; simp only; omega)⟩
  obtain ⟨u, hu, _, huk⟩ := unit_near n
  have HFR := Lib.hid (fin_ring hT hA hu)
  rw [← HFR.out]
  have HTK := Lib.hid (inR_okS hT)
  have HAK := Lib.hid (inR_okS hA)
  have HUK := Lib.hid ((okR_iff _).1 huk)
  obtain ⟨T1, T2⟩ := T
  obtain ⟨A1, A2⟩ := A
  obtain ⟨⟨u1, u2⟩, ⟨u3, u4⟩⟩ := u
  have HT := Lib.hid hT
  have HA := Lib.hid hA
  have HU := Lib.hid hu
  have H00 : Hid (okS ⟨0, 0⟩ = true) := Lib.hid (by decide)
  have H11 : Hid (okS ⟨1073741824, 1073741824⟩ = true) := Lib.hid (by decide)
  clear hT hA hu huk HFR
  obtain ⟨RW, hrw⟩ : ∃ RW, ringW ⟨T1, T2⟩ ⟨A1, A2⟩ ⟨⟨u1, u2⟩, ⟨u3, u4⟩⟩ = RW := ⟨_, rfl⟩
  have HRW := Lib.hid hrw
  rw [hrw]
  clear hrw
  have n1 : ¬ t < 0 := by omega
  have n2 : ¬ 1000000 < t := by omega
  have n3 : ¬ a < 0 := by omega
  have n4 : ¬ 1000000 < a := by omega
  have HTT := Lib.hid ht
  have HAA := Lib.hid ha
  have HNN := Lib.hid (And.intro hn0 hn1)
  clear ht ha hn0 hn1
  go_enter Try.func39, Try.ntmps39
  go_wp2_with fail
  refine (rPart_any t 1000000 _ (by have := HTT.out; omega) (by omega)).mono ?_
  rw [HT.out]
  rintro e wq1 ⟨he, hb⟩
  obtain rfl : e = .returned (.tuple #[.agg #[.int .i64 T1, .int .i64 T2], .int .i64 0]) := he
  have hs1 := hb.size
  (try simp at hs1)
  have DS1 : Below w.heap.size w wq1 := Below.trans (by go_grown) (hb.mono (by first | omega | (simp; done) | (simp; omega)))
  obtain ⟨k1, k2⟩ := bcl hb
  have d0_1 := (k1 (w.heap.size) 0 (by first | omega | (simp; done) | (simp; omega))).trans (by go_cell : _ = some (.int .i64 0))
  have f0_1 := (k2 (w.heap.size) 0 (by first | omega | (simp; done) | (simp; omega))).trans (by go_cell : _ = false)
  have d1_1 := (k1 (w.heap.size) 1 (by first | omega | (simp; done) | (simp; omega))).trans (by go_cell : _ = some (.int .i64 0))
  have f1_1 := (k2 (w.heap.size) 1 (by first | omega | (simp; done) | (simp; omega))).trans (by go_cell : _ = false)
  have d2_1 := (k1 (w.heap.size) 2 (by first | omega | (simp; done) | (simp; omega))).trans (by go_cell : _ = some (.int .i64 0))
  have f2_1 := (k2 (w.heap.size) 2 (by first | omega | (simp; done) | (simp; omega))).trans (by go_cell : _ = false)
  have d3_1 := (k1 (w.heap.size) 3 (by first | omega | (simp; done) | (simp; omega))).trans (by go_cell : _ = some (.int .i64 0))
  have f3_1 := (k2 (w.heap.size) 3 (by first | omega | (simp; done) | (simp; omega))).trans (by go_cell : _ = false)
  have l1_0 : w.heap.size < wq1.heap.size := by omega
  clear hb hs1 k1 k2 
  go_wp2_with fail
  refine (rPart_any a 1000000 _ (by have := HAA.out; omega) (by omega)).mono ?_
  rw [HA.out]
  rintro e wq2 ⟨he, hb⟩
  obtain rfl : e = .returned (.tuple #[.agg #[.int .i64 A1, .int .i64 A2], .int .i64 0]) := he
  have hs2 := hb.size
  (try simp at hs2)
  have DS2 : Below w.heap.size w wq2 := Below.trans (by go_grown) (hb.mono (by have := DS1.size; first | omega | (simp; done) | (simp; omega)))
  obtain ⟨k1, k2⟩ := bcl hb
  have d0_2 := (k1 (w.heap.size) 0 (by first | omega | (simp; done) | (simp; omega))).trans (((bal (Below.refl wq1.heap.size wq1) (Obj.cells #[.int .i64 T1, .int .i64 T2] 23)).cell (p := ⟨w.heap.size, 0, none⟩) (by simp only; omega)).trans d0_1)
  have f0_2 := (k2 (w.heap.size) 0 (by first | omega | (simp; done) | (simp; omega))).trans (((bal (Below.refl wq1.heap.size wq1) (Obj.cells #[.int .i64 T1, .int .i64 T2] 23)).frozen (p := ⟨w.heap.size, 0, none⟩) (by simp only; omega)).trans f0_1)
  have d1_2 := (k1 (w.heap.size) 1 (by first | omega | (simp; done) | (simp; omega))).trans (((bal (Below.refl wq1.heap.size wq1) (Obj.cells #[.int .i64 T1, .int .i64 T2] 23)).cell (p := ⟨w.heap.size, 1, none⟩) (by simp only; omega)).trans d1_1)
  have f1_2 := (k2 (w.heap.size) 1 (by first | omega | (simp; done) | (simp; omega))).trans (((bal (Below.refl wq1.heap.size wq1) (Obj.cells #[.int .i64 T1, .int .i64 T2] 23)).frozen (p := ⟨w.heap.size, 1, none⟩) (by simp only; omega)).trans f1_1)
  have d2_2 := (k1 (w.heap.size) 2 (by first | omega | (simp; done) | (simp; omega))).trans (((bal (Below.refl wq1.heap.size wq1) (Obj.cells #[.int .i64 T1, .int .i64 T2] 23)).cell (p := ⟨w.heap.size, 2, none⟩) (by simp only; omega)).trans d2_1)
  have f2_2 := (k2 (w.heap.size) 2 (by first | omega | (simp; done) | (simp; omega))).trans (((bal (Below.refl wq1.heap.size wq1) (Obj.cells #[.int .i64 T1, .int .i64 T2] 23)).frozen (p := ⟨w.heap.size, 2, none⟩) (by simp only; omega)).trans f2_1)
  have d3_2 := (k1 (w.heap.size) 3 (by first | omega | (simp; done) | (simp; omega))).trans (((bal (Below.refl wq1.heap.size wq1) (Obj.cells #[.int .i64 T1, .int .i64 T2] 23)).cell (p := ⟨w.heap.size, 3, none⟩) (by simp only; omega)).trans d3_1)
  have f3_2 := (k2 (w.heap.size) 3 (by first | omega | (simp; done) | (simp; omega))).trans (((bal (Below.refl wq1.heap.size wq1) (Obj.cells #[.int .i64 T1, .int .i64 T2] 23)).frozen (p := ⟨w.heap.size, 3, none⟩) (by simp only; omega)).trans f3_1)
  have a0_2 := (k1 (wq1.heap.size) 0 (by first | omega | (simp; done) | (simp; omega))).trans (by go_cell : _ = some (.int .i64 T1))
  have a1_2 := (k1 (wq1.heap.size) 1 (by first | omega | (simp; done) | (simp; omega))).trans (by go_cell : _ = some (.int .i64 T2))
  have l2_0 : w.heap.size < wq2.heap.size := by omega
  have l2_1 : wq1.heap.size < wq2.heap.size := by omega
  clear hb hs2 k1 k2 d0_1 f0_1 d1_1 f1_1 d2_1 f2_1 d3_1 f3_1 l1_0 DS1
  go_wp2_with fail
  refine (rUnit_any n _ HNN.out.1 HNN.out.2).mono ?_
  rw [HU.out]
  rintro e wq3 ⟨he, hb⟩
  obtain rfl : e = .returned (.tuple #[.agg #[.int .i64 u1, .int .i64 u2, .int .i64 u3, .int .i64 u4], .int .i64 0]) := he
  have hs3 := hb.size
  (try simp at hs3)
  have DS3 : Below w.heap.size w wq3 := Below.trans (by go_grown) (hb.mono (by have := DS2.size; first | omega | (simp; done) | (simp; omega)))
  obtain ⟨k1, k2⟩ := bcl hb
  have d0_3 := (k1 (w.heap.size) 0 (by first | omega | (simp; done) | (simp; omega))).trans (((bal (Below.refl wq2.heap.size wq2) (Obj.cells #[.int .i64 A1, .int .i64 A2] 23)).cell (p := ⟨w.heap.size, 0, none⟩) (by simp only; omega)).trans d0_2)
  have f0_3 := (k2 (w.heap.size) 0 (by first | omega | (simp; done) | (simp; omega))).trans (((bal (Below.refl wq2.heap.size wq2) (Obj.cells #[.int .i64 A1, .int .i64 A2] 23)).frozen (p := ⟨w.heap.size, 0, none⟩) (by simp only; omega)).trans f0_2)
  have d1_3 := (k1 (w.heap.size) 1 (by first | omega | (simp; done) | (simp; omega))).trans (((bal (Below.refl wq2.heap.size wq2) (Obj.cells #[.int .i64 A1, .int .i64 A2] 23)).cell (p := ⟨w.heap.size, 1, none⟩) (by simp only; omega)).trans d1_2)
  have f1_3 := (k2 (w.heap.size) 1 (by first | omega | (simp; done) | (simp; omega))).trans (((bal (Below.refl wq2.heap.size wq2) (Obj.cells #[.int .i64 A1, .int .i64 A2] 23)).frozen (p := ⟨w.heap.size, 1, none⟩) (by simp only; omega)).trans f1_2)
  have d2_3 := (k1 (w.heap.size) 2 (by first | omega | (simp; done) | (simp; omega))).trans (((bal (Below.refl wq2.heap.size wq2) (Obj.cells #[.int .i64 A1, .int .i64 A2] 23)).cell (p := ⟨w.heap.size, 2, none⟩) (by simp only; omega)).trans d2_2)
  have f2_3 := (k2 (w.heap.size) 2 (by first | omega | (simp; done) | (simp; omega))).trans (((bal (Below.refl wq2.heap.size wq2) (Obj.cells #[.int .i64 A1, .int .i64 A2] 23)).frozen (p := ⟨w.heap.size, 2, none⟩) (by simp only; omega)).trans f2_2)
  have d3_3 := (k1 (w.heap.size) 3 (by first | omega | (simp; done) | (simp; omega))).trans (((bal (Below.refl wq2.heap.size wq2) (Obj.cells #[.int .i64 A1, .int .i64 A2] 23)).cell (p := ⟨w.heap.size, 3, none⟩) (by simp only; omega)).trans d3_2)
  have f3_3 := (k2 (w.heap.size) 3 (by first | omega | (simp; done) | (simp; omega))).trans (((bal (Below.refl wq2.heap.size wq2) (Obj.cells #[.int .i64 A1, .int .i64 A2] 23)).frozen (p := ⟨w.heap.size, 3, none⟩) (by simp only; omega)).trans f3_2)
  have a0_3 := (k1 (wq1.heap.size) 0 (by first | omega | (simp; done) | (simp; omega))).trans (((bal (Below.refl wq2.heap.size wq2) (Obj.cells #[.int .i64 A1, .int .i64 A2] 23)).cell (p := ⟨wq1.heap.size, 0, none⟩) (by simp only; omega)).trans a0_2)
  have a1_3 := (k1 (wq1.heap.size) 1 (by first | omega | (simp; done) | (simp; omega))).trans (((bal (Below.refl wq2.heap.size wq2) (Obj.cells #[.int .i64 A1, .int .i64 A2] 23)).cell (p := ⟨wq1.heap.size, 1, none⟩) (by simp only; omega)).trans a1_2)
  have b0_3 := (k1 (wq2.heap.size) 0 (by first | omega | (simp; done) | (simp; omega))).trans (by go_cell : _ = some (.int .i64 A1))
  have b1_3 := (k1 (wq2.heap.size) 1 (by first | omega | (simp; done) | (simp; omega))).trans (by go_cell : _ = some (.int .i64 A2))
  have l3_0 : w.heap.size < wq3.heap.size := by omega
  have l3_1 : wq1.heap.size < wq3.heap.size := by omega
  have l3_2 : wq2.heap.size < wq3.heap.size := by omega
  clear hb hs3 k1 k2 d0_2 f0_2 d1_2 f1_2 d2_2 f2_2 d3_2 f3_2 a0_2 a1_2 l2_0 l2_1 DS2
  have o1 := l3_0
  have hx0 := ((bal (bal (bal (Below.refl wq3.heap.size wq3) (Obj.cells #[.int .i64 u1, .int .i64 u2, .int .i64 u3, .int .i64 u4] 25)) (Obj.cells #[.int .i64 0] 71)) (Obj.cells #[.int .i64 T1, .int .i64 T2, .int .i64 0, .int .i64 0] 25)).cell (p := ⟨wq2.heap.size, 0, none⟩) l3_2).trans b0_3
  have hx1 := ((bal (bal (bal (Below.refl wq3.heap.size wq3) (Obj.cells #[.int .i64 u1, .int .i64 u2, .int .i64 u3, .int .i64 u4] 25)) (Obj.cells #[.int .i64 0] 71)) (Obj.cells #[.int .i64 T1, .int .i64 T2, .int .i64 0, .int .i64 0] 25)).cell (p := ⟨wq2.heap.size, 1, none⟩) l3_2).trans b1_3
  go_wp2_with fail
  have hgc : (((wq3.alloc (Obj.cells #[.int .i64 u1, .int .i64 u2, .int .i64 u3, .int .i64 u4] 25)).alloc (Obj.cells #[.int .i64 0] 71)).alloc (Obj.cells #[.int .i64 T1, .int .i64 T2, .int .i64 0, .int .i64 0] 25)).cell? ⟨wq3.heap.size + 1, 0, none⟩ = some (.int .i64 0) := by go_cell
  have hgf : (((wq3.alloc (Obj.cells #[.int .i64 u1, .int .i64 u2, .int .i64 u3, .int .i64 u4] 25)).alloc (Obj.cells #[.int .i64 0] 71)).alloc (Obj.cells #[.int .i64 T1, .int .i64 T2, .int .i64 0, .int .i64 0] 25)).frozen? ⟨wq3.heap.size + 1, 0, none⟩ = false := by go_cell
  refine (rMulW_any A1 A2 0 0 u1 u2 u3 u4 0 (wq3.heap.size + 1) _ HAK.out H00.out HUK.out.1 HUK.out.2 hgc hgf).mono ?_
  rintro e wq4 ⟨he, hb⟩
  obtain ⟨r, hr⟩ : ∃ r, (mulW 0 ⟨⟨A1, A2⟩, ⟨0, 0⟩⟩ ⟨⟨u1, u2⟩, ⟨u3, u4⟩⟩) = r := ⟨_, rfl⟩
  rw [hr] at he hb
  obtain ⟨⟨⟨v1, v2⟩, ⟨v3, v4⟩⟩, e1⟩ := r
  have HQ4 := Lib.hid hr
  clear hr
  obtain rfl : e = .returned (.agg #[.int .i64 v1, .int .i64 v2, .int .i64 v3, .int .i64 v4]) := he
  have hs4 := hb.size
  (try simp at hs4)
  have DS4 : Below w.heap.size w wq4 := Below.trans (by go_grown) (hb.below (by first | omega | (simp; done) | (simp; omega)) (by have := DS3.size; first | omega | (simp; done) | (simp; omega)))
  have d0_4 := (hb.cells.1 (w.heap.size) 0 (by first | omega | (simp; done) | (simp; omega)) (by first | omega | (simp; done) | (simp; omega))).trans (((bal (bal (bal (Below.refl wq3.heap.size wq3) (Obj.cells #[.int .i64 u1, .int .i64 u2, .int .i64 u3, .int .i64 u4] 25)) (Obj.cells #[.int .i64 0] 71)) (Obj.cells #[.int .i64 T1, .int .i64 T2, .int .i64 0, .int .i64 0] 25)).cell (p := ⟨w.heap.size, 0, none⟩) (by simp only; omega)).trans d0_3)
  have f0_4 := (hb.cells.2 (w.heap.size) 0 (by first | omega | (simp; done) | (simp; omega)) (by first | omega | (simp; done) | (simp; omega))).trans (((bal (bal (bal (Below.refl wq3.heap.size wq3) (Obj.cells #[.int .i64 u1, .int .i64 u2, .int .i64 u3, .int .i64 u4] 25)) (Obj.cells #[.int .i64 0] 71)) (Obj.cells #[.int .i64 T1, .int .i64 T2, .int .i64 0, .int .i64 0] 25)).frozen (p := ⟨w.heap.size, 0, none⟩) (by simp only; omega)).trans f0_3)
  have d1_4 := (hb.cells.1 (w.heap.size) 1 (by first | omega | (simp; done) | (simp; omega)) (by first | omega | (simp; done) | (simp; omega))).trans (((bal (bal (bal (Below.refl wq3.heap.size wq3) (Obj.cells #[.int .i64 u1, .int .i64 u2, .int .i64 u3, .int .i64 u4] 25)) (Obj.cells #[.int .i64 0] 71)) (Obj.cells #[.int .i64 T1, .int .i64 T2, .int .i64 0, .int .i64 0] 25)).cell (p := ⟨w.heap.size, 1, none⟩) (by simp only; omega)).trans d1_3)
  have f1_4 := (hb.cells.2 (w.heap.size) 1 (by first | omega | (simp; done) | (simp; omega)) (by first | omega | (simp; done) | (simp; omega))).trans (((bal (bal (bal (Below.refl wq3.heap.size wq3) (Obj.cells #[.int .i64 u1, .int .i64 u2, .int .i64 u3, .int .i64 u4] 25)) (Obj.cells #[.int .i64 0] 71)) (Obj.cells #[.int .i64 T1, .int .i64 T2, .int .i64 0, .int .i64 0] 25)).frozen (p := ⟨w.heap.size, 1, none⟩) (by simp only; omega)).trans f1_3)
  have d2_4 := (hb.cells.1 (w.heap.size) 2 (by first | omega | (simp; done) | (simp; omega)) (by first | omega | (simp; done) | (simp; omega))).trans (((bal (bal (bal (Below.refl wq3.heap.size wq3) (Obj.cells #[.int .i64 u1, .int .i64 u2, .int .i64 u3, .int .i64 u4] 25)) (Obj.cells #[.int .i64 0] 71)) (Obj.cells #[.int .i64 T1, .int .i64 T2, .int .i64 0, .int .i64 0] 25)).cell (p := ⟨w.heap.size, 2, none⟩) (by simp only; omega)).trans d2_3)
  have f2_4 := (hb.cells.2 (w.heap.size) 2 (by first | omega | (simp; done) | (simp; omega)) (by first | omega | (simp; done) | (simp; omega))).trans (((bal (bal (bal (Below.refl wq3.heap.size wq3) (Obj.cells #[.int .i64 u1, .int .i64 u2, .int .i64 u3, .int .i64 u4] 25)) (Obj.cells #[.int .i64 0] 71)) (Obj.cells #[.int .i64 T1, .int .i64 T2, .int .i64 0, .int .i64 0] 25)).frozen (p := ⟨w.heap.size, 2, none⟩) (by simp only; omega)).trans f2_3)
  have d3_4 := (hb.cells.1 (w.heap.size) 3 (by first | omega | (simp; done) | (simp; omega)) (by first | omega | (simp; done) | (simp; omega))).trans (((bal (bal (bal (Below.refl wq3.heap.size wq3) (Obj.cells #[.int .i64 u1, .int .i64 u2, .int .i64 u3, .int .i64 u4] 25)) (Obj.cells #[.int .i64 0] 71)) (Obj.cells #[.int .i64 T1, .int .i64 T2, .int .i64 0, .int .i64 0] 25)).cell (p := ⟨w.heap.size, 3, none⟩) (by simp only; omega)).trans d3_3)
  have f3_4 := (hb.cells.2 (w.heap.size) 3 (by first | omega | (simp; done) | (simp; omega)) (by first | omega | (simp; done) | (simp; omega))).trans (((bal (bal (bal (Below.refl wq3.heap.size wq3) (Obj.cells #[.int .i64 u1, .int .i64 u2, .int .i64 u3, .int .i64 u4] 25)) (Obj.cells #[.int .i64 0] 71)) (Obj.cells #[.int .i64 T1, .int .i64 T2, .int .i64 0, .int .i64 0] 25)).frozen (p := ⟨w.heap.size, 3, none⟩) (by simp only; omega)).trans f3_3)
  have g0_4 := hb.cell
  have gz0_4 := hb.free
  have h0_4 := (hb.cells.1 (wq3.heap.size + 1 + 1) 0 (by first | omega | (simp; done) | (simp; omega)) (by first | omega | (simp; done) | (simp; omega))).trans (by go_cell : _ = some (.int .i64 T1))
  have h1_4 := (hb.cells.1 (wq3.heap.size + 1 + 1) 1 (by first | omega | (simp; done) | (simp; omega)) (by first | omega | (simp; done) | (simp; omega))).trans (by go_cell : _ = some (.int .i64 T2))
  have h2_4 := (hb.cells.1 (wq3.heap.size + 1 + 1) 2 (by first | omega | (simp; done) | (simp; omega)) (by first | omega | (simp; done) | (simp; omega))).trans (by go_cell : _ = some (.int .i64 0))
  have h3_4 := (hb.cells.1 (wq3.heap.size + 1 + 1) 3 (by first | omega | (simp; done) | (simp; omega)) (by first | omega | (simp; done) | (simp; omega))).trans (by go_cell : _ = some (.int .i64 0))
  have l4_0 : w.heap.size < wq4.heap.size := by omega
  have l4_1 : wq3.heap.size < wq4.heap.size := by omega
  have l4_2 : wq3.heap.size + 1 < wq4.heap.size := by omega
  have l4_3 : wq3.heap.size + 1 + 1 < wq4.heap.size := by omega
  clear hb hs4 hgc hgf hx0 hx1 d0_3 f0_3 d1_3 f1_3 d2_3 f2_3 d3_3 f3_3 a0_3 a1_3 b0_3 b1_3 l3_0 l3_1 l3_2 DS3
  have HVK := Lib.hid (mulW_okR HQ4.out)
  go_wp2_with fail
  have hgc : (wq4.alloc (Obj.cells #[.int .i64 v1, .int .i64 v2, .int .i64 v3, .int .i64 v4] 25)).cell? ⟨wq3.heap.size + 1, 0, none⟩ = some (.int .i64 e1) := by go_cell
  have hgf : (wq4.alloc (Obj.cells #[.int .i64 v1, .int .i64 v2, .int .i64 v3, .int .i64 v4] 25)).frozen? ⟨wq3.heap.size + 1, 0, none⟩ = false := by go_cell
  refine (rSubW_any T1 T2 0 0 v1 v2 v3 v4 e1 (wq3.heap.size + 1) _ HTK.out H00.out HVK.out.1 HVK.out.2 hgc hgf).mono ?_
  rintro e wq5 ⟨he, hb⟩
  obtain ⟨r, hr⟩ : ∃ r, (subW e1 ⟨⟨T1, T2⟩, ⟨0, 0⟩⟩ ⟨⟨v1, v2⟩, ⟨v3, v4⟩⟩) = r := ⟨_, rfl⟩
  rw [hr] at he hb
  obtain ⟨⟨⟨z1, z2⟩, ⟨z3, z4⟩⟩, e2⟩ := r
  have HQ5 := Lib.hid hr
  clear hr
  obtain rfl : e = .returned (.agg #[.int .i64 z1, .int .i64 z2, .int .i64 z3, .int .i64 z4]) := he
  have hs5 := hb.size
  (try simp at hs5)
  have DS5 : Below w.heap.size w wq5 := Below.trans (by go_grown) (hb.below (by first | omega | (simp; done) | (simp; omega)) (by have := DS4.size; first | omega | (simp; done) | (simp; omega)))
  have d0_5 := (hb.cells.1 (w.heap.size) 0 (by first | omega | (simp; done) | (simp; omega)) (by first | omega | (simp; done) | (simp; omega))).trans (((bal (Below.refl wq4.heap.size wq4) (Obj.cells #[.int .i64 v1, .int .i64 v2, .int .i64 v3, .int .i64 v4] 25)).cell (p := ⟨w.heap.size, 0, none⟩) (by simp only; omega)).trans d0_4)
  have f0_5 := (hb.cells.2 (w.heap.size) 0 (by first | omega | (simp; done) | (simp; omega)) (by first | omega | (simp; done) | (simp; omega))).trans (((bal (Below.refl wq4.heap.size wq4) (Obj.cells #[.int .i64 v1, .int .i64 v2, .int .i64 v3, .int .i64 v4] 25)).frozen (p := ⟨w.heap.size, 0, none⟩) (by simp only; omega)).trans f0_4)
  have d1_5 := (hb.cells.1 (w.heap.size) 1 (by first | omega | (simp; done) | (simp; omega)) (by first | omega | (simp; done) | (simp; omega))).trans (((bal (Below.refl wq4.heap.size wq4) (Obj.cells #[.int .i64 v1, .int .i64 v2, .int .i64 v3, .int .i64 v4] 25)).cell (p := ⟨w.heap.size, 1, none⟩) (by simp only; omega)).trans d1_4)
  have f1_5 := (hb.cells.2 (w.heap.size) 1 (by first | omega | (simp; done) | (simp; omega)) (by first | omega | (simp; done) | (simp; omega))).trans (((bal (Below.refl wq4.heap.size wq4) (Obj.cells #[.int .i64 v1, .int .i64 v2, .int .i64 v3, .int .i64 v4] 25)).frozen (p := ⟨w.heap.size, 1, none⟩) (by simp only; omega)).trans f1_4)
  have d2_5 := (hb.cells.1 (w.heap.size) 2 (by first | omega | (simp; done) | (simp; omega)) (by first | omega | (simp; done) | (simp; omega))).trans (((bal (Below.refl wq4.heap.size wq4) (Obj.cells #[.int .i64 v1, .int .i64 v2, .int .i64 v3, .int .i64 v4] 25)).cell (p := ⟨w.heap.size, 2, none⟩) (by simp only; omega)).trans d2_4)
  have f2_5 := (hb.cells.2 (w.heap.size) 2 (by first | omega | (simp; done) | (simp; omega)) (by first | omega | (simp; done) | (simp; omega))).trans (((bal (Below.refl wq4.heap.size wq4) (Obj.cells #[.int .i64 v1, .int .i64 v2, .int .i64 v3, .int .i64 v4] 25)).frozen (p := ⟨w.heap.size, 2, none⟩) (by simp only; omega)).trans f2_4)
  have d3_5 := (hb.cells.1 (w.heap.size) 3 (by first | omega | (simp; done) | (simp; omega)) (by first | omega | (simp; done) | (simp; omega))).trans (((bal (Below.refl wq4.heap.size wq4) (Obj.cells #[.int .i64 v1, .int .i64 v2, .int .i64 v3, .int .i64 v4] 25)).cell (p := ⟨w.heap.size, 3, none⟩) (by simp only; omega)).trans d3_4)
  have f3_5 := (hb.cells.2 (w.heap.size) 3 (by first | omega | (simp; done) | (simp; omega)) (by first | omega | (simp; done) | (simp; omega))).trans (((bal (Below.refl wq4.heap.size wq4) (Obj.cells #[.int .i64 v1, .int .i64 v2, .int .i64 v3, .int .i64 v4] 25)).frozen (p := ⟨w.heap.size, 3, none⟩) (by simp only; omega)).trans f3_4)
  have g0_5 := hb.cell
  have gz0_5 := hb.free
  have h0_5 := (hb.cells.1 (wq3.heap.size + 1 + 1) 0 (by first | omega | (simp; done) | (simp; omega)) (by first | omega | (simp; done) | (simp; omega))).trans (((bal (Below.refl wq4.heap.size wq4) (Obj.cells #[.int .i64 v1, .int .i64 v2, .int .i64 v3, .int .i64 v4] 25)).cell (p := ⟨wq3.heap.size + 1 + 1, 0, none⟩) (by simp only; omega)).trans h0_4)
  have h1_5 := (hb.cells.1 (wq3.heap.size + 1 + 1) 1 (by first | omega | (simp; done) | (simp; omega)) (by first | omega | (simp; done) | (simp; omega))).trans (((bal (Below.refl wq4.heap.size wq4) (Obj.cells #[.int .i64 v1, .int .i64 v2, .int .i64 v3, .int .i64 v4] 25)).cell (p := ⟨wq3.heap.size + 1 + 1, 1, none⟩) (by simp only; omega)).trans h1_4)
  have h2_5 := (hb.cells.1 (wq3.heap.size + 1 + 1) 2 (by first | omega | (simp; done) | (simp; omega)) (by first | omega | (simp; done) | (simp; omega))).trans (((bal (Below.refl wq4.heap.size wq4) (Obj.cells #[.int .i64 v1, .int .i64 v2, .int .i64 v3, .int .i64 v4] 25)).cell (p := ⟨wq3.heap.size + 1 + 1, 2, none⟩) (by simp only; omega)).trans h2_4)
  have h3_5 := (hb.cells.1 (wq3.heap.size + 1 + 1) 3 (by first | omega | (simp; done) | (simp; omega)) (by first | omega | (simp; done) | (simp; omega))).trans (((bal (Below.refl wq4.heap.size wq4) (Obj.cells #[.int .i64 v1, .int .i64 v2, .int .i64 v3, .int .i64 v4] 25)).cell (p := ⟨wq3.heap.size + 1 + 1, 3, none⟩) (by simp only; omega)).trans h3_4)
  have i0_5 := (hb.cells.1 (wq4.heap.size) 0 (by first | omega | (simp; done) | (simp; omega)) (by first | omega | (simp; done) | (simp; omega))).trans (by go_cell : _ = some (.int .i64 v1))
  have i1_5 := (hb.cells.1 (wq4.heap.size) 1 (by first | omega | (simp; done) | (simp; omega)) (by first | omega | (simp; done) | (simp; omega))).trans (by go_cell : _ = some (.int .i64 v2))
  have i2_5 := (hb.cells.1 (wq4.heap.size) 2 (by first | omega | (simp; done) | (simp; omega)) (by first | omega | (simp; done) | (simp; omega))).trans (by go_cell : _ = some (.int .i64 v3))
  have i3_5 := (hb.cells.1 (wq4.heap.size) 3 (by first | omega | (simp; done) | (simp; omega)) (by first | omega | (simp; done) | (simp; omega))).trans (by go_cell : _ = some (.int .i64 v4))
  have l5_0 : w.heap.size < wq5.heap.size := by omega
  have l5_1 : wq3.heap.size < wq5.heap.size := by omega
  have l5_2 : wq3.heap.size + 1 < wq5.heap.size := by omega
  have l5_3 : wq3.heap.size + 1 + 1 < wq5.heap.size := by omega
  have l5_4 : wq4.heap.size < wq5.heap.size := by omega
  clear hb hs5 hgc hgf d0_4 f0_4 d1_4 f1_4 d2_4 f2_4 d3_4 f3_4 g0_4 gz0_4 h0_4 h1_4 h2_4 h3_4 l4_0 l4_1 l4_2 l4_3 DS4
  have HZK := Lib.hid (subW_okR HQ5.out)
  have o2 := l5_2
  go_wp2_with fail
  have hgc : (wq5.alloc (Obj.cells #[.int .i64 z1, .int .i64 z2, .int .i64 z3, .int .i64 z4] 25)).cell? ⟨wq3.heap.size + 1, 0, none⟩ = some (.int .i64 e2) := by go_cell
  have hgf : (wq5.alloc (Obj.cells #[.int .i64 z1, .int .i64 z2, .int .i64 z3, .int .i64 z4] 25)).frozen? ⟨wq3.heap.size + 1, 0, none⟩ = false := by go_cell
  refine (rMulW_any T1 T2 0 0 v1 v2 v3 v4 e2 (wq3.heap.size + 1) _ HTK.out H00.out HVK.out.1 HVK.out.2 hgc hgf).mono ?_
  rintro e wq6 ⟨he, hb⟩
  obtain ⟨r, hr⟩ : ∃ r, (mulW e2 ⟨⟨T1, T2⟩, ⟨0, 0⟩⟩ ⟨⟨v1, v2⟩, ⟨v3, v4⟩⟩) = r := ⟨_, rfl⟩
  rw [hr] at he hb
  obtain ⟨⟨⟨x1, x2⟩, ⟨x3, x4⟩⟩, e3⟩ := r
  have HQ6 := Lib.hid hr
  clear hr
  obtain rfl : e = .returned (.agg #[.int .i64 x1, .int .i64 x2, .int .i64 x3, .int .i64 x4]) := he
  have hs6 := hb.size
  (try simp at hs6)
  have DS6 : Below w.heap.size w wq6 := Below.trans (by go_grown) (hb.below (by first | omega | (simp; done) | (simp; omega)) (by have := DS5.size; first | omega | (simp; done) | (simp; omega)))
  have d0_6 := (hb.cells.1 (w.heap.size) 0 (by first | omega | (simp; done) | (simp; omega)) (by first | omega | (simp; done) | (simp; omega))).trans (((bal (Below.refl wq5.heap.size wq5) (Obj.cells #[.int .i64 z1, .int .i64 z2, .int .i64 z3, .int .i64 z4] 25)).cell (p := ⟨w.heap.size, 0, none⟩) (by simp only; omega)).trans d0_5)
  have f0_6 := (hb.cells.2 (w.heap.size) 0 (by first | omega | (simp; done) | (simp; omega)) (by first | omega | (simp; done) | (simp; omega))).trans (((bal (Below.refl wq5.heap.size wq5) (Obj.cells #[.int .i64 z1, .int .i64 z2, .int .i64 z3, .int .i64 z4] 25)).frozen (p := ⟨w.heap.size, 0, none⟩) (by simp only; omega)).trans f0_5)
  have d1_6 := (hb.cells.1 (w.heap.size) 1 (by first | omega | (simp; done) | (simp; omega)) (by first | omega | (simp; done) | (simp; omega))).trans (((bal (Below.refl wq5.heap.size wq5) (Obj.cells #[.int .i64 z1, .int .i64 z2, .int .i64 z3, .int .i64 z4] 25)).cell (p := ⟨w.heap.size, 1, none⟩) (by simp only; omega)).trans d1_5)
  have f1_6 := (hb.cells.2 (w.heap.size) 1 (by first | omega | (simp; done) | (simp; omega)) (by first | omega | (simp; done) | (simp; omega))).trans (((bal (Below.refl wq5.heap.size wq5) (Obj.cells #[.int .i64 z1, .int .i64 z2, .int .i64 z3, .int .i64 z4] 25)).frozen (p := ⟨w.heap.size, 1, none⟩) (by simp only; omega)).trans f1_5)
  have d2_6 := (hb.cells.1 (w.heap.size) 2 (by first | omega | (simp; done) | (simp; omega)) (by first | omega | (simp; done) | (simp; omega))).trans (((bal (Below.refl wq5.heap.size wq5) (Obj.cells #[.int .i64 z1, .int .i64 z2, .int .i64 z3, .int .i64 z4] 25)).cell (p := ⟨w.heap.size, 2, none⟩) (by simp only; omega)).trans d2_5)
  have f2_6 := (hb.cells.2 (w.heap.size) 2 (by first | omega | (simp; done) | (simp; omega)) (by first | omega | (simp; done) | (simp; omega))).trans (((bal (Below.refl wq5.heap.size wq5) (Obj.cells #[.int .i64 z1, .int .i64 z2, .int .i64 z3, .int .i64 z4] 25)).frozen (p := ⟨w.heap.size, 2, none⟩) (by simp only; omega)).trans f2_5)
  have d3_6 := (hb.cells.1 (w.heap.size) 3 (by first | omega | (simp; done) | (simp; omega)) (by first | omega | (simp; done) | (simp; omega))).trans (((bal (Below.refl wq5.heap.size wq5) (Obj.cells #[.int .i64 z1, .int .i64 z2, .int .i64 z3, .int .i64 z4] 25)).cell (p := ⟨w.heap.size, 3, none⟩) (by simp only; omega)).trans d3_5)
  have f3_6 := (hb.cells.2 (w.heap.size) 3 (by first | omega | (simp; done) | (simp; omega)) (by first | omega | (simp; done) | (simp; omega))).trans (((bal (Below.refl wq5.heap.size wq5) (Obj.cells #[.int .i64 z1, .int .i64 z2, .int .i64 z3, .int .i64 z4] 25)).frozen (p := ⟨w.heap.size, 3, none⟩) (by simp only; omega)).trans f3_5)
  have g0_6 := hb.cell
  have gz0_6 := hb.free
  have j0_6 := (hb.cells.1 (wq5.heap.size) 0 (by first | omega | (simp; done) | (simp; omega)) (by first | omega | (simp; done) | (simp; omega))).trans (by go_cell : _ = some (.int .i64 z1))
  have j1_6 := (hb.cells.1 (wq5.heap.size) 1 (by first | omega | (simp; done) | (simp; omega)) (by first | omega | (simp; done) | (simp; omega))).trans (by go_cell : _ = some (.int .i64 z2))
  have j2_6 := (hb.cells.1 (wq5.heap.size) 2 (by first | omega | (simp; done) | (simp; omega)) (by first | omega | (simp; done) | (simp; omega))).trans (by go_cell : _ = some (.int .i64 z3))
  have j3_6 := (hb.cells.1 (wq5.heap.size) 3 (by first | omega | (simp; done) | (simp; omega)) (by first | omega | (simp; done) | (simp; omega))).trans (by go_cell : _ = some (.int .i64 z4))
  have l6_0 : w.heap.size < wq6.heap.size := by omega
  have l6_1 : wq3.heap.size < wq6.heap.size := by omega
  have l6_2 : wq3.heap.size + 1 < wq6.heap.size := by omega
  have l6_3 : wq5.heap.size < wq6.heap.size := by omega
  clear hb hs6 hgc hgf d0_5 f0_5 d1_5 f1_5 d2_5 f2_5 d3_5 f3_5 g0_5 gz0_5 h0_5 h1_5 h2_5 h3_5 i0_5 i1_5 i2_5 i3_5 l5_0 l5_1 l5_2 l5_3 l5_4 DS5
  have HXK := Lib.hid (mulW_okR HQ6.out)
  go_upto_region 11 with fail
  have b3 : Below wq6.heap.size wq6 (wq6.alloc (Obj.cells #[.int .i64 x1, .int .i64 x2, .int .i64 x3, .int .i64 x4] 25)) := bal (Below.refl _ _) _
  have DE : Below w.heap.size w (wq6.alloc (Obj.cells #[.int .i64 x1, .int .i64 x2, .int .i64 x3, .int .i64 x4] 25)) := DS6.trans (b3.mono DS6.size)
  have Ed0 := (b3.cell (p := ⟨w.heap.size, 0, none⟩) l6_0).trans d0_6
  have Ef0 := (b3.frozen (p := ⟨w.heap.size, 0, none⟩) l6_0).trans f0_6
  have Ed1 := (b3.cell (p := ⟨w.heap.size, 1, none⟩) l6_0).trans d1_6
  have Ef1 := (b3.frozen (p := ⟨w.heap.size, 1, none⟩) l6_0).trans f1_6
  have Ed2 := (b3.cell (p := ⟨w.heap.size, 2, none⟩) l6_0).trans d2_6
  have Ef2 := (b3.frozen (p := ⟨w.heap.size, 2, none⟩) l6_0).trans f2_6
  have Ed3 := (b3.cell (p := ⟨w.heap.size, 3, none⟩) l6_0).trans d3_6
  have Ef3 := (b3.frozen (p := ⟨w.heap.size, 3, none⟩) l6_0).trans f3_6
  have Eg0 := (b3.cell (p := ⟨wq3.heap.size + 1, 0, none⟩) l6_2).trans g0_6
  have Egz0 := (b3.frozen (p := ⟨wq3.heap.size + 1, 0, none⟩) l6_2).trans gz0_6
  have Ej0 := (b3.cell (p := ⟨wq5.heap.size, 0, none⟩) l6_3).trans j0_6
  have Ej1 := (b3.cell (p := ⟨wq5.heap.size, 1, none⟩) l6_3).trans j1_6
  have Ej2 := (b3.cell (p := ⟨wq5.heap.size, 2, none⟩) l6_3).trans j2_6
  have Ej3 := (b3.cell (p := ⟨wq5.heap.size, 3, none⟩) l6_3).trans j3_6
  have Ek0 : (wq6.alloc (Obj.cells #[.int .i64 x1, .int .i64 x2, .int .i64 x3, .int .i64 x4] 25)).cell? ⟨wq6.heap.size, 0, none⟩ = some (.int .i64 x1) := by go_cell
  have Ek1 : (wq6.alloc (Obj.cells #[.int .i64 x1, .int .i64 x2, .int .i64 x3, .int .i64 x4] 25)).cell? ⟨wq6.heap.size, 1, none⟩ = some (.int .i64 x2) := by go_cell
  have Ek2 : (wq6.alloc (Obj.cells #[.int .i64 x1, .int .i64 x2, .int .i64 x3, .int .i64 x4] 25)).cell? ⟨wq6.heap.size, 2, none⟩ = some (.int .i64 x3) := by go_cell
  have Ek3 : (wq6.alloc (Obj.cells #[.int .i64 x1, .int .i64 x2, .int .i64 x3, .int .i64 x4] 25)).cell? ⟨wq6.heap.size, 3, none⟩ = some (.int .i64 x4) := by go_cell
  have sE : wq6.heap.size < (wq6.alloc (Obj.cells #[.int .i64 x1, .int .i64 x2, .int .i64 x3, .int .i64 x4] 25)).heap.size := by simp
  have q0 : w.heap.size < wq6.heap.size := l6_0
  have q1 : wq3.heap.size + 1 < wq6.heap.size := l6_2
  have q2 : wq5.heap.size < wq6.heap.size := l6_3
  have q3 : w.heap.size < wq3.heap.size + 1 := by omega
  have q4 : wq3.heap.size + 1 < wq5.heap.size := by omega
  clear b3 DS6 d0_6 f0_6 d1_6 f1_6 d2_6 f2_6 d3_6 f3_6 g0_6 gz0_6 j0_6 j1_6 j2_6 j3_6 l6_0 l6_1 l6_2 l6_3
  generalize (wq6.alloc (Obj.cells #[.int .i64 x1, .int .i64 x2, .int .i64 x3, .int .i64 x4] 25)) = W at *
  generalize wq6.heap.size = RO at *
  generalize wq5.heap.size = UP at *
  generalize wq3.heap.size + 1 = G at *
  have hgW : G < W.heap.size := by omega
  have HD : Wk G e3 W.heap.size W W := ⟨rfl, rfl, rfl, Nat.le_refl _, fun _ _ _ => rfl, Eg0, Egz0⟩
  have HW0 := Lib.hid DE
  have G0 : Hid (∀ (e : Int) w', Wk G e W.heap.size W w' → w'.cell? ⟨RO, 0, none⟩ = some (.int .i64 x1) ∧ w'.cell? ⟨RO, 1, none⟩ = some (.int .i64 x2) ∧ w'.cell? ⟨RO, 2, none⟩ = some (.int .i64 x3) ∧ w'.cell? ⟨RO, 3, none⟩ = some (.int .i64 x4)) := Lib.hid (fun e w' hb => by
    exact ⟨(hb.cells.1 _ 0 (by omega) (by omega)).trans Ek0, (hb.cells.1 _ 1 (by omega) (by omega)).trans Ek1, (hb.cells.1 _ 2 (by omega) (by omega)).trans Ek2, (hb.cells.1 _ 3 (by omega) (by omega)).trans Ek3⟩)
  have G1 : Hid (∀ (e : Int) w', Wk G e W.heap.size W w' → w'.cell? ⟨w.heap.size, 0, none⟩ = some (.int .i64 0) ∧ w'.frozen? ⟨w.heap.size, 0, none⟩ = false ∧ w'.cell? ⟨w.heap.size, 1, none⟩ = some (.int .i64 0) ∧ w'.frozen? ⟨w.heap.size, 1, none⟩ = false ∧ w'.cell? ⟨w.heap.size, 2, none⟩ = some (.int .i64 0) ∧ w'.frozen? ⟨w.heap.size, 2, none⟩ = false ∧ w'.cell? ⟨w.heap.size, 3, none⟩ = some (.int .i64 0) ∧ w'.frozen? ⟨w.heap.size, 3, none⟩ = false ∧ w'.cell? ⟨UP, 0, none⟩ = some (.int .i64 z1) ∧ w'.cell? ⟨UP, 1, none⟩ = some (.int .i64 z2) ∧ w'.cell? ⟨UP, 2, none⟩ = some (.int .i64 z3) ∧ w'.cell? ⟨UP, 3, none⟩ = some (.int .i64 z4)) := Lib.hid (fun e w' hb => by
    exact ⟨(hb.cells.1 _ 0 (by omega) (by omega)).trans Ed0, (hb.cells.2 _ 0 (by omega) (by omega)).trans Ef0, (hb.cells.1 _ 1 (by omega) (by omega)).trans Ed1, (hb.cells.2 _ 1 (by omega) (by omega)).trans Ef1, (hb.cells.1 _ 2 (by omega) (by omega)).trans Ed2, (hb.cells.2 _ 2 (by omega) (by omega)).trans Ef2, (hb.cells.1 _ 3 (by omega) (by omega)).trans Ed3, (hb.cells.2 _ 3 (by omega) (by omega)).trans Ef3, (hb.cells.1 _ 0 (by omega) (by omega)).trans Ej0, (hb.cells.1 _ 1 (by omega) (by omega)).trans Ej1, (hb.cells.1 _ 2 (by omega) (by omega)).trans Ej2, (hb.cells.1 _ 3 (by omega) (by omega)).trans Ej3⟩)
  clear DE Ek0 Ek1 Ek2 Ek3 Ed0 Ef0 Ed1 Ef1 Ed2 Ef2 Ed3 Ef3 Eg0 Egz0 Ej0 Ej1 Ej2 Ej3
  have HD1 : Wk G e3 W.heap.size W W.drew := HD.then ((Below.refl _ _).drew.mono HD.size) hgW
  refine wp_region_held_drew (S := fun w' => w'.cell? ⟨RO, 0, none⟩ = some (.int .i64 x1) ∧ w'.cell? ⟨RO, 1, none⟩ = some (.int .i64 x2) ∧ w'.cell? ⟨RO, 2, none⟩ = some (.int .i64 x3) ∧ w'.cell? ⟨RO, 3, none⟩ = some (.int .i64 x4)) (by kernel_rfl) (G0.out _ _ HD1) (fun hHeld => ?_)
  refine wpAnyH_take (i := 0) (oi := _) (v := ?_) rfl (by kernel_rfl) (by kernel_rfl) (by kernel_rfl) (fun _ _ _ h => h) (Or.inl ⟨by rfl, ?_⟩) (by assumption) ?_
  rotate_left
  · intro w hSw; obtain ⟨_, _, _, _⟩ := hSw; go_simp; (try with_reducible rfl)
  try change wpAnyH _ _ _ _ _ _ _ (Act.put _ (some 67) _) _
  try simp only [act_all]
  refine wpAnyH_take (i := 2) (oi := _) (v := ?_) rfl (by kernel_rfl) (by kernel_rfl) (by kernel_rfl) (fun _ _ _ h => h) (Or.inl ⟨by rfl, ?_⟩) (by assumption) ?_
  rotate_left
  · intro w hSw; obtain ⟨_, _, _, _⟩ := hSw; go_simp; (try with_reducible rfl)
  try change wpAnyH _ _ _ _ _ _ _ (Act.put _ (some 69) _) _
  try simp only [act_all]
  refine wpAnyH_ready (rs := [1, 4]) (by kernel_rfl) (by simp) ?_
  refine AllReadyH.cons (o := _) rfl (fun K hK => ?_) ?_
  · go_simp
    refine (rWhole_any 1 _ (by omega) (by omega)).mono ?_
    rintro e w2_ ⟨rfl, hb⟩
    have HD2 : Wk G e3 W.heap.size W w2_ := HD1.then (hb.mono HD1.size) hgW
    have hz2 := HD2.size
    have hq2 := hb.size
    (try simp at hq2)
    clear hb hHeld
    refine hK.out _ _ (G0.out _ _ HD2) (fun hHeld => ?_)
    clear hK K
    try simp only [act_all]
    refine wpAnyH_ready (rs := [3, 4]) (by kernel_rfl) (by simp) ?_
    refine AllReadyH.cons (o := _) rfl (fun K hK => ?_) ?_
    · go_simp
      refine (rSubW_any 1073741824 1073741824 0 0 x1 x2 x3 x4 e3 G _ H11.out H00.out HXK.out.1 HXK.out.2 HD2.cell HD2.free).mono ?_
      rintro e w3_ ⟨he, hb⟩
      obtain ⟨r, hr⟩ : ∃ r, (subW e3 ⟨⟨1073741824, 1073741824⟩, ⟨0, 0⟩⟩ ⟨⟨x1, x2⟩, ⟨x3, x4⟩⟩) = r := ⟨_, rfl⟩
      rw [hr] at he hb
      obtain ⟨⟨⟨y1, y2⟩, ⟨y3, y4⟩⟩, e4⟩ := r
      have HR3 := Lib.hid hr
      have HD3 : Wk G e4 W.heap.size W w3_ := HD2.trans (hb.mono HD2.size)
      obtain rfl : e = .returned (.agg #[.int .i64 y1, .int .i64 y2, .int .i64 y3, .int .i64 y4]) := he
      have hz3 := HD3.size
      have hq3 := hb.size
      (try simp at hq3)
      clear hb hHeld hr
      refine hK.out _ _ (G0.out _ _ HD3) (fun hHeld => ?_)
      clear hK K
      try simp only [act_all]
      refine wpAnyH_ready (rs := [4]) (by kernel_rfl) (by simp) ?_
      refine AllReadyH.cons (o := _) rfl (fun K hK => ?_) AllReadyH.nil
      have HD4 : Wk G e4 W.heap.size W (w3_.alloc (Obj.cells #[.int .i64 0, .int .i64 0, .int .i64 0, .int .i64 0] 25)) := HD3.then ((bal (Below.refl _ _) _).mono HD3.size) hgW
      go_simp
      refine hK.out _ _ (G0.out _ _ HD4) (fun hHeld => ?_)
      clear hK K
      try simp only [act_all]
      refine wpAnyH_ready (rs := [5]) (by kernel_rfl) (by simp) ?_
      refine AllReadyH.cons (o := _) rfl (fun K hK => ?_) AllReadyH.nil
      obtain ⟨_, _, _, _⟩ := G0.out _ _ HD4
      have nx : ¬ w3_.heap.size = RO := by omega
      have nlt : RO < w3_.heap.size := by omega
      go_simp
      refine hK.out _ _ (by refine ⟨?_, ?_, ?_, ?_⟩ <;> go_cell) (fun hHeld => ?_)
      clear hK K
      try simp only [act_all]
      refine wpAnyH_done (by kernel_rfl) ?_ _
      go_upto_region 12 with fail
      have hX : W.heap.size ≤ w3_.heap.size := by omega
      have HE : Wk G e4 W.heap.size W (w3_.alloc (Obj.cells #[.int .i64 y1, .int .i64 y2, .int .i64 y3, .int .i64 y4] 25)) := HD3.then ((bal (Below.refl _ _) _).mono HD3.size) hgW
      have m0 : (w3_.alloc (Obj.cells #[.int .i64 y1, .int .i64 y2, .int .i64 y3, .int .i64 y4] 25)).cell? ⟨w3_.heap.size, 0, none⟩ = some (.int .i64 y1) := by go_cell
      have m1 : (w3_.alloc (Obj.cells #[.int .i64 y1, .int .i64 y2, .int .i64 y3, .int .i64 y4] 25)).cell? ⟨w3_.heap.size, 1, none⟩ = some (.int .i64 y2) := by go_cell
      have m2 : (w3_.alloc (Obj.cells #[.int .i64 y1, .int .i64 y2, .int .i64 y3, .int .i64 y4] 25)).cell? ⟨w3_.heap.size, 2, none⟩ = some (.int .i64 y3) := by go_cell
      have m3 : (w3_.alloc (Obj.cells #[.int .i64 y1, .int .i64 y2, .int .i64 y3, .int .i64 y4] 25)).cell? ⟨w3_.heap.size, 3, none⟩ = some (.int .i64 y4) := by go_cell
      have sX : w3_.heap.size < (w3_.alloc (Obj.cells #[.int .i64 y1, .int .i64 y2, .int .i64 y3, .int .i64 y4] 25)).heap.size := by first | (simp; done) | (simp; omega)
      have sE2 := HE.size
      clear hHeld
      generalize (w3_.alloc (Obj.cells #[.int .i64 y1, .int .i64 y2, .int .i64 y3, .int .i64 y4] 25)) = V at *
      obtain ⟨XB, hXB⟩ : ∃ XB, w3_.heap.size = XB := ⟨_, rfl⟩
      rw [hXB] at m0 m1 m2 m3 sX hX ⊢
      obtain ⟨n_0, n_1, n_2, n_3, n_4, n_5, n_6, n_7, n_8, n_9, n_10, n_11⟩ := G1.out _ _ HE
      have gq0 := HE.cell
      have gq1 := HE.free
      have DV : Below w.heap.size w V := HW0.out.trans (HE.below (by omega) HW0.out.size)
      have HYK := Lib.hid (subW_okR HR3.out)
      have p0 : w.heap.size < V.heap.size := by omega
      have p1 : G < V.heap.size := by omega
      have p2 : UP < V.heap.size := by omega
      have p3 : ¬ w.heap.size = G := by omega
      have p4 : ¬ G = w.heap.size := by omega
      clear HE sE2
      have n0 := n_0
      have n1 := n_1
      have n2 := n_2
      have n3 := n_3
      have n4 := n_4
      have n5 := n_5
      have n6 := n_6
      have n7 := n_7
      have n8 := n_8
      have n9 := n_9
      have n10 := n_10
      have n11 := n_11
      clear n_0 n_1 n_2 n_3 n_4 n_5 n_6 n_7 n_8 n_9 n_10 n_11
      go_wp2_with fail
      refine (rDivW_any z1 z2 z3 z4 y1 y2 y3 y4 e4 G _ HZK.out.1 HZK.out.2 HYK.out.1 HYK.out.2 gq0 gq1).mono ?_
      rintro e wq31 ⟨he, hb⟩
      obtain ⟨r, hr⟩ : ∃ r, (divW e4 ⟨⟨z1, z2⟩, ⟨z3, z4⟩⟩ ⟨⟨y1, y2⟩, ⟨y3, y4⟩⟩) = r := ⟨_, rfl⟩
      rw [hr] at he hb
      obtain ⟨⟨⟨r1, r2⟩, ⟨r3, r4⟩⟩, e5⟩ := r
      have HQ31 := Lib.hid hr
      clear hr
      obtain rfl : e = .returned (.agg #[.int .i64 r1, .int .i64 r2, .int .i64 r3, .int .i64 r4]) := he
      have hs31 := hb.size
      (try simp at hs31)
      have DS31 : Below w.heap.size w wq31 := Below.trans (by go_grown) (hb.below (by first | omega | (simp; done) | (simp; omega)) (by have := DV.size; first | omega | (simp; done) | (simp; omega)))
      have n0_31 := (hb.cells.1 (w.heap.size) 0 (by first | omega | (simp; done) | (simp; omega)) (by first | omega | (simp; done) | (simp; omega))).trans (((Below.refl V.heap.size V).cell (p := ⟨w.heap.size, 0, none⟩) (by simp only; omega)).trans n0)
      have n1_31 := (hb.cells.2 (w.heap.size) 0 (by first | omega | (simp; done) | (simp; omega)) (by first | omega | (simp; done) | (simp; omega))).trans (((Below.refl V.heap.size V).frozen (p := ⟨w.heap.size, 0, none⟩) (by simp only; omega)).trans n1)
      have n2_31 := (hb.cells.1 (w.heap.size) 1 (by first | omega | (simp; done) | (simp; omega)) (by first | omega | (simp; done) | (simp; omega))).trans (((Below.refl V.heap.size V).cell (p := ⟨w.heap.size, 1, none⟩) (by simp only; omega)).trans n2)
      have n3_31 := (hb.cells.2 (w.heap.size) 1 (by first | omega | (simp; done) | (simp; omega)) (by first | omega | (simp; done) | (simp; omega))).trans (((Below.refl V.heap.size V).frozen (p := ⟨w.heap.size, 1, none⟩) (by simp only; omega)).trans n3)
      have n4_31 := (hb.cells.1 (w.heap.size) 2 (by first | omega | (simp; done) | (simp; omega)) (by first | omega | (simp; done) | (simp; omega))).trans (((Below.refl V.heap.size V).cell (p := ⟨w.heap.size, 2, none⟩) (by simp only; omega)).trans n4)
      have n5_31 := (hb.cells.2 (w.heap.size) 2 (by first | omega | (simp; done) | (simp; omega)) (by first | omega | (simp; done) | (simp; omega))).trans (((Below.refl V.heap.size V).frozen (p := ⟨w.heap.size, 2, none⟩) (by simp only; omega)).trans n5)
      have n6_31 := (hb.cells.1 (w.heap.size) 3 (by first | omega | (simp; done) | (simp; omega)) (by first | omega | (simp; done) | (simp; omega))).trans (((Below.refl V.heap.size V).cell (p := ⟨w.heap.size, 3, none⟩) (by simp only; omega)).trans n6)
      have n7_31 := (hb.cells.2 (w.heap.size) 3 (by first | omega | (simp; done) | (simp; omega)) (by first | omega | (simp; done) | (simp; omega))).trans (((Below.refl V.heap.size V).frozen (p := ⟨w.heap.size, 3, none⟩) (by simp only; omega)).trans n7)
      have gq0_31 := hb.cell
      have gq1_31 := hb.free
      have l31_0 : w.heap.size < wq31.heap.size := by omega
      have l31_1 : G < wq31.heap.size := by omega
      clear hb hs31 n0 n1 n2 n3 n4 n5 n6 n7 n8 n9 n10 n11 m0 m1 m2 m3 gq0 gq1 DV
      have HN : Hid (RW = (⟨⟨r1, r2⟩, ⟨r3, r4⟩⟩, e5)) := Lib.hid (by rw [← HRW.out]; simp only [ringW, HQ4.out, HQ5.out, HQ6.out, HR3.out, HQ31.out])
      obtain ⟨fo, hfo⟩ : ∃ fo, fin ⟨⟨r1, r2⟩, ⟨r3, r4⟩⟩ e5 = fo := ⟨_, rfl⟩
      obtain ⟨a1, a2, a3, a4, ae, hao⟩ := OutR_form2 fo
      have HFO := Lib.hid hfo
      have HAO := Lib.hid hao
      clear hfo hao
      go_wp2_with fail
      refine (rDone_any r1 r2 r3 r4 e5 G _ gq0_31).mono ?_
      rw [HFO.out]
      rw [HAO.out]
      rintro e wq32 ⟨he, hb⟩
      obtain rfl : e = .returned (.tuple #[.agg #[.int .i64 a1, .int .i64 a2, .int .i64 a3, .int .i64 a4], .int .i64 ae]) := he
      have hs32 := hb.size
      (try simp at hs32)
      have DS32 : Below w.heap.size w wq32 := Below.trans (by go_grown) (hb.mono (by have := DS31.size; first | omega | (simp; done) | (simp; omega)))
      obtain ⟨k1, k2⟩ := bcl hb
      have n0_32 := (k1 (w.heap.size) 0 (by first | omega | (simp; done) | (simp; omega))).trans (((Below.refl wq31.heap.size wq31).cell (p := ⟨w.heap.size, 0, none⟩) (by simp only; omega)).trans n0_31)
      have n1_32 := (k2 (w.heap.size) 0 (by first | omega | (simp; done) | (simp; omega))).trans (((Below.refl wq31.heap.size wq31).frozen (p := ⟨w.heap.size, 0, none⟩) (by simp only; omega)).trans n1_31)
      have n2_32 := (k1 (w.heap.size) 1 (by first | omega | (simp; done) | (simp; omega))).trans (((Below.refl wq31.heap.size wq31).cell (p := ⟨w.heap.size, 1, none⟩) (by simp only; omega)).trans n2_31)
      have n3_32 := (k2 (w.heap.size) 1 (by first | omega | (simp; done) | (simp; omega))).trans (((Below.refl wq31.heap.size wq31).frozen (p := ⟨w.heap.size, 1, none⟩) (by simp only; omega)).trans n3_31)
      have n4_32 := (k1 (w.heap.size) 2 (by first | omega | (simp; done) | (simp; omega))).trans (((Below.refl wq31.heap.size wq31).cell (p := ⟨w.heap.size, 2, none⟩) (by simp only; omega)).trans n4_31)
      have n5_32 := (k2 (w.heap.size) 2 (by first | omega | (simp; done) | (simp; omega))).trans (((Below.refl wq31.heap.size wq31).frozen (p := ⟨w.heap.size, 2, none⟩) (by simp only; omega)).trans n5_31)
      have n6_32 := (k1 (w.heap.size) 3 (by first | omega | (simp; done) | (simp; omega))).trans (((Below.refl wq31.heap.size wq31).cell (p := ⟨w.heap.size, 3, none⟩) (by simp only; omega)).trans n6_31)
      have n7_32 := (k2 (w.heap.size) 3 (by first | omega | (simp; done) | (simp; omega))).trans (((Below.refl wq31.heap.size wq31).frozen (p := ⟨w.heap.size, 3, none⟩) (by simp only; omega)).trans n7_31)
      have l32_0 : w.heap.size < wq32.heap.size := by omega
      clear hb hs32 k1 k2 n0_31 n1_31 n2_31 n3_31 n4_31 n5_31 n6_31 n7_31 gq0_31 gq1_31 l31_0 l31_1 DS31
      have hDL := DS32
      go_wp2_with fail
      refine bodyPost_ret (v := .tuple #[.agg #[.int .i64 a1, .int .i64 a2, .int .i64 a3, .int .i64 a4], .int .i64 ae]) (by simp [results, Try.results39, go_sem, *]) rfl ⟨by rw [HN.out]; simp only; rw [HFO.out, HAO.out], by go_grown⟩
    refine AllReadyH.cons (o := _) rfl (fun K hK => ?_) AllReadyH.nil
    have HD5 : Wk G e3 W.heap.size W (w2_.alloc (Obj.cells #[.int .i64 0, .int .i64 0, .int .i64 0, .int .i64 0] 25)) := HD2.then ((bal (Below.refl _ _) _).mono HD2.size) hgW
    go_simp
    refine hK.out _ _ (G0.out _ _ HD5) (fun hHeld => ?_)
    clear hK K
    try simp only [act_all]
    refine wpAnyH_ready (rs := [3]) (by kernel_rfl) (by simp) ?_
    refine AllReadyH.cons (o := _) rfl (fun K hK => ?_) AllReadyH.nil
    go_simp
    refine (rSubW_any 1073741824 1073741824 0 0 x1 x2 x3 x4 e3 G _ H11.out H00.out HXK.out.1 HXK.out.2 HD5.cell HD5.free).mono ?_
    rintro e w6_ ⟨he, hb⟩
    obtain ⟨r, hr⟩ : ∃ r, (subW e3 ⟨⟨1073741824, 1073741824⟩, ⟨0, 0⟩⟩ ⟨⟨x1, x2⟩, ⟨x3, x4⟩⟩) = r := ⟨_, rfl⟩
    rw [hr] at he hb
    obtain ⟨⟨⟨y1, y2⟩, ⟨y3, y4⟩⟩, e4⟩ := r
    have HR6 := Lib.hid hr
    have HD6 : Wk G e4 W.heap.size W w6_ := HD5.trans (hb.mono HD5.size)
    obtain rfl : e = .returned (.agg #[.int .i64 y1, .int .i64 y2, .int .i64 y3, .int .i64 y4]) := he
    have hz6 := HD6.size
    have hq6 := hb.size
    (try simp at hq6)
    have t6_0 := (hb.cells.1 (w2_.heap.size) 0 (by first | omega | (simp; done) | (simp; omega)) (by omega)).trans (by go_cell : _ = some (.int .i64 0))
    have z6_0 := (hb.cells.2 (w2_.heap.size) 0 (by first | omega | (simp; done) | (simp; omega)) (by omega)).trans (by go_cell : _ = false)
    have t6_1 := (hb.cells.1 (w2_.heap.size) 1 (by first | omega | (simp; done) | (simp; omega)) (by omega)).trans (by go_cell : _ = some (.int .i64 0))
    have z6_1 := (hb.cells.2 (w2_.heap.size) 1 (by first | omega | (simp; done) | (simp; omega)) (by omega)).trans (by go_cell : _ = false)
    have t6_2 := (hb.cells.1 (w2_.heap.size) 2 (by first | omega | (simp; done) | (simp; omega)) (by omega)).trans (by go_cell : _ = some (.int .i64 0))
    have z6_2 := (hb.cells.2 (w2_.heap.size) 2 (by first | omega | (simp; done) | (simp; omega)) (by omega)).trans (by go_cell : _ = false)
    have t6_3 := (hb.cells.1 (w2_.heap.size) 3 (by first | omega | (simp; done) | (simp; omega)) (by omega)).trans (by go_cell : _ = some (.int .i64 0))
    have z6_3 := (hb.cells.2 (w2_.heap.size) 3 (by first | omega | (simp; done) | (simp; omega)) (by omega)).trans (by go_cell : _ = false)
    have l6 : w2_.heap.size < w6_.heap.size := by omega
    clear hb hHeld hr
    refine hK.out _ _ (G0.out _ _ HD6) (fun hHeld => ?_)
    clear hK K
    try simp only [act_all]
    refine wpAnyH_ready (rs := [5]) (by kernel_rfl) (by simp) ?_
    refine AllReadyH.cons (o := _) rfl (fun K hK => ?_) AllReadyH.nil
    obtain ⟨_, _, _, _⟩ := G0.out _ _ HD6
    have nx : ¬ w2_.heap.size = RO := by omega
    have nlt : RO < w6_.heap.size := by omega
    go_simp
    refine hK.out _ _ (by refine ⟨?_, ?_, ?_, ?_⟩ <;> go_cell) (fun hHeld => ?_)
    clear hK K
    try simp only [act_all]
    refine wpAnyH_done (by kernel_rfl) ?_ _
    go_upto_region 12 with fail
    have hX : W.heap.size ≤ w2_.heap.size := by omega
    have HE : Wk G e4 W.heap.size W ((((w6_.setCell ⟨w2_.heap.size, 0, none⟩ (.int .i64 y1)).setCell ⟨w2_.heap.size, 1, none⟩ (.int .i64 y2)).setCell ⟨w2_.heap.size, 2, none⟩ (.int .i64 y3)).setCell ⟨w2_.heap.size, 3, none⟩ (.int .i64 y4)) := HD6.then (((((Below.refl _ _).setCell (p := ⟨w2_.heap.size, 0, none⟩) (by simp only; omega) (.int .i64 y1)).setCell (p := ⟨w2_.heap.size, 1, none⟩) (by simp only; omega) (.int .i64 y2)).setCell (p := ⟨w2_.heap.size, 2, none⟩) (by simp only; omega) (.int .i64 y3)).setCell (p := ⟨w2_.heap.size, 3, none⟩) (by simp only; omega) (.int .i64 y4)) hgW
    have m0 : ((((w6_.setCell ⟨w2_.heap.size, 0, none⟩ (.int .i64 y1)).setCell ⟨w2_.heap.size, 1, none⟩ (.int .i64 y2)).setCell ⟨w2_.heap.size, 2, none⟩ (.int .i64 y3)).setCell ⟨w2_.heap.size, 3, none⟩ (.int .i64 y4)).cell? ⟨w2_.heap.size, 0, none⟩ = some (.int .i64 y1) := by go_cell
    have m1 : ((((w6_.setCell ⟨w2_.heap.size, 0, none⟩ (.int .i64 y1)).setCell ⟨w2_.heap.size, 1, none⟩ (.int .i64 y2)).setCell ⟨w2_.heap.size, 2, none⟩ (.int .i64 y3)).setCell ⟨w2_.heap.size, 3, none⟩ (.int .i64 y4)).cell? ⟨w2_.heap.size, 1, none⟩ = some (.int .i64 y2) := by go_cell
    have m2 : ((((w6_.setCell ⟨w2_.heap.size, 0, none⟩ (.int .i64 y1)).setCell ⟨w2_.heap.size, 1, none⟩ (.int .i64 y2)).setCell ⟨w2_.heap.size, 2, none⟩ (.int .i64 y3)).setCell ⟨w2_.heap.size, 3, none⟩ (.int .i64 y4)).cell? ⟨w2_.heap.size, 2, none⟩ = some (.int .i64 y3) := by go_cell
    have m3 : ((((w6_.setCell ⟨w2_.heap.size, 0, none⟩ (.int .i64 y1)).setCell ⟨w2_.heap.size, 1, none⟩ (.int .i64 y2)).setCell ⟨w2_.heap.size, 2, none⟩ (.int .i64 y3)).setCell ⟨w2_.heap.size, 3, none⟩ (.int .i64 y4)).cell? ⟨w2_.heap.size, 3, none⟩ = some (.int .i64 y4) := by go_cell
    have sX : w2_.heap.size < ((((w6_.setCell ⟨w2_.heap.size, 0, none⟩ (.int .i64 y1)).setCell ⟨w2_.heap.size, 1, none⟩ (.int .i64 y2)).setCell ⟨w2_.heap.size, 2, none⟩ (.int .i64 y3)).setCell ⟨w2_.heap.size, 3, none⟩ (.int .i64 y4)).heap.size := by first | (simp; done) | (simp; omega)
    have sE2 := HE.size
    clear hHeld
    generalize ((((w6_.setCell ⟨w2_.heap.size, 0, none⟩ (.int .i64 y1)).setCell ⟨w2_.heap.size, 1, none⟩ (.int .i64 y2)).setCell ⟨w2_.heap.size, 2, none⟩ (.int .i64 y3)).setCell ⟨w2_.heap.size, 3, none⟩ (.int .i64 y4)) = V at *
    obtain ⟨XB, hXB⟩ : ∃ XB, w2_.heap.size = XB := ⟨_, rfl⟩
    rw [hXB] at m0 m1 m2 m3 sX hX ⊢
    obtain ⟨n_0, n_1, n_2, n_3, n_4, n_5, n_6, n_7, n_8, n_9, n_10, n_11⟩ := G1.out _ _ HE
    have gq0 := HE.cell
    have gq1 := HE.free
    have DV : Below w.heap.size w V := HW0.out.trans (HE.below (by omega) HW0.out.size)
    have HYK := Lib.hid (subW_okR HR6.out)
    have p0 : w.heap.size < V.heap.size := by omega
    have p1 : G < V.heap.size := by omega
    have p2 : UP < V.heap.size := by omega
    have p3 : ¬ w.heap.size = G := by omega
    have p4 : ¬ G = w.heap.size := by omega
    clear HE sE2
    have n0 := n_0
    have n1 := n_1
    have n2 := n_2
    have n3 := n_3
    have n4 := n_4
    have n5 := n_5
    have n6 := n_6
    have n7 := n_7
    have n8 := n_8
    have n9 := n_9
    have n10 := n_10
    have n11 := n_11
    clear n_0 n_1 n_2 n_3 n_4 n_5 n_6 n_7 n_8 n_9 n_10 n_11
    go_wp2_with fail
    refine (rDivW_any z1 z2 z3 z4 y1 y2 y3 y4 e4 G _ HZK.out.1 HZK.out.2 HYK.out.1 HYK.out.2 gq0 gq1).mono ?_
    rintro e wq41 ⟨he, hb⟩
    obtain ⟨r, hr⟩ : ∃ r, (divW e4 ⟨⟨z1, z2⟩, ⟨z3, z4⟩⟩ ⟨⟨y1, y2⟩, ⟨y3, y4⟩⟩) = r := ⟨_, rfl⟩
    rw [hr] at he hb
    obtain ⟨⟨⟨r1, r2⟩, ⟨r3, r4⟩⟩, e5⟩ := r
    have HQ41 := Lib.hid hr
    clear hr
    obtain rfl : e = .returned (.agg #[.int .i64 r1, .int .i64 r2, .int .i64 r3, .int .i64 r4]) := he
    have hs41 := hb.size
    (try simp at hs41)
    have DS41 : Below w.heap.size w wq41 := Below.trans (by go_grown) (hb.below (by first | omega | (simp; done) | (simp; omega)) (by have := DV.size; first | omega | (simp; done) | (simp; omega)))
    have n0_41 := (hb.cells.1 (w.heap.size) 0 (by first | omega | (simp; done) | (simp; omega)) (by first | omega | (simp; done) | (simp; omega))).trans (((Below.refl V.heap.size V).cell (p := ⟨w.heap.size, 0, none⟩) (by simp only; omega)).trans n0)
    have n1_41 := (hb.cells.2 (w.heap.size) 0 (by first | omega | (simp; done) | (simp; omega)) (by first | omega | (simp; done) | (simp; omega))).trans (((Below.refl V.heap.size V).frozen (p := ⟨w.heap.size, 0, none⟩) (by simp only; omega)).trans n1)
    have n2_41 := (hb.cells.1 (w.heap.size) 1 (by first | omega | (simp; done) | (simp; omega)) (by first | omega | (simp; done) | (simp; omega))).trans (((Below.refl V.heap.size V).cell (p := ⟨w.heap.size, 1, none⟩) (by simp only; omega)).trans n2)
    have n3_41 := (hb.cells.2 (w.heap.size) 1 (by first | omega | (simp; done) | (simp; omega)) (by first | omega | (simp; done) | (simp; omega))).trans (((Below.refl V.heap.size V).frozen (p := ⟨w.heap.size, 1, none⟩) (by simp only; omega)).trans n3)
    have n4_41 := (hb.cells.1 (w.heap.size) 2 (by first | omega | (simp; done) | (simp; omega)) (by first | omega | (simp; done) | (simp; omega))).trans (((Below.refl V.heap.size V).cell (p := ⟨w.heap.size, 2, none⟩) (by simp only; omega)).trans n4)
    have n5_41 := (hb.cells.2 (w.heap.size) 2 (by first | omega | (simp; done) | (simp; omega)) (by first | omega | (simp; done) | (simp; omega))).trans (((Below.refl V.heap.size V).frozen (p := ⟨w.heap.size, 2, none⟩) (by simp only; omega)).trans n5)
    have n6_41 := (hb.cells.1 (w.heap.size) 3 (by first | omega | (simp; done) | (simp; omega)) (by first | omega | (simp; done) | (simp; omega))).trans (((Below.refl V.heap.size V).cell (p := ⟨w.heap.size, 3, none⟩) (by simp only; omega)).trans n6)
    have n7_41 := (hb.cells.2 (w.heap.size) 3 (by first | omega | (simp; done) | (simp; omega)) (by first | omega | (simp; done) | (simp; omega))).trans (((Below.refl V.heap.size V).frozen (p := ⟨w.heap.size, 3, none⟩) (by simp only; omega)).trans n7)
    have gq0_41 := hb.cell
    have gq1_41 := hb.free
    have l41_0 : w.heap.size < wq41.heap.size := by omega
    have l41_1 : G < wq41.heap.size := by omega
    clear hb hs41 n0 n1 n2 n3 n4 n5 n6 n7 n8 n9 n10 n11 m0 m1 m2 m3 gq0 gq1 DV
    have HN : Hid (RW = (⟨⟨r1, r2⟩, ⟨r3, r4⟩⟩, e5)) := Lib.hid (by rw [← HRW.out]; simp only [ringW, HQ4.out, HQ5.out, HQ6.out, HR6.out, HQ41.out])
    obtain ⟨fo, hfo⟩ : ∃ fo, fin ⟨⟨r1, r2⟩, ⟨r3, r4⟩⟩ e5 = fo := ⟨_, rfl⟩
    obtain ⟨a1, a2, a3, a4, ae, hao⟩ := OutR_form2 fo
    have HFO := Lib.hid hfo
    have HAO := Lib.hid hao
    clear hfo hao
    go_wp2_with fail
    refine (rDone_any r1 r2 r3 r4 e5 G _ gq0_41).mono ?_
    rw [HFO.out]
    rw [HAO.out]
    rintro e wq42 ⟨he, hb⟩
    obtain rfl : e = .returned (.tuple #[.agg #[.int .i64 a1, .int .i64 a2, .int .i64 a3, .int .i64 a4], .int .i64 ae]) := he
    have hs42 := hb.size
    (try simp at hs42)
    have DS42 : Below w.heap.size w wq42 := Below.trans (by go_grown) (hb.mono (by have := DS41.size; first | omega | (simp; done) | (simp; omega)))
    obtain ⟨k1, k2⟩ := bcl hb
    have n0_42 := (k1 (w.heap.size) 0 (by first | omega | (simp; done) | (simp; omega))).trans (((Below.refl wq41.heap.size wq41).cell (p := ⟨w.heap.size, 0, none⟩) (by simp only; omega)).trans n0_41)
    have n1_42 := (k2 (w.heap.size) 0 (by first | omega | (simp; done) | (simp; omega))).trans (((Below.refl wq41.heap.size wq41).frozen (p := ⟨w.heap.size, 0, none⟩) (by simp only; omega)).trans n1_41)
    have n2_42 := (k1 (w.heap.size) 1 (by first | omega | (simp; done) | (simp; omega))).trans (((Below.refl wq41.heap.size wq41).cell (p := ⟨w.heap.size, 1, none⟩) (by simp only; omega)).trans n2_41)
    have n3_42 := (k2 (w.heap.size) 1 (by first | omega | (simp; done) | (simp; omega))).trans (((Below.refl wq41.heap.size wq41).frozen (p := ⟨w.heap.size, 1, none⟩) (by simp only; omega)).trans n3_41)
    have n4_42 := (k1 (w.heap.size) 2 (by first | omega | (simp; done) | (simp; omega))).trans (((Below.refl wq41.heap.size wq41).cell (p := ⟨w.heap.size, 2, none⟩) (by simp only; omega)).trans n4_41)
    have n5_42 := (k2 (w.heap.size) 2 (by first | omega | (simp; done) | (simp; omega))).trans (((Below.refl wq41.heap.size wq41).frozen (p := ⟨w.heap.size, 2, none⟩) (by simp only; omega)).trans n5_41)
    have n6_42 := (k1 (w.heap.size) 3 (by first | omega | (simp; done) | (simp; omega))).trans (((Below.refl wq41.heap.size wq41).cell (p := ⟨w.heap.size, 3, none⟩) (by simp only; omega)).trans n6_41)
    have n7_42 := (k2 (w.heap.size) 3 (by first | omega | (simp; done) | (simp; omega))).trans (((Below.refl wq41.heap.size wq41).frozen (p := ⟨w.heap.size, 3, none⟩) (by simp only; omega)).trans n7_41)
    have l42_0 : w.heap.size < wq42.heap.size := by omega
    clear hb hs42 k1 k2 n0_41 n1_41 n2_41 n3_41 n4_41 n5_41 n6_41 n7_41 gq0_41 gq1_41 l41_0 l41_1 DS41
    have hDL := DS42
    go_wp2_with fail
    refine bodyPost_ret (v := .tuple #[.agg #[.int .i64 a1, .int .i64 a2, .int .i64 a3, .int .i64 a4], .int .i64 ae]) (by simp [results, Try.results39, go_sem, *]) rfl ⟨by rw [HN.out]; simp only; rw [HFO.out, HAO.out], by go_grown⟩
  refine AllReadyH.cons (o := _) rfl (fun K hK => ?_) AllReadyH.nil
  have HD7 : Wk G e3 W.heap.size W (W.drew.alloc (Obj.cells #[.int .i64 0, .int .i64 0, .int .i64 0, .int .i64 0] 25)) := HD1.then ((bal (Below.refl _ _) _).mono HD1.size) hgW
  go_simp
  refine hK.out _ _ (G0.out _ _ HD7) (fun hHeld => ?_)
  clear hK K
  try simp only [act_all]
  refine wpAnyH_ready (rs := [1]) (by kernel_rfl) (by simp) ?_
  refine AllReadyH.cons (o := _) rfl (fun K hK => ?_) AllReadyH.nil
  go_simp
  refine (rWhole_any 1 _ (by omega) (by omega)).mono ?_
  rintro e w8_ ⟨rfl, hb⟩
  have HD8 : Wk G e3 W.heap.size W w8_ := HD7.then (hb.mono HD7.size) hgW
  have hz8 := HD8.size
  have hq8 := hb.size
  (try simp at hq8)
  have t8_0 := (hb.cell (p := ⟨W.heap.size, 0, none⟩) (by first | omega | (simp; done) | (simp; omega))).trans (by go_cell : _ = some (.int .i64 0))
  have z8_0 := (hb.frozen (p := ⟨W.heap.size, 0, none⟩) (by first | omega | (simp; done) | (simp; omega))).trans (by go_cell : _ = false)
  have t8_1 := (hb.cell (p := ⟨W.heap.size, 1, none⟩) (by first | omega | (simp; done) | (simp; omega))).trans (by go_cell : _ = some (.int .i64 0))
  have z8_1 := (hb.frozen (p := ⟨W.heap.size, 1, none⟩) (by first | omega | (simp; done) | (simp; omega))).trans (by go_cell : _ = false)
  have t8_2 := (hb.cell (p := ⟨W.heap.size, 2, none⟩) (by first | omega | (simp; done) | (simp; omega))).trans (by go_cell : _ = some (.int .i64 0))
  have z8_2 := (hb.frozen (p := ⟨W.heap.size, 2, none⟩) (by first | omega | (simp; done) | (simp; omega))).trans (by go_cell : _ = false)
  have t8_3 := (hb.cell (p := ⟨W.heap.size, 3, none⟩) (by first | omega | (simp; done) | (simp; omega))).trans (by go_cell : _ = some (.int .i64 0))
  have z8_3 := (hb.frozen (p := ⟨W.heap.size, 3, none⟩) (by first | omega | (simp; done) | (simp; omega))).trans (by go_cell : _ = false)
  have l8 : W.heap.size < w8_.heap.size := by omega
  clear hb hHeld
  refine hK.out _ _ (G0.out _ _ HD8) (fun hHeld => ?_)
  clear hK K
  try simp only [act_all]
  refine wpAnyH_ready (rs := [3]) (by kernel_rfl) (by simp) ?_
  refine AllReadyH.cons (o := _) rfl (fun K hK => ?_) AllReadyH.nil
  go_simp
  refine (rSubW_any 1073741824 1073741824 0 0 x1 x2 x3 x4 e3 G _ H11.out H00.out HXK.out.1 HXK.out.2 HD8.cell HD8.free).mono ?_
  rintro e w9_ ⟨he, hb⟩
  obtain ⟨r, hr⟩ : ∃ r, (subW e3 ⟨⟨1073741824, 1073741824⟩, ⟨0, 0⟩⟩ ⟨⟨x1, x2⟩, ⟨x3, x4⟩⟩) = r := ⟨_, rfl⟩
  rw [hr] at he hb
  obtain ⟨⟨⟨y1, y2⟩, ⟨y3, y4⟩⟩, e4⟩ := r
  have HR9 := Lib.hid hr
  have HD9 : Wk G e4 W.heap.size W w9_ := HD8.trans (hb.mono HD8.size)
  obtain rfl : e = .returned (.agg #[.int .i64 y1, .int .i64 y2, .int .i64 y3, .int .i64 y4]) := he
  have hz9 := HD9.size
  have hq9 := hb.size
  (try simp at hq9)
  have t9_0 := (hb.cells.1 (W.heap.size) 0 (by first | omega | (simp; done) | (simp; omega)) (by omega)).trans (by go_cell : _ = some (.int .i64 0))
  have z9_0 := (hb.cells.2 (W.heap.size) 0 (by first | omega | (simp; done) | (simp; omega)) (by omega)).trans (by go_cell : _ = false)
  have t9_1 := (hb.cells.1 (W.heap.size) 1 (by first | omega | (simp; done) | (simp; omega)) (by omega)).trans (by go_cell : _ = some (.int .i64 0))
  have z9_1 := (hb.cells.2 (W.heap.size) 1 (by first | omega | (simp; done) | (simp; omega)) (by omega)).trans (by go_cell : _ = false)
  have t9_2 := (hb.cells.1 (W.heap.size) 2 (by first | omega | (simp; done) | (simp; omega)) (by omega)).trans (by go_cell : _ = some (.int .i64 0))
  have z9_2 := (hb.cells.2 (W.heap.size) 2 (by first | omega | (simp; done) | (simp; omega)) (by omega)).trans (by go_cell : _ = false)
  have t9_3 := (hb.cells.1 (W.heap.size) 3 (by first | omega | (simp; done) | (simp; omega)) (by omega)).trans (by go_cell : _ = some (.int .i64 0))
  have z9_3 := (hb.cells.2 (W.heap.size) 3 (by first | omega | (simp; done) | (simp; omega)) (by omega)).trans (by go_cell : _ = false)
  have l9 : W.heap.size < w9_.heap.size := by omega
  clear hb hHeld hr
  refine hK.out _ _ (G0.out _ _ HD9) (fun hHeld => ?_)
  clear hK K
  try simp only [act_all]
  refine wpAnyH_ready (rs := [5]) (by kernel_rfl) (by simp) ?_
  refine AllReadyH.cons (o := _) rfl (fun K hK => ?_) AllReadyH.nil
  obtain ⟨_, _, _, _⟩ := G0.out _ _ HD9
  have nx : ¬ W.heap.size = RO := by omega
  have nlt : RO < w9_.heap.size := by omega
  go_simp
  refine hK.out _ _ (by refine ⟨?_, ?_, ?_, ?_⟩ <;> go_cell) (fun hHeld => ?_)
  clear hK K
  try simp only [act_all]
  refine wpAnyH_done (by kernel_rfl) ?_ _
  go_upto_region 12 with fail
  have hX : W.heap.size ≤ W.heap.size := by omega
  have HE : Wk G e4 W.heap.size W ((((w9_.setCell ⟨W.heap.size, 0, none⟩ (.int .i64 y1)).setCell ⟨W.heap.size, 1, none⟩ (.int .i64 y2)).setCell ⟨W.heap.size, 2, none⟩ (.int .i64 y3)).setCell ⟨W.heap.size, 3, none⟩ (.int .i64 y4)) := HD9.then (((((Below.refl _ _).setCell (p := ⟨W.heap.size, 0, none⟩) (by simp only; omega) (.int .i64 y1)).setCell (p := ⟨W.heap.size, 1, none⟩) (by simp only; omega) (.int .i64 y2)).setCell (p := ⟨W.heap.size, 2, none⟩) (by simp only; omega) (.int .i64 y3)).setCell (p := ⟨W.heap.size, 3, none⟩) (by simp only; omega) (.int .i64 y4)) hgW
  have m0 : ((((w9_.setCell ⟨W.heap.size, 0, none⟩ (.int .i64 y1)).setCell ⟨W.heap.size, 1, none⟩ (.int .i64 y2)).setCell ⟨W.heap.size, 2, none⟩ (.int .i64 y3)).setCell ⟨W.heap.size, 3, none⟩ (.int .i64 y4)).cell? ⟨W.heap.size, 0, none⟩ = some (.int .i64 y1) := by go_cell
  have m1 : ((((w9_.setCell ⟨W.heap.size, 0, none⟩ (.int .i64 y1)).setCell ⟨W.heap.size, 1, none⟩ (.int .i64 y2)).setCell ⟨W.heap.size, 2, none⟩ (.int .i64 y3)).setCell ⟨W.heap.size, 3, none⟩ (.int .i64 y4)).cell? ⟨W.heap.size, 1, none⟩ = some (.int .i64 y2) := by go_cell
  have m2 : ((((w9_.setCell ⟨W.heap.size, 0, none⟩ (.int .i64 y1)).setCell ⟨W.heap.size, 1, none⟩ (.int .i64 y2)).setCell ⟨W.heap.size, 2, none⟩ (.int .i64 y3)).setCell ⟨W.heap.size, 3, none⟩ (.int .i64 y4)).cell? ⟨W.heap.size, 2, none⟩ = some (.int .i64 y3) := by go_cell
  have m3 : ((((w9_.setCell ⟨W.heap.size, 0, none⟩ (.int .i64 y1)).setCell ⟨W.heap.size, 1, none⟩ (.int .i64 y2)).setCell ⟨W.heap.size, 2, none⟩ (.int .i64 y3)).setCell ⟨W.heap.size, 3, none⟩ (.int .i64 y4)).cell? ⟨W.heap.size, 3, none⟩ = some (.int .i64 y4) := by go_cell
  have sX : W.heap.size < ((((w9_.setCell ⟨W.heap.size, 0, none⟩ (.int .i64 y1)).setCell ⟨W.heap.size, 1, none⟩ (.int .i64 y2)).setCell ⟨W.heap.size, 2, none⟩ (.int .i64 y3)).setCell ⟨W.heap.size, 3, none⟩ (.int .i64 y4)).heap.size := by first | (simp; done) | (simp; omega)
  have sE2 := HE.size
  clear hHeld
  generalize ((((w9_.setCell ⟨W.heap.size, 0, none⟩ (.int .i64 y1)).setCell ⟨W.heap.size, 1, none⟩ (.int .i64 y2)).setCell ⟨W.heap.size, 2, none⟩ (.int .i64 y3)).setCell ⟨W.heap.size, 3, none⟩ (.int .i64 y4)) = V at *
  obtain ⟨XB, hXB⟩ : ∃ XB, W.heap.size = XB := ⟨_, rfl⟩
  rw [hXB] at m0 m1 m2 m3 sX hX ⊢
  obtain ⟨n_0, n_1, n_2, n_3, n_4, n_5, n_6, n_7, n_8, n_9, n_10, n_11⟩ := G1.out _ _ HE
  have gq0 := HE.cell
  have gq1 := HE.free
  have DV : Below w.heap.size w V := HW0.out.trans (HE.below (by omega) HW0.out.size)
  have HYK := Lib.hid (subW_okR HR9.out)
  have p0 : w.heap.size < V.heap.size := by omega
  have p1 : G < V.heap.size := by omega
  have p2 : UP < V.heap.size := by omega
  have p3 : ¬ w.heap.size = G := by omega
  have p4 : ¬ G = w.heap.size := by omega
  clear HE sE2
  have n0 := n_0
  have n1 := n_1
  have n2 := n_2
  have n3 := n_3
  have n4 := n_4
  have n5 := n_5
  have n6 := n_6
  have n7 := n_7
  have n8 := n_8
  have n9 := n_9
  have n10 := n_10
  have n11 := n_11
  clear n_0 n_1 n_2 n_3 n_4 n_5 n_6 n_7 n_8 n_9 n_10 n_11
  go_wp2_with fail
  refine (rDivW_any z1 z2 z3 z4 y1 y2 y3 y4 e4 G _ HZK.out.1 HZK.out.2 HYK.out.1 HYK.out.2 gq0 gq1).mono ?_
  rintro e wq51 ⟨he, hb⟩
  obtain ⟨r, hr⟩ : ∃ r, (divW e4 ⟨⟨z1, z2⟩, ⟨z3, z4⟩⟩ ⟨⟨y1, y2⟩, ⟨y3, y4⟩⟩) = r := ⟨_, rfl⟩
  rw [hr] at he hb
  obtain ⟨⟨⟨r1, r2⟩, ⟨r3, r4⟩⟩, e5⟩ := r
  have HQ51 := Lib.hid hr
  clear hr
  obtain rfl : e = .returned (.agg #[.int .i64 r1, .int .i64 r2, .int .i64 r3, .int .i64 r4]) := he
  have hs51 := hb.size
  (try simp at hs51)
  have DS51 : Below w.heap.size w wq51 := Below.trans (by go_grown) (hb.below (by first | omega | (simp; done) | (simp; omega)) (by have := DV.size; first | omega | (simp; done) | (simp; omega)))
  have n0_51 := (hb.cells.1 (w.heap.size) 0 (by first | omega | (simp; done) | (simp; omega)) (by first | omega | (simp; done) | (simp; omega))).trans (((Below.refl V.heap.size V).cell (p := ⟨w.heap.size, 0, none⟩) (by simp only; omega)).trans n0)
  have n1_51 := (hb.cells.2 (w.heap.size) 0 (by first | omega | (simp; done) | (simp; omega)) (by first | omega | (simp; done) | (simp; omega))).trans (((Below.refl V.heap.size V).frozen (p := ⟨w.heap.size, 0, none⟩) (by simp only; omega)).trans n1)
  have n2_51 := (hb.cells.1 (w.heap.size) 1 (by first | omega | (simp; done) | (simp; omega)) (by first | omega | (simp; done) | (simp; omega))).trans (((Below.refl V.heap.size V).cell (p := ⟨w.heap.size, 1, none⟩) (by simp only; omega)).trans n2)
  have n3_51 := (hb.cells.2 (w.heap.size) 1 (by first | omega | (simp; done) | (simp; omega)) (by first | omega | (simp; done) | (simp; omega))).trans (((Below.refl V.heap.size V).frozen (p := ⟨w.heap.size, 1, none⟩) (by simp only; omega)).trans n3)
  have n4_51 := (hb.cells.1 (w.heap.size) 2 (by first | omega | (simp; done) | (simp; omega)) (by first | omega | (simp; done) | (simp; omega))).trans (((Below.refl V.heap.size V).cell (p := ⟨w.heap.size, 2, none⟩) (by simp only; omega)).trans n4)
  have n5_51 := (hb.cells.2 (w.heap.size) 2 (by first | omega | (simp; done) | (simp; omega)) (by first | omega | (simp; done) | (simp; omega))).trans (((Below.refl V.heap.size V).frozen (p := ⟨w.heap.size, 2, none⟩) (by simp only; omega)).trans n5)
  have n6_51 := (hb.cells.1 (w.heap.size) 3 (by first | omega | (simp; done) | (simp; omega)) (by first | omega | (simp; done) | (simp; omega))).trans (((Below.refl V.heap.size V).cell (p := ⟨w.heap.size, 3, none⟩) (by simp only; omega)).trans n6)
  have n7_51 := (hb.cells.2 (w.heap.size) 3 (by first | omega | (simp; done) | (simp; omega)) (by first | omega | (simp; done) | (simp; omega))).trans (((Below.refl V.heap.size V).frozen (p := ⟨w.heap.size, 3, none⟩) (by simp only; omega)).trans n7)
  have gq0_51 := hb.cell
  have gq1_51 := hb.free
  have l51_0 : w.heap.size < wq51.heap.size := by omega
  have l51_1 : G < wq51.heap.size := by omega
  clear hb hs51 n0 n1 n2 n3 n4 n5 n6 n7 n8 n9 n10 n11 m0 m1 m2 m3 gq0 gq1 DV
  have HN : Hid (RW = (⟨⟨r1, r2⟩, ⟨r3, r4⟩⟩, e5)) := Lib.hid (by rw [← HRW.out]; simp only [ringW, HQ4.out, HQ5.out, HQ6.out, HR9.out, HQ51.out])
  obtain ⟨fo, hfo⟩ : ∃ fo, fin ⟨⟨r1, r2⟩, ⟨r3, r4⟩⟩ e5 = fo := ⟨_, rfl⟩
  obtain ⟨a1, a2, a3, a4, ae, hao⟩ := OutR_form2 fo
  have HFO := Lib.hid hfo
  have HAO := Lib.hid hao
  clear hfo hao
  go_wp2_with fail
  refine (rDone_any r1 r2 r3 r4 e5 G _ gq0_51).mono ?_
  rw [HFO.out]
  rw [HAO.out]
  rintro e wq52 ⟨he, hb⟩
  obtain rfl : e = .returned (.tuple #[.agg #[.int .i64 a1, .int .i64 a2, .int .i64 a3, .int .i64 a4], .int .i64 ae]) := he
  have hs52 := hb.size
  (try simp at hs52)
  have DS52 : Below w.heap.size w wq52 := Below.trans (by go_grown) (hb.mono (by have := DS51.size; first | omega | (simp; done) | (simp; omega)))
  obtain ⟨k1, k2⟩ := bcl hb
  have n0_52 := (k1 (w.heap.size) 0 (by first | omega | (simp; done) | (simp; omega))).trans (((Below.refl wq51.heap.size wq51).cell (p := ⟨w.heap.size, 0, none⟩) (by simp only; omega)).trans n0_51)
  have n1_52 := (k2 (w.heap.size) 0 (by first | omega | (simp; done) | (simp; omega))).trans (((Below.refl wq51.heap.size wq51).frozen (p := ⟨w.heap.size, 0, none⟩) (by simp only; omega)).trans n1_51)
  have n2_52 := (k1 (w.heap.size) 1 (by first | omega | (simp; done) | (simp; omega))).trans (((Below.refl wq51.heap.size wq51).cell (p := ⟨w.heap.size, 1, none⟩) (by simp only; omega)).trans n2_51)
  have n3_52 := (k2 (w.heap.size) 1 (by first | omega | (simp; done) | (simp; omega))).trans (((Below.refl wq51.heap.size wq51).frozen (p := ⟨w.heap.size, 1, none⟩) (by simp only; omega)).trans n3_51)
  have n4_52 := (k1 (w.heap.size) 2 (by first | omega | (simp; done) | (simp; omega))).trans (((Below.refl wq51.heap.size wq51).cell (p := ⟨w.heap.size, 2, none⟩) (by simp only; omega)).trans n4_51)
  have n5_52 := (k2 (w.heap.size) 2 (by first | omega | (simp; done) | (simp; omega))).trans (((Below.refl wq51.heap.size wq51).frozen (p := ⟨w.heap.size, 2, none⟩) (by simp only; omega)).trans n5_51)
  have n6_52 := (k1 (w.heap.size) 3 (by first | omega | (simp; done) | (simp; omega))).trans (((Below.refl wq51.heap.size wq51).cell (p := ⟨w.heap.size, 3, none⟩) (by simp only; omega)).trans n6_51)
  have n7_52 := (k2 (w.heap.size) 3 (by first | omega | (simp; done) | (simp; omega))).trans (((Below.refl wq51.heap.size wq51).frozen (p := ⟨w.heap.size, 3, none⟩) (by simp only; omega)).trans n7_51)
  have l52_0 : w.heap.size < wq52.heap.size := by omega
  clear hb hs52 k1 k2 n0_51 n1_51 n2_51 n3_51 n4_51 n5_51 n6_51 n7_51 gq0_51 gq1_51 l51_0 l51_1 DS51
  have hDL := DS52
  go_wp2_with fail
  refine bodyPost_ret (v := .tuple #[.agg #[.int .i64 a1, .int .i64 a2, .int .i64 a3, .int .i64 a4], .int .i64 ae]) (by simp [results, Try.results39, go_sem, *]) rfl ⟨by rw [HN.out]; simp only; rw [HFO.out, HAO.out], by go_grown⟩
end Go.Proofs.Ytilclpldfoifkaa

namespace Go.Proofs.Ytilclpldfoifkaa
open Go.RowKit Encl
set_option maxRecDepth 100000 in
set_option maxHeartbeats 2000000 in
theorem rRing_any (t a n : Int) (w : World) (hn0 : -9223372036854775808 ≤ n) (hn1 : n ≤ 9223372036854775807) :
    Calls Try.prog 39 #[.int .i64 t, .int .i64 a, .int .i64 n] w fun e w' => e = OutR (ringO t a n) ∧ Below w.heap.size w w' := by
  by_cases h1 : t < 0
  case neg =>
    by_cases h2 : 1000000 < t
    case neg =>
      by_cases h3 : a < 0
      case neg =>
        by_cases h4 : 1000000 < a
        case neg =>
          rw [show ringO t a n = ringS t a n from if_neg (by omega)]
          exact rRingV_any t a n w (by omega) (by omega) hn0 hn1
        all_goals
          rw [show ringO t a n = .bad 2 from if_pos (by omega)]
          go_enter Try.func39, Try.ntmps39
          go_wp2_with fail
          refine bodyPost_ret (v := .tuple #[.agg #[.int .i64 0, .int .i64 0, .int .i64 0, .int .i64 0], .int .i64 2]) (by simp [results, Try.results39, go_sem]) rfl ⟨rfl, by go_grown⟩
      all_goals
        rw [show ringO t a n = .bad 2 from if_pos (by omega)]
        go_enter Try.func39, Try.ntmps39
        go_wp2_with fail
        refine bodyPost_ret (v := .tuple #[.agg #[.int .i64 0, .int .i64 0, .int .i64 0, .int .i64 0], .int .i64 2]) (by simp [results, Try.results39, go_sem]) rfl ⟨rfl, by go_grown⟩
    all_goals
      rw [show ringO t a n = .bad 2 from if_pos (by omega)]
      go_enter Try.func39, Try.ntmps39
      go_wp2_with fail
      refine bodyPost_ret (v := .tuple #[.agg #[.int .i64 0, .int .i64 0, .int .i64 0, .int .i64 0], .int .i64 2]) (by simp [results, Try.results39, go_sem]) rfl ⟨rfl, by go_grown⟩
  all_goals
    rw [show ringO t a n = .bad 2 from if_pos (by omega)]
    go_enter Try.func39, Try.ntmps39
    go_wp2_with fail
    refine bodyPost_ret (v := .tuple #[.agg #[.int .i64 0, .int .i64 0, .int .i64 0, .int .i64 0], .int .i64 2]) (by simp [results, Try.results39, go_sem]) rfl ⟨rfl, by go_grown⟩
set_option maxRecDepth 100000 in
set_option maxHeartbeats 8000000 in
theorem EncloseRings_any (t a n : Int) (w : World) (hn0 : -9223372036854775808 ≤ n) (hn1 : n ≤ 9223372036854775807) :
    Calls Try.prog 8 #[.int .i64 t, .int .i64 a, .int .i64 n] w fun e w' => e = .returned (.bool true) ∧ Below w.heap.size w w' := by
  obtain ⟨p1, q1, p2, q2, e1, ha⟩ := OutR_form2 (ringO t a n)
  have HA := Lib.hid ha
  clear ha
  go_enter Try.func8, Try.ntmps8
  go_wp2_with fail
  refine (eRing_any t a n _).mono ?_
  rw [HA.out]
  rintro e w1 ⟨rfl, hb⟩
  (try simp only)
  have D1 : Below w.heap.size w w1 := Below.trans (by go_grown) (hb.mono (by first | omega | (simp; done) | (simp; omega)))
  obtain ⟨k1, k2⟩ := bcl hb
  clear hb k1 k2
  have lz1 := D1.size
  go_wp2_with fail
  refine (rRing_any t a n _ hn0 hn1).mono ?_
  rw [HA.out]
  rintro e w2 ⟨rfl, hb⟩
  (try simp only)
  have D2 : Below w.heap.size w w2 := Below.trans (by go_grown) (hb.mono (by have := D1.size; first | omega | (simp; done) | (simp; omega)))
  obtain ⟨k1, k2⟩ := bcl hb
  have c2_0_0 := (k1 (w1.heap.size) 0 (by first | omega | (simp; done) | (simp; omega))).trans (by go_cell : _ = some (.int .i64 p1))
  have c2_0_1 := (k1 (w1.heap.size) 1 (by first | omega | (simp; done) | (simp; omega))).trans (by go_cell : _ = some (.int .i64 q1))
  have c2_0_2 := (k1 (w1.heap.size) 2 (by first | omega | (simp; done) | (simp; omega))).trans (by go_cell : _ = some (.int .i64 p2))
  have c2_0_3 := (k1 (w1.heap.size) 3 (by first | omega | (simp; done) | (simp; omega))).trans (by go_cell : _ = some (.int .i64 q2))
  have l2_0 : w1.heap.size < w2.heap.size := by have hs := hb.size; (try simp at hs); omega
  clear hb k1 k2 D1 
  have lz2 := D2.size
  go_wp2_with fail
  refine (eawake_any _).mono ?_
  rintro e w3 ⟨rfl, hb⟩
  (try simp only)
  have D3 : Below w.heap.size w w3 := Below.trans (by go_grown) (hb.mono (by have := D2.size; first | omega | (simp; done) | (simp; omega)))
  obtain ⟨k1, k2⟩ := bcl hb
  have l3_0 : w1.heap.size < w3.heap.size := by have hs := hb.size; (try simp at hs); omega
  have l3_1 : w2.heap.size < w3.heap.size := by have hs := hb.size; (try simp at hs); omega
  clear hb k1 k2 D2 c2_0_0 c2_0_1 c2_0_2 c2_0_3
  go_wp2_with fail
  go_returns
  exact ⟨rfl, D3⟩
end Go.Proofs.Ytilclpldfoifkaa
