import Derived.Test.YtilclpldfoifkaaEo
import Derived.Test.YtilclpldfoifkaaUq
import Derived.Test.YtilclpldfoifkaaAw5
import Derived.Deep.DeepCutAuto
namespace Go.Proofs.Ytilclpldfoifkaa
open Go.RowKit Encl

theorem outR_only {o : Out Rc} (h : Only4 o) : ∃ p q s t k : Int, OutR o = .returned (.tuple #[.agg #[.int .i64 p, .int .i64 q, .int .i64 s, .int .i64 t], .int .i64 k]) ∧ (k = 0 ∨ k = 4) := by
  cases o with
  | ok x => exact ⟨_, _, _, _, 0, rfl, .inl rfl⟩
  | bad k => exact ⟨0, 0, 0, 0, k, rfl, .inr (h k rfl)⟩

set_option maxRecDepth 100000 in
set_option maxHeartbeats 8000000 in
theorem EncloseLost_any (x y n : Int) (w : World) (hx : 0 ≤ x) (hy : 0 ≤ y) (_hx2 : x < 4294967296) (_hy2 : y < 4294967296) :
    Calls Try.prog 13 #[.int .u32 x, .int .u32 y, .int .i64 n] w fun e w' => e = .returned (.bool true) ∧ Below w.heap.size w w' := by
  obtain ⟨X, hX⟩ : ∃ X, x % 1000001 = X := ⟨_, rfl⟩
  obtain ⟨Y, hY⟩ : ∃ Y, y % 900001 = Y := ⟨_, rfl⟩
  have HX : Hid (0 ≤ X ∧ X ≤ 1000000) := Lib.hid (by omega)
  have HY : Hid (0 ≤ Y ∧ Y ≤ 900000) := Lib.hid (by omega)
  have tx : x.tmod 1000001 = X := by rw [Int.tmod_eq_emod_of_nonneg hx]; exact hX
  have ty : y.tmod 900001 = Y := by rw [Int.tmod_eq_emod_of_nonneg hy]; exact hY
  obtain ⟨T, hT, hR⟩ := ring_lost n HX.out.1 HX.out.2
  obtain ⟨T1, T2⟩ := T
  have HTT := Lib.hid hT
  have HRR := Lib.hid hR
  obtain ⟨p1, q1, s1, t1, k1', hr1, hk1⟩ := outR_only (ring_only_a n HX.out.1 HX.out.2 HY.out.1 HY.out.2)
  obtain ⟨p2, q2, s2, t2, k2', hr2, hk2⟩ := outR_only (ring_only_t n HY.out.1 HY.out.2 HX.out.1 HX.out.2)
  have HR1 := Lib.hid hr1
  have HR2 := Lib.hid hr2
  have HK1 := Lib.hid hk1
  have HK2 := Lib.hid hk2
  have wX : wrap64 X = X := by have := HX.out; simp only [wrap64]; omega
  have wY : wrap64 Y = Y := by have := HY.out; simp only [wrap64]; omega
  clear hT hR hr1 hr2 hk1 hk2 hX hY
  go_enter Try.func13, Try.ntmps13
  go_wp2_with fail
  refine (Ring_any X 0 n _ HX.out (by omega)).mono ?_
  rw [HRR.out]
  rintro e w1 ⟨rfl, hb⟩
  unfold OutR
  (try simp only)
  have D1 : Below w.heap.size w w1 := Below.trans (by go_grown) (hb.mono (by first | omega | (simp; done) | (simp; omega)))
  clear hb
  go_wp2_with fail
  refine (Part_any X 1000000 _ (by have := HX.out; omega) (by omega)).mono ?_
  rw [HTT.out]
  rintro e w2 ⟨rfl, hb⟩
  unfold OutS
  (try simp only)
  have D2 : Below w.heap.size w w2 := Below.trans (D1.alloc D1.size _) (hb.mono (by have := D1.size; first | omega | (simp; done) | (simp; omega)))
  have z2 : w1.heap.size < w2.heap.size := by have hs := hb.size; (try simp at hs); omega
  obtain ⟨k1, k2⟩ := bcl hb
  have c0 := (k1 w1.heap.size 0 (by first | omega | (simp; done) | (simp; omega))).trans (by go_cell : _ = some (.int .i64 T1))
  have c1 := (k1 w1.heap.size 1 (by first | omega | (simp; done) | (simp; omega))).trans (by go_cell : _ = some (.int .i64 T2))
  have c2 := (k1 w1.heap.size 2 (by first | omega | (simp; done) | (simp; omega))).trans (by go_cell : _ = some (.int .i64 0))
  have c3 := (k1 w1.heap.size 3 (by first | omega | (simp; done) | (simp; omega))).trans (by go_cell : _ = some (.int .i64 0))
  clear hb k1 k2 D1
  go_upto_region 4 with fail
  have cc0 : (w2.alloc (Obj.cells #[.int .i64 T1, .int .i64 T2] 23)).cell? ⟨w1.heap.size, 0, none⟩ = some (.int .i64 T1) := by go_cell
  have cc1 : (w2.alloc (Obj.cells #[.int .i64 T1, .int .i64 T2] 23)).cell? ⟨w1.heap.size, 1, none⟩ = some (.int .i64 T2) := by go_cell
  have cc2 : (w2.alloc (Obj.cells #[.int .i64 T1, .int .i64 T2] 23)).cell? ⟨w1.heap.size, 2, none⟩ = some (.int .i64 0) := by go_cell
  have cc3 : (w2.alloc (Obj.cells #[.int .i64 T1, .int .i64 T2] 23)).cell? ⟨w1.heap.size, 3, none⟩ = some (.int .i64 0) := by go_cell
  have cp0 : (w2.alloc (Obj.cells #[.int .i64 T1, .int .i64 T2] 23)).cell? ⟨w2.heap.size, 0, none⟩ = some (.int .i64 T1) := by go_cell
  have cp1 : (w2.alloc (Obj.cells #[.int .i64 T1, .int .i64 T2] 23)).cell? ⟨w2.heap.size, 1, none⟩ = some (.int .i64 T2) := by go_cell
  have D3 : Below w.heap.size w (w2.alloc (Obj.cells #[.int .i64 T1, .int .i64 T2] 23)) := D2.alloc D2.size _
  have z3 : w2.heap.size < (w2.alloc (Obj.cells #[.int .i64 T1, .int .i64 T2] 23)).heap.size := by simp
  clear c0 c1 c2 c3 D2
  generalize (w2.alloc (Obj.cells #[.int .i64 T1, .int .i64 T2] 23)) = W at *
  generalize w2.heap.size = PB at *
  generalize w1.heap.size = GB at *
  have hgb : GB < W.heap.size := by omega
  have G0 : Hid (∀ w', Below W.heap.size W w' → w'.cell? ⟨GB, 0, none⟩ = some (.int .i64 T1) ∧ w'.cell? ⟨GB, 1, none⟩ = some (.int .i64 T2) ∧ w'.cell? ⟨GB, 2, none⟩ = some (.int .i64 0) ∧ w'.cell? ⟨GB, 3, none⟩ = some (.int .i64 0) ∧ w'.cell? ⟨PB, 0, none⟩ = some (.int .i64 T1) ∧ w'.cell? ⟨PB, 1, none⟩ = some (.int .i64 T2)) := Lib.hid (fun w' hb => by
    have e0 := fun o' => hb.cell (p := ⟨GB, o', none⟩) (by simp only; omega)
    have e1 := fun o' => hb.cell (p := ⟨PB, o', none⟩) (by simp only; omega)
    exact ⟨(e0 _).trans cc0, (e0 _).trans cc1, (e0 _).trans cc2, (e0 _).trans cc3, (e1 _).trans cp0, (e1 _).trans cp1⟩)
  have HD : Below W.heap.size W W := Below.refl _ _
  have HB0 := Lib.hid D3
  clear cc0 cc1 cc2 cc3 cp0 cp1 D3
  have hszw : w.heap.size ≤ W.heap.size := HB0.out.size
  have HD1 : Below W.heap.size W W.drew := HD.drew
  refine wp_region_held_drew (S := fun w' => w'.cell? ⟨GB, 0, none⟩ = some (.int .i64 T1) ∧ w'.cell? ⟨GB, 1, none⟩ = some (.int .i64 T2) ∧ w'.cell? ⟨GB, 2, none⟩ = some (.int .i64 0) ∧ w'.cell? ⟨GB, 3, none⟩ = some (.int .i64 0) ∧ w'.cell? ⟨PB, 0, none⟩ = some (.int .i64 T1) ∧ w'.cell? ⟨PB, 1, none⟩ = some (.int .i64 T2)) (by kernel_rfl) (G0.out _ HD1) (fun hHeld => ?_)
  refine wpAnyH_take (i := 0) (oi := _) (v := ?_) rfl (by kernel_rfl) (by kernel_rfl) (by kernel_rfl) (fun _ _ _ h => h) (Or.inl ⟨by rfl, ?_⟩) (by assumption) ?_
  rotate_left
  · intro w hSw; obtain ⟨_, _, _, _, _, _⟩ := hSw; go_simp; (try with_reducible rfl)
  try change wpAnyH _ _ _ _ _ _ _ (Act.put _ (some 30) _) _
  try simp only [act_all]
  refine wpAnyH_take (i := 1) (oi := _) (v := ?_) rfl (by kernel_rfl) (by kernel_rfl) (by kernel_rfl) (fun _ _ _ h => h) (Or.inl ⟨by rfl, ?_⟩) (by assumption) ?_
  rotate_left
  · intro w hSw; obtain ⟨_, _, _, _, _, _⟩ := hSw; go_simp; (try with_reducible rfl)
  try change wpAnyH _ _ _ _ _ _ _ (Act.put _ (some 31) _) _
  try simp only [act_all]
  refine wpAnyH_take (i := 2) (oi := _) (v := ?_) rfl (by kernel_rfl) (by kernel_rfl) (by kernel_rfl) (fun _ _ _ h => h) (Or.inl ⟨by rfl, ?_⟩) (by assumption) ?_
  rotate_left
  · intro w hSw; obtain ⟨_, _, _, _, _, _⟩ := hSw; go_simp; (try with_reducible rfl)
  try change wpAnyH _ _ _ _ _ _ _ (Act.put _ (some 32) _) _
  try simp only [act_all]
  refine wpAnyH_take (i := 3) (oi := _) (v := ?_) rfl (by kernel_rfl) (by kernel_rfl) (by kernel_rfl) (fun _ _ _ h => h) (Or.inl ⟨by rfl, ?_⟩) (by assumption) ?_
  rotate_left
  · intro w hSw; obtain ⟨_, _, _, _, _, _⟩ := hSw; go_simp; (try with_reducible rfl)
  try change wpAnyH _ _ _ _ _ _ _ (Act.put _ (some 33) _) _
  try simp only [act_all]
  refine wpAnyH_take (i := 4) (oi := _) (v := ?_) rfl (by kernel_rfl) (by kernel_rfl) (by kernel_rfl) (fun _ _ _ h => h) (Or.inl ⟨by rfl, ?_⟩) (by assumption) ?_
  rotate_left
  · intro w hSw; obtain ⟨_, _, _, _, _, _⟩ := hSw; go_simp; (try with_reducible rfl)
  try change wpAnyH _ _ _ _ _ _ _ (Act.put _ (some 34) _) _
  try simp only [act_all]
  refine wpAnyH_take (i := 5) (oi := _) (v := ?_) rfl (by kernel_rfl) (by kernel_rfl) (by kernel_rfl) (fun _ _ _ h => h) (Or.inl ⟨by rfl, ?_⟩) (by assumption) ?_
  rotate_left
  · intro w hSw; obtain ⟨_, _, _, _, _, _⟩ := hSw; go_simp; (try with_reducible rfl)
  try change wpAnyH _ _ _ _ _ _ _ (Act.put _ (some 35) _) _
  try simp only [act_all]
  refine wpAnyH_take (i := 6) (oi := _) (v := ?_) rfl (by kernel_rfl) (by kernel_rfl) (by kernel_rfl) (fun _ _ _ h => h) (Or.inl ⟨by rfl, ?_⟩) (by assumption) ?_
  rotate_left
  · intro w hSw; obtain ⟨_, _, _, _, _, _⟩ := hSw; go_simp; (try with_reducible rfl)
  try change wpAnyH _ _ _ _ _ _ _ (Act.put _ (some 36) _) _
  try simp only [act_all]
  refine wpAnyH_take (i := 7) (oi := _) (v := ?_) rfl (by kernel_rfl) (by kernel_rfl) (by kernel_rfl) (fun _ _ _ h => h) (Or.inl ⟨by rfl, ?_⟩) (by assumption) ?_
  rotate_left
  · intro w hSw; obtain ⟨_, _, _, _, _, _⟩ := hSw; go_simp; (try with_reducible rfl)
  try change wpAnyH _ _ _ _ _ _ _ (Act.put _ (some 37) _) _
  try simp only [act_all]
  refine wpAnyH_take (i := 8) (oi := _) (v := ?_) rfl (by kernel_rfl) (by kernel_rfl) (by kernel_rfl) (fun _ _ _ h => h) (Or.inl ⟨by rfl, ?_⟩) (by assumption) ?_
  rotate_left
  · intro w hSw; obtain ⟨_, _, _, _, _, _⟩ := hSw; go_simp; (try with_reducible rfl)
  try change wpAnyH _ _ _ _ _ _ _ (Act.put _ (some 38) _) _
  try simp only [act_all]
  refine wpAnyH_ready (rs := [9]) (by kernel_rfl) (by simp) ?_
  refine AllReadyH.cons (o := _) rfl (fun K hK => ?_) AllReadyH.nil
  go_simp
  refine (wideL_any T1 T2 _).mono ?_
  rintro e w2 ⟨he, hb⟩
  have HD2 : Below W.heap.size W w2 := Below.trans HD1 (hb.mono HD1.size)
  have hz2 := HD2.size
  have DA2 := HB0.out.trans (HD2.mono (show w.heap.size ≤ W.heap.size by omega))
  clear hb hHeld
  obtain rfl : e = .returned (.agg #[.int .i64 T1, .int .i64 T2, .int .i64 0, .int .i64 0]) := he
  refine hK.out _ _ (G0.out _ HD2) (fun hHeld => ?_)
  clear hK K
  try simp only [act_all]
  refine wpAnyH_take (i := 10) (oi := _) (v := ?_) rfl (by kernel_rfl) (by kernel_rfl) (by kernel_rfl) (fun _ _ _ h => h) (Or.inl ⟨by rfl, ?_⟩) (by assumption) ?_
  rotate_left
  · intro w hSw; obtain ⟨_, _, _, _, _, _⟩ := hSw; go_simp; (try with_reducible rfl)
  try change wpAnyH _ _ _ _ _ _ _ (Act.put _ (some 40) _) _
  try simp only [act_all]
  refine wpAnyH_take (i := 11) (oi := _) (v := ?_) rfl (by kernel_rfl) (by kernel_rfl) (by kernel_rfl) (fun _ _ _ h => h) (Or.inl ⟨by rfl, ?_⟩) (by assumption) ?_
  rotate_left
  · intro w hSw; obtain ⟨_, _, _, _, _, _⟩ := hSw; go_simp; (try with_reducible rfl)
  try change wpAnyH _ _ _ _ _ _ _ (Act.put _ (some 41) _) _
  try simp only [act_all]
  refine wpAnyH_done (by kernel_rfl) ?_ _
  have D4 := DA2
  go_wp2_with fail
  refine (Ring_any X Y n _ HX.out (by have := HY.out; omega)).mono ?_
  rw [HR1.out]
  rintro e w5 ⟨rfl, hb⟩
  (try simp only)
  have D5 : Below w.heap.size w w5 := Below.trans (by go_grown) (hb.mono (by have := D4.size; first | omega | (simp; done) | (simp; omega)))
  clear hb
  go_wp2_with fail
  refine (Ring_any Y X n _ (by have := HY.out; omega) HX.out).mono ?_
  rw [HR2.out]
  rintro e w6 ⟨rfl, hb⟩
  (try simp only)
  have D6 : Below w.heap.size w w6 := Below.trans (by go_grown) (hb.mono (by have := D5.size; first | omega | (simp; done) | (simp; omega)))
  clear hb
  rcases HK1.out with rfl | rfl <;> rcases HK2.out with rfl | rfl
  all_goals go_wp2_with fail
  all_goals refine (eawake_any _).mono ?_
  all_goals rintro e w7 ⟨rfl, hb⟩
  all_goals have D7 : Below w.heap.size w w7 := Below.trans (by go_grown) (hb.mono (by have := D6.size; first | omega | (simp; done) | (simp; omega)))
  all_goals clear hb
  all_goals go_wp2_with fail
  all_goals go_returns
  all_goals exact ⟨rfl, D7⟩
end Go.Proofs.Ytilclpldfoifkaa
