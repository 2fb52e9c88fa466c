import Derived.Deep.RegionHeld2
import Derived.Deep.DeepCutAuto
import Derived.Test.YtkcbkcgampoclaaFa9
import Derived.Test.YtkcbkcgampoclaaFd9
namespace Go.Proofs.Ytkcbkcgampoclaa
open Go.RowKit Prb
attribute [local go_sem high] run_sameA4 run_sameA4n run_sameFr run_sameFrn run_sameRt run_sameRtn
theorem act_all : (∀ (a : Act) (v : Value), a.put none v = a) ∧ (∀ (a : Act) (d : Tmp) (v : Value), a.put (some d) v = { a with tmps := a.tmps.setIfInBounds d v }) ∧ (∀ {α : Type} (l : List α) (i : Nat) (v : α), l.toArray.setIfInBounds i v = (l.set i v).toArray) ∧ (∀ {α : Type} (x : α) (l : List α) (v : α), (x :: l).set 0 v = v :: l) ∧ (∀ {α : Type} (x : α) (l : List α) (n : Nat) (v : α), (x :: l).set (n + 1) v = x :: l.set n v) :=
  ⟨fun _ _ => rfl, fun _ _ _ => rfl, fun l i v => List.setIfInBounds_toArray l i v, fun _ _ _ => rfl, fun _ _ _ _ => rfl⟩
set_option maxRecDepth 100000 in
set_option maxHeartbeats 4000000 in
theorem ProbeFringes_any (a b c d m x y : Int) (w : World) : Calls Try.prog 3 #[.agg #[.int .i64 a, .int .i64 b, .int .i64 c, .int .i64 d], .agg #[.int .i64 m, .int .i64 x, .int .i64 y]] w fun e w' => e = .returned (.bool true) ∧ Below w.heap.size w w' := by
  obtain ⟨⟨⟨M, X, Y⟩, E⟩, hF⟩ : ∃ s, frS a b c d = s := ⟨_, rfl⟩
  obtain ⟨⟨⟨p, q, r, s⟩, E2⟩, hR⟩ : ∃ s, rdS m x y = s := ⟨_, rfl⟩
  obtain ⟨bv, hv⟩ : ∃ t, vfS m x y = t := ⟨_, rfl⟩
  have HF := Lib.hid hF
  have HR := Lib.hid hR
  have HV := Lib.hid hv
  have HBK : Hid (E = 0 → rdS M X Y = ((a, b, c, d), 0)) := Lib.hid (fun h => fr_back (by rw [hF, h]))
  have HP : Hid (E = 0 ∨ ¬ E = 0) := Lib.hid (by omega)
  clear hF hR hv
  go_enter Try.func3, Try.ntmps3
  go_wp2_with fail
  refine (pFringe_any a b c d _).mono ?_
  rw [HF.out]
  unfold FrRet
  rintro e w1 ⟨rfl, hb⟩
  have T1_0 := (show H4 (_ : World) w.heap.size a b c d from (by refine ⟨⟨?_, ?_, ?_, ?_⟩, ?_, ?_, ?_, ?_⟩ <;> first | assumption | go_cell)).keep hb
  have T1_1 := (show H3 (_ : World) (w.heap.size + 1) m x y from (by refine ⟨⟨?_, ?_, ?_⟩, ?_, ?_, ?_⟩ <;> first | assumption | go_cell)).keep hb
  have HB1 := Lib.hid (show Below w.heap.size w w1 from Below.trans (by go_grown) (hb.mono (by first | omega | (simp; done) | (simp; omega))))
  have hs1 : (w.heap.size + 1) < w1.heap.size := by have h9 := hb.size; (try simp at h9); omega
  clear hb
  have hbl := HB1.out
  obtain ⟨⟨h1_0_0, h1_0_1, h1_0_2, h1_0_3⟩, z1_0_0, z1_0_1, z1_0_2, z1_0_3⟩ := T1_0
  obtain ⟨⟨h1_1_0, h1_1_1, h1_1_2⟩, z1_1_0, z1_1_1, z1_1_2⟩ := T1_1
  have l1_0 : w.heap.size < w1.heap.size := by omega
  have e1_0 : ¬ w.heap.size = w1.heap.size := by omega
  have f1_0 : ¬ w1.heap.size = w.heap.size := by omega
  have l1_1 : (w.heap.size + 1) < w1.heap.size := by omega
  have e1_1 : ¬ (w.heap.size + 1) = w1.heap.size := by omega
  have f1_1 : ¬ w1.heap.size = (w.heap.size + 1) := by omega
  go_wp2_with fail
  refine (rFringe_any a b c d _).mono ?_
  rw [HF.out]
  unfold FrRet
  rintro e w2 ⟨rfl, hb⟩
  have T2_0 := (show H4 (_ : World) w.heap.size a b c d from (by refine ⟨⟨?_, ?_, ?_, ?_⟩, ?_, ?_, ?_, ?_⟩ <;> first | assumption | go_cell)).keep hb
  have T2_1 := (show H3 (_ : World) (w.heap.size + 1) m x y from (by refine ⟨⟨?_, ?_, ?_⟩, ?_, ?_, ?_⟩ <;> first | assumption | go_cell)).keep hb
  have T2_2 := (show H3 (_ : World) w1.heap.size M X Y from (by refine ⟨⟨?_, ?_, ?_⟩, ?_, ?_, ?_⟩ <;> first | assumption | go_cell)).keep hb
  have HB2 := Lib.hid (show Below w.heap.size w w2 from Below.trans (by go_grown) (hb.mono (by first | omega | (simp; done) | (simp; omega))))
  have hs2 : w1.heap.size < w2.heap.size := by have h9 := hb.size; (try simp at h9); omega
  clear hb hbl h1_0_0 h1_0_1 h1_0_2 h1_0_3 z1_0_0 z1_0_1 z1_0_2 z1_0_3 h1_1_0 h1_1_1 h1_1_2 z1_1_0 z1_1_1 z1_1_2
  have hbl := HB2.out
  obtain ⟨⟨h2_0_0, h2_0_1, h2_0_2, h2_0_3⟩, z2_0_0, z2_0_1, z2_0_2, z2_0_3⟩ := T2_0
  obtain ⟨⟨h2_1_0, h2_1_1, h2_1_2⟩, z2_1_0, z2_1_1, z2_1_2⟩ := T2_1
  obtain ⟨⟨h2_2_0, h2_2_1, h2_2_2⟩, z2_2_0, z2_2_1, z2_2_2⟩ := T2_2
  have l2_0 : w.heap.size < w2.heap.size := by omega
  have e2_0 : ¬ w.heap.size = w2.heap.size := by omega
  have f2_0 : ¬ w2.heap.size = w.heap.size := by omega
  have l2_1 : (w.heap.size + 1) < w2.heap.size := by omega
  have e2_1 : ¬ (w.heap.size + 1) = w2.heap.size := by omega
  have f2_1 : ¬ w2.heap.size = (w.heap.size + 1) := by omega
  have l2_2 : w1.heap.size < w2.heap.size := by omega
  have e2_2 : ¬ w1.heap.size = w2.heap.size := by omega
  have f2_2 : ¬ w2.heap.size = w1.heap.size := by omega
  go_upto_region 3 with fail
  have T3_0 : H4 (w2.alloc (Obj.cells #[.int .i64 M, .int .i64 X, .int .i64 Y] 24)) w.heap.size a b c d := by refine ⟨⟨?_, ?_, ?_, ?_⟩, ?_, ?_, ?_, ?_⟩ <;> first | assumption | go_cell
  have T3_1 : H3 (w2.alloc (Obj.cells #[.int .i64 M, .int .i64 X, .int .i64 Y] 24)) (w.heap.size + 1) m x y := by refine ⟨⟨?_, ?_, ?_⟩, ?_, ?_, ?_⟩ <;> first | assumption | go_cell
  have T3_2 : H3 (w2.alloc (Obj.cells #[.int .i64 M, .int .i64 X, .int .i64 Y] 24)) w1.heap.size M X Y := by refine ⟨⟨?_, ?_, ?_⟩, ?_, ?_, ?_⟩ <;> first | assumption | go_cell
  have T3_3 : H3 (w2.alloc (Obj.cells #[.int .i64 M, .int .i64 X, .int .i64 Y] 24)) w2.heap.size M X Y := by refine ⟨⟨?_, ?_, ?_⟩, ?_, ?_, ?_⟩ <;> first | assumption | go_cell
  have HB3 : Hid (Below w.heap.size w (w2.alloc (Obj.cells #[.int .i64 M, .int .i64 X, .int .i64 Y] 24))) := Lib.hid (by go_grown)
  have hs3 : w2.heap.size < (w2.alloc (Obj.cells #[.int .i64 M, .int .i64 X, .int .i64 Y] 24)).heap.size := by simp
  clear hbl h2_0_0 h2_0_1 h2_0_2 h2_0_3 z2_0_0 z2_0_1 z2_0_2 z2_0_3 h2_1_0 h2_1_1 h2_1_2 z2_1_0 z2_1_1 z2_1_2 h2_2_0 h2_2_1 h2_2_2 z2_2_0 z2_2_1 z2_2_2
  generalize w2.alloc (Obj.cells #[.int .i64 M, .int .i64 X, .int .i64 Y] 24) = w3 at *
  have l3_0 : w.heap.size < w3.heap.size := by omega
  have e3_0 : ¬ w.heap.size = w3.heap.size := by omega
  have f3_0 : ¬ w3.heap.size = w.heap.size := by omega
  have l3_1 : (w.heap.size + 1) < w3.heap.size := by omega
  have e3_1 : ¬ (w.heap.size + 1) = w3.heap.size := by omega
  have f3_1 : ¬ w3.heap.size = (w.heap.size + 1) := by omega
  have l3_2 : w1.heap.size < w3.heap.size := by omega
  have e3_2 : ¬ w1.heap.size = w3.heap.size := by omega
  have f3_2 : ¬ w3.heap.size = w1.heap.size := by omega
  have l3_3 : w2.heap.size < w3.heap.size := by omega
  have e3_3 : ¬ w2.heap.size = w3.heap.size := by omega
  have f3_3 : ¬ w3.heap.size = w2.heap.size := by omega
  have HK : Hid (∀ w', Below w3.heap.size w3 w' → (w'.cell? ⟨w.heap.size + 1, 0, none⟩ = some (.int .i64 m) ∧ w'.cell? ⟨w.heap.size + 1, 1, none⟩ = some (.int .i64 x) ∧ w'.cell? ⟨w.heap.size + 1, 2, none⟩ = some (.int .i64 y)) ∧ (w'.cell? ⟨w1.heap.size, 0, none⟩ = some (.int .i64 M) ∧ w'.cell? ⟨w1.heap.size, 1, none⟩ = some (.int .i64 X) ∧ w'.cell? ⟨w1.heap.size, 2, none⟩ = some (.int .i64 Y)) ∧ (w'.cell? ⟨w2.heap.size, 0, none⟩ = some (.int .i64 M) ∧ w'.cell? ⟨w2.heap.size, 1, none⟩ = some (.int .i64 X) ∧ w'.cell? ⟨w2.heap.size, 2, none⟩ = some (.int .i64 Y))) := Lib.hid (fun w' hb => ⟨(T3_1.keep hb).1, (T3_2.keep hb).1, (T3_3.keep hb).1⟩)
  refine wp_region_held_drew (S := fun w' => (w'.cell? ⟨w.heap.size + 1, 0, none⟩ = some (.int .i64 m) ∧ w'.cell? ⟨w.heap.size + 1, 1, none⟩ = some (.int .i64 x) ∧ w'.cell? ⟨w.heap.size + 1, 2, none⟩ = some (.int .i64 y)) ∧ (w'.cell? ⟨w1.heap.size, 0, none⟩ = some (.int .i64 M) ∧ w'.cell? ⟨w1.heap.size, 1, none⟩ = some (.int .i64 X) ∧ w'.cell? ⟨w1.heap.size, 2, none⟩ = some (.int .i64 Y)) ∧ (w'.cell? ⟨w2.heap.size, 0, none⟩ = some (.int .i64 M) ∧ w'.cell? ⟨w2.heap.size, 1, none⟩ = some (.int .i64 X) ∧ w'.cell? ⟨w2.heap.size, 2, none⟩ = some (.int .i64 Y))) (by kernel_rfl) (HK.out _ ((Below.refl _ _).drew)) (fun hHeld => ?_)
  refine wpAnyH_take (i := 0) (oi := _) (v := ?_) rfl (by kernel_rfl) (by kernel_rfl) (by kernel_rfl) (fun _ _ _ h => h) (Or.inl ⟨by rfl, ?_⟩) (by assumption) ?_
  rotate_left
  · intro w hSw; obtain ⟨⟨s0, s1, s2⟩, ⟨s3, s4, s5⟩, ⟨s6, s7, s8⟩⟩ := hSw; go_simp; (try with_reducible rfl)
  try change wpAnyH _ _ _ _ _ _ _ (Act.put _ (some 23) _) _
  try simp only [act_all]
  refine wpAnyH_take (i := 1) (oi := _) (v := ?_) rfl (by kernel_rfl) (by kernel_rfl) (by kernel_rfl) (fun _ _ _ h => h) (Or.inl ⟨by rfl, ?_⟩) (by assumption) ?_
  rotate_left
  · intro w hSw; obtain ⟨⟨s0, s1, s2⟩, ⟨s3, s4, s5⟩, ⟨s6, s7, s8⟩⟩ := hSw; go_simp; (try with_reducible rfl)
  try change wpAnyH _ _ _ _ _ _ _ (Act.put _ (some 24) _) _
  try simp only [act_all]
  refine wpAnyH_take (i := 2) (oi := _) (v := ?_) rfl (by kernel_rfl) (by kernel_rfl) (by kernel_rfl) (fun _ _ _ h => h) (Or.inl ⟨by rfl, ?_⟩) (by assumption) ?_
  rotate_left
  · intro w hSw; obtain ⟨⟨s0, s1, s2⟩, ⟨s3, s4, s5⟩, ⟨s6, s7, s8⟩⟩ := hSw; go_simp; (try with_reducible rfl)
  try change wpAnyH _ _ _ _ _ _ _ (Act.put _ (some 25) _) _
  try simp only [act_all]
  refine wpAnyH_take (i := 3) (oi := _) (v := ?_) rfl (by kernel_rfl) (by kernel_rfl) (by kernel_rfl) (fun _ _ _ h => h) (Or.inl ⟨by rfl, ?_⟩) (by assumption) ?_
  rotate_left
  · intro w hSw; obtain ⟨⟨s0, s1, s2⟩, ⟨s3, s4, s5⟩, ⟨s6, s7, s8⟩⟩ := hSw; go_simp; (try with_reducible rfl)
  try change wpAnyH _ _ _ _ _ _ _ (Act.put _ (some 26) _) _
  try simp only [act_all]
  refine wpAnyH_take (i := 4) (oi := _) (v := ?_) rfl (by kernel_rfl) (by kernel_rfl) (by kernel_rfl) (fun _ _ _ h => h) (Or.inl ⟨by rfl, ?_⟩) (by assumption) ?_
  rotate_left
  · intro w hSw; obtain ⟨⟨s0, s1, s2⟩, ⟨s3, s4, s5⟩, ⟨s6, s7, s8⟩⟩ := hSw; go_simp; (try with_reducible rfl)
  try change wpAnyH _ _ _ _ _ _ _ (Act.put _ (some 27) _) _
  try simp only [act_all]
  refine wpAnyH_take (i := 5) (oi := _) (v := ?_) rfl (by kernel_rfl) (by kernel_rfl) (by kernel_rfl) (fun _ _ _ h => h) (Or.inl ⟨by rfl, ?_⟩) (by assumption) ?_
  rotate_left
  · intro w hSw; obtain ⟨⟨s0, s1, s2⟩, ⟨s3, s4, s5⟩, ⟨s6, s7, s8⟩⟩ := hSw; go_simp; (try with_reducible rfl)
  try change wpAnyH _ _ _ _ _ _ _ (Act.put _ (some 28) _) _
  try simp only [act_all]
  refine wpAnyH_take (i := 6) (oi := _) (v := ?_) rfl (by kernel_rfl) (by kernel_rfl) (by kernel_rfl) (fun _ _ _ h => h) (Or.inl ⟨by rfl, ?_⟩) (by assumption) ?_
  rotate_left
  · intro w hSw; obtain ⟨⟨s0, s1, s2⟩, ⟨s3, s4, s5⟩, ⟨s6, s7, s8⟩⟩ := hSw; go_simp; (try with_reducible rfl)
  try change wpAnyH _ _ _ _ _ _ _ (Act.put _ (some 29) _) _
  try simp only [act_all]
  refine wpAnyH_take (i := 7) (oi := _) (v := ?_) rfl (by kernel_rfl) (by kernel_rfl) (by kernel_rfl) (fun _ _ _ h => h) (Or.inl ⟨by rfl, ?_⟩) (by assumption) ?_
  rotate_left
  · intro w hSw; obtain ⟨⟨s0, s1, s2⟩, ⟨s3, s4, s5⟩, ⟨s6, s7, s8⟩⟩ := hSw; go_simp; (try with_reducible rfl)
  try change wpAnyH _ _ _ _ _ _ _ (Act.put _ (some 30) _) _
  try simp only [act_all]
  refine wpAnyH_take (i := 8) (oi := _) (v := ?_) rfl (by kernel_rfl) (by kernel_rfl) (by kernel_rfl) (fun _ _ _ h => h) (Or.inl ⟨by rfl, ?_⟩) (by assumption) ?_
  rotate_left
  · intro w hSw; obtain ⟨⟨s0, s1, s2⟩, ⟨s3, s4, s5⟩, ⟨s6, s7, s8⟩⟩ := hSw; go_simp; (try with_reducible rfl)
  try change wpAnyH _ _ _ _ _ _ _ (Act.put _ (some 31) _) _
  try simp only [act_all]
  refine wpAnyH_take (i := 9) (oi := _) (v := ?_) rfl (by kernel_rfl) (by kernel_rfl) (by kernel_rfl) (fun _ _ _ h => h) (Or.inl ⟨by rfl, ?_⟩) (by assumption) ?_
  rotate_left
  · intro w hSw; obtain ⟨⟨s0, s1, s2⟩, ⟨s3, s4, s5⟩, ⟨s6, s7, s8⟩⟩ := hSw; go_simp; (try with_reducible rfl)
  try change wpAnyH _ _ _ _ _ _ _ (Act.put _ (some 32) _) _
  try simp only [act_all]
  refine wpAnyH_take (i := 11) (oi := _) (v := ?_) rfl (by kernel_rfl) (by kernel_rfl) (by kernel_rfl) (fun _ _ _ h => h) (Or.inl ⟨by rfl, ?_⟩) (by assumption) ?_
  rotate_left
  · intro w hSw; obtain ⟨⟨s0, s1, s2⟩, ⟨s3, s4, s5⟩, ⟨s6, s7, s8⟩⟩ := hSw; go_simp; (try with_reducible rfl)
  try change wpAnyH _ _ _ _ _ _ _ (Act.put _ (some 34) _) _
  try simp only [act_all]
  refine wpAnyH_ready (rs := [10]) (by kernel_rfl) (by simp) ?_
  refine AllReadyH.cons (o := _) rfl (fun K hK => ?_) AllReadyH.nil
  go_simp
  refine (pValid_any m x y _).mono ?_
  rw [HV.out]
  rintro e v10 ⟨rfl, hb⟩
  have D10 : Below w3.heap.size w3 v10 := (Below.refl _ _).drew.trans hb
  clear hb
  refine hK.out _ _ (HK.out _ D10) (fun hHeld => ?_)
  clear hK K
  try simp only [act_all]
  refine wpAnyH_ready (rs := [12]) (by kernel_rfl) (by simp) ?_
  refine AllReadyH.cons (o := _) rfl (fun K hK => ?_) AllReadyH.nil
  go_simp
  refine (rValid_any m x y _).mono ?_
  rw [HV.out]
  rintro e w4 ⟨rfl, hb⟩
  have D12 : Below w3.heap.size w3 w4 := D10.trans (hb.mono D10.size)
  clear hb
  refine hK.out _ _ (HK.out _ D12) (fun hHeld => ?_)
  clear hK K
  try simp only [act_all]
  refine wpAnyH_take (i := 13) (oi := _) (v := ?_) rfl (by kernel_rfl) (by kernel_rfl) (by kernel_rfl) (fun _ _ _ h => h) (Or.inl ⟨by rfl, ?_⟩) (by assumption) ?_
  rotate_left
  · intro w hSw; obtain ⟨⟨s0, s1, s2⟩, ⟨s3, s4, s5⟩, ⟨s6, s7, s8⟩⟩ := hSw; go_simp; (try with_reducible rfl)
  try change wpAnyH _ _ _ _ _ _ _ (Act.put _ (some 36) _) _
  try simp only [act_all]
  refine wpAnyH_take (i := 14) (oi := _) (v := ?_) rfl (by kernel_rfl) (by kernel_rfl) (by kernel_rfl) (fun _ _ _ h => h) (Or.inl ⟨by rfl, ?_⟩) (by assumption) ?_
  rotate_left
  · intro w hSw; obtain ⟨⟨s0, s1, s2⟩, ⟨s3, s4, s5⟩, ⟨s6, s7, s8⟩⟩ := hSw; go_simp; (try with_reducible rfl)
  try change wpAnyH _ _ _ _ _ _ _ (Act.put _ (some 37) _) _
  try simp only [act_all]
  refine wpAnyH_done (by kernel_rfl) ?_ _
  have T4_0 := T3_0.keep D12
  have T4_1 := T3_1.keep D12
  have T4_2 := T3_2.keep D12
  have T4_3 := T3_3.keep D12
  have HB4 := Lib.hid (HB3.out.trans (D12.mono HB3.out.size))
  have hs4 : w2.heap.size < w4.heap.size := by have h9 := D12.size; omega
  clear HK hHeld D10 D12 T3_0 T3_1 T3_2 T3_3
  have hbl := HB4.out
  obtain ⟨⟨h4_0_0, h4_0_1, h4_0_2, h4_0_3⟩, z4_0_0, z4_0_1, z4_0_2, z4_0_3⟩ := T4_0
  obtain ⟨⟨h4_1_0, h4_1_1, h4_1_2⟩, z4_1_0, z4_1_1, z4_1_2⟩ := T4_1
  obtain ⟨⟨h4_2_0, h4_2_1, h4_2_2⟩, z4_2_0, z4_2_1, z4_2_2⟩ := T4_2
  obtain ⟨⟨h4_3_0, h4_3_1, h4_3_2⟩, z4_3_0, z4_3_1, z4_3_2⟩ := T4_3
  have l4_0 : w.heap.size < w4.heap.size := by omega
  have e4_0 : ¬ w.heap.size = w4.heap.size := by omega
  have f4_0 : ¬ w4.heap.size = w.heap.size := by omega
  have l4_1 : (w.heap.size + 1) < w4.heap.size := by omega
  have e4_1 : ¬ (w.heap.size + 1) = w4.heap.size := by omega
  have f4_1 : ¬ w4.heap.size = (w.heap.size + 1) := by omega
  have l4_2 : w1.heap.size < w4.heap.size := by omega
  have e4_2 : ¬ w1.heap.size = w4.heap.size := by omega
  have f4_2 : ¬ w4.heap.size = w1.heap.size := by omega
  have l4_3 : w2.heap.size < w4.heap.size := by omega
  have e4_3 : ¬ w2.heap.size = w4.heap.size := by omega
  have f4_3 : ¬ w4.heap.size = w2.heap.size := by omega
  rcases HP.out with hE | hE
  · have hE1 : (E == 0) = true := beq_iff_eq.2 hE
    go_wp2_with fail
    refine (pReadings_any M X Y _).mono ?_
    rw [HBK.out hE]
    unfold RdRet
    rintro e w5 ⟨rfl, hb⟩
    have T5_0 := (show H4 (_ : World) w.heap.size a b c d from (by refine ⟨⟨?_, ?_, ?_, ?_⟩, ?_, ?_, ?_, ?_⟩ <;> first | assumption | go_cell)).keep hb
    have T5_1 := (show H3 (_ : World) (w.heap.size + 1) m x y from (by refine ⟨⟨?_, ?_, ?_⟩, ?_, ?_, ?_⟩ <;> first | assumption | go_cell)).keep hb
    have T5_2 := (show H3 (_ : World) w1.heap.size M X Y from (by refine ⟨⟨?_, ?_, ?_⟩, ?_, ?_, ?_⟩ <;> first | assumption | go_cell)).keep hb
    have T5_3 := (show H3 (_ : World) w2.heap.size M X Y from (by refine ⟨⟨?_, ?_, ?_⟩, ?_, ?_, ?_⟩ <;> first | assumption | go_cell)).keep hb
    have HB5 := Lib.hid (show Below w.heap.size w w5 from Below.trans (by go_grown) (hb.mono (by first | omega | (simp; done) | (simp; omega))))
    have hs5 : w2.heap.size < w5.heap.size := by have h9 := hb.size; (try simp at h9); omega
    clear hb hbl h4_0_0 h4_0_1 h4_0_2 h4_0_3 z4_0_0 z4_0_1 z4_0_2 z4_0_3 h4_1_0 h4_1_1 h4_1_2 z4_1_0 z4_1_1 z4_1_2 h4_2_0 h4_2_1 h4_2_2 z4_2_0 z4_2_1 z4_2_2 h4_3_0 h4_3_1 h4_3_2 z4_3_0 z4_3_1 z4_3_2
    have hbl := HB5.out
    obtain ⟨⟨h5_0_0, h5_0_1, h5_0_2, h5_0_3⟩, z5_0_0, z5_0_1, z5_0_2, z5_0_3⟩ := T5_0
    obtain ⟨⟨h5_1_0, h5_1_1, h5_1_2⟩, z5_1_0, z5_1_1, z5_1_2⟩ := T5_1
    obtain ⟨⟨h5_2_0, h5_2_1, h5_2_2⟩, z5_2_0, z5_2_1, z5_2_2⟩ := T5_2
    obtain ⟨⟨h5_3_0, h5_3_1, h5_3_2⟩, z5_3_0, z5_3_1, z5_3_2⟩ := T5_3
    have l5_0 : w.heap.size < w5.heap.size := by omega
    have e5_0 : ¬ w.heap.size = w5.heap.size := by omega
    have f5_0 : ¬ w5.heap.size = w.heap.size := by omega
    have l5_1 : (w.heap.size + 1) < w5.heap.size := by omega
    have e5_1 : ¬ (w.heap.size + 1) = w5.heap.size := by omega
    have f5_1 : ¬ w5.heap.size = (w.heap.size + 1) := by omega
    have l5_2 : w1.heap.size < w5.heap.size := by omega
    have e5_2 : ¬ w1.heap.size = w5.heap.size := by omega
    have f5_2 : ¬ w5.heap.size = w1.heap.size := by omega
    have l5_3 : w2.heap.size < w5.heap.size := by omega
    have e5_3 : ¬ w2.heap.size = w5.heap.size := by omega
    have f5_3 : ¬ w5.heap.size = w2.heap.size := by omega
    go_wp2_with fail
    refine (pReadings_any m x y _).mono ?_
    rw [HR.out]
    unfold RdRet
    rintro e w6 ⟨rfl, hb⟩
    have T6_0 := (show H4 (_ : World) w.heap.size a b c d from (by refine ⟨⟨?_, ?_, ?_, ?_⟩, ?_, ?_, ?_, ?_⟩ <;> first | assumption | go_cell)).keep hb
    have T6_1 := (show H3 (_ : World) (w.heap.size + 1) m x y from (by refine ⟨⟨?_, ?_, ?_⟩, ?_, ?_, ?_⟩ <;> first | assumption | go_cell)).keep hb
    have T6_2 := (show H3 (_ : World) w1.heap.size M X Y from (by refine ⟨⟨?_, ?_, ?_⟩, ?_, ?_, ?_⟩ <;> first | assumption | go_cell)).keep hb
    have T6_3 := (show H3 (_ : World) w2.heap.size M X Y from (by refine ⟨⟨?_, ?_, ?_⟩, ?_, ?_, ?_⟩ <;> first | assumption | go_cell)).keep hb
    have T6_4 := (show H4 (_ : World) w5.heap.size a b c d from (by refine ⟨⟨?_, ?_, ?_, ?_⟩, ?_, ?_, ?_, ?_⟩ <;> first | assumption | go_cell)).keep hb
    have HB6 := Lib.hid (show Below w.heap.size w w6 from Below.trans (by go_grown) (hb.mono (by first | omega | (simp; done) | (simp; omega))))
    have hs6 : w5.heap.size < w6.heap.size := by have h9 := hb.size; (try simp at h9); omega
    clear hb hbl h5_0_0 h5_0_1 h5_0_2 h5_0_3 z5_0_0 z5_0_1 z5_0_2 z5_0_3 h5_1_0 h5_1_1 h5_1_2 z5_1_0 z5_1_1 z5_1_2 h5_2_0 h5_2_1 h5_2_2 z5_2_0 z5_2_1 z5_2_2 h5_3_0 h5_3_1 h5_3_2 z5_3_0 z5_3_1 z5_3_2
    have hbl := HB6.out
    obtain ⟨⟨h6_0_0, h6_0_1, h6_0_2, h6_0_3⟩, z6_0_0, z6_0_1, z6_0_2, z6_0_3⟩ := T6_0
    obtain ⟨⟨h6_1_0, h6_1_1, h6_1_2⟩, z6_1_0, z6_1_1, z6_1_2⟩ := T6_1
    obtain ⟨⟨h6_2_0, h6_2_1, h6_2_2⟩, z6_2_0, z6_2_1, z6_2_2⟩ := T6_2
    obtain ⟨⟨h6_3_0, h6_3_1, h6_3_2⟩, z6_3_0, z6_3_1, z6_3_2⟩ := T6_3
    obtain ⟨⟨h6_4_0, h6_4_1, h6_4_2, h6_4_3⟩, z6_4_0, z6_4_1, z6_4_2, z6_4_3⟩ := T6_4
    have l6_0 : w.heap.size < w6.heap.size := by omega
    have e6_0 : ¬ w.heap.size = w6.heap.size := by omega
    have f6_0 : ¬ w6.heap.size = w.heap.size := by omega
    have l6_1 : (w.heap.size + 1) < w6.heap.size := by omega
    have e6_1 : ¬ (w.heap.size + 1) = w6.heap.size := by omega
    have f6_1 : ¬ w6.heap.size = (w.heap.size + 1) := by omega
    have l6_2 : w1.heap.size < w6.heap.size := by omega
    have e6_2 : ¬ w1.heap.size = w6.heap.size := by omega
    have f6_2 : ¬ w6.heap.size = w1.heap.size := by omega
    have l6_3 : w2.heap.size < w6.heap.size := by omega
    have e6_3 : ¬ w2.heap.size = w6.heap.size := by omega
    have f6_3 : ¬ w6.heap.size = w2.heap.size := by omega
    have l6_4 : w5.heap.size < w6.heap.size := by omega
    have e6_4 : ¬ w5.heap.size = w6.heap.size := by omega
    have f6_4 : ¬ w6.heap.size = w5.heap.size := by omega
    go_wp2_with fail
    refine (rReadings_any m x y _).mono ?_
    rw [HR.out]
    unfold RdRet
    rintro e w7 ⟨rfl, hb⟩
    have T7_0 := (show H4 (_ : World) w.heap.size a b c d from (by refine ⟨⟨?_, ?_, ?_, ?_⟩, ?_, ?_, ?_, ?_⟩ <;> first | assumption | go_cell)).keep hb
    have T7_1 := (show H3 (_ : World) (w.heap.size + 1) m x y from (by refine ⟨⟨?_, ?_, ?_⟩, ?_, ?_, ?_⟩ <;> first | assumption | go_cell)).keep hb
    have T7_2 := (show H3 (_ : World) w1.heap.size M X Y from (by refine ⟨⟨?_, ?_, ?_⟩, ?_, ?_, ?_⟩ <;> first | assumption | go_cell)).keep hb
    have T7_3 := (show H3 (_ : World) w2.heap.size M X Y from (by refine ⟨⟨?_, ?_, ?_⟩, ?_, ?_, ?_⟩ <;> first | assumption | go_cell)).keep hb
    have T7_4 := (show H4 (_ : World) w5.heap.size a b c d from (by refine ⟨⟨?_, ?_, ?_, ?_⟩, ?_, ?_, ?_, ?_⟩ <;> first | assumption | go_cell)).keep hb
    have T7_5 := (show H4 (_ : World) w6.heap.size p q r s from (by refine ⟨⟨?_, ?_, ?_, ?_⟩, ?_, ?_, ?_, ?_⟩ <;> first | assumption | go_cell)).keep hb
    have HB7 := Lib.hid (show Below w.heap.size w w7 from Below.trans (by go_grown) (hb.mono (by first | omega | (simp; done) | (simp; omega))))
    have hs7 : w6.heap.size < w7.heap.size := by have h9 := hb.size; (try simp at h9); omega
    clear hb hbl h6_0_0 h6_0_1 h6_0_2 h6_0_3 z6_0_0 z6_0_1 z6_0_2 z6_0_3 h6_1_0 h6_1_1 h6_1_2 z6_1_0 z6_1_1 z6_1_2 h6_2_0 h6_2_1 h6_2_2 z6_2_0 z6_2_1 z6_2_2 h6_3_0 h6_3_1 h6_3_2 z6_3_0 z6_3_1 z6_3_2 h6_4_0 h6_4_1 h6_4_2 h6_4_3 z6_4_0 z6_4_1 z6_4_2 z6_4_3
    have hbl := HB7.out
    obtain ⟨⟨h7_0_0, h7_0_1, h7_0_2, h7_0_3⟩, z7_0_0, z7_0_1, z7_0_2, z7_0_3⟩ := T7_0
    obtain ⟨⟨h7_1_0, h7_1_1, h7_1_2⟩, z7_1_0, z7_1_1, z7_1_2⟩ := T7_1
    obtain ⟨⟨h7_2_0, h7_2_1, h7_2_2⟩, z7_2_0, z7_2_1, z7_2_2⟩ := T7_2
    obtain ⟨⟨h7_3_0, h7_3_1, h7_3_2⟩, z7_3_0, z7_3_1, z7_3_2⟩ := T7_3
    obtain ⟨⟨h7_4_0, h7_4_1, h7_4_2, h7_4_3⟩, z7_4_0, z7_4_1, z7_4_2, z7_4_3⟩ := T7_4
    obtain ⟨⟨h7_5_0, h7_5_1, h7_5_2, h7_5_3⟩, z7_5_0, z7_5_1, z7_5_2, z7_5_3⟩ := T7_5
    have l7_0 : w.heap.size < w7.heap.size := by omega
    have e7_0 : ¬ w.heap.size = w7.heap.size := by omega
    have f7_0 : ¬ w7.heap.size = w.heap.size := by omega
    have l7_1 : (w.heap.size + 1) < w7.heap.size := by omega
    have e7_1 : ¬ (w.heap.size + 1) = w7.heap.size := by omega
    have f7_1 : ¬ w7.heap.size = (w.heap.size + 1) := by omega
    have l7_2 : w1.heap.size < w7.heap.size := by omega
    have e7_2 : ¬ w1.heap.size = w7.heap.size := by omega
    have f7_2 : ¬ w7.heap.size = w1.heap.size := by omega
    have l7_3 : w2.heap.size < w7.heap.size := by omega
    have e7_3 : ¬ w2.heap.size = w7.heap.size := by omega
    have f7_3 : ¬ w7.heap.size = w2.heap.size := by omega
    have l7_4 : w5.heap.size < w7.heap.size := by omega
    have e7_4 : ¬ w5.heap.size = w7.heap.size := by omega
    have f7_4 : ¬ w7.heap.size = w5.heap.size := by omega
    have l7_5 : w6.heap.size < w7.heap.size := by omega
    have e7_5 : ¬ w6.heap.size = w7.heap.size := by omega
    have f7_5 : ¬ w7.heap.size = w6.heap.size := by omega
    go_wp2_with fail
    refine (awake_any _).mono ?_
    rintro e w8 ⟨rfl, hb⟩
    have T8_0 := (show H4 (_ : World) w.heap.size a b c d from (by refine ⟨⟨?_, ?_, ?_, ?_⟩, ?_, ?_, ?_, ?_⟩ <;> first | assumption | go_cell)).keep hb
    have T8_1 := (show H3 (_ : World) (w.heap.size + 1) m x y from (by refine ⟨⟨?_, ?_, ?_⟩, ?_, ?_, ?_⟩ <;> first | assumption | go_cell)).keep hb
    have T8_2 := (show H3 (_ : World) w1.heap.size M X Y from (by refine ⟨⟨?_, ?_, ?_⟩, ?_, ?_, ?_⟩ <;> first | assumption | go_cell)).keep hb
    have T8_3 := (show H3 (_ : World) w2.heap.size M X Y from (by refine ⟨⟨?_, ?_, ?_⟩, ?_, ?_, ?_⟩ <;> first | assumption | go_cell)).keep hb
    have T8_4 := (show H4 (_ : World) w5.heap.size a b c d from (by refine ⟨⟨?_, ?_, ?_, ?_⟩, ?_, ?_, ?_, ?_⟩ <;> first | assumption | go_cell)).keep hb
    have T8_5 := (show H4 (_ : World) w6.heap.size p q r s from (by refine ⟨⟨?_, ?_, ?_, ?_⟩, ?_, ?_, ?_, ?_⟩ <;> first | assumption | go_cell)).keep hb
    have T8_6 := (show H4 (_ : World) w7.heap.size p q r s from (by refine ⟨⟨?_, ?_, ?_, ?_⟩, ?_, ?_, ?_, ?_⟩ <;> first | assumption | go_cell)).keep hb
    have HB8 := Lib.hid (show Below w.heap.size w w8 from Below.trans (by go_grown) (hb.mono (by first | omega | (simp; done) | (simp; omega))))
    have hs8 : w7.heap.size < w8.heap.size := by have h9 := hb.size; (try simp at h9); omega
    clear hb hbl h7_0_0 h7_0_1 h7_0_2 h7_0_3 z7_0_0 z7_0_1 z7_0_2 z7_0_3 h7_1_0 h7_1_1 h7_1_2 z7_1_0 z7_1_1 z7_1_2 h7_2_0 h7_2_1 h7_2_2 z7_2_0 z7_2_1 z7_2_2 h7_3_0 h7_3_1 h7_3_2 z7_3_0 z7_3_1 z7_3_2 h7_4_0 h7_4_1 h7_4_2 h7_4_3 z7_4_0 z7_4_1 z7_4_2 z7_4_3 h7_5_0 h7_5_1 h7_5_2 h7_5_3 z7_5_0 z7_5_1 z7_5_2 z7_5_3
    have hbl := HB8.out
    obtain ⟨⟨h8_0_0, h8_0_1, h8_0_2, h8_0_3⟩, z8_0_0, z8_0_1, z8_0_2, z8_0_3⟩ := T8_0
    obtain ⟨⟨h8_1_0, h8_1_1, h8_1_2⟩, z8_1_0, z8_1_1, z8_1_2⟩ := T8_1
    obtain ⟨⟨h8_2_0, h8_2_1, h8_2_2⟩, z8_2_0, z8_2_1, z8_2_2⟩ := T8_2
    obtain ⟨⟨h8_3_0, h8_3_1, h8_3_2⟩, z8_3_0, z8_3_1, z8_3_2⟩ := T8_3
    obtain ⟨⟨h8_4_0, h8_4_1, h8_4_2, h8_4_3⟩, z8_4_0, z8_4_1, z8_4_2, z8_4_3⟩ := T8_4
    obtain ⟨⟨h8_5_0, h8_5_1, h8_5_2, h8_5_3⟩, z8_5_0, z8_5_1, z8_5_2, z8_5_3⟩ := T8_5
    obtain ⟨⟨h8_6_0, h8_6_1, h8_6_2, h8_6_3⟩, z8_6_0, z8_6_1, z8_6_2, z8_6_3⟩ := T8_6
    have l8_0 : w.heap.size < w8.heap.size := by omega
    have e8_0 : ¬ w.heap.size = w8.heap.size := by omega
    have f8_0 : ¬ w8.heap.size = w.heap.size := by omega
    have l8_1 : (w.heap.size + 1) < w8.heap.size := by omega
    have e8_1 : ¬ (w.heap.size + 1) = w8.heap.size := by omega
    have f8_1 : ¬ w8.heap.size = (w.heap.size + 1) := by omega
    have l8_2 : w1.heap.size < w8.heap.size := by omega
    have e8_2 : ¬ w1.heap.size = w8.heap.size := by omega
    have f8_2 : ¬ w8.heap.size = w1.heap.size := by omega
    have l8_3 : w2.heap.size < w8.heap.size := by omega
    have e8_3 : ¬ w2.heap.size = w8.heap.size := by omega
    have f8_3 : ¬ w8.heap.size = w2.heap.size := by omega
    have l8_4 : w5.heap.size < w8.heap.size := by omega
    have e8_4 : ¬ w5.heap.size = w8.heap.size := by omega
    have f8_4 : ¬ w8.heap.size = w5.heap.size := by omega
    have l8_5 : w6.heap.size < w8.heap.size := by omega
    have e8_5 : ¬ w6.heap.size = w8.heap.size := by omega
    have f8_5 : ¬ w8.heap.size = w6.heap.size := by omega
    have l8_6 : w7.heap.size < w8.heap.size := by omega
    have e8_6 : ¬ w7.heap.size = w8.heap.size := by omega
    have f8_6 : ¬ w8.heap.size = w7.heap.size := by omega
    go_wp2_with fail
    go_returns
    exact ⟨by first | rfl | (simp; done), by go_grown⟩
  · have hE1 : (E == 0) = false := beq_eq_false_iff_ne.2 hE
    go_wp2_with fail
    refine (pReadings_any m x y _).mono ?_
    rw [HR.out]
    unfold RdRet
    rintro e w5 ⟨rfl, hb⟩
    have T5_0 := (show H4 (_ : World) w.heap.size a b c d from (by refine ⟨⟨?_, ?_, ?_, ?_⟩, ?_, ?_, ?_, ?_⟩ <;> first | assumption | go_cell)).keep hb
    have T5_1 := (show H3 (_ : World) (w.heap.size + 1) m x y from (by refine ⟨⟨?_, ?_, ?_⟩, ?_, ?_, ?_⟩ <;> first | assumption | go_cell)).keep hb
    have T5_2 := (show H3 (_ : World) w1.heap.size M X Y from (by refine ⟨⟨?_, ?_, ?_⟩, ?_, ?_, ?_⟩ <;> first | assumption | go_cell)).keep hb
    have T5_3 := (show H3 (_ : World) w2.heap.size M X Y from (by refine ⟨⟨?_, ?_, ?_⟩, ?_, ?_, ?_⟩ <;> first | assumption | go_cell)).keep hb
    have HB5 := Lib.hid (show Below w.heap.size w w5 from Below.trans (by go_grown) (hb.mono (by first | omega | (simp; done) | (simp; omega))))
    have hs5 : w2.heap.size < w5.heap.size := by have h9 := hb.size; (try simp at h9); omega
    clear hb hbl h4_0_0 h4_0_1 h4_0_2 h4_0_3 z4_0_0 z4_0_1 z4_0_2 z4_0_3 h4_1_0 h4_1_1 h4_1_2 z4_1_0 z4_1_1 z4_1_2 h4_2_0 h4_2_1 h4_2_2 z4_2_0 z4_2_1 z4_2_2 h4_3_0 h4_3_1 h4_3_2 z4_3_0 z4_3_1 z4_3_2
    have hbl := HB5.out
    obtain ⟨⟨h5_0_0, h5_0_1, h5_0_2, h5_0_3⟩, z5_0_0, z5_0_1, z5_0_2, z5_0_3⟩ := T5_0
    obtain ⟨⟨h5_1_0, h5_1_1, h5_1_2⟩, z5_1_0, z5_1_1, z5_1_2⟩ := T5_1
    obtain ⟨⟨h5_2_0, h5_2_1, h5_2_2⟩, z5_2_0, z5_2_1, z5_2_2⟩ := T5_2
    obtain ⟨⟨h5_3_0, h5_3_1, h5_3_2⟩, z5_3_0, z5_3_1, z5_3_2⟩ := T5_3
    have l5_0 : w.heap.size < w5.heap.size := by omega
    have e5_0 : ¬ w.heap.size = w5.heap.size := by omega
    have f5_0 : ¬ w5.heap.size = w.heap.size := by omega
    have l5_1 : (w.heap.size + 1) < w5.heap.size := by omega
    have e5_1 : ¬ (w.heap.size + 1) = w5.heap.size := by omega
    have f5_1 : ¬ w5.heap.size = (w.heap.size + 1) := by omega
    have l5_2 : w1.heap.size < w5.heap.size := by omega
    have e5_2 : ¬ w1.heap.size = w5.heap.size := by omega
    have f5_2 : ¬ w5.heap.size = w1.heap.size := by omega
    have l5_3 : w2.heap.size < w5.heap.size := by omega
    have e5_3 : ¬ w2.heap.size = w5.heap.size := by omega
    have f5_3 : ¬ w5.heap.size = w2.heap.size := by omega
    go_wp2_with fail
    refine (rReadings_any m x y _).mono ?_
    rw [HR.out]
    unfold RdRet
    rintro e w6 ⟨rfl, hb⟩
    have T6_0 := (show H4 (_ : World) w.heap.size a b c d from (by refine ⟨⟨?_, ?_, ?_, ?_⟩, ?_, ?_, ?_, ?_⟩ <;> first | assumption | go_cell)).keep hb
    have T6_1 := (show H3 (_ : World) (w.heap.size + 1) m x y from (by refine ⟨⟨?_, ?_, ?_⟩, ?_, ?_, ?_⟩ <;> first | assumption | go_cell)).keep hb
    have T6_2 := (show H3 (_ : World) w1.heap.size M X Y from (by refine ⟨⟨?_, ?_, ?_⟩, ?_, ?_, ?_⟩ <;> first | assumption | go_cell)).keep hb
    have T6_3 := (show H3 (_ : World) w2.heap.size M X Y from (by refine ⟨⟨?_, ?_, ?_⟩, ?_, ?_, ?_⟩ <;> first | assumption | go_cell)).keep hb
    have T6_4 := (show H4 (_ : World) w5.heap.size p q r s from (by refine ⟨⟨?_, ?_, ?_, ?_⟩, ?_, ?_, ?_, ?_⟩ <;> first | assumption | go_cell)).keep hb
    have HB6 := Lib.hid (show Below w.heap.size w w6 from Below.trans (by go_grown) (hb.mono (by first | omega | (simp; done) | (simp; omega))))
    have hs6 : w5.heap.size < w6.heap.size := by have h9 := hb.size; (try simp at h9); omega
    clear hb hbl h5_0_0 h5_0_1 h5_0_2 h5_0_3 z5_0_0 z5_0_1 z5_0_2 z5_0_3 h5_1_0 h5_1_1 h5_1_2 z5_1_0 z5_1_1 z5_1_2 h5_2_0 h5_2_1 h5_2_2 z5_2_0 z5_2_1 z5_2_2 h5_3_0 h5_3_1 h5_3_2 z5_3_0 z5_3_1 z5_3_2
    have hbl := HB6.out
    obtain ⟨⟨h6_0_0, h6_0_1, h6_0_2, h6_0_3⟩, z6_0_0, z6_0_1, z6_0_2, z6_0_3⟩ := T6_0
    obtain ⟨⟨h6_1_0, h6_1_1, h6_1_2⟩, z6_1_0, z6_1_1, z6_1_2⟩ := T6_1
    obtain ⟨⟨h6_2_0, h6_2_1, h6_2_2⟩, z6_2_0, z6_2_1, z6_2_2⟩ := T6_2
    obtain ⟨⟨h6_3_0, h6_3_1, h6_3_2⟩, z6_3_0, z6_3_1, z6_3_2⟩ := T6_3
    obtain ⟨⟨h6_4_0, h6_4_1, h6_4_2, h6_4_3⟩, z6_4_0, z6_4_1, z6_4_2, z6_4_3⟩ := T6_4
    have l6_0 : w.heap.size < w6.heap.size := by omega
    have e6_0 : ¬ w.heap.size = w6.heap.size := by omega
    have f6_0 : ¬ w6.heap.size = w.heap.size := by omega
    have l6_1 : (w.heap.size + 1) < w6.heap.size := by omega
    have e6_1 : ¬ (w.heap.size + 1) = w6.heap.size := by omega
    have f6_1 : ¬ w6.heap.size = (w.heap.size + 1) := by omega
    have l6_2 : w1.heap.size < w6.heap.size := by omega
    have e6_2 : ¬ w1.heap.size = w6.heap.size := by omega
    have f6_2 : ¬ w6.heap.size = w1.heap.size := by omega
    have l6_3 : w2.heap.size < w6.heap.size := by omega
    have e6_3 : ¬ w2.heap.size = w6.heap.size := by omega
    have f6_3 : ¬ w6.heap.size = w2.heap.size := by omega
    have l6_4 : w5.heap.size < w6.heap.size := by omega
    have e6_4 : ¬ w5.heap.size = w6.heap.size := by omega
    have f6_4 : ¬ w6.heap.size = w5.heap.size := by omega
    go_wp2_with fail
    refine (awake_any _).mono ?_
    rintro e w7 ⟨rfl, hb⟩
    have T7_0 := (show H4 (_ : World) w.heap.size a b c d from (by refine ⟨⟨?_, ?_, ?_, ?_⟩, ?_, ?_, ?_, ?_⟩ <;> first | assumption | go_cell)).keep hb
    have T7_1 := (show H3 (_ : World) (w.heap.size + 1) m x y from (by refine ⟨⟨?_, ?_, ?_⟩, ?_, ?_, ?_⟩ <;> first | assumption | go_cell)).keep hb
    have T7_2 := (show H3 (_ : World) w1.heap.size M X Y from (by refine ⟨⟨?_, ?_, ?_⟩, ?_, ?_, ?_⟩ <;> first | assumption | go_cell)).keep hb
    have T7_3 := (show H3 (_ : World) w2.heap.size M X Y from (by refine ⟨⟨?_, ?_, ?_⟩, ?_, ?_, ?_⟩ <;> first | assumption | go_cell)).keep hb
    have T7_4 := (show H4 (_ : World) w5.heap.size p q r s from (by refine ⟨⟨?_, ?_, ?_, ?_⟩, ?_, ?_, ?_, ?_⟩ <;> first | assumption | go_cell)).keep hb
    have T7_5 := (show H4 (_ : World) w6.heap.size p q r s from (by refine ⟨⟨?_, ?_, ?_, ?_⟩, ?_, ?_, ?_, ?_⟩ <;> first | assumption | go_cell)).keep hb
    have HB7 := Lib.hid (show Below w.heap.size w w7 from Below.trans (by go_grown) (hb.mono (by first | omega | (simp; done) | (simp; omega))))
    have hs7 : w6.heap.size < w7.heap.size := by have h9 := hb.size; (try simp at h9); omega
    clear hb hbl h6_0_0 h6_0_1 h6_0_2 h6_0_3 z6_0_0 z6_0_1 z6_0_2 z6_0_3 h6_1_0 h6_1_1 h6_1_2 z6_1_0 z6_1_1 z6_1_2 h6_2_0 h6_2_1 h6_2_2 z6_2_0 z6_2_1 z6_2_2 h6_3_0 h6_3_1 h6_3_2 z6_3_0 z6_3_1 z6_3_2 h6_4_0 h6_4_1 h6_4_2 h6_4_3 z6_4_0 z6_4_1 z6_4_2 z6_4_3
    have hbl := HB7.out
    obtain ⟨⟨h7_0_0, h7_0_1, h7_0_2, h7_0_3⟩, z7_0_0, z7_0_1, z7_0_2, z7_0_3⟩ := T7_0
    obtain ⟨⟨h7_1_0, h7_1_1, h7_1_2⟩, z7_1_0, z7_1_1, z7_1_2⟩ := T7_1
    obtain ⟨⟨h7_2_0, h7_2_1, h7_2_2⟩, z7_2_0, z7_2_1, z7_2_2⟩ := T7_2
    obtain ⟨⟨h7_3_0, h7_3_1, h7_3_2⟩, z7_3_0, z7_3_1, z7_3_2⟩ := T7_3
    obtain ⟨⟨h7_4_0, h7_4_1, h7_4_2, h7_4_3⟩, z7_4_0, z7_4_1, z7_4_2, z7_4_3⟩ := T7_4
    obtain ⟨⟨h7_5_0, h7_5_1, h7_5_2, h7_5_3⟩, z7_5_0, z7_5_1, z7_5_2, z7_5_3⟩ := T7_5
    have l7_0 : w.heap.size < w7.heap.size := by omega
    have e7_0 : ¬ w.heap.size = w7.heap.size := by omega
    have f7_0 : ¬ w7.heap.size = w.heap.size := by omega
    have l7_1 : (w.heap.size + 1) < w7.heap.size := by omega
    have e7_1 : ¬ (w.heap.size + 1) = w7.heap.size := by omega
    have f7_1 : ¬ w7.heap.size = (w.heap.size + 1) := by omega
    have l7_2 : w1.heap.size < w7.heap.size := by omega
    have e7_2 : ¬ w1.heap.size = w7.heap.size := by omega
    have f7_2 : ¬ w7.heap.size = w1.heap.size := by omega
    have l7_3 : w2.heap.size < w7.heap.size := by omega
    have e7_3 : ¬ w2.heap.size = w7.heap.size := by omega
    have f7_3 : ¬ w7.heap.size = w2.heap.size := by omega
    have l7_4 : w5.heap.size < w7.heap.size := by omega
    have e7_4 : ¬ w5.heap.size = w7.heap.size := by omega
    have f7_4 : ¬ w7.heap.size = w5.heap.size := by omega
    have l7_5 : w6.heap.size < w7.heap.size := by omega
    have e7_5 : ¬ w6.heap.size = w7.heap.size := by omega
    have f7_5 : ¬ w7.heap.size = w6.heap.size := by omega
    go_wp2_with fail
    go_returns
    exact ⟨by first | rfl | (simp; done), by go_grown⟩
end Go.Proofs.Ytkcbkcgampoclaa
