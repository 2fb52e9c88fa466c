import Derived.Test.YtilclpldfoifkaaMe
namespace Go.Proofs.Ytilclpldfoifkaa
open Go.RowKit Encl

set_option maxRecDepth 100000 in
set_option maxHeartbeats 4000000 in
theorem meet_any (a b c d s t u v : Int) (w : World) :
    Calls Try.prog 59 #[.agg #[.int .i64 a, .int .i64 b, .int .i64 c, .int .i64 d], .agg #[.int .i64 s, .int .i64 t, .int .i64 u, .int .i64 v]] w fun e w' => IsR e ((.ok (meetR ⟨⟨a, b⟩, ⟨c, d⟩⟩ ⟨⟨s, t⟩, ⟨u, v⟩⟩) : Out Rc)) ∧ Below w.heap.size w w' := by
  obtain ⟨SP, hsp⟩ : ∃ SP, ((.ok (meetR ⟨⟨a, b⟩, ⟨c, d⟩⟩ ⟨⟨s, t⟩, ⟨u, v⟩⟩) : Out Rc)) = SP := ⟨_, rfl⟩
  have HSP := Lib.hid hsp
  rw [hsp]
  clear hsp
  go_enter Try.func59, Try.ntmps59
  go_wp2_with fail
  have hb0 : Below w.heap.size w (((w.alloc (Obj.cells #[.int .i64 a, .int .i64 b, .int .i64 c, .int .i64 d] 25)).alloc (Obj.cells #[.int .i64 s, .int .i64 t, .int .i64 u, .int .i64 v] 25)).alloc (Obj.cells #[.int .i64 0, .int .i64 0, .int .i64 0, .int .i64 0] 25)) := by go_grown
  have hs0 : (((w.alloc (Obj.cells #[.int .i64 a, .int .i64 b, .int .i64 c, .int .i64 d] 25)).alloc (Obj.cells #[.int .i64 s, .int .i64 t, .int .i64 u, .int .i64 v] 25)).alloc (Obj.cells #[.int .i64 0, .int .i64 0, .int .i64 0, .int .i64 0] 25)).cell? ⟨w.heap.size, 0, none⟩ = some (.int .i64 a) ∧ (((w.alloc (Obj.cells #[.int .i64 a, .int .i64 b, .int .i64 c, .int .i64 d] 25)).alloc (Obj.cells #[.int .i64 s, .int .i64 t, .int .i64 u, .int .i64 v] 25)).alloc (Obj.cells #[.int .i64 0, .int .i64 0, .int .i64 0, .int .i64 0] 25)).cell? ⟨w.heap.size, 1, none⟩ = some (.int .i64 b) ∧ (((w.alloc (Obj.cells #[.int .i64 a, .int .i64 b, .int .i64 c, .int .i64 d] 25)).alloc (Obj.cells #[.int .i64 s, .int .i64 t, .int .i64 u, .int .i64 v] 25)).alloc (Obj.cells #[.int .i64 0, .int .i64 0, .int .i64 0, .int .i64 0] 25)).cell? ⟨w.heap.size, 2, none⟩ = some (.int .i64 c) ∧ (((w.alloc (Obj.cells #[.int .i64 a, .int .i64 b, .int .i64 c, .int .i64 d] 25)).alloc (Obj.cells #[.int .i64 s, .int .i64 t, .int .i64 u, .int .i64 v] 25)).alloc (Obj.cells #[.int .i64 0, .int .i64 0, .int .i64 0, .int .i64 0] 25)).cell? ⟨w.heap.size, 3, none⟩ = some (.int .i64 d) ∧ (((w.alloc (Obj.cells #[.int .i64 a, .int .i64 b, .int .i64 c, .int .i64 d] 25)).alloc (Obj.cells #[.int .i64 s, .int .i64 t, .int .i64 u, .int .i64 v] 25)).alloc (Obj.cells #[.int .i64 0, .int .i64 0, .int .i64 0, .int .i64 0] 25)).cell? ⟨w.heap.size + 1, 0, none⟩ = some (.int .i64 s) ∧ (((w.alloc (Obj.cells #[.int .i64 a, .int .i64 b, .int .i64 c, .int .i64 d] 25)).alloc (Obj.cells #[.int .i64 s, .int .i64 t, .int .i64 u, .int .i64 v] 25)).alloc (Obj.cells #[.int .i64 0, .int .i64 0, .int .i64 0, .int .i64 0] 25)).cell? ⟨w.heap.size + 1, 1, none⟩ = some (.int .i64 t) ∧ (((w.alloc (Obj.cells #[.int .i64 a, .int .i64 b, .int .i64 c, .int .i64 d] 25)).alloc (Obj.cells #[.int .i64 s, .int .i64 t, .int .i64 u, .int .i64 v] 25)).alloc (Obj.cells #[.int .i64 0, .int .i64 0, .int .i64 0, .int .i64 0] 25)).cell? ⟨w.heap.size + 1, 2, none⟩ = some (.int .i64 u) ∧ (((w.alloc (Obj.cells #[.int .i64 a, .int .i64 b, .int .i64 c, .int .i64 d] 25)).alloc (Obj.cells #[.int .i64 s, .int .i64 t, .int .i64 u, .int .i64 v] 25)).alloc (Obj.cells #[.int .i64 0, .int .i64 0, .int .i64 0, .int .i64 0] 25)).cell? ⟨w.heap.size + 1, 3, none⟩ = some (.int .i64 v) := by refine ⟨?_, ?_, ?_, ?_, ?_, ?_, ?_, ?_⟩ <;> go_cell
  have hr0 : (((w.alloc (Obj.cells #[.int .i64 a, .int .i64 b, .int .i64 c, .int .i64 d] 25)).alloc (Obj.cells #[.int .i64 s, .int .i64 t, .int .i64 u, .int .i64 v] 25)).alloc (Obj.cells #[.int .i64 0, .int .i64 0, .int .i64 0, .int .i64 0] 25)).cell? ⟨w.heap.size + 1 + 1, 0, none⟩ = some (.int .i64 0) ∧ (((w.alloc (Obj.cells #[.int .i64 a, .int .i64 b, .int .i64 c, .int .i64 d] 25)).alloc (Obj.cells #[.int .i64 s, .int .i64 t, .int .i64 u, .int .i64 v] 25)).alloc (Obj.cells #[.int .i64 0, .int .i64 0, .int .i64 0, .int .i64 0] 25)).cell? ⟨w.heap.size + 1 + 1, 1, none⟩ = some (.int .i64 0) ∧ (((w.alloc (Obj.cells #[.int .i64 a, .int .i64 b, .int .i64 c, .int .i64 d] 25)).alloc (Obj.cells #[.int .i64 s, .int .i64 t, .int .i64 u, .int .i64 v] 25)).alloc (Obj.cells #[.int .i64 0, .int .i64 0, .int .i64 0, .int .i64 0] 25)).cell? ⟨w.heap.size + 1 + 1, 2, none⟩ = some (.int .i64 0) ∧ (((w.alloc (Obj.cells #[.int .i64 a, .int .i64 b, .int .i64 c, .int .i64 d] 25)).alloc (Obj.cells #[.int .i64 s, .int .i64 t, .int .i64 u, .int .i64 v] 25)).alloc (Obj.cells #[.int .i64 0, .int .i64 0, .int .i64 0, .int .i64 0] 25)).cell? ⟨w.heap.size + 1 + 1, 3, none⟩ = some (.int .i64 0) ∧ (((w.alloc (Obj.cells #[.int .i64 a, .int .i64 b, .int .i64 c, .int .i64 d] 25)).alloc (Obj.cells #[.int .i64 s, .int .i64 t, .int .i64 u, .int .i64 v] 25)).alloc (Obj.cells #[.int .i64 0, .int .i64 0, .int .i64 0, .int .i64 0] 25)).frozen? ⟨w.heap.size + 1 + 1, 0, none⟩ = false ∧ (((w.alloc (Obj.cells #[.int .i64 a, .int .i64 b, .int .i64 c, .int .i64 d] 25)).alloc (Obj.cells #[.int .i64 s, .int .i64 t, .int .i64 u, .int .i64 v] 25)).alloc (Obj.cells #[.int .i64 0, .int .i64 0, .int .i64 0, .int .i64 0] 25)).frozen? ⟨w.heap.size + 1 + 1, 1, none⟩ = false ∧ (((w.alloc (Obj.cells #[.int .i64 a, .int .i64 b, .int .i64 c, .int .i64 d] 25)).alloc (Obj.cells #[.int .i64 s, .int .i64 t, .int .i64 u, .int .i64 v] 25)).alloc (Obj.cells #[.int .i64 0, .int .i64 0, .int .i64 0, .int .i64 0] 25)).frozen? ⟨w.heap.size + 1 + 1, 2, none⟩ = false ∧ (((w.alloc (Obj.cells #[.int .i64 a, .int .i64 b, .int .i64 c, .int .i64 d] 25)).alloc (Obj.cells #[.int .i64 s, .int .i64 t, .int .i64 u, .int .i64 v] 25)).alloc (Obj.cells #[.int .i64 0, .int .i64 0, .int .i64 0, .int .i64 0] 25)).frozen? ⟨w.heap.size + 1 + 1, 3, none⟩ = false := by refine ⟨?_, ?_, ?_, ?_, ?_, ?_, ?_, ?_⟩ <;> go_cell
  have hsz : w.heap.size + 1 + 1 < (((w.alloc (Obj.cells #[.int .i64 a, .int .i64 b, .int .i64 c, .int .i64 d] 25)).alloc (Obj.cells #[.int .i64 s, .int .i64 t, .int .i64 u, .int .i64 v] 25)).alloc (Obj.cells #[.int .i64 0, .int .i64 0, .int .i64 0, .int .i64 0] 25)).heap.size := by simp
  generalize (((w.alloc (Obj.cells #[.int .i64 a, .int .i64 b, .int .i64 c, .int .i64 d] 25)).alloc (Obj.cells #[.int .i64 s, .int .i64 t, .int .i64 u, .int .i64 v] 25)).alloc (Obj.cells #[.int .i64 0, .int .i64 0, .int .i64 0, .int .i64 0] 25)) = W at *
  have hsz0 : w.heap.size < W.heap.size := by omega
  have V0 : ∀ w', Below W.heap.size W w' → w'.cell? ⟨w.heap.size, 0, none⟩ = some (.int .i64 a) ∧ w'.cell? ⟨w.heap.size, 1, none⟩ = some (.int .i64 b) ∧ w'.cell? ⟨w.heap.size, 2, none⟩ = some (.int .i64 c) ∧ w'.cell? ⟨w.heap.size, 3, none⟩ = some (.int .i64 d) ∧ w'.cell? ⟨w.heap.size + 1, 0, none⟩ = some (.int .i64 s) ∧ w'.cell? ⟨w.heap.size + 1, 1, none⟩ = some (.int .i64 t) ∧ w'.cell? ⟨w.heap.size + 1, 2, none⟩ = some (.int .i64 u) ∧ w'.cell? ⟨w.heap.size + 1, 3, none⟩ = some (.int .i64 v) := fun w' hb => by
    have e0 := fun o' => hb.cell (p := ⟨w.heap.size, o', none⟩) (by simp only; omega)
    have e1 := fun o' => hb.cell (p := ⟨w.heap.size + 1, o', none⟩) (by simp only; omega)
    rw [e0, e0, e0, e0, e1, e1, e1, e1]
    exact hs0
  have V1 : ∀ w', Below W.heap.size W w' → (w'.cell? ⟨w.heap.size + 1 + 1, 0, none⟩ = some (.int .i64 0) ∧ w'.cell? ⟨w.heap.size + 1 + 1, 1, none⟩ = some (.int .i64 0) ∧ w'.cell? ⟨w.heap.size + 1 + 1, 2, none⟩ = some (.int .i64 0) ∧ w'.cell? ⟨w.heap.size + 1 + 1, 3, none⟩ = some (.int .i64 0) ∧ w'.frozen? ⟨w.heap.size + 1 + 1, 0, none⟩ = false ∧ w'.frozen? ⟨w.heap.size + 1 + 1, 1, none⟩ = false ∧ w'.frozen? ⟨w.heap.size + 1 + 1, 2, none⟩ = false ∧ w'.frozen? ⟨w.heap.size + 1 + 1, 3, none⟩ = false) := fun w' hb => by
    have e0 := fun o' => hb.cell (p := ⟨w.heap.size + 1 + 1, o', none⟩) (by simp only; omega)
    have e1 := fun o' => hb.frozen (p := ⟨w.heap.size + 1 + 1, o', none⟩) (by simp only; omega)
    rw [e0, e0, e0, e0, e1, e1, e1, e1]
    exact hr0
  have G0 := Lib.hid V0
  have G1 := Lib.hid V1
  have HB0 := Lib.hid hb0
  clear V0 V1 hb0 hs0 hr0
  have HD : Below W.heap.size W W := Below.refl _ _
  have HD1 : Below W.heap.size W W.drew := HD.drew
  refine wp_region_held_drew (S := fun w' => w'.cell? ⟨w.heap.size, 0, none⟩ = some (.int .i64 a) ∧ w'.cell? ⟨w.heap.size, 1, none⟩ = some (.int .i64 b) ∧ w'.cell? ⟨w.heap.size, 2, none⟩ = some (.int .i64 c) ∧ w'.cell? ⟨w.heap.size, 3, none⟩ = some (.int .i64 d) ∧ w'.cell? ⟨w.heap.size + 1, 0, none⟩ = some (.int .i64 s) ∧ w'.cell? ⟨w.heap.size + 1, 1, none⟩ = some (.int .i64 t) ∧ w'.cell? ⟨w.heap.size + 1, 2, none⟩ = some (.int .i64 u) ∧ w'.cell? ⟨w.heap.size + 1, 3, none⟩ = some (.int .i64 v)) (by kernel_rfl) (G0.out _ HD1) (fun hHeld => ?_)
  refine wpAnyH_take (i := 0) (oi := _) (v := ?_) rfl (by kernel_rfl) (by kernel_rfl) (by kernel_rfl) (fun _ _ _ h => h) (Or.inl ⟨by rfl, ?_⟩) (by assumption) ?_
  rotate_left
  · intro w hSw; obtain ⟨_, _, _, _, _, _, _, _⟩ := hSw; go_simp; (try with_reducible rfl)
  try change wpAnyH _ _ _ _ _ _ _ (Act.put _ (some 5) _) _
  try simp only [act_all]
  refine wpAnyH_take (i := 1) (oi := _) (v := ?_) rfl (by kernel_rfl) (by kernel_rfl) (by kernel_rfl) (fun _ _ _ h => h) (Or.inl ⟨by rfl, ?_⟩) (by assumption) ?_
  rotate_left
  · intro w hSw; obtain ⟨_, _, _, _, _, _, _, _⟩ := hSw; go_simp; (try with_reducible rfl)
  try change wpAnyH _ _ _ _ _ _ _ (Act.put _ (some 6) _) _
  try simp only [act_all]
  refine wpAnyH_take (i := 2) (oi := _) (v := ?_) rfl (by kernel_rfl) (by kernel_rfl) (by kernel_rfl) (fun _ _ _ h => h) (Or.inl ⟨by rfl, ?_⟩) (by assumption) ?_
  rotate_left
  · intro w hSw; obtain ⟨_, _, _, _, _, _, _, _⟩ := hSw; go_simp; (try with_reducible rfl)
  try change wpAnyH _ _ _ _ _ _ _ (Act.put _ (some 7) _) _
  try simp only [act_all]
  refine wpAnyH_take (i := 3) (oi := _) (v := ?_) rfl (by kernel_rfl) (by kernel_rfl) (by kernel_rfl) (fun _ _ _ h => h) (Or.inl ⟨by rfl, ?_⟩) (by assumption) ?_
  rotate_left
  · intro w hSw; obtain ⟨_, _, _, _, _, _, _, _⟩ := hSw; go_simp; (try with_reducible rfl)
  try change wpAnyH _ _ _ _ _ _ _ (Act.put _ (some 8) _) _
  try simp only [act_all]
  refine wpAnyH_take (i := 5) (oi := _) (v := ?_) rfl (by kernel_rfl) (by kernel_rfl) (by kernel_rfl) (fun _ _ _ h => h) (Or.inl ⟨by rfl, ?_⟩) (by assumption) ?_
  rotate_left
  · intro w hSw; obtain ⟨_, _, _, _, _, _, _, _⟩ := hSw; go_simp; (try with_reducible rfl)
  try change wpAnyH _ _ _ _ _ _ _ (Act.put _ (some 10) _) _
  try simp only [act_all]
  refine wpAnyH_take (i := 6) (oi := _) (v := ?_) rfl (by kernel_rfl) (by kernel_rfl) (by kernel_rfl) (fun _ _ _ h => h) (Or.inl ⟨by rfl, ?_⟩) (by assumption) ?_
  rotate_left
  · intro w hSw; obtain ⟨_, _, _, _, _, _, _, _⟩ := hSw; go_simp; (try with_reducible rfl)
  try change wpAnyH _ _ _ _ _ _ _ (Act.put _ (some 11) _) _
  try simp only [act_all]
  refine wpAnyH_take (i := 7) (oi := _) (v := ?_) rfl (by kernel_rfl) (by kernel_rfl) (by kernel_rfl) (fun _ _ _ h => h) (Or.inl ⟨by rfl, ?_⟩) (by assumption) ?_
  rotate_left
  · intro w hSw; obtain ⟨_, _, _, _, _, _, _, _⟩ := hSw; go_simp; (try with_reducible rfl)
  try change wpAnyH _ _ _ _ _ _ _ (Act.put _ (some 12) _) _
  try simp only [act_all]
  refine wpAnyH_take (i := 8) (oi := _) (v := ?_) rfl (by kernel_rfl) (by kernel_rfl) (by kernel_rfl) (fun _ _ _ h => h) (Or.inl ⟨by rfl, ?_⟩) (by assumption) ?_
  rotate_left
  · intro w hSw; obtain ⟨_, _, _, _, _, _, _, _⟩ := hSw; go_simp; (try with_reducible rfl)
  try change wpAnyH _ _ _ _ _ _ _ (Act.put _ (some 13) _) _
  try simp only [act_all]
  refine wpAnyH_ready (rs := [4]) (by kernel_rfl) (by simp) ?_
  refine AllReadyH.cons (o := _) rfl (fun K hK => ?_) AllReadyH.nil
  go_simp
  refine (meetSpans_any a b s t _).mono ?_
  rintro e w2 ⟨he, hb⟩
  have HD2 : Below W.heap.size W w2 := Below.trans HD1 (hb.mono HD1.size)
  have hz2 := HD2.size
  have DA2 := HB0.out.trans (HD2.mono (show w.heap.size ≤ W.heap.size by omega))
  clear hb hHeld
  obtain ⟨r, hr⟩ : ∃ r, (meetS ⟨a, b⟩ ⟨s, t⟩) = r := ⟨_, rfl⟩
  rw [hr] at he
  have HR0 := Lib.hid hr
  clear hr
  obtain ⟨p1, q1⟩ := r
  obtain rfl : e = .returned (.agg #[.int .i64 p1, .int .i64 q1]) := he
  refine hK.out _ _ (G0.out _ HD2) (fun hHeld => ?_)
  clear hK K
  try simp only [act_all]
  refine wpAnyH_ready (rs := [9]) (by kernel_rfl) (by simp) ?_
  refine AllReadyH.cons (o := _) rfl (fun K hK => ?_) AllReadyH.nil
  go_simp
  refine (meetSpans_any c d u v _).mono ?_
  rintro e w3 ⟨he, hb⟩
  have HD3 : Below W.heap.size W w3 := Below.trans HD2 (hb.mono HD2.size)
  have hz3 := HD3.size
  have DA3 := HB0.out.trans (HD3.mono (show w.heap.size ≤ W.heap.size by omega))
  clear hb hHeld
  obtain ⟨r, hr⟩ : ∃ r, (meetS ⟨c, d⟩ ⟨u, v⟩) = r := ⟨_, rfl⟩
  rw [hr] at he
  have HR1 := Lib.hid hr
  clear hr
  obtain ⟨p2, q2⟩ := r
  obtain rfl : e = .returned (.agg #[.int .i64 p2, .int .i64 q2]) := he
  refine hK.out _ _ (G0.out _ HD3) (fun hHeld => ?_)
  clear hK K
  try simp only [act_all]
  refine wpAnyH_take (i := 10) (oi := _) (v := ?_) rfl (by kernel_rfl) (by kernel_rfl) (by kernel_rfl) (fun _ _ _ h => h) (Or.inl ⟨by rfl, ?_⟩) (by assumption) ?_
  rotate_left
  · intro w hSw; obtain ⟨_, _, _, _, _, _, _, _⟩ := hSw; go_simp; (try with_reducible rfl)
  try change wpAnyH _ _ _ _ _ _ _ (Act.put _ (some 15) _) _
  try simp only [act_all]
  refine wpAnyH_ready (rs := [11]) (by kernel_rfl) (by simp) ?_
  refine AllReadyH.cons (o := _) rfl (fun K hK => ?_) AllReadyH.nil
  obtain ⟨_, _, _, _, _, _, _, _⟩ := G0.out _ HD3
  obtain ⟨_, _, _, _, _, _, _, _⟩ := G1.out _ HD3
  go_simp
  refine hK.out _ _ (by refine ⟨?_, ?_, ?_, ?_, ?_, ?_, ?_, ?_⟩ <;> go_cell) (fun hHeld => ?_)
  clear hK K
  try simp only [act_all]
  refine wpAnyH_done (by kernel_rfl) ?_ _
  go_wp2_with fail
  refine bodyPost_ret (v := .agg #[.int .i64 p1, .int .i64 q1, .int .i64 p2, .int .i64 q2]) (by simp [results, Try.results59, go_sem, *]) rfl ⟨?_, by go_grown⟩
  rw [← HSP.out]; simp only [meetR, HR0.out, HR1.out, IsR]; (try rfl)

end Go.Proofs.Ytilclpldfoifkaa
