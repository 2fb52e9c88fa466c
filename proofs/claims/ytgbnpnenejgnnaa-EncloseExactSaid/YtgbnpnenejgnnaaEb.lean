import Derived.Test.YtgbnpnenejgnnaaEu
namespace Go.Proofs.Ytgbnpnenejgnnaa
open Go.RowKit Encl

set_option maxHeartbeats 1000000 in
theorem addSpans_any (a b c d : Int) (w : World) (h1 : okS ⟨a, b⟩ = true) (h2 : okS ⟨c, d⟩ = true) :
    Calls Try.prog 117 #[.agg #[.int .i64 a, .int .i64 b], .agg #[.int .i64 c, .int .i64 d]] w fun e w' => IsS e (addS ⟨a, b⟩ ⟨c, d⟩) ∧ Below w.heap.size w w' := by
  rw [okS_iff] at h1 h2
  simp only at h1 h2
  obtain ⟨g1, g2, g3⟩ := h1
  obtain ⟨g4, g5, g6⟩ := h2
  obtain ⟨r, hr⟩ : ∃ r, inR ⟨a + c, b + d⟩ = r := ⟨_, rfl⟩
  have HR := Lib.hid hr
  rw [show addS ⟨a, b⟩ ⟨c, d⟩ = r from hr]
  clear hr
  rcases r with ⟨p, q⟩ | k
  all_goals
    go_enter Try.func117, Try.ntmps117
    go_wp2_with fail
    refine (inRange_any _ _ _).mono ?_
    rintro e w1 ⟨he, hb⟩
    rw [HR.out] at he
    have D1 : Below w.heap.size w w1 := Below.trans (by go_grown) (hb.mono (by first | omega | (simp; done) | (simp; omega)))
    have s1 : w.heap.size + 1 + 1 < w1.heap.size := by have hs := hb.size; (try simp at hs); omega
    obtain ⟨k1, k2⟩ := bcl hb
    have d0 := (k1 (w.heap.size + 1 + 1) 0 (by simp)).trans (by go_cell : _ = some (.int .i64 0))
    have d1 := (k1 (w.heap.size + 1 + 1) 1 (by simp)).trans (by go_cell : _ = some (.int .i64 0))
    have f0 := (k2 (w.heap.size + 1 + 1) 0 (by simp)).trans (by go_cell : _ = false)
    have f1 := (k2 (w.heap.size + 1 + 1) 1 (by simp)).trans (by go_cell : _ = false)
    clear hb k1 k2
  · obtain rfl : e = .returned (.agg #[.int .i64 p, .int .i64 q]) := he
    go_wp2_with fail
    refine bodyPost_ret (v := .agg #[.int .i64 p, .int .i64 q]) (by simp [results, Try.results117, go_sem, *]) rfl ⟨rfl, by go_grown⟩
  · obtain rfl : e = pan k := he
    unfold pan
    go_wp2_with fail
    exact ⟨rfl, rfl, by go_grown⟩

set_option maxRecDepth 100000 in
set_option maxHeartbeats 4000000 in
theorem subSpans_any (a b c d : Int) (w : World) (h1 : okS ⟨a, b⟩ = true) (h2 : okS ⟨c, d⟩ = true) :
    Calls Try.prog 118 #[.agg #[.int .i64 a, .int .i64 b], .agg #[.int .i64 c, .int .i64 d]] w fun e w' => IsS e (subS ⟨a, b⟩ ⟨c, d⟩) ∧ Below w.heap.size w w' := by
  have H1 := Lib.hid h1
  have g := h2
  rw [okS_iff] at g
  simp only at g
  have H3 : Hid (okS ⟨-d, -c⟩ = true) := Lib.hid (by rw [okS_iff]; simp only; omega)
  have HG := Lib.hid g
  clear g h1 h2
  obtain ⟨SP, hsp⟩ : ∃ SP, (subS ⟨a, b⟩ ⟨c, d⟩) = SP := ⟨_, rfl⟩
  have HSP := Lib.hid hsp
  rw [hsp]
  clear hsp
  go_enter Try.func118, Try.ntmps118
  go_wp2_with fail
  have hb0 : Below w.heap.size w (((w.alloc (Obj.cells #[.int .i64 a, .int .i64 b] 23)).alloc (Obj.cells #[.int .i64 c, .int .i64 d] 23)).alloc (Obj.cells #[.int .i64 0, .int .i64 0] 23)) := by go_grown
  have hs0 : (((w.alloc (Obj.cells #[.int .i64 a, .int .i64 b] 23)).alloc (Obj.cells #[.int .i64 c, .int .i64 d] 23)).alloc (Obj.cells #[.int .i64 0, .int .i64 0] 23)).cell? ⟨w.heap.size, 0, none⟩ = some (.int .i64 a) ∧ (((w.alloc (Obj.cells #[.int .i64 a, .int .i64 b] 23)).alloc (Obj.cells #[.int .i64 c, .int .i64 d] 23)).alloc (Obj.cells #[.int .i64 0, .int .i64 0] 23)).cell? ⟨w.heap.size, 1, none⟩ = some (.int .i64 b) ∧ (((w.alloc (Obj.cells #[.int .i64 a, .int .i64 b] 23)).alloc (Obj.cells #[.int .i64 c, .int .i64 d] 23)).alloc (Obj.cells #[.int .i64 0, .int .i64 0] 23)).cell? ⟨w.heap.size + 1, 0, none⟩ = some (.int .i64 c) ∧ (((w.alloc (Obj.cells #[.int .i64 a, .int .i64 b] 23)).alloc (Obj.cells #[.int .i64 c, .int .i64 d] 23)).alloc (Obj.cells #[.int .i64 0, .int .i64 0] 23)).cell? ⟨w.heap.size + 1, 1, none⟩ = some (.int .i64 d) := by refine ⟨?_, ?_, ?_, ?_⟩ <;> go_cell
  have hr0 : (((w.alloc (Obj.cells #[.int .i64 a, .int .i64 b] 23)).alloc (Obj.cells #[.int .i64 c, .int .i64 d] 23)).alloc (Obj.cells #[.int .i64 0, .int .i64 0] 23)).cell? ⟨w.heap.size + 1 + 1, 0, none⟩ = some (.int .i64 0) ∧ (((w.alloc (Obj.cells #[.int .i64 a, .int .i64 b] 23)).alloc (Obj.cells #[.int .i64 c, .int .i64 d] 23)).alloc (Obj.cells #[.int .i64 0, .int .i64 0] 23)).cell? ⟨w.heap.size + 1 + 1, 1, none⟩ = some (.int .i64 0) ∧ (((w.alloc (Obj.cells #[.int .i64 a, .int .i64 b] 23)).alloc (Obj.cells #[.int .i64 c, .int .i64 d] 23)).alloc (Obj.cells #[.int .i64 0, .int .i64 0] 23)).frozen? ⟨w.heap.size + 1 + 1, 0, none⟩ = false ∧ (((w.alloc (Obj.cells #[.int .i64 a, .int .i64 b] 23)).alloc (Obj.cells #[.int .i64 c, .int .i64 d] 23)).alloc (Obj.cells #[.int .i64 0, .int .i64 0] 23)).frozen? ⟨w.heap.size + 1 + 1, 1, none⟩ = false := by refine ⟨?_, ?_, ?_, ?_⟩ <;> go_cell
  have hsz : w.heap.size + 1 + 1 < (((w.alloc (Obj.cells #[.int .i64 a, .int .i64 b] 23)).alloc (Obj.cells #[.int .i64 c, .int .i64 d] 23)).alloc (Obj.cells #[.int .i64 0, .int .i64 0] 23)).heap.size := by simp
  generalize (((w.alloc (Obj.cells #[.int .i64 a, .int .i64 b] 23)).alloc (Obj.cells #[.int .i64 c, .int .i64 d] 23)).alloc (Obj.cells #[.int .i64 0, .int .i64 0] 23)) = W at *
  have hsz0 : w.heap.size < W.heap.size := by omega
  have V0 : ∀ w', Below W.heap.size W w' → w'.cell? ⟨w.heap.size, 0, none⟩ = some (.int .i64 a) ∧ w'.cell? ⟨w.heap.size, 1, none⟩ = some (.int .i64 b) ∧ w'.cell? ⟨w.heap.size + 1, 0, none⟩ = some (.int .i64 c) ∧ w'.cell? ⟨w.heap.size + 1, 1, none⟩ = some (.int .i64 d) := fun w' hb => by
    have e0 := fun o' => hb.cell (p := ⟨w.heap.size, o', none⟩) (by simp only; omega)
    have e1 := fun o' => hb.cell (p := ⟨w.heap.size + 1, o', none⟩) (by simp only; omega)
    rw [e0, e0, e1, e1]
    exact hs0
  have V1 : ∀ w', Below W.heap.size W w' → (w'.cell? ⟨w.heap.size + 1 + 1, 0, none⟩ = some (.int .i64 0) ∧ w'.cell? ⟨w.heap.size + 1 + 1, 1, none⟩ = some (.int .i64 0) ∧ w'.frozen? ⟨w.heap.size + 1 + 1, 0, none⟩ = false ∧ w'.frozen? ⟨w.heap.size + 1 + 1, 1, none⟩ = false) := fun w' hb => by
    have e0 := fun o' => hb.cell (p := ⟨w.heap.size + 1 + 1, o', none⟩) (by simp only; omega)
    have e1 := fun o' => hb.frozen (p := ⟨w.heap.size + 1 + 1, o', none⟩) (by simp only; omega)
    rw [e0, e0, e1, e1]
    exact hr0
  have G0 := Lib.hid V0
  have G1 := Lib.hid V1
  have HB0 := Lib.hid hb0
  clear V0 V1 hb0 hs0 hr0
  refine wp_region_held_drew (S := fun w' => w'.cell? ⟨w.heap.size, 0, none⟩ = some (.int .i64 a) ∧ w'.cell? ⟨w.heap.size, 1, none⟩ = some (.int .i64 b) ∧ w'.cell? ⟨w.heap.size + 1, 0, none⟩ = some (.int .i64 c) ∧ w'.cell? ⟨w.heap.size + 1, 1, none⟩ = some (.int .i64 d)) (by kernel_rfl) (G0.out _ (by go_grown)) (fun hHeld => ?_)
  have HD : Below W.heap.size W W.drew := by go_grown
  refine wpAnyH_take (i := 0) (oi := _) (v := ?_) rfl (by kernel_rfl) (by kernel_rfl) (by kernel_rfl) (fun _ _ _ h => h) (Or.inl ⟨by rfl, ?_⟩) (by assumption) ?_
  rotate_left
  · intro w hSw; obtain ⟨_, _, _, _⟩ := hSw; go_simp; (try with_reducible rfl)
  try change wpAnyH _ _ _ _ _ _ _ (Act.put _ (some 5) _) _
  try simp only [act_all]
  refine wpAnyH_take (i := 1) (oi := _) (v := ?_) rfl (by kernel_rfl) (by kernel_rfl) (by kernel_rfl) (fun _ _ _ h => h) (Or.inl ⟨by rfl, ?_⟩) (by assumption) ?_
  rotate_left
  · intro w hSw; obtain ⟨_, _, _, _⟩ := hSw; go_simp; (try with_reducible rfl)
  try change wpAnyH _ _ _ _ _ _ _ (Act.put _ (some 6) _) _
  try simp only [act_all]
  refine wpAnyH_ready (rs := [2]) (by kernel_rfl) (by simp) ?_
  refine AllReadyH.cons (o := _) rfl (fun K hK => ?_) AllReadyH.nil
  go_simp
  refine (negated_any _ _ _ (by have := HG.out; omega) (by have := HG.out; omega)).mono ?_
  rintro e wA0 ⟨he, hb⟩
  have HD0 : Below W.heap.size W wA0 := HD.trans (hb.mono (by have := HD.size; first | omega | (simp; omega)))
  have hzA0 := HD0.size
  have DA0 := HB0.out.trans (HD0.mono (show w.heap.size ≤ W.heap.size by omega))
  clear hb hHeld
  obtain rfl : e = .returned (.agg #[.int .i64 (-d), .int .i64 (-c)]) := he
  refine hK.out _ _ (G0.out _ HD0) (fun hHeld => ?_)
  clear hK K
  try simp only [act_all]
  refine wpAnyH_ready (rs := [3]) (by kernel_rfl) (by simp) ?_
  refine AllReadyH.cons (o := _) rfl (fun K hK => ?_) AllReadyH.nil
  go_simp
  refine (addSpans_any _ _ _ _ _ H1.out H3.out).mono ?_
  rintro e wA1 ⟨he, hb⟩
  have HD1 : Below W.heap.size W wA1 := HD0.trans (hb.mono (by have := HD0.size; first | omega | (simp; omega)))
  have hzA1 := HD1.size
  have DA1 := HB0.out.trans (HD1.mono (show w.heap.size ≤ W.heap.size by omega))
  clear hb hHeld
  obtain ⟨r, hr⟩ : ∃ r, (addS ⟨a, b⟩ ⟨-d, -c⟩) = r := ⟨_, rfl⟩
  rw [hr] at he
  have HR1 := Lib.hid hr
  clear hr
  rcases r with ⟨p, q⟩ | k
  case' bad =>
    obtain rfl : e = .panicked [{ v := .iface 26 (.int .i64 k), recovered := false }] := he
    refine ⟨rfl, ?_, by go_grown⟩
    rw [← HSP.out]; simp only [subS, negS, HR1.out, IsS]; (try rfl)
  obtain rfl : e = .returned (.agg #[.int .i64 p, .int .i64 q]) := he
  refine hK.out _ _ (G0.out _ HD1) (fun hHeld => ?_)
  clear hK K
  try simp only [act_all]
  refine wpAnyH_ready (rs := [4]) (by kernel_rfl) (by simp) ?_
  refine AllReadyH.cons (o := _) rfl (fun K hK => ?_) AllReadyH.nil
  obtain ⟨_, _, _, _⟩ := G0.out _ HD1
  obtain ⟨_, _, _, _⟩ := G1.out _ HD1
  go_simp
  refine hK.out _ _ (by refine ⟨?_, ?_, ?_, ?_⟩ <;> go_cell) (fun hHeld => ?_)
  clear hK K hHeld
  try simp only [act_all]
  refine wpAnyH_done (by kernel_rfl) ?_ _
  go_wp2_with fail
  refine bodyPost_ret (v := .agg #[.int .i64 p, .int .i64 q]) (by simp [results, Try.results118, go_sem, *]) rfl ⟨?_, by go_grown⟩
  rw [← HSP.out]; simp only [subS, negS, HR1.out, IsS]; (try rfl)
end Go.Proofs.Ytgbnpnenejgnnaa
