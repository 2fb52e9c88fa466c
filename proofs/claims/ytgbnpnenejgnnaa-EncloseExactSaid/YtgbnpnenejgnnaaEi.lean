import Derived.Test.YtgbnpnenejgnnaaEe
import Derived.Test.YtgbnpnenejgnnaaEb
import Derived.Test.YtgbnpnenejgnnaaEu
import Derived.Test.YtgbnpnenejgnnaaEh
namespace Go.Proofs.Ytgbnpnenejgnnaa
open Go.RowKit Encl

set_option maxRecDepth 100000 in
set_option maxHeartbeats 4000000 in
theorem power_any (a b c d : Int) (w : World) (h1 : okS ⟨a, b⟩ = true) (h2 : okS ⟨c, d⟩ = true) :
    Calls Try.prog 80 #[.agg #[.int .i64 a, .int .i64 b, .int .i64 c, .int .i64 d]] w fun e w' => IsS e (powR ⟨⟨a, b⟩, ⟨c, d⟩⟩) ∧ Below w.heap.size w w' := by
  have H1 := Lib.hid h1
  have H2 := Lib.hid h2
  clear h1 h2
  obtain ⟨SP, hsp⟩ : ∃ SP, (powR ⟨⟨a, b⟩, ⟨c, d⟩⟩) = SP := ⟨_, rfl⟩
  have HSP := Lib.hid hsp
  rw [hsp]
  clear hsp
  go_enter Try.func80, Try.ntmps80
  go_wp2_with fail
  have hb0 : Below w.heap.size w ((w.alloc (Obj.cells #[.int .i64 a, .int .i64 b, .int .i64 c, .int .i64 d] 25)).alloc (Obj.cells #[.int .i64 0, .int .i64 0] 23)) := by go_grown
  have hs0 : ((w.alloc (Obj.cells #[.int .i64 a, .int .i64 b, .int .i64 c, .int .i64 d] 25)).alloc (Obj.cells #[.int .i64 0, .int .i64 0] 23)).cell? ⟨w.heap.size, 0, none⟩ = some (.int .i64 a) ∧ ((w.alloc (Obj.cells #[.int .i64 a, .int .i64 b, .int .i64 c, .int .i64 d] 25)).alloc (Obj.cells #[.int .i64 0, .int .i64 0] 23)).cell? ⟨w.heap.size, 1, none⟩ = some (.int .i64 b) ∧ ((w.alloc (Obj.cells #[.int .i64 a, .int .i64 b, .int .i64 c, .int .i64 d] 25)).alloc (Obj.cells #[.int .i64 0, .int .i64 0] 23)).cell? ⟨w.heap.size, 2, none⟩ = some (.int .i64 c) ∧ ((w.alloc (Obj.cells #[.int .i64 a, .int .i64 b, .int .i64 c, .int .i64 d] 25)).alloc (Obj.cells #[.int .i64 0, .int .i64 0] 23)).cell? ⟨w.heap.size, 3, none⟩ = some (.int .i64 d) := by refine ⟨?_, ?_, ?_, ?_⟩ <;> go_cell
  have hr0 : ((w.alloc (Obj.cells #[.int .i64 a, .int .i64 b, .int .i64 c, .int .i64 d] 25)).alloc (Obj.cells #[.int .i64 0, .int .i64 0] 23)).cell? ⟨w.heap.size + 1, 0, none⟩ = some (.int .i64 0) ∧ ((w.alloc (Obj.cells #[.int .i64 a, .int .i64 b, .int .i64 c, .int .i64 d] 25)).alloc (Obj.cells #[.int .i64 0, .int .i64 0] 23)).cell? ⟨w.heap.size + 1, 1, none⟩ = some (.int .i64 0) ∧ ((w.alloc (Obj.cells #[.int .i64 a, .int .i64 b, .int .i64 c, .int .i64 d] 25)).alloc (Obj.cells #[.int .i64 0, .int .i64 0] 23)).frozen? ⟨w.heap.size + 1, 0, none⟩ = false ∧ ((w.alloc (Obj.cells #[.int .i64 a, .int .i64 b, .int .i64 c, .int .i64 d] 25)).alloc (Obj.cells #[.int .i64 0, .int .i64 0] 23)).frozen? ⟨w.heap.size + 1, 1, none⟩ = false := by refine ⟨?_, ?_, ?_, ?_⟩ <;> go_cell
  have hsz : w.heap.size + 1 < ((w.alloc (Obj.cells #[.int .i64 a, .int .i64 b, .int .i64 c, .int .i64 d] 25)).alloc (Obj.cells #[.int .i64 0, .int .i64 0] 23)).heap.size := by simp
  generalize ((w.alloc (Obj.cells #[.int .i64 a, .int .i64 b, .int .i64 c, .int .i64 d] 25)).alloc (Obj.cells #[.int .i64 0, .int .i64 0] 23)) = W at *
  have hsz0 : w.heap.size < W.heap.size := by omega
  have V0 : ∀ w', Below W.heap.size W w' → w'.cell? ⟨w.heap.size, 0, none⟩ = some (.int .i64 a) ∧ w'.cell? ⟨w.heap.size, 1, none⟩ = some (.int .i64 b) ∧ w'.cell? ⟨w.heap.size, 2, none⟩ = some (.int .i64 c) ∧ w'.cell? ⟨w.heap.size, 3, none⟩ = some (.int .i64 d) := fun w' hb => by
    have e0 := fun o' => hb.cell (p := ⟨w.heap.size, o', none⟩) (by simp only; omega)
    rw [e0, e0, e0, e0]
    exact hs0
  have V1 : ∀ w', Below W.heap.size W w' → (w'.cell? ⟨w.heap.size + 1, 0, none⟩ = some (.int .i64 0) ∧ w'.cell? ⟨w.heap.size + 1, 1, none⟩ = some (.int .i64 0) ∧ w'.frozen? ⟨w.heap.size + 1, 0, none⟩ = false ∧ w'.frozen? ⟨w.heap.size + 1, 1, none⟩ = false) := fun w' hb => by
    have e0 := fun o' => hb.cell (p := ⟨w.heap.size + 1, o', none⟩) (by simp only; omega)
    have e1 := fun o' => hb.frozen (p := ⟨w.heap.size + 1, o', none⟩) (by simp only; omega)
    rw [e0, e0, e1, e1]
    exact hr0
  have G0 := Lib.hid V0
  have G1 := Lib.hid V1
  have HB0 := Lib.hid hb0
  clear V0 V1 hb0 hs0 hr0
  have HD : Below W.heap.size W W := Below.refl _ _
  have HD1 : Below W.heap.size W W.drew := HD.drew
  refine wp_region_held_drew (S := fun w' => w'.cell? ⟨w.heap.size, 0, none⟩ = some (.int .i64 a) ∧ w'.cell? ⟨w.heap.size, 1, none⟩ = some (.int .i64 b) ∧ w'.cell? ⟨w.heap.size, 2, none⟩ = some (.int .i64 c) ∧ w'.cell? ⟨w.heap.size, 3, none⟩ = some (.int .i64 d)) (by kernel_rfl) (G0.out _ HD1) (fun hHeld => ?_)
  refine wpAnyH_take (i := 0) (oi := _) (v := ?_) rfl (by kernel_rfl) (by kernel_rfl) (by kernel_rfl) (fun _ _ _ h => h) (Or.inl ⟨by rfl, ?_⟩) (by assumption) ?_
  rotate_left
  · intro w hSw; obtain ⟨_, _, _, _⟩ := hSw; go_simp; (try with_reducible rfl)
  try change wpAnyH _ _ _ _ _ _ _ (Act.put _ (some 3) _) _
  try simp only [act_all]
  refine wpAnyH_take (i := 1) (oi := _) (v := ?_) rfl (by kernel_rfl) (by kernel_rfl) (by kernel_rfl) (fun _ _ _ h => h) (Or.inl ⟨by rfl, ?_⟩) (by assumption) ?_
  rotate_left
  · intro w hSw; obtain ⟨_, _, _, _⟩ := hSw; go_simp; (try with_reducible rfl)
  try change wpAnyH _ _ _ _ _ _ _ (Act.put _ (some 4) _) _
  try simp only [act_all]
  refine wpAnyH_take (i := 3) (oi := _) (v := ?_) rfl (by kernel_rfl) (by kernel_rfl) (by kernel_rfl) (fun _ _ _ h => h) (Or.inl ⟨by rfl, ?_⟩) (by assumption) ?_
  rotate_left
  · intro w hSw; obtain ⟨_, _, _, _⟩ := hSw; go_simp; (try with_reducible rfl)
  try change wpAnyH _ _ _ _ _ _ _ (Act.put _ (some 6) _) _
  try simp only [act_all]
  refine wpAnyH_take (i := 4) (oi := _) (v := ?_) rfl (by kernel_rfl) (by kernel_rfl) (by kernel_rfl) (fun _ _ _ h => h) (Or.inl ⟨by rfl, ?_⟩) (by assumption) ?_
  rotate_left
  · intro w hSw; obtain ⟨_, _, _, _⟩ := hSw; go_simp; (try with_reducible rfl)
  try change wpAnyH _ _ _ _ _ _ _ (Act.put _ (some 7) _) _
  try simp only [act_all]
  refine wpAnyH_ready (rs := [2]) (by kernel_rfl) (by simp) ?_
  refine AllReadyH.cons (o := _) rfl (fun K hK => ?_) AllReadyH.nil
  go_simp
  refine (squareSpan_any a b _ H1.out).mono ?_
  rintro e w2 ⟨he, hb⟩
  have HD2 : Below W.heap.size W w2 := Below.trans HD1 (hb.mono HD1.size)
  have hz2 := HD2.size
  have DA2 := HB0.out.trans (HD2.mono (show w.heap.size ≤ W.heap.size by omega))
  clear hb hHeld
  obtain ⟨r, hr⟩ : ∃ r, (sqS ⟨a, b⟩) = r := ⟨_, rfl⟩
  rw [hr] at he
  have HR0 := Lib.hid hr
  clear hr
  rcases r with ⟨p1, q1⟩ | k
  case' bad =>
    obtain rfl : e = .panicked [{ v := .iface 26 (.int .i64 k), recovered := false }] := he
    refine ⟨rfl, ?_, by go_grown⟩
    rw [← HSP.out]; simp only [powR, HR0.out, Out.binds, IsS]; (try rfl)
  obtain rfl : e = .returned (.agg #[.int .i64 p1, .int .i64 q1]) := he
  have HO0 : Hid (okS ⟨p1, q1⟩ = true) := Lib.hid (sqS_ok HR0.out)
  refine hK.out _ _ (G0.out _ HD2) (fun hHeld => ?_)
  clear hK K
  try simp only [act_all]
  refine wpAnyH_ready (rs := [5]) (by kernel_rfl) (by simp) ?_
  refine AllReadyH.cons (o := _) rfl (fun K hK => ?_) AllReadyH.nil
  go_simp
  refine (squareSpan_any c d _ H2.out).mono ?_
  rintro e w3 ⟨he, hb⟩
  have HD3 : Below W.heap.size W w3 := Below.trans HD2 (hb.mono HD2.size)
  have hz3 := HD3.size
  have DA3 := HB0.out.trans (HD3.mono (show w.heap.size ≤ W.heap.size by omega))
  clear hb hHeld
  obtain ⟨r, hr⟩ : ∃ r, (sqS ⟨c, d⟩) = r := ⟨_, rfl⟩
  rw [hr] at he
  have HR1 := Lib.hid hr
  clear hr
  rcases r with ⟨p2, q2⟩ | k
  case' bad =>
    obtain rfl : e = .panicked [{ v := .iface 26 (.int .i64 k), recovered := false }] := he
    refine ⟨rfl, ?_, by go_grown⟩
    rw [← HSP.out]; simp only [powR, HR0.out, HR1.out, Out.binds, IsS]; (try rfl)
  obtain rfl : e = .returned (.agg #[.int .i64 p2, .int .i64 q2]) := he
  have HO1 : Hid (okS ⟨p2, q2⟩ = true) := Lib.hid (sqS_ok HR1.out)
  refine hK.out _ _ (G0.out _ HD3) (fun hHeld => ?_)
  clear hK K
  try simp only [act_all]
  refine wpAnyH_ready (rs := [6]) (by kernel_rfl) (by simp) ?_
  refine AllReadyH.cons (o := _) rfl (fun K hK => ?_) AllReadyH.nil
  go_simp
  refine (addSpans_any p1 q1 p2 q2 _ HO0.out HO1.out).mono ?_
  rintro e w4 ⟨he, hb⟩
  have HD4 : Below W.heap.size W w4 := Below.trans HD3 (hb.mono HD3.size)
  have hz4 := HD4.size
  have DA4 := HB0.out.trans (HD4.mono (show w.heap.size ≤ W.heap.size by omega))
  clear hb hHeld
  obtain ⟨r, hr⟩ : ∃ r, (addS ⟨p1, q1⟩ ⟨p2, q2⟩) = r := ⟨_, rfl⟩
  rw [hr] at he
  have HR2 := Lib.hid hr
  clear hr
  rcases r with ⟨P, Q⟩ | k
  case' bad =>
    obtain rfl : e = .panicked [{ v := .iface 26 (.int .i64 k), recovered := false }] := he
    refine ⟨rfl, ?_, by go_grown⟩
    rw [← HSP.out]; simp only [powR, HR0.out, HR1.out, HR2.out, Out.binds, IsS]; (try rfl)
  obtain rfl : e = .returned (.agg #[.int .i64 P, .int .i64 Q]) := he
  refine hK.out _ _ (G0.out _ HD4) (fun hHeld => ?_)
  clear hK K
  try simp only [act_all]
  refine wpAnyH_ready (rs := [7]) (by kernel_rfl) (by simp) ?_
  refine AllReadyH.cons (o := _) rfl (fun K hK => ?_) AllReadyH.nil
  obtain ⟨_, _, _, _⟩ := G0.out _ HD4
  obtain ⟨_, _, _, _⟩ := G1.out _ HD4
  go_simp
  refine hK.out _ _ (by refine ⟨?_, ?_, ?_, ?_⟩ <;> go_cell) (fun hHeld => ?_)
  clear hK K
  try simp only [act_all]
  refine wpAnyH_done (by kernel_rfl) ?_ _
  go_wp2_with fail
  refine bodyPost_ret (v := .agg #[.int .i64 P, .int .i64 Q]) (by simp [results, Try.results80, go_sem, *]) rfl ⟨?_, by go_grown⟩
  rw [← HSP.out]; simp only [powR, HR0.out, HR1.out, HR2.out, Out.binds, IsS]; (try rfl)
end Go.Proofs.Ytgbnpnenejgnnaa
