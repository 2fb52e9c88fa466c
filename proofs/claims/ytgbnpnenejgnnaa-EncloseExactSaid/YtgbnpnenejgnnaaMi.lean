import Derived.Test.YtgbnpnenejgnnaaMe
import Derived.Deep.DeepCutAuto
namespace Go.Proofs.Ytgbnpnenejgnnaa
open Go.RowKit Encl

set_option maxRecDepth 100000 in
set_option maxHeartbeats 4000000 in
theorem meet_any (a b c d s t u v : Int) (w : World) :
    Calls Try.prog 70 #[.agg #[.int .i64 a, .int .i64 b, .int .i64 c, .int .i64 d], .agg #[.int .i64 s, .int .i64 t, .int .i64 u, .int .i64 v]] w fun e w' => IsR e ((.ok (meetR ⟨⟨a, b⟩, ⟨c, d⟩⟩ ⟨⟨s, t⟩, ⟨u, v⟩⟩) : Out Rc)) ∧ Below w.heap.size w w' := by
  obtain ⟨SP, hsp⟩ : ∃ SP, ((.ok (meetR ⟨⟨a, b⟩, ⟨c, d⟩⟩ ⟨⟨s, t⟩, ⟨u, v⟩⟩) : Out Rc)) = SP := ⟨_, rfl⟩
  have HSP := Lib.hid hsp
  rw [hsp]
  clear hsp
  go_enter Try.func70, Try.ntmps70
  go_wp2_with fail
  have hb0 : Below w.heap.size w (((w.alloc (Obj.cells #[.int .i64 a, .int .i64 b, .int .i64 c, .int .i64 d] 25)).alloc (Obj.cells #[.int .i64 s, .int .i64 t, .int .i64 u, .int .i64 v] 25)).alloc (Obj.cells #[.int .i64 0, .int .i64 0, .int .i64 0, .int .i64 0] 25)) := by go_grown
  have hs0 : (((w.alloc (Obj.cells #[.int .i64 a, .int .i64 b, .int .i64 c, .int .i64 d] 25)).alloc (Obj.cells #[.int .i64 s, .int .i64 t, .int .i64 u, .int .i64 v] 25)).alloc (Obj.cells #[.int .i64 0, .int .i64 0, .int .i64 0, .int .i64 0] 25)).cell? ⟨w.heap.size, 0, none⟩ = some (.int .i64 a) ∧ (((w.alloc (Obj.cells #[.int .i64 a, .int .i64 b, .int .i64 c, .int .i64 d] 25)).alloc (Obj.cells #[.int .i64 s, .int .i64 t, .int .i64 u, .int .i64 v] 25)).alloc (Obj.cells #[.int .i64 0, .int .i64 0, .int .i64 0, .int .i64 0] 25)).cell? ⟨w.heap.size, 1, none⟩ = some (.int .i64 b) ∧ (((w.alloc (Obj.cells #[.int .i64 a, .int .i64 b, .int .i64 c, .int .i64 d] 25)).alloc (Obj.cells #[.int .i64 s, .int .i64 t, .int .i64 u, .int .i64 v] 25)).alloc (Obj.cells #[.int .i64 0, .int .i64 0, .int .i64 0, .int .i64 0] 25)).cell? ⟨w.heap.size, 2, none⟩ = some (.int .i64 c) ∧ (((w.alloc (Obj.cells #[.int .i64 a, .int .i64 b, .int .i64 c, .int .i64 d] 25)).alloc (Obj.cells #[.int .i64 s, .int .i64 t, .int .i64 u, .int .i64 v] 25)).alloc (Obj.cells #[.int .i64 0, .int .i64 0, .int .i64 0, .int .i64 0] 25)).cell? ⟨w.heap.size, 3, none⟩ = some (.int .i64 d) ∧ (((w.alloc (Obj.cells #[.int .i64 a, .int .i64 b, .int .i64 c, .int .i64 d] 25)).alloc (Obj.cells #[.int .i64 s, .int .i64 t, .int .i64 u, .int .i64 v] 25)).alloc (Obj.cells #[.int .i64 0, .int .i64 0, .int .i64 0, .int .i64 0] 25)).cell? ⟨w.heap.size + 1, 0, none⟩ = some (.int .i64 s) ∧ (((w.alloc (Obj.cells #[.int .i64 a, .int .i64 b, .int .i64 c, .int .i64 d] 25)).alloc (Obj.cells #[.int .i64 s, .int .i64 t, .int .i64 u, .int .i64 v] 25)).alloc (Obj.cells #[.int .i64 0, .int .i64 0, .int .i64 0, .int .i64 0] 25)).cell? ⟨w.heap.size + 1, 1, none⟩ = some (.int .i64 t) ∧ (((w.alloc (Obj.cells #[.int .i64 a, .int .i64 b, .int .i64 c, .int .i64 d] 25)).alloc (Obj.cells #[.int .i64 s, .int .i64 t, .int .i64 u, .int .i64 v] 25)).alloc (Obj.cells #[.int .i64 0, .int .i64 0, .int .i64 0, .int .i64 0] 25)).cell? ⟨w.heap.size + 1, 2, none⟩ = some (.int .i64 u) ∧ (((w.alloc (Obj.cells #[.int .i64 a, .int .i64 b, .int .i64 c, .int .i64 d] 25)).alloc (Obj.cells #[.int .i64 s, .int .i64 t, .int .i64 u, .int .i64 v] 25)).alloc (Obj.cells #[.int .i64 0, .int .i64 0, .int .i64 0, .int .i64 0] 25)).cell? ⟨w.heap.size + 1, 3, none⟩ = some (.int .i64 v) := by refine ⟨?_, ?_, ?_, ?_, ?_, ?_, ?_, ?_⟩ <;> go_cell
  have hr0 : (((w.alloc (Obj.cells #[.int .i64 a, .int .i64 b, .int .i64 c, .int .i64 d] 25)).alloc (Obj.cells #[.int .i64 s, .int .i64 t, .int .i64 u, .int .i64 v] 25)).alloc (Obj.cells #[.int .i64 0, .int .i64 0, .int .i64 0, .int .i64 0] 25)).cell? ⟨w.heap.size + 1 + 1, 0, none⟩ = some (.int .i64 0) ∧ (((w.alloc (Obj.cells #[.int .i64 a, .int .i64 b, .int .i64 c, .int .i64 d] 25)).alloc (Obj.cells #[.int .i64 s, .int .i64 t, .int .i64 u, .int .i64 v] 25)).alloc (Obj.cells #[.int .i64 0, .int .i64 0, .int .i64 0, .int .i64 0] 25)).cell? ⟨w.heap.size + 1 + 1, 1, none⟩ = some (.int .i64 0) ∧ (((w.alloc (Obj.cells #[.int .i64 a, .int .i64 b, .int .i64 c, .int .i64 d] 25)).alloc (Obj.cells #[.int .i64 s, .int .i64 t, .int .i64 u, .int .i64 v] 25)).alloc (Obj.cells #[.int .i64 0, .int .i64 0, .int .i64 0, .int .i64 0] 25)).cell? ⟨w.heap.size + 1 + 1, 2, none⟩ = some (.int .i64 0) ∧ (((w.alloc (Obj.cells #[.int .i64 a, .int .i64 b, .int .i64 c, .int .i64 d] 25)).alloc (Obj.cells #[.int .i64 s, .int .i64 t, .int .i64 u, .int .i64 v] 25)).alloc (Obj.cells #[.int .i64 0, .int .i64 0, .int .i64 0, .int .i64 0] 25)).cell? ⟨w.heap.size + 1 + 1, 3, none⟩ = some (.int .i64 0) ∧ (((w.alloc (Obj.cells #[.int .i64 a, .int .i64 b, .int .i64 c, .int .i64 d] 25)).alloc (Obj.cells #[.int .i64 s, .int .i64 t, .int .i64 u, .int .i64 v] 25)).alloc (Obj.cells #[.int .i64 0, .int .i64 0, .int .i64 0, .int .i64 0] 25)).frozen? ⟨w.heap.size + 1 + 1, 0, none⟩ = false ∧ (((w.alloc (Obj.cells #[.int .i64 a, .int .i64 b, .int .i64 c, .int .i64 d] 25)).alloc (Obj.cells #[.int .i64 s, .int .i64 t, .int .i64 u, .int .i64 v] 25)).alloc (Obj.cells #[.int .i64 0, .int .i64 0, .int .i64 0, .int .i64 0] 25)).frozen? ⟨w.heap.size + 1 + 1, 1, none⟩ = false ∧ (((w.alloc (Obj.cells #[.int .i64 a, .int .i64 b, .int .i64 c, .int .i64 d] 25)).alloc (Obj.cells #[.int .i64 s, .int .i64 t, .int .i64 u, .int .i64 v] 25)).alloc (Obj.cells #[.int .i64 0, .int .i64 0, .int .i64 0, .int .i64 0] 25)).frozen? ⟨w.heap.size + 1 + 1, 2, none⟩ = false ∧ (((w.alloc (Obj.cells #[.int .i64 a, .int .i64 b, .int .i64 c, .int .i64 d] 25)).alloc (Obj.cells #[.int .i64 s, .int .i64 t, .int .i64 u, .int .i64 v] 25)).alloc (Obj.cells #[.int .i64 0, .int .i64 0, .int .i64 0, .int .i64 0] 25)).frozen? ⟨w.heap.size + 1 + 1, 3, none⟩ = false := by refine ⟨?_, ?_, ?_, ?_, ?_, ?_, ?_, ?_⟩ <;> go_cell
  have hsz : w.heap.size + 1 + 1 < (((w.alloc (Obj.cells #[.int .i64 a, .int .i64 b, .int .i64 c, .int .i64 d] 25)).alloc (Obj.cells #[.int .i64 s, .int .i64 t, .int .i64 u, .int .i64 v] 25)).alloc (Obj.cells #[.int .i64 0, .int .i64 0, .int .i64 0, .int .i64 0] 25)).heap.size := by simp
  generalize (((w.alloc (Obj.cells #[.int .i64 a, .int .i64 b, .int .i64 c, .int .i64 d] 25)).alloc (Obj.cells #[.int .i64 s, .int .i64 t, .int .i64 u, .int .i64 v] 25)).alloc (Obj.cells #[.int .i64 0, .int .i64 0, .int .i64 0, .int .i64 0] 25)) = W at *
  have hsz0 : w.heap.size < W.heap.size := by omega
  have V0 : ∀ w', Below W.heap.size W w' → w'.cell? ⟨w.heap.size, 0, none⟩ = some (.int .i64 a) ∧ w'.cell? ⟨w.heap.size, 1, none⟩ = some (.int .i64 b) ∧ w'.cell? ⟨w.heap.size, 2, none⟩ = some (.int .i64 c) ∧ w'.cell? ⟨w.heap.size, 3, none⟩ = some (.int .i64 d) ∧ w'.cell? ⟨w.heap.size + 1, 0, none⟩ = some (.int .i64 s) ∧ w'.cell? ⟨w.heap.size + 1, 1, none⟩ = some (.int .i64 t) ∧ w'.cell? ⟨w.heap.size + 1, 2, none⟩ = some (.int .i64 u) ∧ w'.cell? ⟨w.heap.size + 1, 3, none⟩ = some (.int .i64 v) := fun w' hb => by
    have e0 := fun o' => hb.cell (p := ⟨w.heap.size, o', none⟩) (by simp only; omega)
    have e1 := fun o' => hb.cell (p := ⟨w.heap.size + 1, o', none⟩) (by simp only; omega)
    rw [e0, e0, e0, e0, e1, e1, e1, e1]
    exact hs0
  have V1 : ∀ w', Below W.heap.size W w' → (w'.cell? ⟨w.heap.size + 1 + 1, 0, none⟩ = some (.int .i64 0) ∧ w'.cell? ⟨w.heap.size + 1 + 1, 1, none⟩ = some (.int .i64 0) ∧ w'.cell? ⟨w.heap.size + 1 + 1, 2, none⟩ = some (.int .i64 0) ∧ w'.cell? ⟨w.heap.size + 1 + 1, 3, none⟩ = some (.int .i64 0) ∧ w'.frozen? ⟨w.heap.size + 1 + 1, 0, none⟩ = false ∧ w'.frozen? ⟨w.heap.size + 1 + 1, 1, none⟩ = false ∧ w'.frozen? ⟨w.heap.size + 1 + 1, 2, none⟩ = false ∧ w'.frozen? ⟨w.heap.size + 1 + 1, 3, none⟩ = false) := fun w' hb => by
    have e0 := fun o' => hb.cell (p := ⟨w.heap.size + 1 + 1, o', none⟩) (by simp only; omega)
    have e1 := fun o' => hb.frozen (p := ⟨w.heap.size + 1 + 1, o', none⟩) (by simp only; omega)
    rw [e0, e0, e0, e0, e1, e1, e1, e1]
    exact hr0
  have G0 := Lib.hid V0
  have G1 := Lib.hid V1
  have HB0 := Lib.hid hb0
  clear V0 V1 hb0 hs0 hr0
  have HD : Below W.heap.size W W := Below.refl _ _
  have HD1 : Below W.heap.size W W.drew := HD.drew
  refine wp_region_held_drew (S := fun w' => w'.cell? ⟨w.heap.size, 0, none⟩ = some (.int .i64 a) ∧ w'.cell? ⟨w.heap.size, 1, none⟩ = some (.int .i64 b) ∧ w'.cell? ⟨w.heap.size, 2, none⟩ = some (.int .i64 c) ∧ w'.cell? ⟨w.heap.size, 3, none⟩ = some (.int .i64 d) ∧ w'.cell? ⟨w.heap.size + 1, 0, none⟩ = some (.int .i64 s) ∧ w'.cell? ⟨w.heap.size + 1, 1, none⟩ = some (.int .i64 t) ∧ w'.cell? ⟨w.heap.size + 1, 2, none⟩ = some (.int .i64 u) ∧ w'.cell? ⟨w.heap.size + 1, 3, none⟩ = some (.int .i64 v)) (by kernel_rfl) (G0.out _ HD1) (fun hHeld => ?_)
  refine wpAnyH_take (i := 0) (oi := _) (v := ?_) rfl (by kernel_rfl) (by kernel_rfl) (by kernel_rfl) (fun _ _ _ h => h) (Or.inl ⟨by rfl, ?_⟩) (by assumption) ?_
  rotate_left
  · intro w hSw; obtain ⟨_, _, _, _, _, _, _, _⟩ := hSw; go_simp; (try with_reducible rfl)
  try change wpAnyH _ _ _ _ _ _ _ (Act.put _ (some 5) _) _
  try simp only [act_all]
  refine wpAnyH_take (i := 1) (oi := _) (v := ?_) rfl (by kernel_rfl) (by kernel_rfl) (by kernel_rfl) (fun _ _ _ h => h) (Or.inl ⟨by rfl, ?_⟩) (by assumption) ?_
  rotate_left
  · intro w hSw; obtain ⟨_, _, _, _, _, _, _, _⟩ := hSw; go_simp; (try with_reducible rfl)
  try change wpAnyH _ _ _ _ _ _ _ (Act.put _ (some 6) _) _
  try simp only [act_all]
  refine wpAnyH_take (i := 2) (oi := _) (v := ?_) rfl (by kernel_rfl) (by kernel_rfl) (by kernel_rfl) (fun _ _ _ h => h) (Or.inl ⟨by rfl, ?_⟩) (by assumption) ?_
  rotate_left
  · intro w hSw; obtain ⟨_, _, _, _, _, _, _, _⟩ := hSw; go_simp; (try with_reducible rfl)
  try change wpAnyH _ _ _ _ _ _ _ (Act.put _ (some 7) _) _
  try simp only [act_all]
  refine wpAnyH_take (i := 3) (oi := _) (v := ?_) rfl (by kernel_rfl) (by kernel_rfl) (by kernel_rfl) (fun _ _ _ h => h) (Or.inl ⟨by rfl, ?_⟩) (by assumption) ?_
  rotate_left
  · intro w hSw; obtain ⟨_, _, _, _, _, _, _, _⟩ := hSw; go_simp; (try with_reducible rfl)
  try change wpAnyH _ _ _ _ _ _ _ (Act.put _ (some 8) _) _
  try simp only [act_all]
  refine wpAnyH_take (i := 5) (oi := _) (v := ?_) rfl (by kernel_rfl) (by kernel_rfl) (by kernel_rfl) (fun _ _ _ h => h) (Or.inl ⟨by rfl, ?_⟩) (by assumption) ?_
  rotate_left
  · intro w hSw; obtain ⟨_, _, _, _, _, _, _, _⟩ := hSw; go_simp; (try with_reducible rfl)
  try change wpAnyH _ _ _ _ _ _ _ (Act.put _ (some 10) _) _
  try simp only [act_all]
  refine wpAnyH_take (i := 6) (oi := _) (v := ?_) rfl (by kernel_rfl) (by kernel_rfl) (by kernel_rfl) (fun _ _ _ h => h) (Or.inl ⟨by rfl, ?_⟩) (by assumption) ?_
  rotate_left
  · intro w hSw; obtain ⟨_, _, _, _, _, _, _, _⟩ := hSw; go_simp; (try with_reducible rfl)
  try change wpAnyH _ _ _ _ _ _ _ (Act.put _ (some 11) _) _
  try simp only [act_all]
  refine wpAnyH_take (i := 7) (oi := _) (v := ?_) rfl (by kernel_rfl) (by kernel_rfl) (by kernel_rfl) (fun _ _ _ h => h) (Or.inl ⟨by rfl, ?_⟩) (by assumption) ?_
  rotate_left
  · intro w hSw; obtain ⟨_, _, _, _, _, _, _, _⟩ := hSw; go_simp; (try with_reducible rfl)
  try change wpAnyH _ _ _ _ _ _ _ (Act.put _ (some 12) _) _
  try simp only [act_all]
  refine wpAnyH_take (i := 8) (oi := _) (v := ?_) rfl (by kernel_rfl) (by kernel_rfl) (by kernel_rfl) (fun _ _ _ h => h) (Or.inl ⟨by rfl, ?_⟩) (by assumption) ?_
  rotate_left
  · intro w hSw; obtain ⟨_, _, _, _, _, _, _, _⟩ := hSw; go_simp; (try with_reducible rfl)
  try change wpAnyH _ _ _ _ _ _ _ (Act.put _ (some 13) _) _
  try simp only [act_all]
  refine wpAnyH_ready (rs := [4]) (by kernel_rfl) (by simp) ?_
  refine AllReadyH.cons (o := _) rfl (fun K hK => ?_) AllReadyH.nil
  go_simp
  refine (meetSpans_any a b s t _).mono ?_
  rintro e w2 ⟨he, hb⟩
  have HD2 : Below W.heap.size W w2 := Below.trans HD1 (hb.mono HD1.size)
  have hz2 := HD2.size
  have DA2 := HB0.out.trans (HD2.mono (show w.heap.size ≤ W.heap.size by omega))
  clear hb hHeld
  obtain ⟨r, hr⟩ : ∃ r, (meetS ⟨a, b⟩ ⟨s, t⟩) = r := ⟨_, rfl⟩
  rw [hr] at he
  have HR0 := Lib.hid hr
  clear hr
  obtain ⟨p1, q1⟩ := r
  obtain rfl : e = .returned (.agg #[.int .i64 p1, .int .i64 q1]) := he
  refine hK.out _ _ (G0.out _ HD2) (fun hHeld => ?_)
  clear hK K
  try simp only [act_all]
  refine wpAnyH_ready (rs := [9]) (by kernel_rfl) (by simp) ?_
  refine AllReadyH.cons (o := _) rfl (fun K hK => ?_) AllReadyH.nil
  go_simp
  refine (meetSpans_any c d u v _).mono ?_
  rintro e w3 ⟨he, hb⟩
  have HD3 : Below W.heap.size W w3 := Below.trans HD2 (hb.mono HD2.size)
  have hz3 := HD3.size
  have DA3 := HB0.out.trans (HD3.mono (show w.heap.size ≤ W.heap.size by omega))
  clear hb hHeld
  obtain ⟨r, hr⟩ : ∃ r, (meetS ⟨c, d⟩ ⟨u, v⟩) = r := ⟨_, rfl⟩
  rw [hr] at he
  have HR1 := Lib.hid hr
  clear hr
  obtain ⟨p2, q2⟩ := r
  obtain rfl : e = .returned (.agg #[.int .i64 p2, .int .i64 q2]) := he
  refine hK.out _ _ (G0.out _ HD3) (fun hHeld => ?_)
  clear hK K
  try simp only [act_all]
  refine wpAnyH_take (i := 10) (oi := _) (v := ?_) rfl (by kernel_rfl) (by kernel_rfl) (by kernel_rfl) (fun _ _ _ h => h) (Or.inl ⟨by rfl, ?_⟩) (by assumption) ?_
  rotate_left
  · intro w hSw; obtain ⟨_, _, _, _, _, _, _, _⟩ := hSw; go_simp; (try with_reducible rfl)
  try change wpAnyH _ _ _ _ _ _ _ (Act.put _ (some 15) _) _
  try simp only [act_all]
  refine wpAnyH_ready (rs := [11]) (by kernel_rfl) (by simp) ?_
  refine AllReadyH.cons (o := _) rfl (fun K hK => ?_) AllReadyH.nil
  obtain ⟨_, _, _, _, _, _, _, _⟩ := G0.out _ HD3
  obtain ⟨_, _, _, _, _, _, _, _⟩ := G1.out _ HD3
  go_simp
  refine hK.out _ _ (by refine ⟨?_, ?_, ?_, ?_, ?_, ?_, ?_, ?_⟩ <;> go_cell) (fun hHeld => ?_)
  clear hK K
  try simp only [act_all]
  refine wpAnyH_done (by kernel_rfl) ?_ _
  go_wp2_with fail
  refine bodyPost_ret (v := .agg #[.int .i64 p1, .int .i64 q1, .int .i64 p2, .int .i64 q2]) (by simp [results, Try.results70, go_sem, *]) rfl ⟨?_, by go_grown⟩
  rw [← HSP.out]; simp only [meetR, HR0.out, HR1.out, IsR]; (try rfl)

end Go.Proofs.Ytgbnpnenejgnnaa

namespace Encl
/-- P5.5 -/
def insideS (x y : Rc) : Bool × Int := if okTo (two x y) 2 = true then (inS x.re y.re && inS x.im y.im, 0) else (false, 50)
def meetRS (x y : Rc) : Rc × Bool × Int := if okTo (two x y) 2 = true then (if okR (meetR x y) = true then (meetR x y, true, 0) else (R0, false, 0)) else (R0, false, 50)
def widthS (x : Rc) : Int × Int := if okR x = true then (max (x.re.hi - x.re.lo) (x.im.hi - x.im.lo), 0) else (0, 50)
theorem inS_meet (a b s t : Int) : (a == max a s && b == min b t) = inS ⟨a, b⟩ ⟨s, t⟩ := by
  unfold inS
  simp only
  by_cases h1 : s ≤ a <;> by_cases h2 : b ≤ t
  · rw [show max a s = a by omega, show min b t = b by omega]; simp [h1, h2]
  · rw [show max a s = a by omega, show min b t = t by omega]; simp [h1, h2]; omega
  · rw [show max a s = s by omega, show min b t = b by omega]; simp [h1, h2]; omega
  · rw [show max a s = s by omega, show min b t = t by omega]; simp [h1, h2]; omega
theorem okTo1 (x : Rc) : okTo (fun _ => x) 1 = okR x := by
  show (true && okR x) = _
  rw [Bool.true_and]
end Encl
namespace Go.Proofs.Ytgbnpnenejgnnaa
open Go.RowKit Encl
theorem Rcs.of1 {w : World} {g : Nat} {F : Nat → Rc} (a0 : w.cell? ⟨g, 0, none⟩ = some (.int .i64 (F 0).re.lo)) (a1 : w.cell? ⟨g, 1, none⟩ = some (.int .i64 (F 0).re.hi)) (a2 : w.cell? ⟨g, 2, none⟩ = some (.int .i64 (F 0).im.lo)) (a3 : w.cell? ⟨g, 3, none⟩ = some (.int .i64 (F 0).im.hi)) : Rcs w g 1 F := by
  intro i hi
  obtain rfl : i = 0 := by omega
  exact ⟨a0, a1, a2, a3⟩
theorem run_eqRc (a b c d s t u v : Int) (w : World) :
    (binOp .eql 25 (.agg #[.int .i64 a, .int .i64 b, .int .i64 c, .int .i64 d]) (.agg #[.int .i64 s, .int .i64 t, .int .i64 u, .int .i64 v])).run Try.prog w = .ok (.bool ((a == s && b == t) && (c == u && d == v))) w := by
  go_simp
  by_cases h1 : a = s <;> by_cases h2 : b = t <;> by_cases h3 : c = u <;> by_cases h4 : d = v <;> simp [h1, h2, h3, h4]

set_option maxRecDepth 100000 in
set_option maxHeartbeats 4000000 in
theorem eInside_any (a b c d s t u v : Int) (w : World) :
    Calls Try.prog 25 #[.agg #[.int .i64 a, .int .i64 b, .int .i64 c, .int .i64 d], .agg #[.int .i64 s, .int .i64 t, .int .i64 u, .int .i64 v]] w fun e w' => e = .returned (.tuple #[.bool (insideS ⟨⟨a, b⟩, ⟨c, d⟩⟩ ⟨⟨s, t⟩, ⟨u, v⟩⟩).1, .int .i64 (insideS ⟨⟨a, b⟩, ⟨c, d⟩⟩ ⟨⟨s, t⟩, ⟨u, v⟩⟩).2]) ∧ Below w.heap.size w w' := by
  obtain ⟨bb, hbb⟩ : ∃ bb, okTo (two ⟨⟨a, b⟩, ⟨c, d⟩⟩ ⟨⟨s, t⟩, ⟨u, v⟩⟩) 2 = bb := ⟨_, rfl⟩
  have HBB := Lib.hid hbb
  clear hbb
  obtain ⟨r1, r2, hr⟩ : ∃ r1 r2, insideS ⟨⟨a, b⟩, ⟨c, d⟩⟩ ⟨⟨s, t⟩, ⟨u, v⟩⟩ = (r1, r2) := ⟨_, _, rfl⟩
  have HSP := Lib.hid hr
  rw [hr]
  clear hr
  go_enter Try.func25, Try.ntmps25
  go_wp2_with fail
  refine (valid_any _ 2 2 (two ⟨⟨a, b⟩, ⟨c, d⟩⟩ ⟨⟨s, t⟩, ⟨u, v⟩⟩) _ (by omega) (Rcs.of2 (by show _ = some (Value.int IntKind.i64 a); go_cell) (by show _ = some (Value.int IntKind.i64 b); go_cell) (by show _ = some (Value.int IntKind.i64 c); go_cell) (by show _ = some (Value.int IntKind.i64 d); go_cell) (by show _ = some (Value.int IntKind.i64 s); go_cell) (by show _ = some (Value.int IntKind.i64 t); go_cell) (by show _ = some (Value.int IntKind.i64 u); go_cell) (by show _ = some (Value.int IntKind.i64 v); go_cell))).mono ?_
  rw [HBB.out]
  rintro e w1 ⟨rfl, hb⟩
  have D1 : Below w.heap.size w w1 := Below.trans (by go_grown) (hb.mono (by first | omega | (simp; done) | (simp; omega)))
  have s1 : w.heap.size + 1 < w1.heap.size := by have hs := hb.size; (try simp at hs); omega
  obtain ⟨k1, k2⟩ := bcl hb
  have x00 := (k1 (w.heap.size) 0 (by first | omega | (simp; done) | (simp; omega))).trans (by go_cell : _ = some (.int .i64 a))
  have x01 := (k1 (w.heap.size) 1 (by first | omega | (simp; done) | (simp; omega))).trans (by go_cell : _ = some (.int .i64 b))
  have x02 := (k1 (w.heap.size) 2 (by first | omega | (simp; done) | (simp; omega))).trans (by go_cell : _ = some (.int .i64 c))
  have x03 := (k1 (w.heap.size) 3 (by first | omega | (simp; done) | (simp; omega))).trans (by go_cell : _ = some (.int .i64 d))
  have x10 := (k1 (w.heap.size + 1) 0 (by first | omega | (simp; done) | (simp; omega))).trans (by go_cell : _ = some (.int .i64 s))
  have x11 := (k1 (w.heap.size + 1) 1 (by first | omega | (simp; done) | (simp; omega))).trans (by go_cell : _ = some (.int .i64 t))
  have x12 := (k1 (w.heap.size + 1) 2 (by first | omega | (simp; done) | (simp; omega))).trans (by go_cell : _ = some (.int .i64 u))
  have x13 := (k1 (w.heap.size + 1) 3 (by first | omega | (simp; done) | (simp; omega))).trans (by go_cell : _ = some (.int .i64 v))
  clear hb k1 k2
  cases bb with
  | false =>
    have HN : Hid (r1 = false ∧ r2 = 50) := Lib.hid (by have := HSP.out; unfold insideS at this; rw [if_neg (by rw [HBB.out]; decide)] at this; exact ⟨(congrArg Prod.fst this).symm, (congrArg Prod.snd this).symm⟩)
    go_wp2_with fail
    go_returns
    exact ⟨by rw [HN.out.1, HN.out.2]; rfl, D1⟩
  | true =>
    have HN : Hid (r1 = (inS ⟨a, b⟩ ⟨s, t⟩ && inS ⟨c, d⟩ ⟨u, v⟩) ∧ r2 = 0) := Lib.hid (by have := HSP.out; unfold insideS at this; rw [if_pos HBB.out] at this; exact ⟨(congrArg Prod.fst this).symm, (congrArg Prod.snd this).symm⟩)
    obtain ⟨p1, q1, p2, q2, hm⟩ : ∃ p1 q1 p2 q2, meetR ⟨⟨a, b⟩, ⟨c, d⟩⟩ ⟨⟨s, t⟩, ⟨u, v⟩⟩ = ⟨⟨p1, q1⟩, ⟨p2, q2⟩⟩ := ⟨_, _, _, _, rfl⟩
    have HM := Lib.hid hm
    have HB1 : Hid (((a == p1 && b == q1) && (c == p2 && d == q2)) = r1) := Lib.hid (by
      rw [HN.out.1, ← inS_meet, ← inS_meet]
      have e := hm
      unfold meetR meetS at e
      simp only [Rc.mk.injEq, Sp.mk.injEq] at e
      rw [e.1.1, e.1.2, e.2.1, e.2.2])
    have heq : ∀ w, (binOp .eql 25 (.agg #[.int .i64 a, .int .i64 b, .int .i64 c, .int .i64 d]) (.agg #[.int .i64 p1, .int .i64 q1, .int .i64 p2, .int .i64 q2])).run Try.prog w = .ok (.bool r1) w := fun w => by rw [run_eqRc, HB1.out]
    have HEQ := Lib.hid heq
    clear hm heq
    go_upto_region 3 with fail
    obtain ⟨W, hWr⟩ : ∃ W, W = w1 := ⟨_, rfl⟩
    subst hWr
    have HD : Below W.heap.size W W := Below.refl _ _
    have HB0 := Lib.hid D1
    have G0 : Hid (∀ w', Below W.heap.size W w' → w'.cell? ⟨w.heap.size, 0, none⟩ = some (.int .i64 a) ∧ w'.cell? ⟨w.heap.size, 1, none⟩ = some (.int .i64 b) ∧ w'.cell? ⟨w.heap.size, 2, none⟩ = some (.int .i64 c) ∧ w'.cell? ⟨w.heap.size, 3, none⟩ = some (.int .i64 d) ∧ w'.cell? ⟨w.heap.size + 1, 0, none⟩ = some (.int .i64 s) ∧ w'.cell? ⟨w.heap.size + 1, 1, none⟩ = some (.int .i64 t) ∧ w'.cell? ⟨w.heap.size + 1, 2, none⟩ = some (.int .i64 u) ∧ w'.cell? ⟨w.heap.size + 1, 3, none⟩ = some (.int .i64 v)) := Lib.hid (fun w' hb => by
      have e0 := fun o' => hb.cell (p := ⟨w.heap.size, o', none⟩) (by simp only; omega)
      have e1 := fun o' => hb.cell (p := ⟨w.heap.size + 1, o', none⟩) (by simp only; omega)
      exact ⟨(e0 _).trans x00, (e0 _).trans x01, (e0 _).trans x02, (e0 _).trans x03, (e1 _).trans x10, (e1 _).trans x11, (e1 _).trans x12, (e1 _).trans x13⟩)
    clear x00 x01 x02 x03 x10 x11 x12 x13 D1
    have HD1 : Below W.heap.size W W.drew := HD.drew
    refine wp_region_held_drew (S := fun w' => w'.cell? ⟨w.heap.size, 0, none⟩ = some (.int .i64 a) ∧ w'.cell? ⟨w.heap.size, 1, none⟩ = some (.int .i64 b) ∧ w'.cell? ⟨w.heap.size, 2, none⟩ = some (.int .i64 c) ∧ w'.cell? ⟨w.heap.size, 3, none⟩ = some (.int .i64 d) ∧ w'.cell? ⟨w.heap.size + 1, 0, none⟩ = some (.int .i64 s) ∧ w'.cell? ⟨w.heap.size + 1, 1, none⟩ = some (.int .i64 t) ∧ w'.cell? ⟨w.heap.size + 1, 2, none⟩ = some (.int .i64 u) ∧ w'.cell? ⟨w.heap.size + 1, 3, none⟩ = some (.int .i64 v)) (by kernel_rfl) (G0.out _ HD1) (fun hHeld => ?_)
    refine wpAnyH_take (i := 0) (oi := _) (v := ?_) rfl (by kernel_rfl) (by kernel_rfl) (by kernel_rfl) (fun _ _ _ h => h) (Or.inl ⟨by rfl, ?_⟩) (by assumption) ?_
    rotate_left
    · intro w hSw; obtain ⟨_, _, _, _, _, _, _, _⟩ := hSw; go_simp; (try with_reducible rfl)
    try change wpAnyH _ _ _ _ _ _ _ (Act.put _ (some 11) _) _
    try simp only [act_all]
    refine wpAnyH_take (i := 1) (oi := _) (v := ?_) rfl (by kernel_rfl) (by kernel_rfl) (by kernel_rfl) (fun _ _ _ h => h) (Or.inl ⟨by rfl, ?_⟩) (by assumption) ?_
    rotate_left
    · intro w hSw; obtain ⟨_, _, _, _, _, _, _, _⟩ := hSw; go_simp; (try with_reducible rfl)
    try change wpAnyH _ _ _ _ _ _ _ (Act.put _ (some 12) _) _
    try simp only [act_all]
    refine wpAnyH_take (i := 2) (oi := _) (v := ?_) rfl (by kernel_rfl) (by kernel_rfl) (by kernel_rfl) (fun _ _ _ h => h) (Or.inl ⟨by rfl, ?_⟩) (by assumption) ?_
    rotate_left
    · intro w hSw; obtain ⟨_, _, _, _, _, _, _, _⟩ := hSw; go_simp; (try with_reducible rfl)
    try change wpAnyH _ _ _ _ _ _ _ (Act.put _ (some 13) _) _
    try simp only [act_all]
    refine wpAnyH_ready (rs := [3]) (by kernel_rfl) (by simp) ?_
    refine AllReadyH.cons (o := _) rfl (fun K hK => ?_) AllReadyH.nil
    go_simp
    refine ((meet_any a b c d s t u v _).mono (fun e w' h => (by obtain ⟨h1, h2⟩ := h; exact ⟨by rw [HM.out] at h1; exact h1, h2⟩ : (e = retR ⟨⟨p1, q1⟩, ⟨p2, q2⟩⟩ ∧ Below _ _ w')))).mono ?_
    rintro e w2 ⟨he, hb⟩
    have HD2 : Below W.heap.size W w2 := Below.trans HD1 (hb.mono HD1.size)
    have hz2 := HD2.size
    have DA2 := HB0.out.trans (HD2.mono (show w.heap.size ≤ W.heap.size by omega))
    clear hb hHeld
    obtain rfl : e = .returned (.agg #[.int .i64 p1, .int .i64 q1, .int .i64 p2, .int .i64 q2]) := he
    have heq := HEQ.out
    refine hK.out _ _ (G0.out _ HD2) (fun hHeld => ?_)
    clear hK K
    try simp only [act_all]
    refine wpAnyH_take (i := 4) (oi := _) (v := ?_) rfl (by kernel_rfl) (by kernel_rfl) (by kernel_rfl) (fun _ _ _ h => h) (Or.inl ⟨by rfl, ?_⟩) (by assumption) ?_
    rotate_left
    · intro w hSw; obtain ⟨_, _, _, _, _, _, _, _⟩ := hSw; go_simp; (try with_reducible rfl)
    try change wpAnyH _ _ _ _ _ _ _ (Act.put _ (some 15) _) _
    try simp only [act_all]
    refine wpAnyH_take (i := 5) (oi := _) (v := ?_) rfl (by kernel_rfl) (by kernel_rfl) (by kernel_rfl) (fun _ _ _ h => h) (Or.inl ⟨by rfl, ?_⟩) (by assumption) ?_
    rotate_left
    · intro w hSw; obtain ⟨_, _, _, _, _, _, _, _⟩ := hSw; go_simp; (try with_reducible rfl)
    try change wpAnyH _ _ _ _ _ _ _ (Act.put _ (some 4) _) _
    try simp only [act_all]
    refine wpAnyH_take (i := 6) (oi := _) (v := ?_) rfl (by kernel_rfl) (by kernel_rfl) (by kernel_rfl) (fun _ _ _ h => h) (Or.inl ⟨by rfl, ?_⟩) (by assumption) ?_
    rotate_left
    · intro w hSw; obtain ⟨_, _, _, _, _, _, _, _⟩ := hSw; go_simp; (try with_reducible rfl)
    try change wpAnyH _ _ _ _ _ _ _ (Act.put _ (some 5) _) _
    try simp only [act_all]
    refine wpAnyH_done (by kernel_rfl) ?_ _
    have DF := HB0.out.trans (HD2.mono HB0.out.size)
    go_wp2_with fail
    go_returns
    exact ⟨by rw [HN.out.2]; rfl, DF⟩

set_option maxRecDepth 100000 in
set_option maxHeartbeats 4000000 in
theorem eMeet_any (a b c d s t u v p q p' q' me : Int) (mb : Bool) (w : World) (hm : meetRS ⟨⟨a, b⟩, ⟨c, d⟩⟩ ⟨⟨s, t⟩, ⟨u, v⟩⟩ = (⟨⟨p, q⟩, ⟨p', q'⟩⟩, mb, me)) :
    Calls Try.prog 27 #[.agg #[.int .i64 a, .int .i64 b, .int .i64 c, .int .i64 d], .agg #[.int .i64 s, .int .i64 t, .int .i64 u, .int .i64 v]] w fun e w' => e = .returned (.tuple #[.agg #[.int .i64 p, .int .i64 q, .int .i64 p', .int .i64 q'], .bool mb, .int .i64 me]) ∧ Below w.heap.size w w' := by
  have HSP := Lib.hid hm
  clear hm
  obtain ⟨bb, hbb⟩ : ∃ bb, okTo (two ⟨⟨a, b⟩, ⟨c, d⟩⟩ ⟨⟨s, t⟩, ⟨u, v⟩⟩) 2 = bb := ⟨_, rfl⟩
  have HBB := Lib.hid hbb
  clear hbb
  go_enter Try.func27, Try.ntmps27
  go_wp2_with fail
  refine (valid_any _ 2 2 (two ⟨⟨a, b⟩, ⟨c, d⟩⟩ ⟨⟨s, t⟩, ⟨u, v⟩⟩) _ (by omega) (Rcs.of2 (by show _ = some (Value.int IntKind.i64 a); go_cell) (by show _ = some (Value.int IntKind.i64 b); go_cell) (by show _ = some (Value.int IntKind.i64 c); go_cell) (by show _ = some (Value.int IntKind.i64 d); go_cell) (by show _ = some (Value.int IntKind.i64 s); go_cell) (by show _ = some (Value.int IntKind.i64 t); go_cell) (by show _ = some (Value.int IntKind.i64 u); go_cell) (by show _ = some (Value.int IntKind.i64 v); go_cell))).mono ?_
  rw [HBB.out]
  rintro e w1 ⟨rfl, hb⟩
  have D1 : Below w.heap.size w w1 := Below.trans (by go_grown) (hb.mono (by first | omega | (simp; done) | (simp; omega)))
  have s1 : w.heap.size + 1 + 1 < w1.heap.size := by have hs := hb.size; (try simp at hs); omega
  obtain ⟨k1, k2⟩ := bcl hb
  have x00 := (k1 (w.heap.size) 0 (by first | omega | (simp; done) | (simp; omega))).trans (by go_cell : _ = some (.int .i64 a))
  have x01 := (k1 (w.heap.size) 1 (by first | omega | (simp; done) | (simp; omega))).trans (by go_cell : _ = some (.int .i64 b))
  have x02 := (k1 (w.heap.size) 2 (by first | omega | (simp; done) | (simp; omega))).trans (by go_cell : _ = some (.int .i64 c))
  have x03 := (k1 (w.heap.size) 3 (by first | omega | (simp; done) | (simp; omega))).trans (by go_cell : _ = some (.int .i64 d))
  have x10 := (k1 (w.heap.size + 1) 0 (by first | omega | (simp; done) | (simp; omega))).trans (by go_cell : _ = some (.int .i64 s))
  have x11 := (k1 (w.heap.size + 1) 1 (by first | omega | (simp; done) | (simp; omega))).trans (by go_cell : _ = some (.int .i64 t))
  have x12 := (k1 (w.heap.size + 1) 2 (by first | omega | (simp; done) | (simp; omega))).trans (by go_cell : _ = some (.int .i64 u))
  have x13 := (k1 (w.heap.size + 1) 3 (by first | omega | (simp; done) | (simp; omega))).trans (by go_cell : _ = some (.int .i64 v))
  have d10 := (k1 (w.heap.size + 1 + 1) 0 (by first | omega | (simp; done) | (simp; omega))).trans (by go_cell : _ = some (.int .i64 0))
  have d11 := (k1 (w.heap.size + 1 + 1) 1 (by first | omega | (simp; done) | (simp; omega))).trans (by go_cell : _ = some (.int .i64 0))
  have d12 := (k1 (w.heap.size + 1 + 1) 2 (by first | omega | (simp; done) | (simp; omega))).trans (by go_cell : _ = some (.int .i64 0))
  have d13 := (k1 (w.heap.size + 1 + 1) 3 (by first | omega | (simp; done) | (simp; omega))).trans (by go_cell : _ = some (.int .i64 0))
  have f10 := (k2 (w.heap.size + 1 + 1) 0 (by first | omega | (simp; done) | (simp; omega))).trans (by go_cell : _ = false)
  have f11 := (k2 (w.heap.size + 1 + 1) 1 (by first | omega | (simp; done) | (simp; omega))).trans (by go_cell : _ = false)
  have f12 := (k2 (w.heap.size + 1 + 1) 2 (by first | omega | (simp; done) | (simp; omega))).trans (by go_cell : _ = false)
  have f13 := (k2 (w.heap.size + 1 + 1) 3 (by first | omega | (simp; done) | (simp; omega))).trans (by go_cell : _ = false)
  clear hb k1 k2
  cases bb with
  | false =>
    have HN : Hid (meetRS ⟨⟨a, b⟩, ⟨c, d⟩⟩ ⟨⟨s, t⟩, ⟨u, v⟩⟩ = (R0, false, 50)) := Lib.hid (by unfold meetRS; rw [if_neg (by rw [HBB.out]; decide)])
    have hq := HSP.out
    rw [HN.out] at hq
    (try simp only [R0, S0] at hq)
    simp only [Prod.mk.injEq, Rc.mk.injEq, Sp.mk.injEq] at hq
    obtain ⟨⟨⟨rfl, rfl⟩, rfl, rfl⟩, rfl, rfl⟩ := hq
    clear HSP HN
    go_wp2_with fail
    refine bodyPost_ret (v := .tuple #[.agg #[.int .i64 0, .int .i64 0, .int .i64 0, .int .i64 0], .bool false, .int .i64 50]) (by simp [results, Try.results27, go_sem, *]) rfl ⟨rfl, by go_grown⟩
  | true =>
    obtain ⟨p1, q1, p2, q2, hm⟩ : ∃ p1 q1 p2 q2, meetR ⟨⟨a, b⟩, ⟨c, d⟩⟩ ⟨⟨s, t⟩, ⟨u, v⟩⟩ = ⟨⟨p1, q1⟩, ⟨p2, q2⟩⟩ := ⟨_, _, _, _, rfl⟩
    obtain ⟨b2, hb2⟩ : ∃ b2, okR ⟨⟨p1, q1⟩, ⟨p2, q2⟩⟩ = b2 := ⟨_, rfl⟩
    have HM := Lib.hid hm
    have HB2 := Lib.hid hb2
    have HN : Hid (meetRS ⟨⟨a, b⟩, ⟨c, d⟩⟩ ⟨⟨s, t⟩, ⟨u, v⟩⟩ = if b2 = true then (⟨⟨p1, q1⟩, ⟨p2, q2⟩⟩, true, 0) else (R0, false, 0)) := Lib.hid (by unfold meetRS; rw [if_pos HBB.out, hm, hb2])
    clear hm hb2
    go_wp2_with fail
    refine (meet_any a b c d s t u v _).mono ?_
    rw [HM.out]
    rintro e w2 ⟨he, hb⟩
    obtain rfl : e = .returned (.agg #[.int .i64 p1, .int .i64 q1, .int .i64 p2, .int .i64 q2]) := he
    have D2 := D1.trans (hb.mono D1.size)
    have s2 : w.heap.size + 1 + 1 < w2.heap.size := by have hs := hb.size; omega
    obtain ⟨k1, k2⟩ := bcl hb
    have e00 := (k1 (w.heap.size + 1 + 1) 0 (by omega)).trans d10
    have g00 := (k2 (w.heap.size + 1 + 1) 0 (by omega)).trans f10
    have e01 := (k1 (w.heap.size + 1 + 1) 1 (by omega)).trans d11
    have g01 := (k2 (w.heap.size + 1 + 1) 1 (by omega)).trans f11
    have e02 := (k1 (w.heap.size + 1 + 1) 2 (by omega)).trans d12
    have g02 := (k2 (w.heap.size + 1 + 1) 2 (by omega)).trans f12
    have e03 := (k1 (w.heap.size + 1 + 1) 3 (by omega)).trans d13
    have g03 := (k2 (w.heap.size + 1 + 1) 3 (by omega)).trans f13
    clear hb k1 k2 D1 x00 x01 x02 x03 x10 x11 x12 x13 d10 f10 d11 f11 d12 f12 d13 f13
    go_wp2_with fail
    refine (valid_any _ 1 1 (fun _ => ⟨⟨p1, q1⟩, ⟨p2, q2⟩⟩) _ (by omega) (Rcs.of1 (by go_cell) (by go_cell) (by go_cell) (by go_cell))).mono ?_
    rw [okTo1, HB2.out]
    rintro e w3 ⟨rfl, hb⟩
    have D3 : Below w.heap.size w w3 := Below.trans (by go_grown) (hb.mono (by have := D2.size; simp; omega))
    have s3 : w.heap.size + 1 + 1 < w3.heap.size := by have hs := hb.size; (try simp at hs); omega
    have s3' : w2.heap.size < w3.heap.size := by have hs := hb.size; (try simp at hs); omega
    obtain ⟨k1, k2⟩ := bcl hb
    have e10 := (k1 (w.heap.size + 1 + 1) 0 (by first | omega | (simp; done) | (simp; omega))).trans (((bal (bal (Below.refl _ w2) _) _).cell (p := ⟨w.heap.size + 1 + 1, 0, none⟩) s2).trans e00)
    have g10 := (k2 (w.heap.size + 1 + 1) 0 (by first | omega | (simp; done) | (simp; omega))).trans (((bal (bal (Below.refl _ w2) _) _).frozen (p := ⟨w.heap.size + 1 + 1, 0, none⟩) s2).trans g00)
    have e11 := (k1 (w.heap.size + 1 + 1) 1 (by first | omega | (simp; done) | (simp; omega))).trans (((bal (bal (Below.refl _ w2) _) _).cell (p := ⟨w.heap.size + 1 + 1, 1, none⟩) s2).trans e01)
    have g11 := (k2 (w.heap.size + 1 + 1) 1 (by first | omega | (simp; done) | (simp; omega))).trans (((bal (bal (Below.refl _ w2) _) _).frozen (p := ⟨w.heap.size + 1 + 1, 1, none⟩) s2).trans g01)
    have e12 := (k1 (w.heap.size + 1 + 1) 2 (by first | omega | (simp; done) | (simp; omega))).trans (((bal (bal (Below.refl _ w2) _) _).cell (p := ⟨w.heap.size + 1 + 1, 2, none⟩) s2).trans e02)
    have g12 := (k2 (w.heap.size + 1 + 1) 2 (by first | omega | (simp; done) | (simp; omega))).trans (((bal (bal (Below.refl _ w2) _) _).frozen (p := ⟨w.heap.size + 1 + 1, 2, none⟩) s2).trans g02)
    have e13 := (k1 (w.heap.size + 1 + 1) 3 (by first | omega | (simp; done) | (simp; omega))).trans (((bal (bal (Below.refl _ w2) _) _).cell (p := ⟨w.heap.size + 1 + 1, 3, none⟩) s2).trans e03)
    have g13 := (k2 (w.heap.size + 1 + 1) 3 (by first | omega | (simp; done) | (simp; omega))).trans (((bal (bal (Below.refl _ w2) _) _).frozen (p := ⟨w.heap.size + 1 + 1, 3, none⟩) s2).trans g03)
    have y0 := (k1 (w2.heap.size) 0 (by first | omega | (simp; done) | (simp; omega))).trans (by go_cell : _ = some (.int .i64 p1))
    have y1 := (k1 (w2.heap.size) 1 (by first | omega | (simp; done) | (simp; omega))).trans (by go_cell : _ = some (.int .i64 q1))
    have y2 := (k1 (w2.heap.size) 2 (by first | omega | (simp; done) | (simp; omega))).trans (by go_cell : _ = some (.int .i64 p2))
    have y3 := (k1 (w2.heap.size) 3 (by first | omega | (simp; done) | (simp; omega))).trans (by go_cell : _ = some (.int .i64 q2))
    clear hb k1 k2 D2 e00 e01 e02 e03 g00 g01 g02 g03
    have hne : ¬ w2.heap.size = w.heap.size + 1 + 1 := by omega
    cases b2 with
    | false =>
      have hq := HSP.out
      rw [HN.out, if_neg (by decide)] at hq
      (try simp only [R0, S0] at hq)
      simp only [Prod.mk.injEq, Rc.mk.injEq, Sp.mk.injEq] at hq
      obtain ⟨⟨⟨rfl, rfl⟩, rfl, rfl⟩, rfl, rfl⟩ := hq
      clear HSP HN
      go_wp2_with fail
      refine bodyPost_ret (v := .tuple #[.agg #[.int .i64 0, .int .i64 0, .int .i64 0, .int .i64 0], .bool false, .int .i64 0]) (by simp [results, Try.results27, go_sem, *]) rfl ⟨rfl, by go_grown⟩
    | true =>
      have hq := HSP.out
      rw [HN.out, if_pos rfl] at hq
      (try simp only [R0, S0] at hq)
      simp only [Prod.mk.injEq, Rc.mk.injEq, Sp.mk.injEq] at hq
      obtain ⟨⟨⟨rfl, rfl⟩, rfl, rfl⟩, rfl, rfl⟩ := hq
      clear HSP HN
      go_wp2_with fail
      refine bodyPost_ret (v := .tuple #[.agg #[.int .i64 p1, .int .i64 q1, .int .i64 p2, .int .i64 q2], .bool true, .int .i64 0]) (by simp [results, Try.results27, go_sem, *]) rfl ⟨rfl, by go_grown⟩

set_option maxRecDepth 100000 in
set_option maxHeartbeats 4000000 in
theorem eWidth_any (a b c d mw me : Int) (w : World) (hm : widthS ⟨⟨a, b⟩, ⟨c, d⟩⟩ = (mw, me)) :
    Calls Try.prog 29 #[.agg #[.int .i64 a, .int .i64 b, .int .i64 c, .int .i64 d]] w fun e w' => e = .returned (.tuple #[.int .i64 mw, .int .i64 me]) ∧ Below w.heap.size w w' := by
  have HSP := Lib.hid hm
  clear hm
  obtain ⟨bb, hbb⟩ : ∃ bb, okR ⟨⟨a, b⟩, ⟨c, d⟩⟩ = bb := ⟨_, rfl⟩
  have HBB := Lib.hid hbb
  clear hbb
  go_enter Try.func29, Try.ntmps29
  go_wp2_with fail
  refine (valid_any _ 1 1 (fun _ => ⟨⟨a, b⟩, ⟨c, d⟩⟩) _ (by omega) (Rcs.of1 (by go_cell) (by go_cell) (by go_cell) (by go_cell))).mono ?_
  rw [okTo1, HBB.out]
  rintro e w1 ⟨rfl, hb⟩
  have D1 : Below w.heap.size w w1 := Below.trans (by go_grown) (hb.mono (by first | omega | (simp; done) | (simp; omega)))
  obtain ⟨k1, k2⟩ := bcl hb
  have x00 := (k1 (w.heap.size) 0 (by first | omega | (simp; done) | (simp; omega))).trans (by go_cell : _ = some (.int .i64 a))
  have x01 := (k1 (w.heap.size) 1 (by first | omega | (simp; done) | (simp; omega))).trans (by go_cell : _ = some (.int .i64 b))
  have x02 := (k1 (w.heap.size) 2 (by first | omega | (simp; done) | (simp; omega))).trans (by go_cell : _ = some (.int .i64 c))
  have x03 := (k1 (w.heap.size) 3 (by first | omega | (simp; done) | (simp; omega))).trans (by go_cell : _ = some (.int .i64 d))
  clear hb k1 k2
  cases bb with
  | false =>
    have HN : Hid (widthS ⟨⟨a, b⟩, ⟨c, d⟩⟩ = (0, 50)) := Lib.hid (by unfold widthS; rw [if_neg (by rw [HBB.out]; decide)])
    obtain ⟨rfl, rfl⟩ := Prod.mk.inj (HN.out.symm.trans HSP.out)
    clear HSP HN
    go_wp2_with fail
    go_returns
    exact ⟨rfl, D1⟩
  | true =>
    have HO := (okR_iff _).1 HBB.out
    simp only [okS_iff] at HO
    obtain ⟨⟨g1, g2, g3⟩, g4, g5, g6⟩ := HO
    by_cases hlt : b - a < d - c
    · have HN : Hid (widthS ⟨⟨a, b⟩, ⟨c, d⟩⟩ = (d - c, 0)) := Lib.hid (by unfold widthS; rw [if_pos HBB.out]; simp only; rw [show max (b - a) (d - c) = d - c by omega])
      obtain ⟨rfl, rfl⟩ := Prod.mk.inj (HN.out.symm.trans HSP.out)
      clear HSP HN
      go_wp2_with fail
      go_returns
      exact ⟨by go_num, D1⟩
    · have HN : Hid (widthS ⟨⟨a, b⟩, ⟨c, d⟩⟩ = (b - a, 0)) := Lib.hid (by unfold widthS; rw [if_pos HBB.out]; simp only; rw [show max (b - a) (d - c) = b - a by omega])
      have hlt' : d - c ≤ b - a := by omega
      obtain ⟨rfl, rfl⟩ := Prod.mk.inj (HN.out.symm.trans HSP.out)
      clear HSP HN
      go_wp2_with fail
      go_returns
      exact ⟨by go_num, D1⟩
end Go.Proofs.Ytgbnpnenejgnnaa
