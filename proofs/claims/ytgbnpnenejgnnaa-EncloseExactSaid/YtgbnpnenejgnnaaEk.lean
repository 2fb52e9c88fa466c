import Derived.Test.YtgbnpnenejgnnaaEe
import Derived.Test.YtgbnpnenejgnnaaEb
import Derived.Test.YtgbnpnenejgnnaaEu
import Derived.Test.YtgbnpnenejgnnaaEf
namespace Go.Proofs.Ytgbnpnenejgnnaa
open Go.RowKit Encl

set_option maxRecDepth 100000 in
set_option maxHeartbeats 4000000 in
theorem mulRect_any (a b c d s t u v : Int) (w : World) (h1 : okS ⟨a, b⟩ = true) (h2 : okS ⟨c, d⟩ = true) (h3 : okS ⟨s, t⟩ = true) (h4 : okS ⟨u, v⟩ = true) :
    Calls Try.prog 74 #[.agg #[.int .i64 a, .int .i64 b, .int .i64 c, .int .i64 d], .agg #[.int .i64 s, .int .i64 t, .int .i64 u, .int .i64 v]] w fun e w' => IsR e (mulR ⟨⟨a, b⟩, ⟨c, d⟩⟩ ⟨⟨s, t⟩, ⟨u, v⟩⟩) ∧ Below w.heap.size w w' := by
  have H1 := Lib.hid h1
  have H2 := Lib.hid h2
  have H3 := Lib.hid h3
  have H4 := Lib.hid h4
  clear h1 h2 h3 h4
  obtain ⟨SP, hsp⟩ : ∃ SP, (mulR ⟨⟨a, b⟩, ⟨c, d⟩⟩ ⟨⟨s, t⟩, ⟨u, v⟩⟩) = SP := ⟨_, rfl⟩
  have HSP := Lib.hid hsp
  rw [hsp]
  clear hsp
  go_enter Try.func74, Try.ntmps74
  go_wp2_with fail
  have hb0 : Below w.heap.size w (((w.alloc (Obj.cells #[.int .i64 a, .int .i64 b, .int .i64 c, .int .i64 d] 25)).alloc (Obj.cells #[.int .i64 s, .int .i64 t, .int .i64 u, .int .i64 v] 25)).alloc (Obj.cells #[.int .i64 0, .int .i64 0, .int .i64 0, .int .i64 0] 25)) := by go_grown
  have hs0 : (((w.alloc (Obj.cells #[.int .i64 a, .int .i64 b, .int .i64 c, .int .i64 d] 25)).alloc (Obj.cells #[.int .i64 s, .int .i64 t, .int .i64 u, .int .i64 v] 25)).alloc (Obj.cells #[.int .i64 0, .int .i64 0, .int .i64 0, .int .i64 0] 25)).cell? ⟨w.heap.size, 0, none⟩ = some (.int .i64 a) ∧ (((w.alloc (Obj.cells #[.int .i64 a, .int .i64 b, .int .i64 c, .int .i64 d] 25)).alloc (Obj.cells #[.int .i64 s, .int .i64 t, .int .i64 u, .int .i64 v] 25)).alloc (Obj.cells #[.int .i64 0, .int .i64 0, .int .i64 0, .int .i64 0] 25)).cell? ⟨w.heap.size, 1, none⟩ = some (.int .i64 b) ∧ (((w.alloc (Obj.cells #[.int .i64 a, .int .i64 b, .int .i64 c, .int .i64 d] 25)).alloc (Obj.cells #[.int .i64 s, .int .i64 t, .int .i64 u, .int .i64 v] 25)).alloc (Obj.cells #[.int .i64 0, .int .i64 0, .int .i64 0, .int .i64 0] 25)).cell? ⟨w.heap.size, 2, none⟩ = some (.int .i64 c) ∧ (((w.alloc (Obj.cells #[.int .i64 a, .int .i64 b, .int .i64 c, .int .i64 d] 25)).alloc (Obj.cells #[.int .i64 s, .int .i64 t, .int .i64 u, .int .i64 v] 25)).alloc (Obj.cells #[.int .i64 0, .int .i64 0, .int .i64 0, .int .i64 0] 25)).cell? ⟨w.heap.size, 3, none⟩ = some (.int .i64 d) ∧ (((w.alloc (Obj.cells #[.int .i64 a, .int .i64 b, .int .i64 c, .int .i64 d] 25)).alloc (Obj.cells #[.int .i64 s, .int .i64 t, .int .i64 u, .int .i64 v] 25)).alloc (Obj.cells #[.int .i64 0, .int .i64 0, .int .i64 0, .int .i64 0] 25)).cell? ⟨w.heap.size + 1, 0, none⟩ = some (.int .i64 s) ∧ (((w.alloc (Obj.cells #[.int .i64 a, .int .i64 b, .int .i64 c, .int .i64 d] 25)).alloc (Obj.cells #[.int .i64 s, .int .i64 t, .int .i64 u, .int .i64 v] 25)).alloc (Obj.cells #[.int .i64 0, .int .i64 0, .int .i64 0, .int .i64 0] 25)).cell? ⟨w.heap.size + 1, 1, none⟩ = some (.int .i64 t) ∧ (((w.alloc (Obj.cells #[.int .i64 a, .int .i64 b, .int .i64 c, .int .i64 d] 25)).alloc (Obj.cells #[.int .i64 s, .int .i64 t, .int .i64 u, .int .i64 v] 25)).alloc (Obj.cells #[.int .i64 0, .int .i64 0, .int .i64 0, .int .i64 0] 25)).cell? ⟨w.heap.size + 1, 2, none⟩ = some (.int .i64 u) ∧ (((w.alloc (Obj.cells #[.int .i64 a, .int .i64 b, .int .i64 c, .int .i64 d] 25)).alloc (Obj.cells #[.int .i64 s, .int .i64 t, .int .i64 u, .int .i64 v] 25)).alloc (Obj.cells #[.int .i64 0, .int .i64 0, .int .i64 0, .int .i64 0] 25)).cell? ⟨w.heap.size + 1, 3, none⟩ = some (.int .i64 v) := by refine ⟨?_, ?_, ?_, ?_, ?_, ?_, ?_, ?_⟩ <;> go_cell
  have hr0 : (((w.alloc (Obj.cells #[.int .i64 a, .int .i64 b, .int .i64 c, .int .i64 d] 25)).alloc (Obj.cells #[.int .i64 s, .int .i64 t, .int .i64 u, .int .i64 v] 25)).alloc (Obj.cells #[.int .i64 0, .int .i64 0, .int .i64 0, .int .i64 0] 25)).cell? ⟨w.heap.size + 1 + 1, 0, none⟩ = some (.int .i64 0) ∧ (((w.alloc (Obj.cells #[.int .i64 a, .int .i64 b, .int .i64 c, .int .i64 d] 25)).alloc (Obj.cells #[.int .i64 s, .int .i64 t, .int .i64 u, .int .i64 v] 25)).alloc (Obj.cells #[.int .i64 0, .int .i64 0, .int .i64 0, .int .i64 0] 25)).cell? ⟨w.heap.size + 1 + 1, 1, none⟩ = some (.int .i64 0) ∧ (((w.alloc (Obj.cells #[.int .i64 a, .int .i64 b, .int .i64 c, .int .i64 d] 25)).alloc (Obj.cells #[.int .i64 s, .int .i64 t, .int .i64 u, .int .i64 v] 25)).alloc (Obj.cells #[.int .i64 0, .int .i64 0, .int .i64 0, .int .i64 0] 25)).cell? ⟨w.heap.size + 1 + 1, 2, none⟩ = some (.int .i64 0) ∧ (((w.alloc (Obj.cells #[.int .i64 a, .int .i64 b, .int .i64 c, .int .i64 d] 25)).alloc (Obj.cells #[.int .i64 s, .int .i64 t, .int .i64 u, .int .i64 v] 25)).alloc (Obj.cells #[.int .i64 0, .int .i64 0, .int .i64 0, .int .i64 0] 25)).cell? ⟨w.heap.size + 1 + 1, 3, none⟩ = some (.int .i64 0) ∧ (((w.alloc (Obj.cells #[.int .i64 a, .int .i64 b, .int .i64 c, .int .i64 d] 25)).alloc (Obj.cells #[.int .i64 s, .int .i64 t, .int .i64 u, .int .i64 v] 25)).alloc (Obj.cells #[.int .i64 0, .int .i64 0, .int .i64 0, .int .i64 0] 25)).frozen? ⟨w.heap.size + 1 + 1, 0, none⟩ = false ∧ (((w.alloc (Obj.cells #[.int .i64 a, .int .i64 b, .int .i64 c, .int .i64 d] 25)).alloc (Obj.cells #[.int .i64 s, .int .i64 t, .int .i64 u, .int .i64 v] 25)).alloc (Obj.cells #[.int .i64 0, .int .i64 0, .int .i64 0, .int .i64 0] 25)).frozen? ⟨w.heap.size + 1 + 1, 1, none⟩ = false ∧ (((w.alloc (Obj.cells #[.int .i64 a, .int .i64 b, .int .i64 c, .int .i64 d] 25)).alloc (Obj.cells #[.int .i64 s, .int .i64 t, .int .i64 u, .int .i64 v] 25)).alloc (Obj.cells #[.int .i64 0, .int .i64 0, .int .i64 0, .int .i64 0] 25)).frozen? ⟨w.heap.size + 1 + 1, 2, none⟩ = false ∧ (((w.alloc (Obj.cells #[.int .i64 a, .int .i64 b, .int .i64 c, .int .i64 d] 25)).alloc (Obj.cells #[.int .i64 s, .int .i64 t, .int .i64 u, .int .i64 v] 25)).alloc (Obj.cells #[.int .i64 0, .int .i64 0, .int .i64 0, .int .i64 0] 25)).frozen? ⟨w.heap.size + 1 + 1, 3, none⟩ = false := by refine ⟨?_, ?_, ?_, ?_, ?_, ?_, ?_, ?_⟩ <;> go_cell
  have hsz : w.heap.size + 1 + 1 < (((w.alloc (Obj.cells #[.int .i64 a, .int .i64 b, .int .i64 c, .int .i64 d] 25)).alloc (Obj.cells #[.int .i64 s, .int .i64 t, .int .i64 u, .int .i64 v] 25)).alloc (Obj.cells #[.int .i64 0, .int .i64 0, .int .i64 0, .int .i64 0] 25)).heap.size := by simp
  generalize (((w.alloc (Obj.cells #[.int .i64 a, .int .i64 b, .int .i64 c, .int .i64 d] 25)).alloc (Obj.cells #[.int .i64 s, .int .i64 t, .int .i64 u, .int .i64 v] 25)).alloc (Obj.cells #[.int .i64 0, .int .i64 0, .int .i64 0, .int .i64 0] 25)) = W at *
  have hsz0 : w.heap.size < W.heap.size := by omega
  have V0 : ∀ w', Below W.heap.size W w' → w'.cell? ⟨w.heap.size, 0, none⟩ = some (.int .i64 a) ∧ w'.cell? ⟨w.heap.size, 1, none⟩ = some (.int .i64 b) ∧ w'.cell? ⟨w.heap.size, 2, none⟩ = some (.int .i64 c) ∧ w'.cell? ⟨w.heap.size, 3, none⟩ = some (.int .i64 d) ∧ w'.cell? ⟨w.heap.size + 1, 0, none⟩ = some (.int .i64 s) ∧ w'.cell? ⟨w.heap.size + 1, 1, none⟩ = some (.int .i64 t) ∧ w'.cell? ⟨w.heap.size + 1, 2, none⟩ = some (.int .i64 u) ∧ w'.cell? ⟨w.heap.size + 1, 3, none⟩ = some (.int .i64 v) := fun w' hb => by
    have e0 := fun o' => hb.cell (p := ⟨w.heap.size, o', none⟩) (by simp only; omega)
    have e1 := fun o' => hb.cell (p := ⟨w.heap.size + 1, o', none⟩) (by simp only; omega)
    rw [e0, e0, e0, e0, e1, e1, e1, e1]
    exact hs0
  have V1 : ∀ w', Below W.heap.size W w' → (w'.cell? ⟨w.heap.size + 1 + 1, 0, none⟩ = some (.int .i64 0) ∧ w'.cell? ⟨w.heap.size + 1 + 1, 1, none⟩ = some (.int .i64 0) ∧ w'.cell? ⟨w.heap.size + 1 + 1, 2, none⟩ = some (.int .i64 0) ∧ w'.cell? ⟨w.heap.size + 1 + 1, 3, none⟩ = some (.int .i64 0) ∧ w'.frozen? ⟨w.heap.size + 1 + 1, 0, none⟩ = false ∧ w'.frozen? ⟨w.heap.size + 1 + 1, 1, none⟩ = false ∧ w'.frozen? ⟨w.heap.size + 1 + 1, 2, none⟩ = false ∧ w'.frozen? ⟨w.heap.size + 1 + 1, 3, none⟩ = false) := fun w' hb => by
    have e0 := fun o' => hb.cell (p := ⟨w.heap.size + 1 + 1, o', none⟩) (by simp only; omega)
    have e1 := fun o' => hb.frozen (p := ⟨w.heap.size + 1 + 1, o', none⟩) (by simp only; omega)
    rw [e0, e0, e0, e0, e1, e1, e1, e1]
    exact hr0
  have G0 := Lib.hid V0
  have G1 := Lib.hid V1
  have HB0 := Lib.hid hb0
  clear V0 V1 hb0 hs0 hr0
  have HD : Below W.heap.size W W := Below.refl _ _
  have HD1 : Below W.heap.size W W.drew := HD.drew
  refine wp_region_held_drew (S := fun w' => w'.cell? ⟨w.heap.size, 0, none⟩ = some (.int .i64 a) ∧ w'.cell? ⟨w.heap.size, 1, none⟩ = some (.int .i64 b) ∧ w'.cell? ⟨w.heap.size, 2, none⟩ = some (.int .i64 c) ∧ w'.cell? ⟨w.heap.size, 3, none⟩ = some (.int .i64 d) ∧ w'.cell? ⟨w.heap.size + 1, 0, none⟩ = some (.int .i64 s) ∧ w'.cell? ⟨w.heap.size + 1, 1, none⟩ = some (.int .i64 t) ∧ w'.cell? ⟨w.heap.size + 1, 2, none⟩ = some (.int .i64 u) ∧ w'.cell? ⟨w.heap.size + 1, 3, none⟩ = some (.int .i64 v)) (by kernel_rfl) (G0.out _ HD1) (fun hHeld => ?_)
  refine wpAnyH_take (i := 0) (oi := _) (v := ?_) rfl (by kernel_rfl) (by kernel_rfl) (by kernel_rfl) (fun _ _ _ h => h) (Or.inl ⟨by rfl, ?_⟩) (by assumption) ?_
  rotate_left
  · intro w hSw; obtain ⟨_, _, _, _, _, _, _, _⟩ := hSw; go_simp; (try with_reducible rfl)
  try change wpAnyH _ _ _ _ _ _ _ (Act.put _ (some 5) _) _
  try simp only [act_all]
  refine wpAnyH_take (i := 1) (oi := _) (v := ?_) rfl (by kernel_rfl) (by kernel_rfl) (by kernel_rfl) (fun _ _ _ h => h) (Or.inl ⟨by rfl, ?_⟩) (by assumption) ?_
  rotate_left
  · intro w hSw; obtain ⟨_, _, _, _, _, _, _, _⟩ := hSw; go_simp; (try with_reducible rfl)
  try change wpAnyH _ _ _ _ _ _ _ (Act.put _ (some 6) _) _
  try simp only [act_all]
  refine wpAnyH_take (i := 2) (oi := _) (v := ?_) rfl (by kernel_rfl) (by kernel_rfl) (by kernel_rfl) (fun _ _ _ h => h) (Or.inl ⟨by rfl, ?_⟩) (by assumption) ?_
  rotate_left
  · intro w hSw; obtain ⟨_, _, _, _, _, _, _, _⟩ := hSw; go_simp; (try with_reducible rfl)
  try change wpAnyH _ _ _ _ _ _ _ (Act.put _ (some 7) _) _
  try simp only [act_all]
  refine wpAnyH_take (i := 3) (oi := _) (v := ?_) rfl (by kernel_rfl) (by kernel_rfl) (by kernel_rfl) (fun _ _ _ h => h) (Or.inl ⟨by rfl, ?_⟩) (by assumption) ?_
  rotate_left
  · intro w hSw; obtain ⟨_, _, _, _, _, _, _, _⟩ := hSw; go_simp; (try with_reducible rfl)
  try change wpAnyH _ _ _ _ _ _ _ (Act.put _ (some 8) _) _
  try simp only [act_all]
  refine wpAnyH_take (i := 5) (oi := _) (v := ?_) rfl (by kernel_rfl) (by kernel_rfl) (by kernel_rfl) (fun _ _ _ h => h) (Or.inl ⟨by rfl, ?_⟩) (by assumption) ?_
  rotate_left
  · intro w hSw; obtain ⟨_, _, _, _, _, _, _, _⟩ := hSw; go_simp; (try with_reducible rfl)
  try change wpAnyH _ _ _ _ _ _ _ (Act.put _ (some 10) _) _
  try simp only [act_all]
  refine wpAnyH_take (i := 6) (oi := _) (v := ?_) rfl (by kernel_rfl) (by kernel_rfl) (by kernel_rfl) (fun _ _ _ h => h) (Or.inl ⟨by rfl, ?_⟩) (by assumption) ?_
  rotate_left
  · intro w hSw; obtain ⟨_, _, _, _, _, _, _, _⟩ := hSw; go_simp; (try with_reducible rfl)
  try change wpAnyH _ _ _ _ _ _ _ (Act.put _ (some 11) _) _
  try simp only [act_all]
  refine wpAnyH_take (i := 7) (oi := _) (v := ?_) rfl (by kernel_rfl) (by kernel_rfl) (by kernel_rfl) (fun _ _ _ h => h) (Or.inl ⟨by rfl, ?_⟩) (by assumption) ?_
  rotate_left
  · intro w hSw; obtain ⟨_, _, _, _, _, _, _, _⟩ := hSw; go_simp; (try with_reducible rfl)
  try change wpAnyH _ _ _ _ _ _ _ (Act.put _ (some 12) _) _
  try simp only [act_all]
  refine wpAnyH_take (i := 8) (oi := _) (v := ?_) rfl (by kernel_rfl) (by kernel_rfl) (by kernel_rfl) (fun _ _ _ h => h) (Or.inl ⟨by rfl, ?_⟩) (by assumption) ?_
  rotate_left
  · intro w hSw; obtain ⟨_, _, _, _, _, _, _, _⟩ := hSw; go_simp; (try with_reducible rfl)
  try change wpAnyH _ _ _ _ _ _ _ (Act.put _ (some 13) _) _
  try simp only [act_all]
  refine wpAnyH_take (i := 11) (oi := _) (v := ?_) rfl (by kernel_rfl) (by kernel_rfl) (by kernel_rfl) (fun _ _ _ h => h) (Or.inl ⟨by rfl, ?_⟩) (by assumption) ?_
  rotate_left
  · intro w hSw; obtain ⟨_, _, _, _, _, _, _, _⟩ := hSw; go_simp; (try with_reducible rfl)
  try change wpAnyH _ _ _ _ _ _ _ (Act.put _ (some 16) _) _
  try simp only [act_all]
  refine wpAnyH_take (i := 12) (oi := _) (v := ?_) rfl (by kernel_rfl) (by kernel_rfl) (by kernel_rfl) (fun _ _ _ h => h) (Or.inl ⟨by rfl, ?_⟩) (by assumption) ?_
  rotate_left
  · intro w hSw; obtain ⟨_, _, _, _, _, _, _, _⟩ := hSw; go_simp; (try with_reducible rfl)
  try change wpAnyH _ _ _ _ _ _ _ (Act.put _ (some 17) _) _
  try simp only [act_all]
  refine wpAnyH_take (i := 13) (oi := _) (v := ?_) rfl (by kernel_rfl) (by kernel_rfl) (by kernel_rfl) (fun _ _ _ h => h) (Or.inl ⟨by rfl, ?_⟩) (by assumption) ?_
  rotate_left
  · intro w hSw; obtain ⟨_, _, _, _, _, _, _, _⟩ := hSw; go_simp; (try with_reducible rfl)
  try change wpAnyH _ _ _ _ _ _ _ (Act.put _ (some 18) _) _
  try simp only [act_all]
  refine wpAnyH_take (i := 14) (oi := _) (v := ?_) rfl (by kernel_rfl) (by kernel_rfl) (by kernel_rfl) (fun _ _ _ h => h) (Or.inl ⟨by rfl, ?_⟩) (by assumption) ?_
  rotate_left
  · intro w hSw; obtain ⟨_, _, _, _, _, _, _, _⟩ := hSw; go_simp; (try with_reducible rfl)
  try change wpAnyH _ _ _ _ _ _ _ (Act.put _ (some 19) _) _
  try simp only [act_all]
  refine wpAnyH_take (i := 16) (oi := _) (v := ?_) rfl (by kernel_rfl) (by kernel_rfl) (by kernel_rfl) (fun _ _ _ h => h) (Or.inl ⟨by rfl, ?_⟩) (by assumption) ?_
  rotate_left
  · intro w hSw; obtain ⟨_, _, _, _, _, _, _, _⟩ := hSw; go_simp; (try with_reducible rfl)
  try change wpAnyH _ _ _ _ _ _ _ (Act.put _ (some 21) _) _
  try simp only [act_all]
  refine wpAnyH_take (i := 17) (oi := _) (v := ?_) rfl (by kernel_rfl) (by kernel_rfl) (by kernel_rfl) (fun _ _ _ h => h) (Or.inl ⟨by rfl, ?_⟩) (by assumption) ?_
  rotate_left
  · intro w hSw; obtain ⟨_, _, _, _, _, _, _, _⟩ := hSw; go_simp; (try with_reducible rfl)
  try change wpAnyH _ _ _ _ _ _ _ (Act.put _ (some 22) _) _
  try simp only [act_all]
  refine wpAnyH_take (i := 18) (oi := _) (v := ?_) rfl (by kernel_rfl) (by kernel_rfl) (by kernel_rfl) (fun _ _ _ h => h) (Or.inl ⟨by rfl, ?_⟩) (by assumption) ?_
  rotate_left
  · intro w hSw; obtain ⟨_, _, _, _, _, _, _, _⟩ := hSw; go_simp; (try with_reducible rfl)
  try change wpAnyH _ _ _ _ _ _ _ (Act.put _ (some 23) _) _
  try simp only [act_all]
  refine wpAnyH_take (i := 19) (oi := _) (v := ?_) rfl (by kernel_rfl) (by kernel_rfl) (by kernel_rfl) (fun _ _ _ h => h) (Or.inl ⟨by rfl, ?_⟩) (by assumption) ?_
  rotate_left
  · intro w hSw; obtain ⟨_, _, _, _, _, _, _, _⟩ := hSw; go_simp; (try with_reducible rfl)
  try change wpAnyH _ _ _ _ _ _ _ (Act.put _ (some 24) _) _
  try simp only [act_all]
  refine wpAnyH_ready (rs := [4]) (by kernel_rfl) (by simp) ?_
  refine AllReadyH.cons (o := _) rfl (fun K hK => ?_) AllReadyH.nil
  go_simp
  refine (mulSpans_any a b s t _ H1.out H3.out).mono ?_
  rintro e w2 ⟨he, hb⟩
  have HD2 : Below W.heap.size W w2 := Below.trans HD1 (hb.mono HD1.size)
  have hz2 := HD2.size
  have DA2 := HB0.out.trans (HD2.mono (show w.heap.size ≤ W.heap.size by omega))
  clear hb hHeld
  obtain ⟨r, hr⟩ : ∃ r, (mulS ⟨a, b⟩ ⟨s, t⟩) = r := ⟨_, rfl⟩
  rw [hr] at he
  have HR0 := Lib.hid hr
  clear hr
  rcases r with ⟨p1, q1⟩ | k
  case' bad =>
    obtain rfl : e = .panicked [{ v := .iface 26 (.int .i64 k), recovered := false }] := he
    refine ⟨rfl, ?_, by go_grown⟩
    rw [← HSP.out]; simp only [mulR, HR0.out, Out.binds, IsR]; (try rfl)
  obtain rfl : e = .returned (.agg #[.int .i64 p1, .int .i64 q1]) := he
  have HO0 : Hid (okS ⟨p1, q1⟩ = true) := Lib.hid (mulS_ok HR0.out)
  refine hK.out _ _ (G0.out _ HD2) (fun hHeld => ?_)
  clear hK K
  try simp only [act_all]
  refine wpAnyH_ready (rs := [9]) (by kernel_rfl) (by simp) ?_
  refine AllReadyH.cons (o := _) rfl (fun K hK => ?_) AllReadyH.nil
  go_simp
  refine (mulSpans_any c d u v _ H2.out H4.out).mono ?_
  rintro e w3 ⟨he, hb⟩
  have HD3 : Below W.heap.size W w3 := Below.trans HD2 (hb.mono HD2.size)
  have hz3 := HD3.size
  have DA3 := HB0.out.trans (HD3.mono (show w.heap.size ≤ W.heap.size by omega))
  clear hb hHeld
  obtain ⟨r, hr⟩ : ∃ r, (mulS ⟨c, d⟩ ⟨u, v⟩) = r := ⟨_, rfl⟩
  rw [hr] at he
  have HR1 := Lib.hid hr
  clear hr
  rcases r with ⟨p2, q2⟩ | k
  case' bad =>
    obtain rfl : e = .panicked [{ v := .iface 26 (.int .i64 k), recovered := false }] := he
    refine ⟨rfl, ?_, by go_grown⟩
    rw [← HSP.out]; simp only [mulR, HR0.out, HR1.out, Out.binds, IsR]; (try rfl)
  obtain rfl : e = .returned (.agg #[.int .i64 p2, .int .i64 q2]) := he
  have HO1 : Hid (okS ⟨p2, q2⟩ = true) := Lib.hid (mulS_ok HR1.out)
  refine hK.out _ _ (G0.out _ HD3) (fun hHeld => ?_)
  clear hK K
  try simp only [act_all]
  refine wpAnyH_ready (rs := [10]) (by kernel_rfl) (by simp) ?_
  refine AllReadyH.cons (o := _) rfl (fun K hK => ?_) AllReadyH.nil
  go_simp
  refine (subSpans_any p1 q1 p2 q2 _ HO0.out HO1.out).mono ?_
  rintro e w4 ⟨he, hb⟩
  have HD4 : Below W.heap.size W w4 := Below.trans HD3 (hb.mono HD3.size)
  have hz4 := HD4.size
  have DA4 := HB0.out.trans (HD4.mono (show w.heap.size ≤ W.heap.size by omega))
  clear hb hHeld
  obtain ⟨r, hr⟩ : ∃ r, (subS ⟨p1, q1⟩ ⟨p2, q2⟩) = r := ⟨_, rfl⟩
  rw [hr] at he
  have HR2 := Lib.hid hr
  clear hr
  rcases r with ⟨p3, q3⟩ | k
  case' bad =>
    obtain rfl : e = .panicked [{ v := .iface 26 (.int .i64 k), recovered := false }] := he
    refine ⟨rfl, ?_, by go_grown⟩
    rw [← HSP.out]; simp only [mulR, HR0.out, HR1.out, HR2.out, Out.binds, IsR]; (try rfl)
  obtain rfl : e = .returned (.agg #[.int .i64 p3, .int .i64 q3]) := he
  refine hK.out _ _ (G0.out _ HD4) (fun hHeld => ?_)
  clear hK K
  try simp only [act_all]
  refine wpAnyH_ready (rs := [15]) (by kernel_rfl) (by simp) ?_
  refine AllReadyH.cons (o := _) rfl (fun K hK => ?_) AllReadyH.nil
  go_simp
  refine (mulSpans_any a b u v _ H1.out H4.out).mono ?_
  rintro e w5 ⟨he, hb⟩
  have HD5 : Below W.heap.size W w5 := Below.trans HD4 (hb.mono HD4.size)
  have hz5 := HD5.size
  have DA5 := HB0.out.trans (HD5.mono (show w.heap.size ≤ W.heap.size by omega))
  clear hb hHeld
  obtain ⟨r, hr⟩ : ∃ r, (mulS ⟨a, b⟩ ⟨u, v⟩) = r := ⟨_, rfl⟩
  rw [hr] at he
  have HR3 := Lib.hid hr
  clear hr
  rcases r with ⟨p4, q4⟩ | k
  case' bad =>
    obtain rfl : e = .panicked [{ v := .iface 26 (.int .i64 k), recovered := false }] := he
    refine ⟨rfl, ?_, by go_grown⟩
    rw [← HSP.out]; simp only [mulR, HR0.out, HR1.out, HR2.out, HR3.out, Out.binds, IsR]; (try rfl)
  obtain rfl : e = .returned (.agg #[.int .i64 p4, .int .i64 q4]) := he
  have HO3 : Hid (okS ⟨p4, q4⟩ = true) := Lib.hid (mulS_ok HR3.out)
  refine hK.out _ _ (G0.out _ HD5) (fun hHeld => ?_)
  clear hK K
  try simp only [act_all]
  refine wpAnyH_ready (rs := [20]) (by kernel_rfl) (by simp) ?_
  refine AllReadyH.cons (o := _) rfl (fun K hK => ?_) AllReadyH.nil
  go_simp
  refine (mulSpans_any c d s t _ H2.out H3.out).mono ?_
  rintro e w6 ⟨he, hb⟩
  have HD6 : Below W.heap.size W w6 := Below.trans HD5 (hb.mono HD5.size)
  have hz6 := HD6.size
  have DA6 := HB0.out.trans (HD6.mono (show w.heap.size ≤ W.heap.size by omega))
  clear hb hHeld
  obtain ⟨r, hr⟩ : ∃ r, (mulS ⟨c, d⟩ ⟨s, t⟩) = r := ⟨_, rfl⟩
  rw [hr] at he
  have HR4 := Lib.hid hr
  clear hr
  rcases r with ⟨p5, q5⟩ | k
  case' bad =>
    obtain rfl : e = .panicked [{ v := .iface 26 (.int .i64 k), recovered := false }] := he
    refine ⟨rfl, ?_, by go_grown⟩
    rw [← HSP.out]; simp only [mulR, HR0.out, HR1.out, HR2.out, HR3.out, HR4.out, Out.binds, IsR]; (try rfl)
  obtain rfl : e = .returned (.agg #[.int .i64 p5, .int .i64 q5]) := he
  have HO4 : Hid (okS ⟨p5, q5⟩ = true) := Lib.hid (mulS_ok HR4.out)
  refine hK.out _ _ (G0.out _ HD6) (fun hHeld => ?_)
  clear hK K
  try simp only [act_all]
  refine wpAnyH_ready (rs := [21]) (by kernel_rfl) (by simp) ?_
  refine AllReadyH.cons (o := _) rfl (fun K hK => ?_) AllReadyH.nil
  go_simp
  refine (addSpans_any p4 q4 p5 q5 _ HO3.out HO4.out).mono ?_
  rintro e w7 ⟨he, hb⟩
  have HD7 : Below W.heap.size W w7 := Below.trans HD6 (hb.mono HD6.size)
  have hz7 := HD7.size
  have DA7 := HB0.out.trans (HD7.mono (show w.heap.size ≤ W.heap.size by omega))
  clear hb hHeld
  obtain ⟨r, hr⟩ : ∃ r, (addS ⟨p4, q4⟩ ⟨p5, q5⟩) = r := ⟨_, rfl⟩
  rw [hr] at he
  have HR5 := Lib.hid hr
  clear hr
  rcases r with ⟨p6, q6⟩ | k
  case' bad =>
    obtain rfl : e = .panicked [{ v := .iface 26 (.int .i64 k), recovered := false }] := he
    refine ⟨rfl, ?_, by go_grown⟩
    rw [← HSP.out]; simp only [mulR, HR0.out, HR1.out, HR2.out, HR3.out, HR4.out, HR5.out, Out.binds, IsR]; (try rfl)
  obtain rfl : e = .returned (.agg #[.int .i64 p6, .int .i64 q6]) := he
  refine hK.out _ _ (G0.out _ HD7) (fun hHeld => ?_)
  clear hK K
  try simp only [act_all]
  refine wpAnyH_take (i := 22) (oi := _) (v := ?_) rfl (by kernel_rfl) (by kernel_rfl) (by kernel_rfl) (fun _ _ _ h => h) (Or.inl ⟨by rfl, ?_⟩) (by assumption) ?_
  rotate_left
  · intro w hSw; obtain ⟨_, _, _, _, _, _, _, _⟩ := hSw; go_simp; (try with_reducible rfl)
  try change wpAnyH _ _ _ _ _ _ _ (Act.put _ (some 27) _) _
  try simp only [act_all]
  refine wpAnyH_ready (rs := [23]) (by kernel_rfl) (by simp) ?_
  refine AllReadyH.cons (o := _) rfl (fun K hK => ?_) AllReadyH.nil
  obtain ⟨_, _, _, _, _, _, _, _⟩ := G0.out _ HD7
  obtain ⟨_, _, _, _, _, _, _, _⟩ := G1.out _ HD7
  go_simp
  refine hK.out _ _ (by refine ⟨?_, ?_, ?_, ?_, ?_, ?_, ?_, ?_⟩ <;> go_cell) (fun hHeld => ?_)
  clear hK K
  try simp only [act_all]
  refine wpAnyH_done (by kernel_rfl) ?_ _
  go_wp2_with fail
  refine bodyPost_ret (v := .agg #[.int .i64 p3, .int .i64 q3, .int .i64 p6, .int .i64 q6]) (by simp [results, Try.results74, go_sem, *]) rfl ⟨?_, by go_grown⟩
  rw [← HSP.out]; simp only [mulR, HR0.out, HR1.out, HR2.out, HR3.out, HR4.out, HR5.out, Out.binds, IsR]; (try rfl)
end Go.Proofs.Ytgbnpnenejgnnaa
