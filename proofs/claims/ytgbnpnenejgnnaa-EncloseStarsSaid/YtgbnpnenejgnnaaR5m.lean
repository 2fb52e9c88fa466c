import Derived.Test.YtgbnpnenejgnnaaR5t
import Derived.Deep.DeepCutAuto
namespace Go.Proofs.Ytgbnpnenejgnnaa
open Go.RowKit Encl

set_option maxRecDepth 100000 in
set_option maxHeartbeats 8000000 in
theorem rMulW_any (a b c d s t u v e0 : Int) (g : Nat) (w : World) (h1 : okS ⟨a, b⟩ = true) (h2 : okS ⟨c, d⟩ = true) (h3 : okS ⟨s, t⟩ = true) (h4 : okS ⟨u, v⟩ = true) (hc : w.cell? ⟨g, 0, none⟩ = some (.int .i64 e0)) (hf : w.frozen? ⟨g, 0, none⟩ = false) :
    Calls Try.prog 75 #[.pointer (some ⟨g, 0, none⟩), .agg #[.int .i64 a, .int .i64 b, .int .i64 c, .int .i64 d], .agg #[.int .i64 s, .int .i64 t, .int .i64 u, .int .i64 v]] w fun e w' => e = retR (mulW e0 ⟨⟨a, b⟩, ⟨c, d⟩⟩ ⟨⟨s, t⟩, ⟨u, v⟩⟩).1 ∧ Wk g (mulW e0 ⟨⟨a, b⟩, ⟨c, d⟩⟩ ⟨⟨s, t⟩, ⟨u, v⟩⟩).2 w.heap.size w w' := by
  have hg : g < w.heap.size := World.block_lt_of_cell? w _ hc
  have H1 := Lib.hid h1
  have H2 := Lib.hid h2
  have H3 := Lib.hid h3
  have H4 := Lib.hid h4
  clear h1 h2 h3 h4
  obtain ⟨SP, hsp⟩ : ∃ SP, (mulW e0 ⟨⟨a, b⟩, ⟨c, d⟩⟩ ⟨⟨s, t⟩, ⟨u, v⟩⟩) = SP := ⟨_, rfl⟩
  have HSP := Lib.hid hsp
  rw [hsp]
  clear hsp
  go_enter Try.func75, Try.ntmps75
  go_wp2_with fail
  have hb0 : Below w.heap.size w (((w.alloc (Obj.cells #[.int .i64 a, .int .i64 b, .int .i64 c, .int .i64 d] 25)).alloc (Obj.cells #[.int .i64 s, .int .i64 t, .int .i64 u, .int .i64 v] 25)).alloc (Obj.cells #[.int .i64 0, .int .i64 0, .int .i64 0, .int .i64 0] 25)) := by go_grown
  have hc0 : (((w.alloc (Obj.cells #[.int .i64 a, .int .i64 b, .int .i64 c, .int .i64 d] 25)).alloc (Obj.cells #[.int .i64 s, .int .i64 t, .int .i64 u, .int .i64 v] 25)).alloc (Obj.cells #[.int .i64 0, .int .i64 0, .int .i64 0, .int .i64 0] 25)).cell? ⟨g, 0, none⟩ = some (.int .i64 e0) := (hb0.cell (p := ⟨g, 0, none⟩) hg).trans hc
  have hf0 : (((w.alloc (Obj.cells #[.int .i64 a, .int .i64 b, .int .i64 c, .int .i64 d] 25)).alloc (Obj.cells #[.int .i64 s, .int .i64 t, .int .i64 u, .int .i64 v] 25)).alloc (Obj.cells #[.int .i64 0, .int .i64 0, .int .i64 0, .int .i64 0] 25)).frozen? ⟨g, 0, none⟩ = false := (hb0.frozen (p := ⟨g, 0, none⟩) hg).trans hf
  have c00 : (((w.alloc (Obj.cells #[.int .i64 a, .int .i64 b, .int .i64 c, .int .i64 d] 25)).alloc (Obj.cells #[.int .i64 s, .int .i64 t, .int .i64 u, .int .i64 v] 25)).alloc (Obj.cells #[.int .i64 0, .int .i64 0, .int .i64 0, .int .i64 0] 25)).cell? ⟨w.heap.size, 0, none⟩ = some (.int .i64 a) := by go_cell
  have c01 : (((w.alloc (Obj.cells #[.int .i64 a, .int .i64 b, .int .i64 c, .int .i64 d] 25)).alloc (Obj.cells #[.int .i64 s, .int .i64 t, .int .i64 u, .int .i64 v] 25)).alloc (Obj.cells #[.int .i64 0, .int .i64 0, .int .i64 0, .int .i64 0] 25)).cell? ⟨w.heap.size, 1, none⟩ = some (.int .i64 b) := by go_cell
  have c02 : (((w.alloc (Obj.cells #[.int .i64 a, .int .i64 b, .int .i64 c, .int .i64 d] 25)).alloc (Obj.cells #[.int .i64 s, .int .i64 t, .int .i64 u, .int .i64 v] 25)).alloc (Obj.cells #[.int .i64 0, .int .i64 0, .int .i64 0, .int .i64 0] 25)).cell? ⟨w.heap.size, 2, none⟩ = some (.int .i64 c) := by go_cell
  have c03 : (((w.alloc (Obj.cells #[.int .i64 a, .int .i64 b, .int .i64 c, .int .i64 d] 25)).alloc (Obj.cells #[.int .i64 s, .int .i64 t, .int .i64 u, .int .i64 v] 25)).alloc (Obj.cells #[.int .i64 0, .int .i64 0, .int .i64 0, .int .i64 0] 25)).cell? ⟨w.heap.size, 3, none⟩ = some (.int .i64 d) := by go_cell
  have c10 : (((w.alloc (Obj.cells #[.int .i64 a, .int .i64 b, .int .i64 c, .int .i64 d] 25)).alloc (Obj.cells #[.int .i64 s, .int .i64 t, .int .i64 u, .int .i64 v] 25)).alloc (Obj.cells #[.int .i64 0, .int .i64 0, .int .i64 0, .int .i64 0] 25)).cell? ⟨w.heap.size + 1, 0, none⟩ = some (.int .i64 s) := by go_cell
  have c11 : (((w.alloc (Obj.cells #[.int .i64 a, .int .i64 b, .int .i64 c, .int .i64 d] 25)).alloc (Obj.cells #[.int .i64 s, .int .i64 t, .int .i64 u, .int .i64 v] 25)).alloc (Obj.cells #[.int .i64 0, .int .i64 0, .int .i64 0, .int .i64 0] 25)).cell? ⟨w.heap.size + 1, 1, none⟩ = some (.int .i64 t) := by go_cell
  have c12 : (((w.alloc (Obj.cells #[.int .i64 a, .int .i64 b, .int .i64 c, .int .i64 d] 25)).alloc (Obj.cells #[.int .i64 s, .int .i64 t, .int .i64 u, .int .i64 v] 25)).alloc (Obj.cells #[.int .i64 0, .int .i64 0, .int .i64 0, .int .i64 0] 25)).cell? ⟨w.heap.size + 1, 2, none⟩ = some (.int .i64 u) := by go_cell
  have c13 : (((w.alloc (Obj.cells #[.int .i64 a, .int .i64 b, .int .i64 c, .int .i64 d] 25)).alloc (Obj.cells #[.int .i64 s, .int .i64 t, .int .i64 u, .int .i64 v] 25)).alloc (Obj.cells #[.int .i64 0, .int .i64 0, .int .i64 0, .int .i64 0] 25)).cell? ⟨w.heap.size + 1, 3, none⟩ = some (.int .i64 v) := by go_cell
  have d0 : (((w.alloc (Obj.cells #[.int .i64 a, .int .i64 b, .int .i64 c, .int .i64 d] 25)).alloc (Obj.cells #[.int .i64 s, .int .i64 t, .int .i64 u, .int .i64 v] 25)).alloc (Obj.cells #[.int .i64 0, .int .i64 0, .int .i64 0, .int .i64 0] 25)).cell? ⟨w.heap.size + 1 + 1, 0, none⟩ = some (.int .i64 0) := by go_cell
  have f0 : (((w.alloc (Obj.cells #[.int .i64 a, .int .i64 b, .int .i64 c, .int .i64 d] 25)).alloc (Obj.cells #[.int .i64 s, .int .i64 t, .int .i64 u, .int .i64 v] 25)).alloc (Obj.cells #[.int .i64 0, .int .i64 0, .int .i64 0, .int .i64 0] 25)).frozen? ⟨w.heap.size + 1 + 1, 0, none⟩ = false := by go_cell
  have d1 : (((w.alloc (Obj.cells #[.int .i64 a, .int .i64 b, .int .i64 c, .int .i64 d] 25)).alloc (Obj.cells #[.int .i64 s, .int .i64 t, .int .i64 u, .int .i64 v] 25)).alloc (Obj.cells #[.int .i64 0, .int .i64 0, .int .i64 0, .int .i64 0] 25)).cell? ⟨w.heap.size + 1 + 1, 1, none⟩ = some (.int .i64 0) := by go_cell
  have f1 : (((w.alloc (Obj.cells #[.int .i64 a, .int .i64 b, .int .i64 c, .int .i64 d] 25)).alloc (Obj.cells #[.int .i64 s, .int .i64 t, .int .i64 u, .int .i64 v] 25)).alloc (Obj.cells #[.int .i64 0, .int .i64 0, .int .i64 0, .int .i64 0] 25)).frozen? ⟨w.heap.size + 1 + 1, 1, none⟩ = false := by go_cell
  have d2 : (((w.alloc (Obj.cells #[.int .i64 a, .int .i64 b, .int .i64 c, .int .i64 d] 25)).alloc (Obj.cells #[.int .i64 s, .int .i64 t, .int .i64 u, .int .i64 v] 25)).alloc (Obj.cells #[.int .i64 0, .int .i64 0, .int .i64 0, .int .i64 0] 25)).cell? ⟨w.heap.size + 1 + 1, 2, none⟩ = some (.int .i64 0) := by go_cell
  have f2 : (((w.alloc (Obj.cells #[.int .i64 a, .int .i64 b, .int .i64 c, .int .i64 d] 25)).alloc (Obj.cells #[.int .i64 s, .int .i64 t, .int .i64 u, .int .i64 v] 25)).alloc (Obj.cells #[.int .i64 0, .int .i64 0, .int .i64 0, .int .i64 0] 25)).frozen? ⟨w.heap.size + 1 + 1, 2, none⟩ = false := by go_cell
  have d3 : (((w.alloc (Obj.cells #[.int .i64 a, .int .i64 b, .int .i64 c, .int .i64 d] 25)).alloc (Obj.cells #[.int .i64 s, .int .i64 t, .int .i64 u, .int .i64 v] 25)).alloc (Obj.cells #[.int .i64 0, .int .i64 0, .int .i64 0, .int .i64 0] 25)).cell? ⟨w.heap.size + 1 + 1, 3, none⟩ = some (.int .i64 0) := by go_cell
  have f3 : (((w.alloc (Obj.cells #[.int .i64 a, .int .i64 b, .int .i64 c, .int .i64 d] 25)).alloc (Obj.cells #[.int .i64 s, .int .i64 t, .int .i64 u, .int .i64 v] 25)).alloc (Obj.cells #[.int .i64 0, .int .i64 0, .int .i64 0, .int .i64 0] 25)).frozen? ⟨w.heap.size + 1 + 1, 3, none⟩ = false := by go_cell
  have hsz : w.heap.size + 1 + 1 < (((w.alloc (Obj.cells #[.int .i64 a, .int .i64 b, .int .i64 c, .int .i64 d] 25)).alloc (Obj.cells #[.int .i64 s, .int .i64 t, .int .i64 u, .int .i64 v] 25)).alloc (Obj.cells #[.int .i64 0, .int .i64 0, .int .i64 0, .int .i64 0] 25)).heap.size := by simp
  generalize (((w.alloc (Obj.cells #[.int .i64 a, .int .i64 b, .int .i64 c, .int .i64 d] 25)).alloc (Obj.cells #[.int .i64 s, .int .i64 t, .int .i64 u, .int .i64 v] 25)).alloc (Obj.cells #[.int .i64 0, .int .i64 0, .int .i64 0, .int .i64 0] 25)) = W at *
  have hgW : g < W.heap.size := by omega
  have HD : Wk g e0 W.heap.size W W := ⟨rfl, rfl, rfl, Nat.le_refl _, fun _ _ _ => rfl, hc0, hf0⟩
  have HW0 := Lib.hid (Wk.of_below hb0 hc0 hf0)
  have G0 : Hid (∀ (e : Int) w', Wk g e W.heap.size W w' → w'.cell? ⟨w.heap.size, 0, none⟩ = some (.int .i64 a) ∧ w'.cell? ⟨w.heap.size, 1, none⟩ = some (.int .i64 b) ∧ w'.cell? ⟨w.heap.size, 2, none⟩ = some (.int .i64 c) ∧ w'.cell? ⟨w.heap.size, 3, none⟩ = some (.int .i64 d) ∧ w'.cell? ⟨w.heap.size + 1, 0, none⟩ = some (.int .i64 s) ∧ w'.cell? ⟨w.heap.size + 1, 1, none⟩ = some (.int .i64 t) ∧ w'.cell? ⟨w.heap.size + 1, 2, none⟩ = some (.int .i64 u) ∧ w'.cell? ⟨w.heap.size + 1, 3, none⟩ = some (.int .i64 v)) := Lib.hid (fun e w' hb => by
    exact ⟨(hb.cells.1 _ 0 (by omega) (by omega)).trans c00, (hb.cells.1 _ 1 (by omega) (by omega)).trans c01, (hb.cells.1 _ 2 (by omega) (by omega)).trans c02, (hb.cells.1 _ 3 (by omega) (by omega)).trans c03, (hb.cells.1 _ 0 (by omega) (by omega)).trans c10, (hb.cells.1 _ 1 (by omega) (by omega)).trans c11, (hb.cells.1 _ 2 (by omega) (by omega)).trans c12, (hb.cells.1 _ 3 (by omega) (by omega)).trans c13⟩)
  have G1 : Hid (∀ (e : Int) w', Wk g e W.heap.size W w' → w'.cell? ⟨w.heap.size + 1 + 1, 0, none⟩ = some (.int .i64 0) ∧ w'.cell? ⟨w.heap.size + 1 + 1, 1, none⟩ = some (.int .i64 0) ∧ w'.cell? ⟨w.heap.size + 1 + 1, 2, none⟩ = some (.int .i64 0) ∧ w'.cell? ⟨w.heap.size + 1 + 1, 3, none⟩ = some (.int .i64 0) ∧ w'.frozen? ⟨w.heap.size + 1 + 1, 0, none⟩ = false ∧ w'.frozen? ⟨w.heap.size + 1 + 1, 1, none⟩ = false ∧ w'.frozen? ⟨w.heap.size + 1 + 1, 2, none⟩ = false ∧ w'.frozen? ⟨w.heap.size + 1 + 1, 3, none⟩ = false) := Lib.hid (fun e w' hb => by
    exact ⟨(hb.cells.1 _ 0 (by omega) (by omega)).trans d0, (hb.cells.1 _ 1 (by omega) (by omega)).trans d1, (hb.cells.1 _ 2 (by omega) (by omega)).trans d2, (hb.cells.1 _ 3 (by omega) (by omega)).trans d3, (hb.cells.2 _ 0 (by omega) (by omega)).trans f0, (hb.cells.2 _ 1 (by omega) (by omega)).trans f1, (hb.cells.2 _ 2 (by omega) (by omega)).trans f2, (hb.cells.2 _ 3 (by omega) (by omega)).trans f3⟩)
  clear hb0 hc hf hc0 hf0 c00 c01 c02 c03 c10 c11 c12 c13 d0 f0 d1 f1 d2 f2 d3 f3
  have HD1 : Wk g e0 W.heap.size W W.drew := HD.then ((Below.refl _ _).drew.mono HD.size) hgW
  refine wp_region_held_drew (S := fun w' => w'.cell? ⟨w.heap.size, 0, none⟩ = some (.int .i64 a) ∧ w'.cell? ⟨w.heap.size, 1, none⟩ = some (.int .i64 b) ∧ w'.cell? ⟨w.heap.size, 2, none⟩ = some (.int .i64 c) ∧ w'.cell? ⟨w.heap.size, 3, none⟩ = some (.int .i64 d) ∧ w'.cell? ⟨w.heap.size + 1, 0, none⟩ = some (.int .i64 s) ∧ w'.cell? ⟨w.heap.size + 1, 1, none⟩ = some (.int .i64 t) ∧ w'.cell? ⟨w.heap.size + 1, 2, none⟩ = some (.int .i64 u) ∧ w'.cell? ⟨w.heap.size + 1, 3, none⟩ = some (.int .i64 v)) (by kernel_rfl) (G0.out _ _ HD1) (fun hHeld => ?_)
  refine wpAnyH_take (i := 0) (oi := _) (v := ?_) rfl (by kernel_rfl) (by kernel_rfl) (by kernel_rfl) (fun _ _ _ h => h) (Or.inl ⟨by rfl, ?_⟩) (by assumption) ?_
  rotate_left
  · intro w hSw; obtain ⟨_, _, _, _, _, _, _, _⟩ := hSw; go_simp; (try with_reducible rfl)
  try change wpAnyH _ _ _ _ _ _ _ (Act.put _ (some 8) _) _
  try simp only [act_all]
  refine wpAnyH_take (i := 1) (oi := _) (v := ?_) rfl (by kernel_rfl) (by kernel_rfl) (by kernel_rfl) (fun _ _ _ h => h) (Or.inl ⟨by rfl, ?_⟩) (by assumption) ?_
  rotate_left
  · intro w hSw; obtain ⟨_, _, _, _, _, _, _, _⟩ := hSw; go_simp; (try with_reducible rfl)
  try change wpAnyH _ _ _ _ _ _ _ (Act.put _ (some 9) _) _
  try simp only [act_all]
  refine wpAnyH_take (i := 2) (oi := _) (v := ?_) rfl (by kernel_rfl) (by kernel_rfl) (by kernel_rfl) (fun _ _ _ h => h) (Or.inl ⟨by rfl, ?_⟩) (by assumption) ?_
  rotate_left
  · intro w hSw; obtain ⟨_, _, _, _, _, _, _, _⟩ := hSw; go_simp; (try with_reducible rfl)
  try change wpAnyH _ _ _ _ _ _ _ (Act.put _ (some 10) _) _
  try simp only [act_all]
  refine wpAnyH_take (i := 3) (oi := _) (v := ?_) rfl (by kernel_rfl) (by kernel_rfl) (by kernel_rfl) (fun _ _ _ h => h) (Or.inl ⟨by rfl, ?_⟩) (by assumption) ?_
  rotate_left
  · intro w hSw; obtain ⟨_, _, _, _, _, _, _, _⟩ := hSw; go_simp; (try with_reducible rfl)
  try change wpAnyH _ _ _ _ _ _ _ (Act.put _ (some 11) _) _
  try simp only [act_all]
  refine wpAnyH_take (i := 4) (oi := _) (v := ?_) rfl (by kernel_rfl) (by kernel_rfl) (by kernel_rfl) (fun _ _ _ h => h) (Or.inl ⟨by rfl, ?_⟩) (by assumption) ?_
  rotate_left
  · intro w hSw; obtain ⟨_, _, _, _, _, _, _, _⟩ := hSw; go_simp; (try with_reducible rfl)
  try change wpAnyH _ _ _ _ _ _ _ (Act.put _ (some 12) _) _
  try simp only [act_all]
  refine wpAnyH_take (i := 5) (oi := _) (v := ?_) rfl (by kernel_rfl) (by kernel_rfl) (by kernel_rfl) (fun _ _ _ h => h) (Or.inl ⟨by rfl, ?_⟩) (by assumption) ?_
  rotate_left
  · intro w hSw; obtain ⟨_, _, _, _, _, _, _, _⟩ := hSw; go_simp; (try with_reducible rfl)
  try change wpAnyH _ _ _ _ _ _ _ (Act.put _ (some 13) _) _
  try simp only [act_all]
  refine wpAnyH_take (i := 7) (oi := _) (v := ?_) rfl (by kernel_rfl) (by kernel_rfl) (by kernel_rfl) (fun _ _ _ h => h) (Or.inl ⟨by rfl, ?_⟩) (by assumption) ?_
  rotate_left
  · intro w hSw; obtain ⟨_, _, _, _, _, _, _, _⟩ := hSw; go_simp; (try with_reducible rfl)
  try change wpAnyH _ _ _ _ _ _ _ (Act.put _ (some 15) _) _
  try simp only [act_all]
  refine wpAnyH_take (i := 8) (oi := _) (v := ?_) rfl (by kernel_rfl) (by kernel_rfl) (by kernel_rfl) (fun _ _ _ h => h) (Or.inl ⟨by rfl, ?_⟩) (by assumption) ?_
  rotate_left
  · intro w hSw; obtain ⟨_, _, _, _, _, _, _, _⟩ := hSw; go_simp; (try with_reducible rfl)
  try change wpAnyH _ _ _ _ _ _ _ (Act.put _ (some 16) _) _
  try simp only [act_all]
  refine wpAnyH_take (i := 9) (oi := _) (v := ?_) rfl (by kernel_rfl) (by kernel_rfl) (by kernel_rfl) (fun _ _ _ h => h) (Or.inl ⟨by rfl, ?_⟩) (by assumption) ?_
  rotate_left
  · intro w hSw; obtain ⟨_, _, _, _, _, _, _, _⟩ := hSw; go_simp; (try with_reducible rfl)
  try change wpAnyH _ _ _ _ _ _ _ (Act.put _ (some 17) _) _
  try simp only [act_all]
  refine wpAnyH_take (i := 10) (oi := _) (v := ?_) rfl (by kernel_rfl) (by kernel_rfl) (by kernel_rfl) (fun _ _ _ h => h) (Or.inl ⟨by rfl, ?_⟩) (by assumption) ?_
  rotate_left
  · intro w hSw; obtain ⟨_, _, _, _, _, _, _, _⟩ := hSw; go_simp; (try with_reducible rfl)
  try change wpAnyH _ _ _ _ _ _ _ (Act.put _ (some 18) _) _
  try simp only [act_all]
  refine wpAnyH_take (i := 11) (oi := _) (v := ?_) rfl (by kernel_rfl) (by kernel_rfl) (by kernel_rfl) (fun _ _ _ h => h) (Or.inl ⟨by rfl, ?_⟩) (by assumption) ?_
  rotate_left
  · intro w hSw; obtain ⟨_, _, _, _, _, _, _, _⟩ := hSw; go_simp; (try with_reducible rfl)
  try change wpAnyH _ _ _ _ _ _ _ (Act.put _ (some 19) _) _
  try simp only [act_all]
  refine wpAnyH_ready (rs := [6, 14]) (by kernel_rfl) (by simp) ?_
  refine AllReadyH.cons (o := _) rfl (fun K hK => ?_) ?_
  · go_simp
    refine (rTimes_any a b s t e0 g _ H1.out H3.out HD1.cell HD1.free).mono ?_
    rintro e w2_ ⟨he, hb⟩
    obtain ⟨r, hr⟩ : ∃ r, (rn e0 (mulS ⟨a, b⟩ ⟨s, t⟩)) = r := ⟨_, rfl⟩
    rw [hr] at he hb
    obtain ⟨⟨p1, q1⟩, e1⟩ := r
    have HR2 := Lib.hid hr
    have HD2 : Wk g e1 W.heap.size W w2_ := HD1.trans (hb.mono HD1.size)
    obtain rfl : e = .returned (.agg #[.int .i64 p1, .int .i64 q1]) := he
    have hz2 := HD2.size
    have hq2 := hb.size
    (try simp at hq2)
    clear hb hHeld hr
    refine hK.out _ _ (G0.out _ _ HD2) (fun hHeld => ?_)
    clear hK K
    try simp only [act_all]
    refine wpAnyH_ready (rs := [12, 14]) (by kernel_rfl) (by simp) ?_
    refine AllReadyH.cons (o := _) rfl (fun K hK => ?_) ?_
    · go_simp
      refine (rTimes_any c d u v e1 g _ H2.out H4.out HD2.cell HD2.free).mono ?_
      rintro e w3_ ⟨he, hb⟩
      obtain ⟨r, hr⟩ : ∃ r, (rn e1 (mulS ⟨c, d⟩ ⟨u, v⟩)) = r := ⟨_, rfl⟩
      rw [hr] at he hb
      obtain ⟨⟨p2, q2⟩, e2⟩ := r
      have HR3 := Lib.hid hr
      have HD3 : Wk g e2 W.heap.size W w3_ := HD2.trans (hb.mono HD2.size)
      obtain rfl : e = .returned (.agg #[.int .i64 p2, .int .i64 q2]) := he
      have hz3 := HD3.size
      have hq3 := hb.size
      (try simp at hq3)
      clear hb hHeld hr
      refine hK.out _ _ (G0.out _ _ HD3) (fun hHeld => ?_)
      clear hK K
      try simp only [act_all]
      refine wpAnyH_ready (rs := [13, 14]) (by kernel_rfl) (by simp) ?_
      refine AllReadyH.cons (o := _) rfl (fun K hK => ?_) ?_
      · go_simp
        refine (rLess_any p1 q1 p2 q2 e2 g _ (rn_okS HR2.out (fun _ h => mulS_ok h)) (rn_okS HR3.out (fun _ h => mulS_ok h)) HD3.cell HD3.free).mono ?_
        rintro e w4_ ⟨he, hb⟩
        obtain ⟨r, hr⟩ : ∃ r, (rn e2 (subS ⟨p1, q1⟩ ⟨p2, q2⟩)) = r := ⟨_, rfl⟩
        rw [hr] at he hb
        obtain ⟨⟨p3, q3⟩, e3⟩ := r
        have HR4 := Lib.hid hr
        have HD4 : Wk g e3 W.heap.size W w4_ := HD3.trans (hb.mono HD3.size)
        obtain rfl : e = .returned (.agg #[.int .i64 p3, .int .i64 q3]) := he
        have hz4 := HD4.size
        have hq4 := hb.size
        (try simp at hq4)
        clear hb hHeld hr
        refine hK.out _ _ (G0.out _ _ HD4) (fun hHeld => ?_)
        clear hK K
        try simp only [act_all]
        refine wpAnyH_ready (rs := [14]) (by kernel_rfl) (by simp) ?_
        refine AllReadyH.cons (o := _) rfl (fun K hK => ?_) AllReadyH.nil
        have HD5 : Wk g e3 W.heap.size W (w4_.alloc (Obj.cells #[.int .i64 0, .int .i64 0] 23)) := HD4.then ((bal (Below.refl _ _) _).mono HD4.size) hgW
        go_simp
        refine hK.out _ _ (G0.out _ _ HD5) (fun hHeld => ?_)
        clear hK K
        try simp only [act_all]
        refine wpAnyH_ready (rs := [15]) (by kernel_rfl) (by simp) ?_
        refine AllReadyH.cons (o := _) rfl (fun K hK => ?_) AllReadyH.nil
        obtain ⟨_, _, _, _, _, _, _, _⟩ := G0.out _ _ HD5
        obtain ⟨_, _, _, _, _, _, _, _⟩ := G1.out _ _ HD5
        have nb0 : w.heap.size < w4_.heap.size := by omega
        have nb1 : w.heap.size + 1 < w4_.heap.size := by omega
        have nb2 : w.heap.size + 1 + 1 < w4_.heap.size := by omega
        have nx0 : ¬ w4_.heap.size = w.heap.size := by omega
        have nx1 : ¬ w4_.heap.size = w.heap.size + 1 := by omega
        have nx2 : ¬ w4_.heap.size = w.heap.size + 1 + 1 := by omega
        go_simp
        refine hK.out _ _ (by refine ⟨?_, ?_, ?_, ?_, ?_, ?_, ?_, ?_⟩ <;> go_cell) (fun hHeld => ?_)
        clear hK K
        try simp only [act_all]
        refine wpAnyH_done (by kernel_rfl) ?_ _
        go_upto_region 2 with fail
        have hX : W.heap.size ≤ w4_.heap.size := by omega
        have HE : Wk g e3 W.heap.size W (w4_.alloc (Obj.cells #[.int .i64 p3, .int .i64 q3] 23)) := HD4.then ((bal (Below.refl _ _) _).mono HD4.size) hgW
        have x0 : (w4_.alloc (Obj.cells #[.int .i64 p3, .int .i64 q3] 23)).cell? ⟨w4_.heap.size, 0, none⟩ = some (.int .i64 p3) := by go_cell
        have x1 : (w4_.alloc (Obj.cells #[.int .i64 p3, .int .i64 q3] 23)).cell? ⟨w4_.heap.size, 1, none⟩ = some (.int .i64 q3) := by go_cell
        have sX : w4_.heap.size < (w4_.alloc (Obj.cells #[.int .i64 p3, .int .i64 q3] 23)).heap.size := by first | (simp; done) | (simp; omega)
        have sE := HE.size
        clear hHeld
        generalize (w4_.alloc (Obj.cells #[.int .i64 p3, .int .i64 q3] 23)) = V at *
        generalize w4_.heap.size = XB at *
        have HB := HE
        have hgV : g < V.heap.size := by omega
        have HV := Lib.hid HE
        obtain ⟨v00, v01, v02, v03, v10, v11, v12, v13⟩ := G0.out _ _ HE
        obtain ⟨u0, u1, u2, u3, t0, t1, t2, t3⟩ := G1.out _ _ HE
        have HDV : Wk g e3 V.heap.size V V := ⟨rfl, rfl, rfl, Nat.le_refl _, fun _ _ _ => rfl, HE.cell, HE.free⟩
        have J0 : Hid (∀ (e : Int) w', Wk g e V.heap.size V w' → w'.cell? ⟨w.heap.size, 0, none⟩ = some (.int .i64 a) ∧ w'.cell? ⟨w.heap.size, 1, none⟩ = some (.int .i64 b) ∧ w'.cell? ⟨w.heap.size, 2, none⟩ = some (.int .i64 c) ∧ w'.cell? ⟨w.heap.size, 3, none⟩ = some (.int .i64 d) ∧ w'.cell? ⟨w.heap.size + 1, 0, none⟩ = some (.int .i64 s) ∧ w'.cell? ⟨w.heap.size + 1, 1, none⟩ = some (.int .i64 t) ∧ w'.cell? ⟨w.heap.size + 1, 2, none⟩ = some (.int .i64 u) ∧ w'.cell? ⟨w.heap.size + 1, 3, none⟩ = some (.int .i64 v) ∧ w'.cell? ⟨XB, 0, none⟩ = some (.int .i64 p3) ∧ w'.cell? ⟨XB, 1, none⟩ = some (.int .i64 q3)) := Lib.hid (fun e w' hb => by
          exact ⟨(hb.cells.1 _ 0 (by omega) (by omega)).trans v00, (hb.cells.1 _ 1 (by omega) (by omega)).trans v01, (hb.cells.1 _ 2 (by omega) (by omega)).trans v02, (hb.cells.1 _ 3 (by omega) (by omega)).trans v03, (hb.cells.1 _ 0 (by omega) (by omega)).trans v10, (hb.cells.1 _ 1 (by omega) (by omega)).trans v11, (hb.cells.1 _ 2 (by omega) (by omega)).trans v12, (hb.cells.1 _ 3 (by omega) (by omega)).trans v13, (hb.cells.1 _ 0 (by omega) (by omega)).trans x0, (hb.cells.1 _ 1 (by omega) (by omega)).trans x1⟩)
        have J1 : Hid (∀ (e : Int) w', Wk g e V.heap.size V w' → w'.cell? ⟨w.heap.size + 1 + 1, 0, none⟩ = some (.int .i64 0) ∧ w'.cell? ⟨w.heap.size + 1 + 1, 1, none⟩ = some (.int .i64 0) ∧ w'.cell? ⟨w.heap.size + 1 + 1, 2, none⟩ = some (.int .i64 0) ∧ w'.cell? ⟨w.heap.size + 1 + 1, 3, none⟩ = some (.int .i64 0) ∧ w'.frozen? ⟨w.heap.size + 1 + 1, 0, none⟩ = false ∧ w'.frozen? ⟨w.heap.size + 1 + 1, 1, none⟩ = false ∧ w'.frozen? ⟨w.heap.size + 1 + 1, 2, none⟩ = false ∧ w'.frozen? ⟨w.heap.size + 1 + 1, 3, none⟩ = false) := Lib.hid (fun e w' hb => by
          exact ⟨(hb.cells.1 _ 0 (by omega) (by omega)).trans u0, (hb.cells.1 _ 1 (by omega) (by omega)).trans u1, (hb.cells.1 _ 2 (by omega) (by omega)).trans u2, (hb.cells.1 _ 3 (by omega) (by omega)).trans u3, (hb.cells.2 _ 0 (by omega) (by omega)).trans t0, (hb.cells.2 _ 1 (by omega) (by omega)).trans t1, (hb.cells.2 _ 2 (by omega) (by omega)).trans t2, (hb.cells.2 _ 3 (by omega) (by omega)).trans t3⟩)
        clear HB HE x0 x1 v00 v01 v02 v03 v10 v11 v12 v13 u0 t0 u1 t1 u2 t2 u3 t3
        have HD26 : Wk g e3 V.heap.size V V.drew := HDV.then ((Below.refl _ _).drew.mono HDV.size) hgV
        refine wp_region_held_drew (S := fun w' => w'.cell? ⟨w.heap.size, 0, none⟩ = some (.int .i64 a) ∧ w'.cell? ⟨w.heap.size, 1, none⟩ = some (.int .i64 b) ∧ w'.cell? ⟨w.heap.size, 2, none⟩ = some (.int .i64 c) ∧ w'.cell? ⟨w.heap.size, 3, none⟩ = some (.int .i64 d) ∧ w'.cell? ⟨w.heap.size + 1, 0, none⟩ = some (.int .i64 s) ∧ w'.cell? ⟨w.heap.size + 1, 1, none⟩ = some (.int .i64 t) ∧ w'.cell? ⟨w.heap.size + 1, 2, none⟩ = some (.int .i64 u) ∧ w'.cell? ⟨w.heap.size + 1, 3, none⟩ = some (.int .i64 v) ∧ w'.cell? ⟨XB, 0, none⟩ = some (.int .i64 p3) ∧ w'.cell? ⟨XB, 1, none⟩ = some (.int .i64 q3)) (by kernel_rfl) (J0.out _ _ HD26) (fun hHeld => ?_)
        refine wpAnyH_take (i := 0) (oi := _) (v := ?_) rfl (by kernel_rfl) (by kernel_rfl) (by kernel_rfl) (fun _ _ _ h => h) (Or.inl ⟨by rfl, ?_⟩) (by assumption) ?_
        rotate_left
        · intro w hSw; obtain ⟨_, _, _, _, _, _, _, _, _, _⟩ := hSw; go_simp; (try with_reducible rfl)
        try change wpAnyH _ _ _ _ _ _ _ (Act.put _ (some 22) _) _
        try simp only [act_all]
        refine wpAnyH_take (i := 1) (oi := _) (v := ?_) rfl (by kernel_rfl) (by kernel_rfl) (by kernel_rfl) (fun _ _ _ h => h) (Or.inl ⟨by rfl, ?_⟩) (by assumption) ?_
        rotate_left
        · intro w hSw; obtain ⟨_, _, _, _, _, _, _, _, _, _⟩ := hSw; go_simp; (try with_reducible rfl)
        try change wpAnyH _ _ _ _ _ _ _ (Act.put _ (some 23) _) _
        try simp only [act_all]
        refine wpAnyH_take (i := 2) (oi := _) (v := ?_) rfl (by kernel_rfl) (by kernel_rfl) (by kernel_rfl) (fun _ _ _ h => h) (Or.inl ⟨by rfl, ?_⟩) (by assumption) ?_
        rotate_left
        · intro w hSw; obtain ⟨_, _, _, _, _, _, _, _, _, _⟩ := hSw; go_simp; (try with_reducible rfl)
        try change wpAnyH _ _ _ _ _ _ _ (Act.put _ (some 24) _) _
        try simp only [act_all]
        refine wpAnyH_take (i := 3) (oi := _) (v := ?_) rfl (by kernel_rfl) (by kernel_rfl) (by kernel_rfl) (fun _ _ _ h => h) (Or.inl ⟨by rfl, ?_⟩) (by assumption) ?_
        rotate_left
        · intro w hSw; obtain ⟨_, _, _, _, _, _, _, _, _, _⟩ := hSw; go_simp; (try with_reducible rfl)
        try change wpAnyH _ _ _ _ _ _ _ (Act.put _ (some 25) _) _
        try simp only [act_all]
        refine wpAnyH_take (i := 4) (oi := _) (v := ?_) rfl (by kernel_rfl) (by kernel_rfl) (by kernel_rfl) (fun _ _ _ h => h) (Or.inl ⟨by rfl, ?_⟩) (by assumption) ?_
        rotate_left
        · intro w hSw; obtain ⟨_, _, _, _, _, _, _, _, _, _⟩ := hSw; go_simp; (try with_reducible rfl)
        try change wpAnyH _ _ _ _ _ _ _ (Act.put _ (some 26) _) _
        try simp only [act_all]
        refine wpAnyH_take (i := 5) (oi := _) (v := ?_) rfl (by kernel_rfl) (by kernel_rfl) (by kernel_rfl) (fun _ _ _ h => h) (Or.inl ⟨by rfl, ?_⟩) (by assumption) ?_
        rotate_left
        · intro w hSw; obtain ⟨_, _, _, _, _, _, _, _, _, _⟩ := hSw; go_simp; (try with_reducible rfl)
        try change wpAnyH _ _ _ _ _ _ _ (Act.put _ (some 27) _) _
        try simp only [act_all]
        refine wpAnyH_take (i := 6) (oi := _) (v := ?_) rfl (by kernel_rfl) (by kernel_rfl) (by kernel_rfl) (fun _ _ _ h => h) (Or.inl ⟨by rfl, ?_⟩) (by assumption) ?_
        rotate_left
        · intro w hSw; obtain ⟨_, _, _, _, _, _, _, _, _, _⟩ := hSw; go_simp; (try with_reducible rfl)
        try change wpAnyH _ _ _ _ _ _ _ (Act.put _ (some 28) _) _
        try simp only [act_all]
        refine wpAnyH_take (i := 8) (oi := _) (v := ?_) rfl (by kernel_rfl) (by kernel_rfl) (by kernel_rfl) (fun _ _ _ h => h) (Or.inl ⟨by rfl, ?_⟩) (by assumption) ?_
        rotate_left
        · intro w hSw; obtain ⟨_, _, _, _, _, _, _, _, _, _⟩ := hSw; go_simp; (try with_reducible rfl)
        try change wpAnyH _ _ _ _ _ _ _ (Act.put _ (some 30) _) _
        try simp only [act_all]
        refine wpAnyH_take (i := 9) (oi := _) (v := ?_) rfl (by kernel_rfl) (by kernel_rfl) (by kernel_rfl) (fun _ _ _ h => h) (Or.inl ⟨by rfl, ?_⟩) (by assumption) ?_
        rotate_left
        · intro w hSw; obtain ⟨_, _, _, _, _, _, _, _, _, _⟩ := hSw; go_simp; (try with_reducible rfl)
        try change wpAnyH _ _ _ _ _ _ _ (Act.put _ (some 31) _) _
        try simp only [act_all]
        refine wpAnyH_take (i := 10) (oi := _) (v := ?_) rfl (by kernel_rfl) (by kernel_rfl) (by kernel_rfl) (fun _ _ _ h => h) (Or.inl ⟨by rfl, ?_⟩) (by assumption) ?_
        rotate_left
        · intro w hSw; obtain ⟨_, _, _, _, _, _, _, _, _, _⟩ := hSw; go_simp; (try with_reducible rfl)
        try change wpAnyH _ _ _ _ _ _ _ (Act.put _ (some 32) _) _
        try simp only [act_all]
        refine wpAnyH_take (i := 11) (oi := _) (v := ?_) rfl (by kernel_rfl) (by kernel_rfl) (by kernel_rfl) (fun _ _ _ h => h) (Or.inl ⟨by rfl, ?_⟩) (by assumption) ?_
        rotate_left
        · intro w hSw; obtain ⟨_, _, _, _, _, _, _, _, _, _⟩ := hSw; go_simp; (try with_reducible rfl)
        try change wpAnyH _ _ _ _ _ _ _ (Act.put _ (some 33) _) _
        try simp only [act_all]
        refine wpAnyH_take (i := 12) (oi := _) (v := ?_) rfl (by kernel_rfl) (by kernel_rfl) (by kernel_rfl) (fun _ _ _ h => h) (Or.inl ⟨by rfl, ?_⟩) (by assumption) ?_
        rotate_left
        · intro w hSw; obtain ⟨_, _, _, _, _, _, _, _, _, _⟩ := hSw; go_simp; (try with_reducible rfl)
        try change wpAnyH _ _ _ _ _ _ _ (Act.put _ (some 34) _) _
        try simp only [act_all]
        refine wpAnyH_ready (rs := [7]) (by kernel_rfl) (by simp) ?_
        refine AllReadyH.cons (o := _) rfl (fun K hK => ?_) AllReadyH.nil
        go_simp
        refine (rTimes_any a b u v e3 g _ H1.out H4.out HD26.cell HD26.free).mono ?_
        rintro e w27_ ⟨he, hb⟩
        obtain ⟨r, hr⟩ : ∃ r, (rn e3 (mulS ⟨a, b⟩ ⟨u, v⟩)) = r := ⟨_, rfl⟩
        rw [hr] at he hb
        obtain ⟨⟨p4, q4⟩, e4⟩ := r
        have HR27 := Lib.hid hr
        have HD27 : Wk g e4 V.heap.size V w27_ := HD26.trans (hb.mono HD26.size)
        obtain rfl : e = .returned (.agg #[.int .i64 p4, .int .i64 q4]) := he
        have hz27 := HD27.size
        have hq27 := hb.size
        (try simp at hq27)
        clear hb hHeld hr
        refine hK.out _ _ (J0.out _ _ HD27) (fun hHeld => ?_)
        clear hK K
        try simp only [act_all]
        refine wpAnyH_ready (rs := [13]) (by kernel_rfl) (by simp) ?_
        refine AllReadyH.cons (o := _) rfl (fun K hK => ?_) AllReadyH.nil
        go_simp
        refine (rTimes_any c d s t e4 g _ H2.out H3.out HD27.cell HD27.free).mono ?_
        rintro e w28_ ⟨he, hb⟩
        obtain ⟨r, hr⟩ : ∃ r, (rn e4 (mulS ⟨c, d⟩ ⟨s, t⟩)) = r := ⟨_, rfl⟩
        rw [hr] at he hb
        obtain ⟨⟨p5, q5⟩, e5⟩ := r
        have HR28 := Lib.hid hr
        have HD28 : Wk g e5 V.heap.size V w28_ := HD27.trans (hb.mono HD27.size)
        obtain rfl : e = .returned (.agg #[.int .i64 p5, .int .i64 q5]) := he
        have hz28 := HD28.size
        have hq28 := hb.size
        (try simp at hq28)
        clear hb hHeld hr
        refine hK.out _ _ (J0.out _ _ HD28) (fun hHeld => ?_)
        clear hK K
        try simp only [act_all]
        refine wpAnyH_ready (rs := [14]) (by kernel_rfl) (by simp) ?_
        refine AllReadyH.cons (o := _) rfl (fun K hK => ?_) AllReadyH.nil
        go_simp
        refine (rSum_any p4 q4 p5 q5 e5 g _ (rn_okS HR27.out (fun _ h => mulS_ok h)) (rn_okS HR28.out (fun _ h => mulS_ok h)) HD28.cell HD28.free).mono ?_
        rintro e w29_ ⟨he, hb⟩
        obtain ⟨r, hr⟩ : ∃ r, (rn e5 (addS ⟨p4, q4⟩ ⟨p5, q5⟩)) = r := ⟨_, rfl⟩
        rw [hr] at he hb
        obtain ⟨⟨p6, q6⟩, e6⟩ := r
        have HR29 := Lib.hid hr
        have HD29 : Wk g e6 V.heap.size V w29_ := HD28.trans (hb.mono HD28.size)
        obtain rfl : e = .returned (.agg #[.int .i64 p6, .int .i64 q6]) := he
        have hz29 := HD29.size
        have hq29 := hb.size
        (try simp at hq29)
        clear hb hHeld hr
        refine hK.out _ _ (J0.out _ _ HD29) (fun hHeld => ?_)
        clear hK K
        try simp only [act_all]
        refine wpAnyH_take (i := 15) (oi := _) (v := ?_) rfl (by kernel_rfl) (by kernel_rfl) (by kernel_rfl) (fun _ _ _ h => h) (Or.inl ⟨by rfl, ?_⟩) (by assumption) ?_
        rotate_left
        · intro w hSw; obtain ⟨_, _, _, _, _, _, _, _, _, _⟩ := hSw; go_simp; (try with_reducible rfl)
        try change wpAnyH _ _ _ _ _ _ _ (Act.put _ (some 37) _) _
        try simp only [act_all]
        refine wpAnyH_ready (rs := [16]) (by kernel_rfl) (by simp) ?_
        refine AllReadyH.cons (o := _) rfl (fun K hK => ?_) AllReadyH.nil
        obtain ⟨_, _, _, _, _, _, _, _, _, _⟩ := J0.out _ _ HD29
        obtain ⟨_, _, _, _, _, _, _, _⟩ := J1.out _ _ HD29
        have nb0 : w.heap.size < w29_.heap.size := by omega
        have nb1 : w.heap.size + 1 < w29_.heap.size := by omega
        have nb2 : w.heap.size + 1 + 1 < w29_.heap.size := by omega
        have nx0 : ¬ XB = w.heap.size := by omega
        have nx1 : ¬ XB = w.heap.size + 1 := by omega
        have nx2 : ¬ XB = w.heap.size + 1 + 1 := by omega
        go_simp
        refine hK.out _ _ (by refine ⟨?_, ?_, ?_, ?_, ?_, ?_, ?_, ?_, ?_, ?_⟩ <;> go_cell) (fun hHeld => ?_)
        clear hK K
        try simp only [act_all]
        refine wpAnyH_done (by kernel_rfl) ?_ _
        have HN : Hid (SP = (⟨⟨p3, q3⟩, ⟨p6, q6⟩⟩, e6)) := Lib.hid (by rw [← HSP.out]; simp only [mulW, HR2.out, HR3.out, HR4.out, HR27.out, HR28.out, HR29.out]; (try rfl))
        have HWF := Lib.hid ((HW0.out.trans (HV.out.mono HW0.out.size)).trans (HD29.mono (Nat.le_trans HW0.out.size HV.out.size)))
        have DL : Below w.heap.size w29_ w29_ := Below.refl _ _
        go_wp2_with fail
        refine bodyPost_ret (v := .agg #[.int .i64 p3, .int .i64 q3, .int .i64 p6, .int .i64 q6]) (by simp [results, Try.results75, go_sem, *]) rfl ⟨?_, ?_⟩
        · rw [HN.out]; rfl
        · rw [HN.out]; exact HWF.out.then (by go_grown) hg
      refine AllReadyH.cons (o := _) rfl (fun K hK => ?_) AllReadyH.nil
      have HD6 : Wk g e2 W.heap.size W (w3_.alloc (Obj.cells #[.int .i64 0, .int .i64 0] 23)) := HD3.then ((bal (Below.refl _ _) _).mono HD3.size) hgW
      go_simp
      refine hK.out _ _ (G0.out _ _ HD6) (fun hHeld => ?_)
      clear hK K
      try simp only [act_all]
      refine wpAnyH_ready (rs := [13]) (by kernel_rfl) (by simp) ?_
      refine AllReadyH.cons (o := _) rfl (fun K hK => ?_) AllReadyH.nil
      go_simp
      refine (rLess_any p1 q1 p2 q2 e2 g _ (rn_okS HR2.out (fun _ h => mulS_ok h)) (rn_okS HR3.out (fun _ h => mulS_ok h)) HD6.cell HD6.free).mono ?_
      rintro e w7_ ⟨he, hb⟩
      obtain ⟨r, hr⟩ : ∃ r, (rn e2 (subS ⟨p1, q1⟩ ⟨p2, q2⟩)) = r := ⟨_, rfl⟩
      rw [hr] at he hb
      obtain ⟨⟨p3, q3⟩, e3⟩ := r
      have HR7 := Lib.hid hr
      have HD7 : Wk g e3 W.heap.size W w7_ := HD6.trans (hb.mono HD6.size)
      obtain rfl : e = .returned (.agg #[.int .i64 p3, .int .i64 q3]) := he
      have hz7 := HD7.size
      have hq7 := hb.size
      (try simp at hq7)
      have t7_0 := (hb.cells.1 (w3_.heap.size) 0 (by first | omega | (simp; done) | (simp; omega)) (by omega)).trans (by go_cell : _ = some (.int .i64 0))
      have z7_0 := (hb.cells.2 (w3_.heap.size) 0 (by first | omega | (simp; done) | (simp; omega)) (by omega)).trans (by go_cell : _ = false)
      have t7_1 := (hb.cells.1 (w3_.heap.size) 1 (by first | omega | (simp; done) | (simp; omega)) (by omega)).trans (by go_cell : _ = some (.int .i64 0))
      have z7_1 := (hb.cells.2 (w3_.heap.size) 1 (by first | omega | (simp; done) | (simp; omega)) (by omega)).trans (by go_cell : _ = false)
      have l7 : w3_.heap.size < w7_.heap.size := by omega
      clear hb hHeld hr
      refine hK.out _ _ (G0.out _ _ HD7) (fun hHeld => ?_)
      clear hK K
      try simp only [act_all]
      refine wpAnyH_ready (rs := [15]) (by kernel_rfl) (by simp) ?_
      refine AllReadyH.cons (o := _) rfl (fun K hK => ?_) AllReadyH.nil
      obtain ⟨_, _, _, _, _, _, _, _⟩ := G0.out _ _ HD7
      obtain ⟨_, _, _, _, _, _, _, _⟩ := G1.out _ _ HD7
      have nb0 : w.heap.size < w7_.heap.size := by omega
      have nb1 : w.heap.size + 1 < w7_.heap.size := by omega
      have nb2 : w.heap.size + 1 + 1 < w7_.heap.size := by omega
      have nx0 : ¬ w3_.heap.size = w.heap.size := by omega
      have nx1 : ¬ w3_.heap.size = w.heap.size + 1 := by omega
      have nx2 : ¬ w3_.heap.size = w.heap.size + 1 + 1 := by omega
      go_simp
      refine hK.out _ _ (by refine ⟨?_, ?_, ?_, ?_, ?_, ?_, ?_, ?_⟩ <;> go_cell) (fun hHeld => ?_)
      clear hK K
      try simp only [act_all]
      refine wpAnyH_done (by kernel_rfl) ?_ _
      go_upto_region 2 with fail
      have hX : W.heap.size ≤ w3_.heap.size := by omega
      have HE : Wk g e3 W.heap.size W ((w7_.setCell ⟨w3_.heap.size, 0, none⟩ (.int .i64 p3)).setCell ⟨w3_.heap.size, 1, none⟩ (.int .i64 q3)) := HD7.then (((Below.refl _ _).setCell (p := ⟨w3_.heap.size, 0, none⟩) (by simp only; omega) (.int .i64 p3)).setCell (p := ⟨w3_.heap.size, 1, none⟩) (by simp only; omega) (.int .i64 q3)) hgW
      have x0 : ((w7_.setCell ⟨w3_.heap.size, 0, none⟩ (.int .i64 p3)).setCell ⟨w3_.heap.size, 1, none⟩ (.int .i64 q3)).cell? ⟨w3_.heap.size, 0, none⟩ = some (.int .i64 p3) := by go_cell
      have x1 : ((w7_.setCell ⟨w3_.heap.size, 0, none⟩ (.int .i64 p3)).setCell ⟨w3_.heap.size, 1, none⟩ (.int .i64 q3)).cell? ⟨w3_.heap.size, 1, none⟩ = some (.int .i64 q3) := by go_cell
      have sX : w3_.heap.size < ((w7_.setCell ⟨w3_.heap.size, 0, none⟩ (.int .i64 p3)).setCell ⟨w3_.heap.size, 1, none⟩ (.int .i64 q3)).heap.size := by first | (simp; done) | (simp; omega)
      have sE := HE.size
      clear hHeld
      generalize ((w7_.setCell ⟨w3_.heap.size, 0, none⟩ (.int .i64 p3)).setCell ⟨w3_.heap.size, 1, none⟩ (.int .i64 q3)) = V at *
      generalize w3_.heap.size = XB at *
      have HB := HE
      have hgV : g < V.heap.size := by omega
      have HV := Lib.hid HE
      obtain ⟨v00, v01, v02, v03, v10, v11, v12, v13⟩ := G0.out _ _ HE
      obtain ⟨u0, u1, u2, u3, t0, t1, t2, t3⟩ := G1.out _ _ HE
      have HDV : Wk g e3 V.heap.size V V := ⟨rfl, rfl, rfl, Nat.le_refl _, fun _ _ _ => rfl, HE.cell, HE.free⟩
      have J0 : Hid (∀ (e : Int) w', Wk g e V.heap.size V w' → w'.cell? ⟨w.heap.size, 0, none⟩ = some (.int .i64 a) ∧ w'.cell? ⟨w.heap.size, 1, none⟩ = some (.int .i64 b) ∧ w'.cell? ⟨w.heap.size, 2, none⟩ = some (.int .i64 c) ∧ w'.cell? ⟨w.heap.size, 3, none⟩ = some (.int .i64 d) ∧ w'.cell? ⟨w.heap.size + 1, 0, none⟩ = some (.int .i64 s) ∧ w'.cell? ⟨w.heap.size + 1, 1, none⟩ = some (.int .i64 t) ∧ w'.cell? ⟨w.heap.size + 1, 2, none⟩ = some (.int .i64 u) ∧ w'.cell? ⟨w.heap.size + 1, 3, none⟩ = some (.int .i64 v) ∧ w'.cell? ⟨XB, 0, none⟩ = some (.int .i64 p3) ∧ w'.cell? ⟨XB, 1, none⟩ = some (.int .i64 q3)) := Lib.hid (fun e w' hb => by
        exact ⟨(hb.cells.1 _ 0 (by omega) (by omega)).trans v00, (hb.cells.1 _ 1 (by omega) (by omega)).trans v01, (hb.cells.1 _ 2 (by omega) (by omega)).trans v02, (hb.cells.1 _ 3 (by omega) (by omega)).trans v03, (hb.cells.1 _ 0 (by omega) (by omega)).trans v10, (hb.cells.1 _ 1 (by omega) (by omega)).trans v11, (hb.cells.1 _ 2 (by omega) (by omega)).trans v12, (hb.cells.1 _ 3 (by omega) (by omega)).trans v13, (hb.cells.1 _ 0 (by omega) (by omega)).trans x0, (hb.cells.1 _ 1 (by omega) (by omega)).trans x1⟩)
      have J1 : Hid (∀ (e : Int) w', Wk g e V.heap.size V w' → w'.cell? ⟨w.heap.size + 1 + 1, 0, none⟩ = some (.int .i64 0) ∧ w'.cell? ⟨w.heap.size + 1 + 1, 1, none⟩ = some (.int .i64 0) ∧ w'.cell? ⟨w.heap.size + 1 + 1, 2, none⟩ = some (.int .i64 0) ∧ w'.cell? ⟨w.heap.size + 1 + 1, 3, none⟩ = some (.int .i64 0) ∧ w'.frozen? ⟨w.heap.size + 1 + 1, 0, none⟩ = false ∧ w'.frozen? ⟨w.heap.size + 1 + 1, 1, none⟩ = false ∧ w'.frozen? ⟨w.heap.size + 1 + 1, 2, none⟩ = false ∧ w'.frozen? ⟨w.heap.size + 1 + 1, 3, none⟩ = false) := Lib.hid (fun e w' hb => by
        exact ⟨(hb.cells.1 _ 0 (by omega) (by omega)).trans u0, (hb.cells.1 _ 1 (by omega) (by omega)).trans u1, (hb.cells.1 _ 2 (by omega) (by omega)).trans u2, (hb.cells.1 _ 3 (by omega) (by omega)).trans u3, (hb.cells.2 _ 0 (by omega) (by omega)).trans t0, (hb.cells.2 _ 1 (by omega) (by omega)).trans t1, (hb.cells.2 _ 2 (by omega) (by omega)).trans t2, (hb.cells.2 _ 3 (by omega) (by omega)).trans t3⟩)
      clear HB HE x0 x1 v00 v01 v02 v03 v10 v11 v12 v13 u0 t0 u1 t1 u2 t2 u3 t3
      have HD28 : Wk g e3 V.heap.size V V.drew := HDV.then ((Below.refl _ _).drew.mono HDV.size) hgV
      refine wp_region_held_drew (S := fun w' => w'.cell? ⟨w.heap.size, 0, none⟩ = some (.int .i64 a) ∧ w'.cell? ⟨w.heap.size, 1, none⟩ = some (.int .i64 b) ∧ w'.cell? ⟨w.heap.size, 2, none⟩ = some (.int .i64 c) ∧ w'.cell? ⟨w.heap.size, 3, none⟩ = some (.int .i64 d) ∧ w'.cell? ⟨w.heap.size + 1, 0, none⟩ = some (.int .i64 s) ∧ w'.cell? ⟨w.heap.size + 1, 1, none⟩ = some (.int .i64 t) ∧ w'.cell? ⟨w.heap.size + 1, 2, none⟩ = some (.int .i64 u) ∧ w'.cell? ⟨w.heap.size + 1, 3, none⟩ = some (.int .i64 v) ∧ w'.cell? ⟨XB, 0, none⟩ = some (.int .i64 p3) ∧ w'.cell? ⟨XB, 1, none⟩ = some (.int .i64 q3)) (by kernel_rfl) (J0.out _ _ HD28) (fun hHeld => ?_)
      refine wpAnyH_take (i := 0) (oi := _) (v := ?_) rfl (by kernel_rfl) (by kernel_rfl) (by kernel_rfl) (fun _ _ _ h => h) (Or.inl ⟨by rfl, ?_⟩) (by assumption) ?_
      rotate_left
      · intro w hSw; obtain ⟨_, _, _, _, _, _, _, _, _, _⟩ := hSw; go_simp; (try with_reducible rfl)
      try change wpAnyH _ _ _ _ _ _ _ (Act.put _ (some 22) _) _
      try simp only [act_all]
      refine wpAnyH_take (i := 1) (oi := _) (v := ?_) rfl (by kernel_rfl) (by kernel_rfl) (by kernel_rfl) (fun _ _ _ h => h) (Or.inl ⟨by rfl, ?_⟩) (by assumption) ?_
      rotate_left
      · intro w hSw; obtain ⟨_, _, _, _, _, _, _, _, _, _⟩ := hSw; go_simp; (try with_reducible rfl)
      try change wpAnyH _ _ _ _ _ _ _ (Act.put _ (some 23) _) _
      try simp only [act_all]
      refine wpAnyH_take (i := 2) (oi := _) (v := ?_) rfl (by kernel_rfl) (by kernel_rfl) (by kernel_rfl) (fun _ _ _ h => h) (Or.inl ⟨by rfl, ?_⟩) (by assumption) ?_
      rotate_left
      · intro w hSw; obtain ⟨_, _, _, _, _, _, _, _, _, _⟩ := hSw; go_simp; (try with_reducible rfl)
      try change wpAnyH _ _ _ _ _ _ _ (Act.put _ (some 24) _) _
      try simp only [act_all]
      refine wpAnyH_take (i := 3) (oi := _) (v := ?_) rfl (by kernel_rfl) (by kernel_rfl) (by kernel_rfl) (fun _ _ _ h => h) (Or.inl ⟨by rfl, ?_⟩) (by assumption) ?_
      rotate_left
      · intro w hSw; obtain ⟨_, _, _, _, _, _, _, _, _, _⟩ := hSw; go_simp; (try with_reducible rfl)
      try change wpAnyH _ _ _ _ _ _ _ (Act.put _ (some 25) _) _
      try simp only [act_all]
      refine wpAnyH_take (i := 4) (oi := _) (v := ?_) rfl (by kernel_rfl) (by kernel_rfl) (by kernel_rfl) (fun _ _ _ h => h) (Or.inl ⟨by rfl, ?_⟩) (by assumption) ?_
      rotate_left
      · intro w hSw; obtain ⟨_, _, _, _, _, _, _, _, _, _⟩ := hSw; go_simp; (try with_reducible rfl)
      try change wpAnyH _ _ _ _ _ _ _ (Act.put _ (some 26) _) _
      try simp only [act_all]
      refine wpAnyH_take (i := 5) (oi := _) (v := ?_) rfl (by kernel_rfl) (by kernel_rfl) (by kernel_rfl) (fun _ _ _ h => h) (Or.inl ⟨by rfl, ?_⟩) (by assumption) ?_
      rotate_left
      · intro w hSw; obtain ⟨_, _, _, _, _, _, _, _, _, _⟩ := hSw; go_simp; (try with_reducible rfl)
      try change wpAnyH _ _ _ _ _ _ _ (Act.put _ (some 27) _) _
      try simp only [act_all]
      refine wpAnyH_take (i := 6) (oi := _) (v := ?_) rfl (by kernel_rfl) (by kernel_rfl) (by kernel_rfl) (fun _ _ _ h => h) (Or.inl ⟨by rfl, ?_⟩) (by assumption) ?_
      rotate_left
      · intro w hSw; obtain ⟨_, _, _, _, _, _, _, _, _, _⟩ := hSw; go_simp; (try with_reducible rfl)
      try change wpAnyH _ _ _ _ _ _ _ (Act.put _ (some 28) _) _
      try simp only [act_all]
      refine wpAnyH_take (i := 8) (oi := _) (v := ?_) rfl (by kernel_rfl) (by kernel_rfl) (by kernel_rfl) (fun _ _ _ h => h) (Or.inl ⟨by rfl, ?_⟩) (by assumption) ?_
      rotate_left
      · intro w hSw; obtain ⟨_, _, _, _, _, _, _, _, _, _⟩ := hSw; go_simp; (try with_reducible rfl)
      try change wpAnyH _ _ _ _ _ _ _ (Act.put _ (some 30) _) _
      try simp only [act_all]
      refine wpAnyH_take (i := 9) (oi := _) (v := ?_) rfl (by kernel_rfl) (by kernel_rfl) (by kernel_rfl) (fun _ _ _ h => h) (Or.inl ⟨by rfl, ?_⟩) (by assumption) ?_
      rotate_left
      · intro w hSw; obtain ⟨_, _, _, _, _, _, _, _, _, _⟩ := hSw; go_simp; (try with_reducible rfl)
      try change wpAnyH _ _ _ _ _ _ _ (Act.put _ (some 31) _) _
      try simp only [act_all]
      refine wpAnyH_take (i := 10) (oi := _) (v := ?_) rfl (by kernel_rfl) (by kernel_rfl) (by kernel_rfl) (fun _ _ _ h => h) (Or.inl ⟨by rfl, ?_⟩) (by assumption) ?_
      rotate_left
      · intro w hSw; obtain ⟨_, _, _, _, _, _, _, _, _, _⟩ := hSw; go_simp; (try with_reducible rfl)
      try change wpAnyH _ _ _ _ _ _ _ (Act.put _ (some 32) _) _
      try simp only [act_all]
      refine wpAnyH_take (i := 11) (oi := _) (v := ?_) rfl (by kernel_rfl) (by kernel_rfl) (by kernel_rfl) (fun _ _ _ h => h) (Or.inl ⟨by rfl, ?_⟩) (by assumption) ?_
      rotate_left
      · intro w hSw; obtain ⟨_, _, _, _, _, _, _, _, _, _⟩ := hSw; go_simp; (try with_reducible rfl)
      try change wpAnyH _ _ _ _ _ _ _ (Act.put _ (some 33) _) _
      try simp only [act_all]
      refine wpAnyH_take (i := 12) (oi := _) (v := ?_) rfl (by kernel_rfl) (by kernel_rfl) (by kernel_rfl) (fun _ _ _ h => h) (Or.inl ⟨by rfl, ?_⟩) (by assumption) ?_
      rotate_left
      · intro w hSw; obtain ⟨_, _, _, _, _, _, _, _, _, _⟩ := hSw; go_simp; (try with_reducible rfl)
      try change wpAnyH _ _ _ _ _ _ _ (Act.put _ (some 34) _) _
      try simp only [act_all]
      refine wpAnyH_ready (rs := [7]) (by kernel_rfl) (by simp) ?_
      refine AllReadyH.cons (o := _) rfl (fun K hK => ?_) AllReadyH.nil
      go_simp
      refine (rTimes_any a b u v e3 g _ H1.out H4.out HD28.cell HD28.free).mono ?_
      rintro e w29_ ⟨he, hb⟩
      obtain ⟨r, hr⟩ : ∃ r, (rn e3 (mulS ⟨a, b⟩ ⟨u, v⟩)) = r := ⟨_, rfl⟩
      rw [hr] at he hb
      obtain ⟨⟨p4, q4⟩, e4⟩ := r
      have HR29 := Lib.hid hr
      have HD29 : Wk g e4 V.heap.size V w29_ := HD28.trans (hb.mono HD28.size)
      obtain rfl : e = .returned (.agg #[.int .i64 p4, .int .i64 q4]) := he
      have hz29 := HD29.size
      have hq29 := hb.size
      (try simp at hq29)
      clear hb hHeld hr
      refine hK.out _ _ (J0.out _ _ HD29) (fun hHeld => ?_)
      clear hK K
      try simp only [act_all]
      refine wpAnyH_ready (rs := [13]) (by kernel_rfl) (by simp) ?_
      refine AllReadyH.cons (o := _) rfl (fun K hK => ?_) AllReadyH.nil
      go_simp
      refine (rTimes_any c d s t e4 g _ H2.out H3.out HD29.cell HD29.free).mono ?_
      rintro e w30_ ⟨he, hb⟩
      obtain ⟨r, hr⟩ : ∃ r, (rn e4 (mulS ⟨c, d⟩ ⟨s, t⟩)) = r := ⟨_, rfl⟩
      rw [hr] at he hb
      obtain ⟨⟨p5, q5⟩, e5⟩ := r
      have HR30 := Lib.hid hr
      have HD30 : Wk g e5 V.heap.size V w30_ := HD29.trans (hb.mono HD29.size)
      obtain rfl : e = .returned (.agg #[.int .i64 p5, .int .i64 q5]) := he
      have hz30 := HD30.size
      have hq30 := hb.size
      (try simp at hq30)
      clear hb hHeld hr
      refine hK.out _ _ (J0.out _ _ HD30) (fun hHeld => ?_)
      clear hK K
      try simp only [act_all]
      refine wpAnyH_ready (rs := [14]) (by kernel_rfl) (by simp) ?_
      refine AllReadyH.cons (o := _) rfl (fun K hK => ?_) AllReadyH.nil
      go_simp
      refine (rSum_any p4 q4 p5 q5 e5 g _ (rn_okS HR29.out (fun _ h => mulS_ok h)) (rn_okS HR30.out (fun _ h => mulS_ok h)) HD30.cell HD30.free).mono ?_
      rintro e w31_ ⟨he, hb⟩
      obtain ⟨r, hr⟩ : ∃ r, (rn e5 (addS ⟨p4, q4⟩ ⟨p5, q5⟩)) = r := ⟨_, rfl⟩
      rw [hr] at he hb
      obtain ⟨⟨p6, q6⟩, e6⟩ := r
      have HR31 := Lib.hid hr
      have HD31 : Wk g e6 V.heap.size V w31_ := HD30.trans (hb.mono HD30.size)
      obtain rfl : e = .returned (.agg #[.int .i64 p6, .int .i64 q6]) := he
      have hz31 := HD31.size
      have hq31 := hb.size
      (try simp at hq31)
      clear hb hHeld hr
      refine hK.out _ _ (J0.out _ _ HD31) (fun hHeld => ?_)
      clear hK K
      try simp only [act_all]
      refine wpAnyH_take (i := 15) (oi := _) (v := ?_) rfl (by kernel_rfl) (by kernel_rfl) (by kernel_rfl) (fun _ _ _ h => h) (Or.inl ⟨by rfl, ?_⟩) (by assumption) ?_
      rotate_left
      · intro w hSw; obtain ⟨_, _, _, _, _, _, _, _, _, _⟩ := hSw; go_simp; (try with_reducible rfl)
      try change wpAnyH _ _ _ _ _ _ _ (Act.put _ (some 37) _) _
      try simp only [act_all]
      refine wpAnyH_ready (rs := [16]) (by kernel_rfl) (by simp) ?_
      refine AllReadyH.cons (o := _) rfl (fun K hK => ?_) AllReadyH.nil
      obtain ⟨_, _, _, _, _, _, _, _, _, _⟩ := J0.out _ _ HD31
      obtain ⟨_, _, _, _, _, _, _, _⟩ := J1.out _ _ HD31
      have nb0 : w.heap.size < w31_.heap.size := by omega
      have nb1 : w.heap.size + 1 < w31_.heap.size := by omega
      have nb2 : w.heap.size + 1 + 1 < w31_.heap.size := by omega
      have nx0 : ¬ XB = w.heap.size := by omega
      have nx1 : ¬ XB = w.heap.size + 1 := by omega
      have nx2 : ¬ XB = w.heap.size + 1 + 1 := by omega
      go_simp
      refine hK.out _ _ (by refine ⟨?_, ?_, ?_, ?_, ?_, ?_, ?_, ?_, ?_, ?_⟩ <;> go_cell) (fun hHeld => ?_)
      clear hK K
      try simp only [act_all]
      refine wpAnyH_done (by kernel_rfl) ?_ _
      have HN : Hid (SP = (⟨⟨p3, q3⟩, ⟨p6, q6⟩⟩, e6)) := Lib.hid (by rw [← HSP.out]; simp only [mulW, HR2.out, HR3.out, HR7.out, HR29.out, HR30.out, HR31.out]; (try rfl))
      have HWF := Lib.hid ((HW0.out.trans (HV.out.mono HW0.out.size)).trans (HD31.mono (Nat.le_trans HW0.out.size HV.out.size)))
      have DL : Below w.heap.size w31_ w31_ := Below.refl _ _
      go_wp2_with fail
      refine bodyPost_ret (v := .agg #[.int .i64 p3, .int .i64 q3, .int .i64 p6, .int .i64 q6]) (by simp [results, Try.results75, go_sem, *]) rfl ⟨?_, ?_⟩
      · rw [HN.out]; rfl
      · rw [HN.out]; exact HWF.out.then (by go_grown) hg
    refine AllReadyH.cons (o := _) rfl (fun K hK => ?_) AllReadyH.nil
    have HD8 : Wk g e1 W.heap.size W (w2_.alloc (Obj.cells #[.int .i64 0, .int .i64 0] 23)) := HD2.then ((bal (Below.refl _ _) _).mono HD2.size) hgW
    go_simp
    refine hK.out _ _ (G0.out _ _ HD8) (fun hHeld => ?_)
    clear hK K
    try simp only [act_all]
    refine wpAnyH_ready (rs := [12]) (by kernel_rfl) (by simp) ?_
    refine AllReadyH.cons (o := _) rfl (fun K hK => ?_) AllReadyH.nil
    go_simp
    refine (rTimes_any c d u v e1 g _ H2.out H4.out HD8.cell HD8.free).mono ?_
    rintro e w9_ ⟨he, hb⟩
    obtain ⟨r, hr⟩ : ∃ r, (rn e1 (mulS ⟨c, d⟩ ⟨u, v⟩)) = r := ⟨_, rfl⟩
    rw [hr] at he hb
    obtain ⟨⟨p2, q2⟩, e2⟩ := r
    have HR9 := Lib.hid hr
    have HD9 : Wk g e2 W.heap.size W w9_ := HD8.trans (hb.mono HD8.size)
    obtain rfl : e = .returned (.agg #[.int .i64 p2, .int .i64 q2]) := he
    have hz9 := HD9.size
    have hq9 := hb.size
    (try simp at hq9)
    have t9_0 := (hb.cells.1 (w2_.heap.size) 0 (by first | omega | (simp; done) | (simp; omega)) (by omega)).trans (by go_cell : _ = some (.int .i64 0))
    have z9_0 := (hb.cells.2 (w2_.heap.size) 0 (by first | omega | (simp; done) | (simp; omega)) (by omega)).trans (by go_cell : _ = false)
    have t9_1 := (hb.cells.1 (w2_.heap.size) 1 (by first | omega | (simp; done) | (simp; omega)) (by omega)).trans (by go_cell : _ = some (.int .i64 0))
    have z9_1 := (hb.cells.2 (w2_.heap.size) 1 (by first | omega | (simp; done) | (simp; omega)) (by omega)).trans (by go_cell : _ = false)
    have l9 : w2_.heap.size < w9_.heap.size := by omega
    clear hb hHeld hr
    refine hK.out _ _ (G0.out _ _ HD9) (fun hHeld => ?_)
    clear hK K
    try simp only [act_all]
    refine wpAnyH_ready (rs := [13]) (by kernel_rfl) (by simp) ?_
    refine AllReadyH.cons (o := _) rfl (fun K hK => ?_) AllReadyH.nil
    go_simp
    refine (rLess_any p1 q1 p2 q2 e2 g _ (rn_okS HR2.out (fun _ h => mulS_ok h)) (rn_okS HR9.out (fun _ h => mulS_ok h)) HD9.cell HD9.free).mono ?_
    rintro e w10_ ⟨he, hb⟩
    obtain ⟨r, hr⟩ : ∃ r, (rn e2 (subS ⟨p1, q1⟩ ⟨p2, q2⟩)) = r := ⟨_, rfl⟩
    rw [hr] at he hb
    obtain ⟨⟨p3, q3⟩, e3⟩ := r
    have HR10 := Lib.hid hr
    have HD10 : Wk g e3 W.heap.size W w10_ := HD9.trans (hb.mono HD9.size)
    obtain rfl : e = .returned (.agg #[.int .i64 p3, .int .i64 q3]) := he
    have hz10 := HD10.size
    have hq10 := hb.size
    (try simp at hq10)
    have t10_0 := (hb.cells.1 (w2_.heap.size) 0 (by first | omega | (simp; done) | (simp; omega)) (by omega)).trans (by go_cell : _ = some (.int .i64 0))
    have z10_0 := (hb.cells.2 (w2_.heap.size) 0 (by first | omega | (simp; done) | (simp; omega)) (by omega)).trans (by go_cell : _ = false)
    have t10_1 := (hb.cells.1 (w2_.heap.size) 1 (by first | omega | (simp; done) | (simp; omega)) (by omega)).trans (by go_cell : _ = some (.int .i64 0))
    have z10_1 := (hb.cells.2 (w2_.heap.size) 1 (by first | omega | (simp; done) | (simp; omega)) (by omega)).trans (by go_cell : _ = false)
    have l10 : w2_.heap.size < w10_.heap.size := by omega
    clear hb hHeld hr
    refine hK.out _ _ (G0.out _ _ HD10) (fun hHeld => ?_)
    clear hK K
    try simp only [act_all]
    refine wpAnyH_ready (rs := [15]) (by kernel_rfl) (by simp) ?_
    refine AllReadyH.cons (o := _) rfl (fun K hK => ?_) AllReadyH.nil
    obtain ⟨_, _, _, _, _, _, _, _⟩ := G0.out _ _ HD10
    obtain ⟨_, _, _, _, _, _, _, _⟩ := G1.out _ _ HD10
    have nb0 : w.heap.size < w10_.heap.size := by omega
    have nb1 : w.heap.size + 1 < w10_.heap.size := by omega
    have nb2 : w.heap.size + 1 + 1 < w10_.heap.size := by omega
    have nx0 : ¬ w2_.heap.size = w.heap.size := by omega
    have nx1 : ¬ w2_.heap.size = w.heap.size + 1 := by omega
    have nx2 : ¬ w2_.heap.size = w.heap.size + 1 + 1 := by omega
    go_simp
    refine hK.out _ _ (by refine ⟨?_, ?_, ?_, ?_, ?_, ?_, ?_, ?_⟩ <;> go_cell) (fun hHeld => ?_)
    clear hK K
    try simp only [act_all]
    refine wpAnyH_done (by kernel_rfl) ?_ _
    go_upto_region 2 with fail
    have hX : W.heap.size ≤ w2_.heap.size := by omega
    have HE : Wk g e3 W.heap.size W ((w10_.setCell ⟨w2_.heap.size, 0, none⟩ (.int .i64 p3)).setCell ⟨w2_.heap.size, 1, none⟩ (.int .i64 q3)) := HD10.then (((Below.refl _ _).setCell (p := ⟨w2_.heap.size, 0, none⟩) (by simp only; omega) (.int .i64 p3)).setCell (p := ⟨w2_.heap.size, 1, none⟩) (by simp only; omega) (.int .i64 q3)) hgW
    have x0 : ((w10_.setCell ⟨w2_.heap.size, 0, none⟩ (.int .i64 p3)).setCell ⟨w2_.heap.size, 1, none⟩ (.int .i64 q3)).cell? ⟨w2_.heap.size, 0, none⟩ = some (.int .i64 p3) := by go_cell
    have x1 : ((w10_.setCell ⟨w2_.heap.size, 0, none⟩ (.int .i64 p3)).setCell ⟨w2_.heap.size, 1, none⟩ (.int .i64 q3)).cell? ⟨w2_.heap.size, 1, none⟩ = some (.int .i64 q3) := by go_cell
    have sX : w2_.heap.size < ((w10_.setCell ⟨w2_.heap.size, 0, none⟩ (.int .i64 p3)).setCell ⟨w2_.heap.size, 1, none⟩ (.int .i64 q3)).heap.size := by first | (simp; done) | (simp; omega)
    have sE := HE.size
    clear hHeld
    generalize ((w10_.setCell ⟨w2_.heap.size, 0, none⟩ (.int .i64 p3)).setCell ⟨w2_.heap.size, 1, none⟩ (.int .i64 q3)) = V at *
    generalize w2_.heap.size = XB at *
    have HB := HE
    have hgV : g < V.heap.size := by omega
    have HV := Lib.hid HE
    obtain ⟨v00, v01, v02, v03, v10, v11, v12, v13⟩ := G0.out _ _ HE
    obtain ⟨u0, u1, u2, u3, t0, t1, t2, t3⟩ := G1.out _ _ HE
    have HDV : Wk g e3 V.heap.size V V := ⟨rfl, rfl, rfl, Nat.le_refl _, fun _ _ _ => rfl, HE.cell, HE.free⟩
    have J0 : Hid (∀ (e : Int) w', Wk g e V.heap.size V w' → w'.cell? ⟨w.heap.size, 0, none⟩ = some (.int .i64 a) ∧ w'.cell? ⟨w.heap.size, 1, none⟩ = some (.int .i64 b) ∧ w'.cell? ⟨w.heap.size, 2, none⟩ = some (.int .i64 c) ∧ w'.cell? ⟨w.heap.size, 3, none⟩ = some (.int .i64 d) ∧ w'.cell? ⟨w.heap.size + 1, 0, none⟩ = some (.int .i64 s) ∧ w'.cell? ⟨w.heap.size + 1, 1, none⟩ = some (.int .i64 t) ∧ w'.cell? ⟨w.heap.size + 1, 2, none⟩ = some (.int .i64 u) ∧ w'.cell? ⟨w.heap.size + 1, 3, none⟩ = some (.int .i64 v) ∧ w'.cell? ⟨XB, 0, none⟩ = some (.int .i64 p3) ∧ w'.cell? ⟨XB, 1, none⟩ = some (.int .i64 q3)) := Lib.hid (fun e w' hb => by
      exact ⟨(hb.cells.1 _ 0 (by omega) (by omega)).trans v00, (hb.cells.1 _ 1 (by omega) (by omega)).trans v01, (hb.cells.1 _ 2 (by omega) (by omega)).trans v02, (hb.cells.1 _ 3 (by omega) (by omega)).trans v03, (hb.cells.1 _ 0 (by omega) (by omega)).trans v10, (hb.cells.1 _ 1 (by omega) (by omega)).trans v11, (hb.cells.1 _ 2 (by omega) (by omega)).trans v12, (hb.cells.1 _ 3 (by omega) (by omega)).trans v13, (hb.cells.1 _ 0 (by omega) (by omega)).trans x0, (hb.cells.1 _ 1 (by omega) (by omega)).trans x1⟩)
    have J1 : Hid (∀ (e : Int) w', Wk g e V.heap.size V w' → w'.cell? ⟨w.heap.size + 1 + 1, 0, none⟩ = some (.int .i64 0) ∧ w'.cell? ⟨w.heap.size + 1 + 1, 1, none⟩ = some (.int .i64 0) ∧ w'.cell? ⟨w.heap.size + 1 + 1, 2, none⟩ = some (.int .i64 0) ∧ w'.cell? ⟨w.heap.size + 1 + 1, 3, none⟩ = some (.int .i64 0) ∧ w'.frozen? ⟨w.heap.size + 1 + 1, 0, none⟩ = false ∧ w'.frozen? ⟨w.heap.size + 1 + 1, 1, none⟩ = false ∧ w'.frozen? ⟨w.heap.size + 1 + 1, 2, none⟩ = false ∧ w'.frozen? ⟨w.heap.size + 1 + 1, 3, none⟩ = false) := Lib.hid (fun e w' hb => by
      exact ⟨(hb.cells.1 _ 0 (by omega) (by omega)).trans u0, (hb.cells.1 _ 1 (by omega) (by omega)).trans u1, (hb.cells.1 _ 2 (by omega) (by omega)).trans u2, (hb.cells.1 _ 3 (by omega) (by omega)).trans u3, (hb.cells.2 _ 0 (by omega) (by omega)).trans t0, (hb.cells.2 _ 1 (by omega) (by omega)).trans t1, (hb.cells.2 _ 2 (by omega) (by omega)).trans t2, (hb.cells.2 _ 3 (by omega) (by omega)).trans t3⟩)
    clear HB HE x0 x1 v00 v01 v02 v03 v10 v11 v12 v13 u0 t0 u1 t1 u2 t2 u3 t3
    have HD31 : Wk g e3 V.heap.size V V.drew := HDV.then ((Below.refl _ _).drew.mono HDV.size) hgV
    refine wp_region_held_drew (S := fun w' => w'.cell? ⟨w.heap.size, 0, none⟩ = some (.int .i64 a) ∧ w'.cell? ⟨w.heap.size, 1, none⟩ = some (.int .i64 b) ∧ w'.cell? ⟨w.heap.size, 2, none⟩ = some (.int .i64 c) ∧ w'.cell? ⟨w.heap.size, 3, none⟩ = some (.int .i64 d) ∧ w'.cell? ⟨w.heap.size + 1, 0, none⟩ = some (.int .i64 s) ∧ w'.cell? ⟨w.heap.size + 1, 1, none⟩ = some (.int .i64 t) ∧ w'.cell? ⟨w.heap.size + 1, 2, none⟩ = some (.int .i64 u) ∧ w'.cell? ⟨w.heap.size + 1, 3, none⟩ = some (.int .i64 v) ∧ w'.cell? ⟨XB, 0, none⟩ = some (.int .i64 p3) ∧ w'.cell? ⟨XB, 1, none⟩ = some (.int .i64 q3)) (by kernel_rfl) (J0.out _ _ HD31) (fun hHeld => ?_)
    refine wpAnyH_take (i := 0) (oi := _) (v := ?_) rfl (by kernel_rfl) (by kernel_rfl) (by kernel_rfl) (fun _ _ _ h => h) (Or.inl ⟨by rfl, ?_⟩) (by assumption) ?_
    rotate_left
    · intro w hSw; obtain ⟨_, _, _, _, _, _, _, _, _, _⟩ := hSw; go_simp; (try with_reducible rfl)
    try change wpAnyH _ _ _ _ _ _ _ (Act.put _ (some 22) _) _
    try simp only [act_all]
    refine wpAnyH_take (i := 1) (oi := _) (v := ?_) rfl (by kernel_rfl) (by kernel_rfl) (by kernel_rfl) (fun _ _ _ h => h) (Or.inl ⟨by rfl, ?_⟩) (by assumption) ?_
    rotate_left
    · intro w hSw; obtain ⟨_, _, _, _, _, _, _, _, _, _⟩ := hSw; go_simp; (try with_reducible rfl)
    try change wpAnyH _ _ _ _ _ _ _ (Act.put _ (some 23) _) _
    try simp only [act_all]
    refine wpAnyH_take (i := 2) (oi := _) (v := ?_) rfl (by kernel_rfl) (by kernel_rfl) (by kernel_rfl) (fun _ _ _ h => h) (Or.inl ⟨by rfl, ?_⟩) (by assumption) ?_
    rotate_left
    · intro w hSw; obtain ⟨_, _, _, _, _, _, _, _, _, _⟩ := hSw; go_simp; (try with_reducible rfl)
    try change wpAnyH _ _ _ _ _ _ _ (Act.put _ (some 24) _) _
    try simp only [act_all]
    refine wpAnyH_take (i := 3) (oi := _) (v := ?_) rfl (by kernel_rfl) (by kernel_rfl) (by kernel_rfl) (fun _ _ _ h => h) (Or.inl ⟨by rfl, ?_⟩) (by assumption) ?_
    rotate_left
    · intro w hSw; obtain ⟨_, _, _, _, _, _, _, _, _, _⟩ := hSw; go_simp; (try with_reducible rfl)
    try change wpAnyH _ _ _ _ _ _ _ (Act.put _ (some 25) _) _
    try simp only [act_all]
    refine wpAnyH_take (i := 4) (oi := _) (v := ?_) rfl (by kernel_rfl) (by kernel_rfl) (by kernel_rfl) (fun _ _ _ h => h) (Or.inl ⟨by rfl, ?_⟩) (by assumption) ?_
    rotate_left
    · intro w hSw; obtain ⟨_, _, _, _, _, _, _, _, _, _⟩ := hSw; go_simp; (try with_reducible rfl)
    try change wpAnyH _ _ _ _ _ _ _ (Act.put _ (some 26) _) _
    try simp only [act_all]
    refine wpAnyH_take (i := 5) (oi := _) (v := ?_) rfl (by kernel_rfl) (by kernel_rfl) (by kernel_rfl) (fun _ _ _ h => h) (Or.inl ⟨by rfl, ?_⟩) (by assumption) ?_
    rotate_left
    · intro w hSw; obtain ⟨_, _, _, _, _, _, _, _, _, _⟩ := hSw; go_simp; (try with_reducible rfl)
    try change wpAnyH _ _ _ _ _ _ _ (Act.put _ (some 27) _) _
    try simp only [act_all]
    refine wpAnyH_take (i := 6) (oi := _) (v := ?_) rfl (by kernel_rfl) (by kernel_rfl) (by kernel_rfl) (fun _ _ _ h => h) (Or.inl ⟨by rfl, ?_⟩) (by assumption) ?_
    rotate_left
    · intro w hSw; obtain ⟨_, _, _, _, _, _, _, _, _, _⟩ := hSw; go_simp; (try with_reducible rfl)
    try change wpAnyH _ _ _ _ _ _ _ (Act.put _ (some 28) _) _
    try simp only [act_all]
    refine wpAnyH_take (i := 8) (oi := _) (v := ?_) rfl (by kernel_rfl) (by kernel_rfl) (by kernel_rfl) (fun _ _ _ h => h) (Or.inl ⟨by rfl, ?_⟩) (by assumption) ?_
    rotate_left
    · intro w hSw; obtain ⟨_, _, _, _, _, _, _, _, _, _⟩ := hSw; go_simp; (try with_reducible rfl)
    try change wpAnyH _ _ _ _ _ _ _ (Act.put _ (some 30) _) _
    try simp only [act_all]
    refine wpAnyH_take (i := 9) (oi := _) (v := ?_) rfl (by kernel_rfl) (by kernel_rfl) (by kernel_rfl) (fun _ _ _ h => h) (Or.inl ⟨by rfl, ?_⟩) (by assumption) ?_
    rotate_left
    · intro w hSw; obtain ⟨_, _, _, _, _, _, _, _, _, _⟩ := hSw; go_simp; (try with_reducible rfl)
    try change wpAnyH _ _ _ _ _ _ _ (Act.put _ (some 31) _) _
    try simp only [act_all]
    refine wpAnyH_take (i := 10) (oi := _) (v := ?_) rfl (by kernel_rfl) (by kernel_rfl) (by kernel_rfl) (fun _ _ _ h => h) (Or.inl ⟨by rfl, ?_⟩) (by assumption) ?_
    rotate_left
    · intro w hSw; obtain ⟨_, _, _, _, _, _, _, _, _, _⟩ := hSw; go_simp; (try with_reducible rfl)
    try change wpAnyH _ _ _ _ _ _ _ (Act.put _ (some 32) _) _
    try simp only [act_all]
    refine wpAnyH_take (i := 11) (oi := _) (v := ?_) rfl (by kernel_rfl) (by kernel_rfl) (by kernel_rfl) (fun _ _ _ h => h) (Or.inl ⟨by rfl, ?_⟩) (by assumption) ?_
    rotate_left
    · intro w hSw; obtain ⟨_, _, _, _, _, _, _, _, _, _⟩ := hSw; go_simp; (try with_reducible rfl)
    try change wpAnyH _ _ _ _ _ _ _ (Act.put _ (some 33) _) _
    try simp only [act_all]
    refine wpAnyH_take (i := 12) (oi := _) (v := ?_) rfl (by kernel_rfl) (by kernel_rfl) (by kernel_rfl) (fun _ _ _ h => h) (Or.inl ⟨by rfl, ?_⟩) (by assumption) ?_
    rotate_left
    · intro w hSw; obtain ⟨_, _, _, _, _, _, _, _, _, _⟩ := hSw; go_simp; (try with_reducible rfl)
    try change wpAnyH _ _ _ _ _ _ _ (Act.put _ (some 34) _) _
    try simp only [act_all]
    refine wpAnyH_ready (rs := [7]) (by kernel_rfl) (by simp) ?_
    refine AllReadyH.cons (o := _) rfl (fun K hK => ?_) AllReadyH.nil
    go_simp
    refine (rTimes_any a b u v e3 g _ H1.out H4.out HD31.cell HD31.free).mono ?_
    rintro e w32_ ⟨he, hb⟩
    obtain ⟨r, hr⟩ : ∃ r, (rn e3 (mulS ⟨a, b⟩ ⟨u, v⟩)) = r := ⟨_, rfl⟩
    rw [hr] at he hb
    obtain ⟨⟨p4, q4⟩, e4⟩ := r
    have HR32 := Lib.hid hr
    have HD32 : Wk g e4 V.heap.size V w32_ := HD31.trans (hb.mono HD31.size)
    obtain rfl : e = .returned (.agg #[.int .i64 p4, .int .i64 q4]) := he
    have hz32 := HD32.size
    have hq32 := hb.size
    (try simp at hq32)
    clear hb hHeld hr
    refine hK.out _ _ (J0.out _ _ HD32) (fun hHeld => ?_)
    clear hK K
    try simp only [act_all]
    refine wpAnyH_ready (rs := [13]) (by kernel_rfl) (by simp) ?_
    refine AllReadyH.cons (o := _) rfl (fun K hK => ?_) AllReadyH.nil
    go_simp
    refine (rTimes_any c d s t e4 g _ H2.out H3.out HD32.cell HD32.free).mono ?_
    rintro e w33_ ⟨he, hb⟩
    obtain ⟨r, hr⟩ : ∃ r, (rn e4 (mulS ⟨c, d⟩ ⟨s, t⟩)) = r := ⟨_, rfl⟩
    rw [hr] at he hb
    obtain ⟨⟨p5, q5⟩, e5⟩ := r
    have HR33 := Lib.hid hr
    have HD33 : Wk g e5 V.heap.size V w33_ := HD32.trans (hb.mono HD32.size)
    obtain rfl : e = .returned (.agg #[.int .i64 p5, .int .i64 q5]) := he
    have hz33 := HD33.size
    have hq33 := hb.size
    (try simp at hq33)
    clear hb hHeld hr
    refine hK.out _ _ (J0.out _ _ HD33) (fun hHeld => ?_)
    clear hK K
    try simp only [act_all]
    refine wpAnyH_ready (rs := [14]) (by kernel_rfl) (by simp) ?_
    refine AllReadyH.cons (o := _) rfl (fun K hK => ?_) AllReadyH.nil
    go_simp
    refine (rSum_any p4 q4 p5 q5 e5 g _ (rn_okS HR32.out (fun _ h => mulS_ok h)) (rn_okS HR33.out (fun _ h => mulS_ok h)) HD33.cell HD33.free).mono ?_
    rintro e w34_ ⟨he, hb⟩
    obtain ⟨r, hr⟩ : ∃ r, (rn e5 (addS ⟨p4, q4⟩ ⟨p5, q5⟩)) = r := ⟨_, rfl⟩
    rw [hr] at he hb
    obtain ⟨⟨p6, q6⟩, e6⟩ := r
    have HR34 := Lib.hid hr
    have HD34 : Wk g e6 V.heap.size V w34_ := HD33.trans (hb.mono HD33.size)
    obtain rfl : e = .returned (.agg #[.int .i64 p6, .int .i64 q6]) := he
    have hz34 := HD34.size
    have hq34 := hb.size
    (try simp at hq34)
    clear hb hHeld hr
    refine hK.out _ _ (J0.out _ _ HD34) (fun hHeld => ?_)
    clear hK K
    try simp only [act_all]
    refine wpAnyH_take (i := 15) (oi := _) (v := ?_) rfl (by kernel_rfl) (by kernel_rfl) (by kernel_rfl) (fun _ _ _ h => h) (Or.inl ⟨by rfl, ?_⟩) (by assumption) ?_
    rotate_left
    · intro w hSw; obtain ⟨_, _, _, _, _, _, _, _, _, _⟩ := hSw; go_simp; (try with_reducible rfl)
    try change wpAnyH _ _ _ _ _ _ _ (Act.put _ (some 37) _) _
    try simp only [act_all]
    refine wpAnyH_ready (rs := [16]) (by kernel_rfl) (by simp) ?_
    refine AllReadyH.cons (o := _) rfl (fun K hK => ?_) AllReadyH.nil
    obtain ⟨_, _, _, _, _, _, _, _, _, _⟩ := J0.out _ _ HD34
    obtain ⟨_, _, _, _, _, _, _, _⟩ := J1.out _ _ HD34
    have nb0 : w.heap.size < w34_.heap.size := by omega
    have nb1 : w.heap.size + 1 < w34_.heap.size := by omega
    have nb2 : w.heap.size + 1 + 1 < w34_.heap.size := by omega
    have nx0 : ¬ XB = w.heap.size := by omega
    have nx1 : ¬ XB = w.heap.size + 1 := by omega
    have nx2 : ¬ XB = w.heap.size + 1 + 1 := by omega
    go_simp
    refine hK.out _ _ (by refine ⟨?_, ?_, ?_, ?_, ?_, ?_, ?_, ?_, ?_, ?_⟩ <;> go_cell) (fun hHeld => ?_)
    clear hK K
    try simp only [act_all]
    refine wpAnyH_done (by kernel_rfl) ?_ _
    have HN : Hid (SP = (⟨⟨p3, q3⟩, ⟨p6, q6⟩⟩, e6)) := Lib.hid (by rw [← HSP.out]; simp only [mulW, HR2.out, HR9.out, HR10.out, HR32.out, HR33.out, HR34.out]; (try rfl))
    have HWF := Lib.hid ((HW0.out.trans (HV.out.mono HW0.out.size)).trans (HD34.mono (Nat.le_trans HW0.out.size HV.out.size)))
    have DL : Below w.heap.size w34_ w34_ := Below.refl _ _
    go_wp2_with fail
    refine bodyPost_ret (v := .agg #[.int .i64 p3, .int .i64 q3, .int .i64 p6, .int .i64 q6]) (by simp [results, Try.results75, go_sem, *]) rfl ⟨?_, ?_⟩
    · rw [HN.out]; rfl
    · rw [HN.out]; exact HWF.out.then (by go_grown) hg
  refine AllReadyH.cons (o := _) rfl (fun K hK => ?_) AllReadyH.nil
  have HD11 : Wk g e0 W.heap.size W (W.drew.alloc (Obj.cells #[.int .i64 0, .int .i64 0] 23)) := HD1.then ((bal (Below.refl _ _) _).mono HD1.size) hgW
  go_simp
  refine hK.out _ _ (G0.out _ _ HD11) (fun hHeld => ?_)
  clear hK K
  try simp only [act_all]
  refine wpAnyH_ready (rs := [6]) (by kernel_rfl) (by simp) ?_
  refine AllReadyH.cons (o := _) rfl (fun K hK => ?_) AllReadyH.nil
  go_simp
  refine (rTimes_any a b s t e0 g _ H1.out H3.out HD11.cell HD11.free).mono ?_
  rintro e w12_ ⟨he, hb⟩
  obtain ⟨r, hr⟩ : ∃ r, (rn e0 (mulS ⟨a, b⟩ ⟨s, t⟩)) = r := ⟨_, rfl⟩
  rw [hr] at he hb
  obtain ⟨⟨p1, q1⟩, e1⟩ := r
  have HR12 := Lib.hid hr
  have HD12 : Wk g e1 W.heap.size W w12_ := HD11.trans (hb.mono HD11.size)
  obtain rfl : e = .returned (.agg #[.int .i64 p1, .int .i64 q1]) := he
  have hz12 := HD12.size
  have hq12 := hb.size
  (try simp at hq12)
  have t12_0 := (hb.cells.1 (W.heap.size) 0 (by first | omega | (simp; done) | (simp; omega)) (by omega)).trans (by go_cell : _ = some (.int .i64 0))
  have z12_0 := (hb.cells.2 (W.heap.size) 0 (by first | omega | (simp; done) | (simp; omega)) (by omega)).trans (by go_cell : _ = false)
  have t12_1 := (hb.cells.1 (W.heap.size) 1 (by first | omega | (simp; done) | (simp; omega)) (by omega)).trans (by go_cell : _ = some (.int .i64 0))
  have z12_1 := (hb.cells.2 (W.heap.size) 1 (by first | omega | (simp; done) | (simp; omega)) (by omega)).trans (by go_cell : _ = false)
  have l12 : W.heap.size < w12_.heap.size := by omega
  clear hb hHeld hr
  refine hK.out _ _ (G0.out _ _ HD12) (fun hHeld => ?_)
  clear hK K
  try simp only [act_all]
  refine wpAnyH_ready (rs := [12]) (by kernel_rfl) (by simp) ?_
  refine AllReadyH.cons (o := _) rfl (fun K hK => ?_) AllReadyH.nil
  go_simp
  refine (rTimes_any c d u v e1 g _ H2.out H4.out HD12.cell HD12.free).mono ?_
  rintro e w13_ ⟨he, hb⟩
  obtain ⟨r, hr⟩ : ∃ r, (rn e1 (mulS ⟨c, d⟩ ⟨u, v⟩)) = r := ⟨_, rfl⟩
  rw [hr] at he hb
  obtain ⟨⟨p2, q2⟩, e2⟩ := r
  have HR13 := Lib.hid hr
  have HD13 : Wk g e2 W.heap.size W w13_ := HD12.trans (hb.mono HD12.size)
  obtain rfl : e = .returned (.agg #[.int .i64 p2, .int .i64 q2]) := he
  have hz13 := HD13.size
  have hq13 := hb.size
  (try simp at hq13)
  have t13_0 := (hb.cells.1 (W.heap.size) 0 (by first | omega | (simp; done) | (simp; omega)) (by omega)).trans (by go_cell : _ = some (.int .i64 0))
  have z13_0 := (hb.cells.2 (W.heap.size) 0 (by first | omega | (simp; done) | (simp; omega)) (by omega)).trans (by go_cell : _ = false)
  have t13_1 := (hb.cells.1 (W.heap.size) 1 (by first | omega | (simp; done) | (simp; omega)) (by omega)).trans (by go_cell : _ = some (.int .i64 0))
  have z13_1 := (hb.cells.2 (W.heap.size) 1 (by first | omega | (simp; done) | (simp; omega)) (by omega)).trans (by go_cell : _ = false)
  have l13 : W.heap.size < w13_.heap.size := by omega
  clear hb hHeld hr
  refine hK.out _ _ (G0.out _ _ HD13) (fun hHeld => ?_)
  clear hK K
  try simp only [act_all]
  refine wpAnyH_ready (rs := [13]) (by kernel_rfl) (by simp) ?_
  refine AllReadyH.cons (o := _) rfl (fun K hK => ?_) AllReadyH.nil
  go_simp
  refine (rLess_any p1 q1 p2 q2 e2 g _ (rn_okS HR12.out (fun _ h => mulS_ok h)) (rn_okS HR13.out (fun _ h => mulS_ok h)) HD13.cell HD13.free).mono ?_
  rintro e w14_ ⟨he, hb⟩
  obtain ⟨r, hr⟩ : ∃ r, (rn e2 (subS ⟨p1, q1⟩ ⟨p2, q2⟩)) = r := ⟨_, rfl⟩
  rw [hr] at he hb
  obtain ⟨⟨p3, q3⟩, e3⟩ := r
  have HR14 := Lib.hid hr
  have HD14 : Wk g e3 W.heap.size W w14_ := HD13.trans (hb.mono HD13.size)
  obtain rfl : e = .returned (.agg #[.int .i64 p3, .int .i64 q3]) := he
  have hz14 := HD14.size
  have hq14 := hb.size
  (try simp at hq14)
  have t14_0 := (hb.cells.1 (W.heap.size) 0 (by first | omega | (simp; done) | (simp; omega)) (by omega)).trans (by go_cell : _ = some (.int .i64 0))
  have z14_0 := (hb.cells.2 (W.heap.size) 0 (by first | omega | (simp; done) | (simp; omega)) (by omega)).trans (by go_cell : _ = false)
  have t14_1 := (hb.cells.1 (W.heap.size) 1 (by first | omega | (simp; done) | (simp; omega)) (by omega)).trans (by go_cell : _ = some (.int .i64 0))
  have z14_1 := (hb.cells.2 (W.heap.size) 1 (by first | omega | (simp; done) | (simp; omega)) (by omega)).trans (by go_cell : _ = false)
  have l14 : W.heap.size < w14_.heap.size := by omega
  clear hb hHeld hr
  refine hK.out _ _ (G0.out _ _ HD14) (fun hHeld => ?_)
  clear hK K
  try simp only [act_all]
  refine wpAnyH_ready (rs := [15]) (by kernel_rfl) (by simp) ?_
  refine AllReadyH.cons (o := _) rfl (fun K hK => ?_) AllReadyH.nil
  obtain ⟨_, _, _, _, _, _, _, _⟩ := G0.out _ _ HD14
  obtain ⟨_, _, _, _, _, _, _, _⟩ := G1.out _ _ HD14
  have nb0 : w.heap.size < w14_.heap.size := by omega
  have nb1 : w.heap.size + 1 < w14_.heap.size := by omega
  have nb2 : w.heap.size + 1 + 1 < w14_.heap.size := by omega
  have nx0 : ¬ W.heap.size = w.heap.size := by omega
  have nx1 : ¬ W.heap.size = w.heap.size + 1 := by omega
  have nx2 : ¬ W.heap.size = w.heap.size + 1 + 1 := by omega
  go_simp
  refine hK.out _ _ (by refine ⟨?_, ?_, ?_, ?_, ?_, ?_, ?_, ?_⟩ <;> go_cell) (fun hHeld => ?_)
  clear hK K
  try simp only [act_all]
  refine wpAnyH_done (by kernel_rfl) ?_ _
  go_upto_region 2 with fail
  have hX : W.heap.size ≤ W.heap.size := by omega
  have HE : Wk g e3 W.heap.size W ((w14_.setCell ⟨W.heap.size, 0, none⟩ (.int .i64 p3)).setCell ⟨W.heap.size, 1, none⟩ (.int .i64 q3)) := HD14.then (((Below.refl _ _).setCell (p := ⟨W.heap.size, 0, none⟩) (by simp only; omega) (.int .i64 p3)).setCell (p := ⟨W.heap.size, 1, none⟩) (by simp only; omega) (.int .i64 q3)) hgW
  have x0 : ((w14_.setCell ⟨W.heap.size, 0, none⟩ (.int .i64 p3)).setCell ⟨W.heap.size, 1, none⟩ (.int .i64 q3)).cell? ⟨W.heap.size, 0, none⟩ = some (.int .i64 p3) := by go_cell
  have x1 : ((w14_.setCell ⟨W.heap.size, 0, none⟩ (.int .i64 p3)).setCell ⟨W.heap.size, 1, none⟩ (.int .i64 q3)).cell? ⟨W.heap.size, 1, none⟩ = some (.int .i64 q3) := by go_cell
  have sX : W.heap.size < ((w14_.setCell ⟨W.heap.size, 0, none⟩ (.int .i64 p3)).setCell ⟨W.heap.size, 1, none⟩ (.int .i64 q3)).heap.size := by first | (simp; done) | (simp; omega)
  have sE := HE.size
  clear hHeld
  generalize ((w14_.setCell ⟨W.heap.size, 0, none⟩ (.int .i64 p3)).setCell ⟨W.heap.size, 1, none⟩ (.int .i64 q3)) = V at *
  have HB := HE
  have hgV : g < V.heap.size := by omega
  have HV := Lib.hid HE
  obtain ⟨v00, v01, v02, v03, v10, v11, v12, v13⟩ := G0.out _ _ HE
  obtain ⟨u0, u1, u2, u3, t0, t1, t2, t3⟩ := G1.out _ _ HE
  have HDV : Wk g e3 V.heap.size V V := ⟨rfl, rfl, rfl, Nat.le_refl _, fun _ _ _ => rfl, HE.cell, HE.free⟩
  have J0 : Hid (∀ (e : Int) w', Wk g e V.heap.size V w' → w'.cell? ⟨w.heap.size, 0, none⟩ = some (.int .i64 a) ∧ w'.cell? ⟨w.heap.size, 1, none⟩ = some (.int .i64 b) ∧ w'.cell? ⟨w.heap.size, 2, none⟩ = some (.int .i64 c) ∧ w'.cell? ⟨w.heap.size, 3, none⟩ = some (.int .i64 d) ∧ w'.cell? ⟨w.heap.size + 1, 0, none⟩ = some (.int .i64 s) ∧ w'.cell? ⟨w.heap.size + 1, 1, none⟩ = some (.int .i64 t) ∧ w'.cell? ⟨w.heap.size + 1, 2, none⟩ = some (.int .i64 u) ∧ w'.cell? ⟨w.heap.size + 1, 3, none⟩ = some (.int .i64 v) ∧ w'.cell? ⟨W.heap.size, 0, none⟩ = some (.int .i64 p3) ∧ w'.cell? ⟨W.heap.size, 1, none⟩ = some (.int .i64 q3)) := Lib.hid (fun e w' hb => by
    exact ⟨(hb.cells.1 _ 0 (by omega) (by omega)).trans v00, (hb.cells.1 _ 1 (by omega) (by omega)).trans v01, (hb.cells.1 _ 2 (by omega) (by omega)).trans v02, (hb.cells.1 _ 3 (by omega) (by omega)).trans v03, (hb.cells.1 _ 0 (by omega) (by omega)).trans v10, (hb.cells.1 _ 1 (by omega) (by omega)).trans v11, (hb.cells.1 _ 2 (by omega) (by omega)).trans v12, (hb.cells.1 _ 3 (by omega) (by omega)).trans v13, (hb.cells.1 _ 0 (by omega) (by omega)).trans x0, (hb.cells.1 _ 1 (by omega) (by omega)).trans x1⟩)
  have J1 : Hid (∀ (e : Int) w', Wk g e V.heap.size V w' → w'.cell? ⟨w.heap.size + 1 + 1, 0, none⟩ = some (.int .i64 0) ∧ w'.cell? ⟨w.heap.size + 1 + 1, 1, none⟩ = some (.int .i64 0) ∧ w'.cell? ⟨w.heap.size + 1 + 1, 2, none⟩ = some (.int .i64 0) ∧ w'.cell? ⟨w.heap.size + 1 + 1, 3, none⟩ = some (.int .i64 0) ∧ w'.frozen? ⟨w.heap.size + 1 + 1, 0, none⟩ = false ∧ w'.frozen? ⟨w.heap.size + 1 + 1, 1, none⟩ = false ∧ w'.frozen? ⟨w.heap.size + 1 + 1, 2, none⟩ = false ∧ w'.frozen? ⟨w.heap.size + 1 + 1, 3, none⟩ = false) := Lib.hid (fun e w' hb => by
    exact ⟨(hb.cells.1 _ 0 (by omega) (by omega)).trans u0, (hb.cells.1 _ 1 (by omega) (by omega)).trans u1, (hb.cells.1 _ 2 (by omega) (by omega)).trans u2, (hb.cells.1 _ 3 (by omega) (by omega)).trans u3, (hb.cells.2 _ 0 (by omega) (by omega)).trans t0, (hb.cells.2 _ 1 (by omega) (by omega)).trans t1, (hb.cells.2 _ 2 (by omega) (by omega)).trans t2, (hb.cells.2 _ 3 (by omega) (by omega)).trans t3⟩)
  clear HB HE x0 x1 v00 v01 v02 v03 v10 v11 v12 v13 u0 t0 u1 t1 u2 t2 u3 t3
  have HD35 : Wk g e3 V.heap.size V V.drew := HDV.then ((Below.refl _ _).drew.mono HDV.size) hgV
  refine wp_region_held_drew (S := fun w' => w'.cell? ⟨w.heap.size, 0, none⟩ = some (.int .i64 a) ∧ w'.cell? ⟨w.heap.size, 1, none⟩ = some (.int .i64 b) ∧ w'.cell? ⟨w.heap.size, 2, none⟩ = some (.int .i64 c) ∧ w'.cell? ⟨w.heap.size, 3, none⟩ = some (.int .i64 d) ∧ w'.cell? ⟨w.heap.size + 1, 0, none⟩ = some (.int .i64 s) ∧ w'.cell? ⟨w.heap.size + 1, 1, none⟩ = some (.int .i64 t) ∧ w'.cell? ⟨w.heap.size + 1, 2, none⟩ = some (.int .i64 u) ∧ w'.cell? ⟨w.heap.size + 1, 3, none⟩ = some (.int .i64 v) ∧ w'.cell? ⟨W.heap.size, 0, none⟩ = some (.int .i64 p3) ∧ w'.cell? ⟨W.heap.size, 1, none⟩ = some (.int .i64 q3)) (by kernel_rfl) (J0.out _ _ HD35) (fun hHeld => ?_)
  refine wpAnyH_take (i := 0) (oi := _) (v := ?_) rfl (by kernel_rfl) (by kernel_rfl) (by kernel_rfl) (fun _ _ _ h => h) (Or.inl ⟨by rfl, ?_⟩) (by assumption) ?_
  rotate_left
  · intro w hSw; obtain ⟨_, _, _, _, _, _, _, _, _, _⟩ := hSw; go_simp; (try with_reducible rfl)
  try change wpAnyH _ _ _ _ _ _ _ (Act.put _ (some 22) _) _
  try simp only [act_all]
  refine wpAnyH_take (i := 1) (oi := _) (v := ?_) rfl (by kernel_rfl) (by kernel_rfl) (by kernel_rfl) (fun _ _ _ h => h) (Or.inl ⟨by rfl, ?_⟩) (by assumption) ?_
  rotate_left
  · intro w hSw; obtain ⟨_, _, _, _, _, _, _, _, _, _⟩ := hSw; go_simp; (try with_reducible rfl)
  try change wpAnyH _ _ _ _ _ _ _ (Act.put _ (some 23) _) _
  try simp only [act_all]
  refine wpAnyH_take (i := 2) (oi := _) (v := ?_) rfl (by kernel_rfl) (by kernel_rfl) (by kernel_rfl) (fun _ _ _ h => h) (Or.inl ⟨by rfl, ?_⟩) (by assumption) ?_
  rotate_left
  · intro w hSw; obtain ⟨_, _, _, _, _, _, _, _, _, _⟩ := hSw; go_simp; (try with_reducible rfl)
  try change wpAnyH _ _ _ _ _ _ _ (Act.put _ (some 24) _) _
  try simp only [act_all]
  refine wpAnyH_take (i := 3) (oi := _) (v := ?_) rfl (by kernel_rfl) (by kernel_rfl) (by kernel_rfl) (fun _ _ _ h => h) (Or.inl ⟨by rfl, ?_⟩) (by assumption) ?_
  rotate_left
  · intro w hSw; obtain ⟨_, _, _, _, _, _, _, _, _, _⟩ := hSw; go_simp; (try with_reducible rfl)
  try change wpAnyH _ _ _ _ _ _ _ (Act.put _ (some 25) _) _
  try simp only [act_all]
  refine wpAnyH_take (i := 4) (oi := _) (v := ?_) rfl (by kernel_rfl) (by kernel_rfl) (by kernel_rfl) (fun _ _ _ h => h) (Or.inl ⟨by rfl, ?_⟩) (by assumption) ?_
  rotate_left
  · intro w hSw; obtain ⟨_, _, _, _, _, _, _, _, _, _⟩ := hSw; go_simp; (try with_reducible rfl)
  try change wpAnyH _ _ _ _ _ _ _ (Act.put _ (some 26) _) _
  try simp only [act_all]
  refine wpAnyH_take (i := 5) (oi := _) (v := ?_) rfl (by kernel_rfl) (by kernel_rfl) (by kernel_rfl) (fun _ _ _ h => h) (Or.inl ⟨by rfl, ?_⟩) (by assumption) ?_
  rotate_left
  · intro w hSw; obtain ⟨_, _, _, _, _, _, _, _, _, _⟩ := hSw; go_simp; (try with_reducible rfl)
  try change wpAnyH _ _ _ _ _ _ _ (Act.put _ (some 27) _) _
  try simp only [act_all]
  refine wpAnyH_take (i := 6) (oi := _) (v := ?_) rfl (by kernel_rfl) (by kernel_rfl) (by kernel_rfl) (fun _ _ _ h => h) (Or.inl ⟨by rfl, ?_⟩) (by assumption) ?_
  rotate_left
  · intro w hSw; obtain ⟨_, _, _, _, _, _, _, _, _, _⟩ := hSw; go_simp; (try with_reducible rfl)
  try change wpAnyH _ _ _ _ _ _ _ (Act.put _ (some 28) _) _
  try simp only [act_all]
  refine wpAnyH_take (i := 8) (oi := _) (v := ?_) rfl (by kernel_rfl) (by kernel_rfl) (by kernel_rfl) (fun _ _ _ h => h) (Or.inl ⟨by rfl, ?_⟩) (by assumption) ?_
  rotate_left
  · intro w hSw; obtain ⟨_, _, _, _, _, _, _, _, _, _⟩ := hSw; go_simp; (try with_reducible rfl)
  try change wpAnyH _ _ _ _ _ _ _ (Act.put _ (some 30) _) _
  try simp only [act_all]
  refine wpAnyH_take (i := 9) (oi := _) (v := ?_) rfl (by kernel_rfl) (by kernel_rfl) (by kernel_rfl) (fun _ _ _ h => h) (Or.inl ⟨by rfl, ?_⟩) (by assumption) ?_
  rotate_left
  · intro w hSw; obtain ⟨_, _, _, _, _, _, _, _, _, _⟩ := hSw; go_simp; (try with_reducible rfl)
  try change wpAnyH _ _ _ _ _ _ _ (Act.put _ (some 31) _) _
  try simp only [act_all]
  refine wpAnyH_take (i := 10) (oi := _) (v := ?_) rfl (by kernel_rfl) (by kernel_rfl) (by kernel_rfl) (fun _ _ _ h => h) (Or.inl ⟨by rfl, ?_⟩) (by assumption) ?_
  rotate_left
  · intro w hSw; obtain ⟨_, _, _, _, _, _, _, _, _, _⟩ := hSw; go_simp; (try with_reducible rfl)
  try change wpAnyH _ _ _ _ _ _ _ (Act.put _ (some 32) _) _
  try simp only [act_all]
  refine wpAnyH_take (i := 11) (oi := _) (v := ?_) rfl (by kernel_rfl) (by kernel_rfl) (by kernel_rfl) (fun _ _ _ h => h) (Or.inl ⟨by rfl, ?_⟩) (by assumption) ?_
  rotate_left
  · intro w hSw; obtain ⟨_, _, _, _, _, _, _, _, _, _⟩ := hSw; go_simp; (try with_reducible rfl)
  try change wpAnyH _ _ _ _ _ _ _ (Act.put _ (some 33) _) _
  try simp only [act_all]
  refine wpAnyH_take (i := 12) (oi := _) (v := ?_) rfl (by kernel_rfl) (by kernel_rfl) (by kernel_rfl) (fun _ _ _ h => h) (Or.inl ⟨by rfl, ?_⟩) (by assumption) ?_
  rotate_left
  · intro w hSw; obtain ⟨_, _, _, _, _, _, _, _, _, _⟩ := hSw; go_simp; (try with_reducible rfl)
  try change wpAnyH _ _ _ _ _ _ _ (Act.put _ (some 34) _) _
  try simp only [act_all]
  refine wpAnyH_ready (rs := [7]) (by kernel_rfl) (by simp) ?_
  refine AllReadyH.cons (o := _) rfl (fun K hK => ?_) AllReadyH.nil
  go_simp
  refine (rTimes_any a b u v e3 g _ H1.out H4.out HD35.cell HD35.free).mono ?_
  rintro e w36_ ⟨he, hb⟩
  obtain ⟨r, hr⟩ : ∃ r, (rn e3 (mulS ⟨a, b⟩ ⟨u, v⟩)) = r := ⟨_, rfl⟩
  rw [hr] at he hb
  obtain ⟨⟨p4, q4⟩, e4⟩ := r
  have HR36 := Lib.hid hr
  have HD36 : Wk g e4 V.heap.size V w36_ := HD35.trans (hb.mono HD35.size)
  obtain rfl : e = .returned (.agg #[.int .i64 p4, .int .i64 q4]) := he
  have hz36 := HD36.size
  have hq36 := hb.size
  (try simp at hq36)
  clear hb hHeld hr
  refine hK.out _ _ (J0.out _ _ HD36) (fun hHeld => ?_)
  clear hK K
  try simp only [act_all]
  refine wpAnyH_ready (rs := [13]) (by kernel_rfl) (by simp) ?_
  refine AllReadyH.cons (o := _) rfl (fun K hK => ?_) AllReadyH.nil
  go_simp
  refine (rTimes_any c d s t e4 g _ H2.out H3.out HD36.cell HD36.free).mono ?_
  rintro e w37_ ⟨he, hb⟩
  obtain ⟨r, hr⟩ : ∃ r, (rn e4 (mulS ⟨c, d⟩ ⟨s, t⟩)) = r := ⟨_, rfl⟩
  rw [hr] at he hb
  obtain ⟨⟨p5, q5⟩, e5⟩ := r
  have HR37 := Lib.hid hr
  have HD37 : Wk g e5 V.heap.size V w37_ := HD36.trans (hb.mono HD36.size)
  obtain rfl : e = .returned (.agg #[.int .i64 p5, .int .i64 q5]) := he
  have hz37 := HD37.size
  have hq37 := hb.size
  (try simp at hq37)
  clear hb hHeld hr
  refine hK.out _ _ (J0.out _ _ HD37) (fun hHeld => ?_)
  clear hK K
  try simp only [act_all]
  refine wpAnyH_ready (rs := [14]) (by kernel_rfl) (by simp) ?_
  refine AllReadyH.cons (o := _) rfl (fun K hK => ?_) AllReadyH.nil
  go_simp
  refine (rSum_any p4 q4 p5 q5 e5 g _ (rn_okS HR36.out (fun _ h => mulS_ok h)) (rn_okS HR37.out (fun _ h => mulS_ok h)) HD37.cell HD37.free).mono ?_
  rintro e w38_ ⟨he, hb⟩
  obtain ⟨r, hr⟩ : ∃ r, (rn e5 (addS ⟨p4, q4⟩ ⟨p5, q5⟩)) = r := ⟨_, rfl⟩
  rw [hr] at he hb
  obtain ⟨⟨p6, q6⟩, e6⟩ := r
  have HR38 := Lib.hid hr
  have HD38 : Wk g e6 V.heap.size V w38_ := HD37.trans (hb.mono HD37.size)
  obtain rfl : e = .returned (.agg #[.int .i64 p6, .int .i64 q6]) := he
  have hz38 := HD38.size
  have hq38 := hb.size
  (try simp at hq38)
  clear hb hHeld hr
  refine hK.out _ _ (J0.out _ _ HD38) (fun hHeld => ?_)
  clear hK K
  try simp only [act_all]
  refine wpAnyH_take (i := 15) (oi := _) (v := ?_) rfl (by kernel_rfl) (by kernel_rfl) (by kernel_rfl) (fun _ _ _ h => h) (Or.inl ⟨by rfl, ?_⟩) (by assumption) ?_
  rotate_left
  · intro w hSw; obtain ⟨_, _, _, _, _, _, _, _, _, _⟩ := hSw; go_simp; (try with_reducible rfl)
  try change wpAnyH _ _ _ _ _ _ _ (Act.put _ (some 37) _) _
  try simp only [act_all]
  refine wpAnyH_ready (rs := [16]) (by kernel_rfl) (by simp) ?_
  refine AllReadyH.cons (o := _) rfl (fun K hK => ?_) AllReadyH.nil
  obtain ⟨_, _, _, _, _, _, _, _, _, _⟩ := J0.out _ _ HD38
  obtain ⟨_, _, _, _, _, _, _, _⟩ := J1.out _ _ HD38
  have nb0 : w.heap.size < w38_.heap.size := by omega
  have nb1 : w.heap.size + 1 < w38_.heap.size := by omega
  have nb2 : w.heap.size + 1 + 1 < w38_.heap.size := by omega
  have nx0 : ¬ W.heap.size = w.heap.size := by omega
  have nx1 : ¬ W.heap.size = w.heap.size + 1 := by omega
  have nx2 : ¬ W.heap.size = w.heap.size + 1 + 1 := by omega
  go_simp
  refine hK.out _ _ (by refine ⟨?_, ?_, ?_, ?_, ?_, ?_, ?_, ?_, ?_, ?_⟩ <;> go_cell) (fun hHeld => ?_)
  clear hK K
  try simp only [act_all]
  refine wpAnyH_done (by kernel_rfl) ?_ _
  have HN : Hid (SP = (⟨⟨p3, q3⟩, ⟨p6, q6⟩⟩, e6)) := Lib.hid (by rw [← HSP.out]; simp only [mulW, HR12.out, HR13.out, HR14.out, HR36.out, HR37.out, HR38.out]; (try rfl))
  have HWF := Lib.hid ((HW0.out.trans (HV.out.mono HW0.out.size)).trans (HD38.mono (Nat.le_trans HW0.out.size HV.out.size)))
  have DL : Below w.heap.size w38_ w38_ := Below.refl _ _
  go_wp2_with fail
  refine bodyPost_ret (v := .agg #[.int .i64 p3, .int .i64 q3, .int .i64 p6, .int .i64 q6]) (by simp [results, Try.results75, go_sem, *]) rfl ⟨?_, ?_⟩
  · rw [HN.out]; rfl
  · rw [HN.out]; exact HWF.out.then (by go_grown) hg
end Go.Proofs.Ytgbnpnenejgnnaa
