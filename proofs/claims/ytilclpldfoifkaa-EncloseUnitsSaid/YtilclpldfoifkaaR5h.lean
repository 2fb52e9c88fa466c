import Derived.Test.YtilclpldfoifkaaR5o
import Derived.Test.YtilclpldfoifkaaR5r
import Derived.Test.YtilclpldfoifkaaEn4
import Derived.Deep.DeepCutAuto
namespace Encl
theorem halfS_okS {a b : Int} (h : okS ⟨a, b⟩ = true) : okS (halfS ⟨a, b⟩) = true := by
  rw [okS_iff] at h ⊢
  simp only [halfS] at h ⊢
  omega
end Encl
namespace Go.Proofs.Ytilclpldfoifkaa
open Go.RowKit Encl
theorem rBelow_at (x x' b : Int) (w : World) (hx : x = x') (h0 : -4611686018427387904 ≤ x') (h1 : x' ≤ 4611686018427387904) (h2 : 0 < b) (h3 : b ≤ 4611686018427387904) :
    Calls Try.prog 121 #[.int .i64 x, .int .i64 b] w fun e w' => e = .returned (.int .i64 (x' / b)) ∧ Below w.heap.size w w' := by
  subst hx
  exact rBelow_pos x b w h0 h1 h2 h3

set_option maxRecDepth 100000 in
set_option maxHeartbeats 4000000 in
theorem rHalf_any (a b e0 : Int) (g : Nat) (w : World) (h : okS ⟨a, b⟩ = true) (hc : w.cell? ⟨g, 0, none⟩ = some (.int .i64 e0)) (hf : w.frozen? ⟨g, 0, none⟩ = false) :
    Calls Try.prog 115 #[.pointer (some ⟨g, 0, none⟩), .agg #[.int .i64 a, .int .i64 b]] w fun e w' => e = retS (rn e0 (inR (halfS ⟨a, b⟩))).1 ∧ Wk g (rn e0 (inR (halfS ⟨a, b⟩))).2 w.heap.size w w' := by
  have hg : g < w.heap.size := World.block_lt_of_cell? w _ hc
  have HG : Hid (-1099511627776 ≤ a ∧ a ≤ b ∧ b ≤ 1099511627776) := Lib.hid (by rw [okS_iff] at h; simpa using h)
  have HS : Hid (halfS ⟨a, b⟩ = ⟨a / 2, -(-b / 2)⟩) := Lib.hid rfl
  rw [HS.out]
  obtain ⟨rs, re, hr⟩ : ∃ rs re, rn e0 (inR ⟨a / 2, -(-b / 2)⟩) = (rs, re) := ⟨_, _, rfl⟩
  have HR := Lib.hid hr
  rw [hr]
  obtain ⟨p, q⟩ := rs
  clear hr h
  go_enter Try.func115, Try.ntmps115
  go_wp2_with fail
  have hb0 : Below w.heap.size w ((w.alloc (Obj.cells #[.int .i64 a, .int .i64 b] 23)).alloc (Obj.cells #[.int .i64 0, .int .i64 0] 23)) := by go_grown
  have hc0 : ((w.alloc (Obj.cells #[.int .i64 a, .int .i64 b] 23)).alloc (Obj.cells #[.int .i64 0, .int .i64 0] 23)).cell? ⟨g, 0, none⟩ = some (.int .i64 e0) := (hb0.cell (p := ⟨g, 0, none⟩) hg).trans hc
  have hf0 : ((w.alloc (Obj.cells #[.int .i64 a, .int .i64 b] 23)).alloc (Obj.cells #[.int .i64 0, .int .i64 0] 23)).frozen? ⟨g, 0, none⟩ = false := (hb0.frozen (p := ⟨g, 0, none⟩) hg).trans hf
  have c00 : ((w.alloc (Obj.cells #[.int .i64 a, .int .i64 b] 23)).alloc (Obj.cells #[.int .i64 0, .int .i64 0] 23)).cell? ⟨w.heap.size, 0, none⟩ = some (.int .i64 a) := by go_cell
  have c01 : ((w.alloc (Obj.cells #[.int .i64 a, .int .i64 b] 23)).alloc (Obj.cells #[.int .i64 0, .int .i64 0] 23)).cell? ⟨w.heap.size, 1, none⟩ = some (.int .i64 b) := by go_cell
  have d0 : ((w.alloc (Obj.cells #[.int .i64 a, .int .i64 b] 23)).alloc (Obj.cells #[.int .i64 0, .int .i64 0] 23)).cell? ⟨w.heap.size + 1, 0, none⟩ = some (.int .i64 0) := by go_cell
  have f0 : ((w.alloc (Obj.cells #[.int .i64 a, .int .i64 b] 23)).alloc (Obj.cells #[.int .i64 0, .int .i64 0] 23)).frozen? ⟨w.heap.size + 1, 0, none⟩ = false := by go_cell
  have d1 : ((w.alloc (Obj.cells #[.int .i64 a, .int .i64 b] 23)).alloc (Obj.cells #[.int .i64 0, .int .i64 0] 23)).cell? ⟨w.heap.size + 1, 1, none⟩ = some (.int .i64 0) := by go_cell
  have f1 : ((w.alloc (Obj.cells #[.int .i64 a, .int .i64 b] 23)).alloc (Obj.cells #[.int .i64 0, .int .i64 0] 23)).frozen? ⟨w.heap.size + 1, 1, none⟩ = false := by go_cell
  have hsz : w.heap.size + 1 < ((w.alloc (Obj.cells #[.int .i64 a, .int .i64 b] 23)).alloc (Obj.cells #[.int .i64 0, .int .i64 0] 23)).heap.size := by simp
  generalize ((w.alloc (Obj.cells #[.int .i64 a, .int .i64 b] 23)).alloc (Obj.cells #[.int .i64 0, .int .i64 0] 23)) = W at *
  have hgW : g < W.heap.size := by omega
  have HD : Wk g e0 W.heap.size W W := ⟨rfl, rfl, rfl, Nat.le_refl _, fun _ _ _ => rfl, hc0, hf0⟩
  have HW0 := Lib.hid (Wk.of_below hb0 hc0 hf0)
  have G0 : Hid (∀ (e : Int) w', Wk g e W.heap.size W w' → w'.cell? ⟨w.heap.size, 0, none⟩ = some (.int .i64 a) ∧ w'.cell? ⟨w.heap.size, 1, none⟩ = some (.int .i64 b)) := Lib.hid (fun e w' hb => by
    exact ⟨(hb.cells.1 _ 0 (by omega) (by omega)).trans c00, (hb.cells.1 _ 1 (by omega) (by omega)).trans c01⟩)
  have G1 : Hid (∀ (e : Int) w', Wk g e W.heap.size W w' → w'.cell? ⟨w.heap.size + 1, 0, none⟩ = some (.int .i64 0) ∧ w'.cell? ⟨w.heap.size + 1, 1, none⟩ = some (.int .i64 0) ∧ w'.frozen? ⟨w.heap.size + 1, 0, none⟩ = false ∧ w'.frozen? ⟨w.heap.size + 1, 1, none⟩ = false) := Lib.hid (fun e w' hb => by
    exact ⟨(hb.cells.1 _ 0 (by omega) (by omega)).trans d0, (hb.cells.1 _ 1 (by omega) (by omega)).trans d1, (hb.cells.2 _ 0 (by omega) (by omega)).trans f0, (hb.cells.2 _ 1 (by omega) (by omega)).trans f1⟩)
  clear hb0 hc hf hc0 hf0 c00 c01 d0 d1 f0 f1
  have HD1 : Wk g e0 W.heap.size W W.drew := HD.then ((Below.refl _ _).drew.mono HD.size) hgW
  refine wp_region_held_drew (S := fun w' => w'.cell? ⟨w.heap.size, 0, none⟩ = some (.int .i64 a) ∧ w'.cell? ⟨w.heap.size, 1, none⟩ = some (.int .i64 b)) (by kernel_rfl) (G0.out _ _ HD1) (fun hHeld => ?_)
  refine wpAnyH_take (i := 0) (oi := _) (v := ?_) rfl (by kernel_rfl) (by kernel_rfl) (by kernel_rfl) (fun _ _ _ h => h) (Or.inl ⟨by rfl, ?_⟩) (by assumption) ?_
  rotate_left
  · intro w hSw; obtain ⟨_, _⟩ := hSw; go_simp; (try with_reducible rfl)
  try change wpAnyH _ _ _ _ _ _ _ (Act.put _ (some 5) _) _
  try simp only [act_all]
  refine wpAnyH_take (i := 1) (oi := _) (v := ?_) rfl (by kernel_rfl) (by kernel_rfl) (by kernel_rfl) (fun _ _ _ h => h) (Or.inl ⟨by rfl, ?_⟩) (by assumption) ?_
  rotate_left
  · intro w hSw; obtain ⟨_, _⟩ := hSw; go_simp; (try with_reducible rfl)
  try change wpAnyH _ _ _ _ _ _ _ (Act.put _ (some 6) _) _
  try simp only [act_all]
  refine wpAnyH_take (i := 2) (oi := _) (v := ?_) rfl (by kernel_rfl) (by kernel_rfl) (by kernel_rfl) (fun _ _ _ h => h) (Or.inl ⟨by rfl, ?_⟩) (by assumption) ?_
  rotate_left
  · intro w hSw; obtain ⟨_, _⟩ := hSw; go_simp; (try with_reducible rfl)
  try change wpAnyH _ _ _ _ _ _ _ (Act.put _ (some 7) _) _
  try simp only [act_all]
  refine wpAnyH_take (i := 4) (oi := _) (v := ?_) rfl (by kernel_rfl) (by kernel_rfl) (by kernel_rfl) (fun _ _ _ h => h) (Or.inl ⟨by rfl, ?_⟩) (by assumption) ?_
  rotate_left
  · intro w hSw; obtain ⟨_, _⟩ := hSw; go_simp; (try with_reducible rfl)
  try change wpAnyH _ _ _ _ _ _ _ (Act.put _ (some 9) _) _
  try simp only [act_all]
  refine wpAnyH_take (i := 5) (oi := _) (v := ?_) rfl (by kernel_rfl) (by kernel_rfl) (by kernel_rfl) (fun _ _ _ h => h) (Or.inl ⟨by rfl, ?_⟩) (by assumption) ?_
  rotate_left
  · intro w hSw; obtain ⟨_, _⟩ := hSw; go_simp; (try with_reducible rfl)
  try change wpAnyH _ _ _ _ _ _ _ (Act.put _ (some 10) _) _
  try simp only [act_all]
  refine wpAnyH_take (i := 6) (oi := _) (v := ?_) rfl (by kernel_rfl) (by kernel_rfl) (by kernel_rfl) (fun _ _ _ h => h) (Or.inl ⟨by rfl, ?_⟩) (by assumption) ?_
  rotate_left
  · intro w hSw; obtain ⟨_, _⟩ := hSw; go_simp; (try with_reducible rfl)
  try change wpAnyH _ _ _ _ _ _ _ (Act.put _ (some 11) _) _
  try simp only [act_all]
  refine wpAnyH_ready (rs := [3]) (by kernel_rfl) (by simp) ?_
  refine AllReadyH.cons (o := _) rfl (fun K hK => ?_) AllReadyH.nil
  go_simp
  refine (rBelow_at _ a 2 _ (by go_arith) (by have := HG.out; omega) (by have := HG.out; omega) (by omega) (by omega)).mono ?_
  rintro e w2_ ⟨rfl, hb⟩
  have HD2 : Wk g e0 W.heap.size W w2_ := HD1.then (hb.mono HD1.size) hgW
  have hz2 := HD2.size
  have hq2 := hb.size
  (try simp at hq2)
  clear hb hHeld
  refine hK.out _ _ (G0.out _ _ HD2) (fun hHeld => ?_)
  clear hK K
  try simp only [act_all]
  refine wpAnyH_ready (rs := [7]) (by kernel_rfl) (by simp) ?_
  refine AllReadyH.cons (o := _) rfl (fun K hK => ?_) AllReadyH.nil
  go_simp
  refine (rBelow_at _ (-b) 2 _ (by have := HG.out; go_arith) (by have := HG.out; omega) (by have := HG.out; omega) (by omega) (by omega)).mono ?_
  rintro e w3_ ⟨rfl, hb⟩
  have HD3 : Wk g e0 W.heap.size W w3_ := HD2.then (hb.mono HD2.size) hgW
  have hz3 := HD3.size
  have hq3 := hb.size
  (try simp at hq3)
  clear hb hHeld
  refine hK.out _ _ (G0.out _ _ HD3) (fun hHeld => ?_)
  clear hK K
  try simp only [act_all]
  refine wpAnyH_take (i := 8) (oi := _) (v := ?_) rfl (by kernel_rfl) (by kernel_rfl) (by kernel_rfl) (fun _ _ _ h => h) (Or.inl ⟨by rfl, ?_⟩) (by assumption) ?_
  rotate_left
  · intro w hSw; obtain ⟨_, _⟩ := hSw; go_simp; (try with_reducible rfl)
  try change wpAnyH _ _ _ _ _ _ _ (Act.put _ (some 13) _) _
  try simp only [act_all]
  refine wpAnyH_ready (rs := [9]) (by kernel_rfl) (by simp) ?_
  refine AllReadyH.cons (o := _) rfl (fun K hK => ?_) AllReadyH.nil
  go_simp
  refine (rSpan_at _ _ (a / 2) (-(-b / 2)) e0 g _ (by have := HG.out; go_arith) (by have := HG.out; go_arith) HD3.cell HD3.free).mono ?_
  rintro e w4_ ⟨he, hb⟩
  obtain ⟨r, hr⟩ : ∃ r, (rn e0 (inR ⟨a / 2, -(-b / 2)⟩)) = r := ⟨_, rfl⟩
  rw [hr] at he hb
  obtain ⟨⟨p', q'⟩, e'⟩ := r
  have HR4 := Lib.hid hr
  have HD4 : Wk g e' W.heap.size W w4_ := HD3.trans (hb.mono HD3.size)
  obtain rfl : e = .returned (.agg #[.int .i64 p', .int .i64 q']) := he
  have hz4 := HD4.size
  have hq4 := hb.size
  (try simp at hq4)
  clear hb hHeld hr
  obtain ⟨hs', rfl⟩ := Prod.mk.inj (HR4.out.symm.trans HR.out)
  obtain ⟨rfl, rfl⟩ := Sp.mk.inj hs'
  refine hK.out _ _ (G0.out _ _ HD4) (fun hHeld => ?_)
  clear hK K
  try simp only [act_all]
  refine wpAnyH_ready (rs := [10]) (by kernel_rfl) (by simp) ?_
  refine AllReadyH.cons (o := _) rfl (fun K hK => ?_) AllReadyH.nil
  obtain ⟨_, _⟩ := G0.out _ _ HD4
  obtain ⟨_, _, _, _⟩ := G1.out _ _ HD4
  have hsz9 : w.heap.size + 1 < w4_.heap.size := by have := HD4.size; omega
  go_simp
  refine hK.out _ _ (by refine ⟨?_, ?_⟩ <;> go_cell) (fun hHeld => ?_)
  clear hK K
  try simp only [act_all]
  refine wpAnyH_done (by kernel_rfl) ?_ _
  have DL : Below w.heap.size w4_ w4_ := Below.refl _ _
  have HWF := Lib.hid (HW0.out.trans (HD4.mono HW0.out.size))
  go_wp2_with fail
  refine bodyPost_ret (v := .agg #[.int .i64 p', .int .i64 q']) (by simp [results, Try.results115, go_sem, *]) rfl ⟨rfl, HWF.out.then (by go_grown) hg⟩

set_option maxRecDepth 100000 in
set_option maxHeartbeats 2000000 in
theorem rWhole_any (n : Int) (w : World) (h0 : -1024 ≤ n) (h1 : n ≤ 1024) :
    Calls Try.prog 76 #[.int .i64 n] w fun e w' => e = retR ⟨⟨n * 1073741824, n * 1073741824⟩, ⟨0, 0⟩⟩ ∧ Below w.heap.size w w' := by
  have w1 : wrap64 (n * 1073741824) = n * 1073741824 := by simp only [wrap64]; omega
  obtain ⟨m, hm⟩ : ∃ m, n * 1073741824 = m := ⟨_, rfl⟩
  rw [hm] at w1 ⊢
  go_enter Try.func76, Try.ntmps76
  go_wp2_with fail
  refine bodyPost_ret (v := .agg #[.int .i64 m, .int .i64 m, .int .i64 0, .int .i64 0]) (by simp [results, Try.results76, go_sem, *]) rfl ⟨rfl, by go_grown⟩
end Go.Proofs.Ytilclpldfoifkaa
