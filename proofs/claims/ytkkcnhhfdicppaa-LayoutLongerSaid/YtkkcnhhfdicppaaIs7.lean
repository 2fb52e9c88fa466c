import Derived.Test.YtkkcnhhfdicppaaPd7
import Derived.Shelf.Spec.SlicesInsertGrow
namespace Go.Proofs.Ytkkcnhhfdicppaa
open Go.RowKit Lay Go.Lib
theorem putAt'_size : ∀ (vs : List Value) (o : Nat) (cs : Array Value), (putAt' cs o vs).size = cs.size
  | [], _, _ => rfl
  | v :: r, o, cs => by unfold putAt'; rw [putAt'_size r]; simp
theorem heap_setCells_other {g k : Nat} : ∀ (vs : List Value) (o : Nat) (w : World), k ≠ g → (w.setCells g o vs).heap[k]? = w.heap[k]?
  | [], _, _, _ => rfl
  | v :: r, o, w, h => (heap_setCells_other r (o + 1) (w.setCell ⟨g, o, none⟩ v) h).trans (Below.heap_setCell _ _ _ _ h)
/-- copy of elements of two cells: all is read before anything is written. -/
theorem run_copy_xy {P : Program} (w : World) (dT sT ty elem : TypeId) (b o dLen dCap : Nat) (a : Addr) (sLen sCap : Nat) (cs : List Value)
    (hu : P.underlying dT = some (.slice elem)) (hs : (P.info? elem).map (·.size) = some 2) (hn : cs.length = Nat.min sLen dLen * 2)
    (hsrc : ∀ j v, cs[j]? = some v → w.cell? (a.add j) = some v) (hc : ∀ j, j < cs.length → (w.cell? ⟨b, o + j, none⟩).isSome = true) (hf : ∀ j, j < cs.length → w.frozen? ⟨b, o + j, none⟩ = false) (h1 : ∀ v ∈ cs, v.oneCell' = true) :
    (Builtin.copy_ #[dT, sT] ty #[.slice (some ⟨b, o, none⟩) dLen dCap, .slice (some a) sLen sCap]).run P w = .ok (goInt (Nat.min sLen dLen)) (w.setCells b o cs) := by
  have hl := run_loadCells_list (P := P) w a cs hsrc
  have hst := run_storeCells_cells (P := P) b o cs 0 w (by simpa using hc) (by simpa using hf) h1
  cases hq : P.info? elem with
  | none => simp [hq] at hs
  | some i =>
    have hi : i.size = 2 := by simpa [hq] using hs
    simp [Builtin.copy_, run_underlying hu, Builtin.lenOf, Builtin.firstCells, sizeOf, typeInfo, hq, hi, ← hn, hl, hst]
theorem xyC_one (l : List (Int × Int)) : ∀ v ∈ xyC l, v.oneCell' = true := by
  intro v hv
  unfold xyC at hv
  obtain ⟨c, _, h⟩ := List.mem_flatMap.1 hv
  simp only [List.mem_cons, List.not_mem_nil, or_false] at h
  rcases h with rfl | rfl <;> rfl
set_option maxRecDepth 100000 in
set_option maxHeartbeats 8000000 in
theorem insert_room (g n i cap vb vc : Nat) (cur : Array Value) (ys : List Value) (y0 y1 y2 y3 : Value) (w : World) (hi : i < n) (hr : n + 2 ≤ cap) (hcap : cap ≤ 9223372036854775807)
    (hg : w.heap[g]? = some (.cells cur 26 (0, 0))) (hcs : cur.size = cap * 2) (hys : ys = (cur.toList.take (n * 2)).drop (i * 2)) (h1 : ∀ v ∈ ys, v.oneCell' = true)
    (hv : w.heap[vb]? = some (.cells #[y0, y1, y2, y3] 26 (0, 0))) (hne : vb ≠ g) (h1v : ∀ v ∈ [y0, y1, y2, y3], v.oneCell' = true) :
    Calls Try.prog 59 #[.slice (some ⟨g, 0, none⟩) n cap, .int .i64 (i : Int), .slice (some ⟨vb, 0, none⟩) 2 vc] w fun e w' => e = .returned (.slice (some ⟨g, 0, none⟩) (n + 2) cap) ∧ w' = (w.drew.setCells g ((i + 2) * 2) ys).setCells g (i * 2) [y0, y1, y2, y3] := by
  have hsz : (Try.prog.info? 26 ).map (·.size) = some 2 := by kernel_rfl
  have hov : ∀ o lb cb, (callFunc 73 #[.slice (some ⟨vb, 0, none⟩) 2 vc, .slice (some ⟨g, o, none⟩) lb cb]).run Try.prog w = .ok (.value (.bool false)) w := fun o lb cb => by
    rw [run_callFunc_extern Try.func73 (by kernel_rfl) (by kernel_rfl) (by kernel_rfl) (e := Extern.SlicesOverlaps.overlaps #[ 22 , 22 ] #[4]) (by kernel_rfl),
      Lib.run_overlaps_apart w 22 4 26 Try.underlying22 2 Try.sizeOf26 ⟨vb, 0, none⟩ ⟨g, o, none⟩ 2 vc lb cb hne 26 26 4 (cap * 2) (by unfold World.shape?; simp [hv]) (by unfold World.shape?; simp [hg, hcs]) (by omega) (by unfold World.frozen?; simp [hv]) (by unfold World.frozen?; simp [hv])]
    rfl
  have hyl : ys.length = (n - i) * 2 := by rw [hys, List.length_drop, List.length_take, Array.length_toList, hcs, Nat.min_eq_left (by omega)]; omega
  have hcell : ∀ k, k < cap * 2 → (w.cell? ⟨g, k, none⟩).isSome = true := fun k hk => by
    rw [cell_of_row w g k cur _ (0, 0) hg, Array.getElem?_eq_getElem (by omega)]; rfl
  have hfz : ∀ k, w.frozen? ⟨g, k, none⟩ = false := fun k => by unfold World.frozen?; simp [hg]
  have hyc : ∀ j v, ys[j]? = some v → w.cell? ⟨g, i * 2 + j, none⟩ = some v := fun j v h => by
    rw [hys, List.getElem?_drop] at h
    have hj : i * 2 + j < n * 2 := by
      rcases Nat.lt_or_ge (i * 2 + j) (n * 2) with h' | h'
      · exact h'
      · rw [List.getElem?_eq_none (by rw [List.length_take]; omega)] at h; cases h
    rw [cell_of_row w g _ cur _ (0, 0) hg]
    rw [List.getElem?_take_of_lt hj, Array.getElem?_toList] at h
    exact h
  have hcp1 : ∀ ty dc sc, (Builtin.copy_ #[ 22 , 22 ] ty #[.slice (some ⟨g, (i + 2) * 2, none⟩) (n + 2 - (i + 2)) dc, .slice (some ⟨g, i * 2, none⟩) (n + 2 - i) sc]).run Try.prog w.drew = .ok (goInt ((n - i : Nat) : Int)) (w.drew.setCells g ((i + 2) * 2) ys) := fun ty dc sc => by
    have h := run_copy_xy (P := Try.prog) w.drew 22 22 ty 26 g ((i + 2) * 2) (n + 2 - (i + 2)) dc ⟨g, i * 2, none⟩ (n + 2 - i) sc ys Try.underlying22 hsz (by rw [hyl]; simp only [Nat.min_def]; split <;> omega)
      (fun j v hj => by rw [Addr.add_lit]; exact hyc j v hj) (fun j hj => hcell _ (by omega)) (fun j hj => hfz _) h1
    rwa [show Nat.min (n + 2 - i) (n + 2 - (i + 2)) = n - i by simp only [Nat.min_def]; split <;> omega] at h
  obtain ⟨W1, hW1⟩ : ∃ W1, W1 = w.drew.setCells g ((i + 2) * 2) ys := ⟨_, rfl⟩
  have hb1 : W1.heap[g]? = some (.cells (putAt' cur ((i + 2) * 2) ys) 26 (0, 0)) := by rw [hW1]; exact block_setCells' ys _ cur w.drew hg
  have hps : (putAt' cur ((i + 2) * 2) ys).size = cap * 2 := by rw [putAt'_size]; exact hcs
  have hvb : W1.heap[vb]? = some (.cells #[y0, y1, y2, y3] 26 (0, 0)) := by rw [hW1, heap_setCells_other ys _ _ hne]; exact hv
  have hcp2 : ∀ ty dc, (Builtin.copy_ #[ 22 , 22 ] ty #[.slice (some ⟨g, i * 2, none⟩) (n + 2 - i) dc, .slice (some ⟨vb, 0, none⟩) 2 vc]).run Try.prog W1 = .ok (goInt 2) (W1.setCells g (i * 2) [y0, y1, y2, y3]) := fun ty dc => by
    have h := run_copy_xy (P := Try.prog) W1 22 22 ty 26 g (i * 2) (n + 2 - i) dc ⟨vb, 0, none⟩ 2 vc [y0, y1, y2, y3] Try.underlying22 hsz (by simp only [Nat.min_def]; split <;> simp <;> omega)
      (fun j v hj => by
        rw [Addr.add_lit, Nat.zero_add, cell_of_row W1 vb _ _ _ (0, 0) hvb]; simpa using hj)
      (fun j hj => by rw [cell_of_row W1 g _ _ _ (0, 0) hb1, Array.getElem?_eq_getElem (by simp at hj; omega)]; rfl) (fun j hj => by unfold World.frozen?; simp [hb1]) h1v
    rwa [show Nat.min 2 (n + 2 - i) = 2 by simp only [Nat.min_def]; split <;> omega] at h
  rw [← hW1] at hcp1 ⊢
  have HW1 := Lib.hid hW1
  clear hb1 hps hvb hyc hcell hfz hyl hg hv hcs hys h1 h1v hW1 HW1
  have hz1 : ¬ ((i : Int) = (n : Int)) := by omega
  have hz2 : ¬ (cap : Int) < (n : Int) + 2 := by omega
  have mixed : Try.prog.follows Departure.mixedOrders = true := by kernel_rfl
  have hw1 : IntKind.i64.wrap ((i : Int) + 2) = (i : Int) + 2 := by rw [IntKind.wrap_i64]; omega
  have hb1 : (0 : Int) ≤ (i : Int) + 2 := by omega
  have hin : i ≤ n := by omega
  have htn : ((i : Int) + 2).toNat = i + 2 := by omega
  have hb2 : ¬ (cap = i + 2) := by omega
  have hb3 : (i : Int) ≤ (n : Int) + 2 := by omega
  have hb4 : ¬ (cap = i) := by omega
  go_enter Try.func59, Try.ntmps59
  go_wp2_with (simp only [hov])
  go_region_law_o (refine step_copy_runI rfl _ _ 22 22 rfl _ _ (by simp [Act.eval, Act.put]) (by simp [Act.eval, Act.put]) (hcp1 _ (cap - (i + 2)) (cap - i)) ?_)
  go_wp2_with (at_builtin; refine wpList_copy_runI _ rfl _ _ 22 22 rfl _ _ rfl rfl (hcp2 _ _) ?_)
  refine bodyPost_ret (v := .slice (some ⟨g, 0, none⟩) (n + 2) cap) (by simp [results, Try.results59, go_sem]) rfl ⟨rfl, rfl⟩
end Go.Proofs.Ytkkcnhhfdicppaa
