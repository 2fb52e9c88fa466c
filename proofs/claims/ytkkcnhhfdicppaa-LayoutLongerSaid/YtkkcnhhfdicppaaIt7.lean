import Derived.Test.YtkkcnhhfdicppaaIs7
namespace Go.Proofs.Ytkkcnhhfdicppaa
open Go.RowKit Lay Go.Lib
theorem ins_list {n i : Nat} {cur' : Array Value} {xs vs : List Value} (hi : i < n) (hx : xs.length = n * 2) (hv : vs.length = 4) (hs : (n + 2) * 2 ≤ cur'.size)
    (h : ∀ j, j < (n + 2) * 2 → cur'[j]? = if j < i * 2 then xs[j]? else if j < i * 2 + 4 then vs[j - i * 2]? else xs[j - 4]?) :
    cur'.toList.take ((n + 2) * 2) = xs.take (i * 2) ++ (vs ++ xs.drop (i * 2)) := by
  refine List.ext_getElem? fun j => ?_
  have l1 : (xs.take (i * 2)).length = i * 2 := by rw [List.length_take]; omega
  by_cases hj : j < (n + 2) * 2
  · rw [List.getElem?_take_of_lt hj, Array.getElem?_toList, h j hj]
    by_cases h1 : j < i * 2
    · rw [if_pos h1, List.getElem?_append_left (by omega), List.getElem?_take_of_lt h1]
    · rw [if_neg h1, List.getElem?_append_right (by omega), l1]
      by_cases h2 : j < i * 2 + 4
      · rw [if_pos h2, List.getElem?_append_left (by omega)]
      · rw [if_neg h2, List.getElem?_append_right (by omega), hv, List.getElem?_drop, show i * 2 + (j - i * 2 - 4) = j - 4 by omega]
  · rw [List.getElem?_eq_none (by rw [List.length_take, Array.length_toList]; omega), List.getElem?_eq_none (by rw [List.length_append, List.length_append, List.length_drop]; omega)]
set_option maxRecDepth 100000 in
set_option maxHeartbeats 8000000 in
theorem insert_grow (g n i cap vb vc : Nat) (cur : Array Value) (xs : List Value) (y0 y1 y2 y3 : Value) (w : World) (hi : i < n) (hn9 : n ≤ 100000) (hnc : n ≤ cap) (hr : cap < n + 2)
    (hg : w.heap[g]? = some (.cells cur 26 (0, 0))) (hcs : cur.size = cap * 2) (hys : cur.toList.take (n * 2) = xs) (h1 : ∀ v ∈ xs, v.oneCell' = true)
    (hv : w.heap[vb]? = some (.cells #[y0, y1, y2, y3] 26 (0, 0))) (h1v : ∀ v ∈ [y0, y1, y2, y3], v.oneCell' = true) :
    Calls Try.prog 59 #[.slice (some ⟨g, 0, none⟩) n cap, .int .i64 (i : Int), .slice (some ⟨vb, 0, none⟩) 2 vc] w fun e w' => ∃ (G : Nat) (ROW : Array Value), e = .returned (.slice (some ⟨w.heap.size, 0, none⟩) (n + 2) G) ∧ n + 2 ≤ G ∧ G ≤ maxLen ∧ ROW.size = G * 2 ∧ (∀ j, j < i * 2 → ROW[j]? = xs[j]?) ∧
      w' = (((w.alloc (.cells ROW 26)).drew.setCells w.heap.size (i * 2) [y0, y1, y2, y3]).drew).setCells w.heap.size ((i + 2) * 2) (xs.drop (i * 2)) := by
  obtain ⟨i0, hi0, hz0, hzs, hzb⟩ := info_parts xy_info
  have mixed : Try.prog.follows Departure.mixedOrders = true := by kernel_rfl
  have hsz : (Try.prog.info? 26 ).map (·.size) = some 2 := by kernel_rfl
  have hxl : xs.length = n * 2 := by rw [← hys, List.length_take, Array.length_toList]; omega
  have hbw : g < w.heap.size := (Array.getElem?_eq_some_iff.1 hg).1
  have hvw : vb < w.heap.size := (Array.getElem?_eq_some_iff.1 hv).1
  have hxc : ∀ j v, xs[j]? = some v → w.cell? ⟨g, j, none⟩ = some v := fun j v h => by
    have hj : j < n * 2 := by have := (List.getElem?_eq_some_iff.1 h).1; omega
    rw [cell_of_row w g _ cur _ (0, 0) hg]
    rw [← hys, List.getElem?_take_of_lt hj, Array.getElem?_toList] at h
    exact h
  have hold : (Builtin.firstCells i0.size i (.slice (some ⟨g, 0, none⟩) i cap)).run Try.prog w.drew = .ok (xs.take (i * 2)).toArray w.drew := by
    rw [hzs]
    exact run_firstCells_some w.drew 2 i ⟨g, 0, none⟩ i cap (xs.take (i * 2)) (by rw [List.length_take]; omega) (fun j v hj => by
      rw [Addr.add_lit, Nat.zero_add]
      rw [List.getElem?_take] at hj
      split at hj
      · exact hxc j v hj
      · cases hj)
  have hkk : (n : Int) + 2 - (i : Int) = ((n + 2 - i : Nat) : Int) := by omega
  have hik : i + (n + 2 - i) = n + 2 := by omega
  have hrz : ∀ ty, (Builtin.append_ #[ 22 , 3] ty #[.slice (some ⟨g, 0, none⟩) i cap, .int .i64 ((n : Int) + 2 - (i : Int))]).run Try.prog w =
      .ok (.slice (some ⟨w.heap.size, 0, none⟩) (n + 2) (grownCap w (n + 2) cap 26)) (w.drew.alloc (.cells ((xs.take (i * 2)).toArray ++ Builtin.zeroCells (Value.agg #[.int .i64 0, .int .i64 0]).cells (n + 2 - i) ++ Builtin.zeroCells (Value.agg #[.int .i64 0, .int .i64 0]).cells (grownCap w (n + 2) cap 26 - (n + 2))) 26)) := fun ty => by
    have h := Lib.run_append_grow_zeros w 22 3 ty 26 i0 _ .i64 .i64 Try.underlying22 Try.underlying3 hi0 hz0 (some ⟨g, 0, none⟩) i cap (xs.take (i * 2)) hold (n + 2 - i) (by omega) (by omega) (by omega) (by omega) (by rw [hzb]; omega) (by rw [hzb, hik]; exact growslice_fits hr (by omega))
    rw [hik] at h
    rw [hkk]
    exact h
  have hGn := grownCap_ge w (n + 2) cap 26
  have hG63 := grownCap_le_maxLen w (n + 2) cap 26 (by unfold maxLen; omega)
  obtain ⟨G, hG⟩ : ∃ G, G = grownCap w (n + 2) cap 26 := ⟨_, rfl⟩
  obtain ⟨ROW, hROW⟩ : ∃ ROW : Array Value, ROW = (xs.take (i * 2)).toArray ++ Builtin.zeroCells (Value.agg #[.int .i64 0, .int .i64 0]).cells (n + 2 - i) ++ Builtin.zeroCells (Value.agg #[.int .i64 0, .int .i64 0]).cells (G - (n + 2)) := ⟨_, rfl⟩
  rw [← hG] at hrz hGn hG63
  rw [← hROW] at hrz
  have hz2 : ∀ k, (Builtin.zeroCells (Value.agg #[.int .i64 0, .int .i64 0]).cells k).size = k * 2 := fun k => by
    simp [Builtin.zeroCells, Value.cells]; try omega
  have hRl : ROW.size = G * 2 := by
    rw [hROW, Array.size_append, Array.size_append, hz2, hz2, List.size_toArray, List.length_take]
    omega
  have hRx : ∀ j, j < i * 2 → ROW[j]? = xs[j]? := fun j hj => by
    rw [hROW, Array.append_assoc, Array.getElem?_append_left (by rw [List.size_toArray, List.length_take]; omega), List.getElem?_toArray, List.getElem?_take_of_lt hj]
  obtain ⟨W1, hW1⟩ : ∃ W1, W1 = w.drew.alloc (.cells ROW 26) := ⟨_, rfl⟩
  rw [← hW1] at hrz
  have hb1 : W1.heap[w.heap.size]? = some (.cells ROW 26 (0, 0)) := by rw [hW1]; exact heap_alloc_new w.drew _
  have hbg1 : W1.heap[g]? = some (.cells cur 26 (0, 0)) := by rw [hW1]; exact (Below.heap_alloc _ _ _ hbw).trans hg
  have hbv1 : W1.heap[vb]? = some (.cells #[y0, y1, y2, y3] 26 (0, 0)) := by rw [hW1]; exact (Below.heap_alloc _ _ _ hvw).trans hv
  have hcpA : ∀ (W : World), (∀ x, W.cell? x = W1.cell? x) → (∀ x, W.frozen? x = W1.frozen? x) → ∀ ty dc, (Builtin.copy_ #[ 22 , 22 ] ty #[.slice (some ⟨w.heap.size, i * 2, none⟩) (n + 2 - i) dc, .slice (some ⟨vb, 0, none⟩) 2 vc]).run Try.prog W = .ok (goInt 2) (W.setCells w.heap.size (i * 2) [y0, y1, y2, y3]) := fun W hWc hWf ty dc => by
    have h := run_copy_xy (P := Try.prog) W 22 22 ty 26 w.heap.size (i * 2) (n + 2 - i) dc ⟨vb, 0, none⟩ 2 vc [y0, y1, y2, y3] Try.underlying22 hsz (by simp only [Nat.min_def]; split <;> simp <;> omega)
      (fun j v hj => by rw [Addr.add_lit, Nat.zero_add, hWc, cell_of_row W1 vb _ _ _ (0, 0) hbv1]; simpa using hj)
      (fun j hj => by rw [hWc, cell_of_row W1 _ _ _ _ (0, 0) hb1, Array.getElem?_eq_getElem (by simp at hj; omega)]; rfl) (fun j hj => by rw [hWf]; unfold World.frozen?; simp [hb1]) h1v
    rwa [show Nat.min 2 (n + 2 - i) = 2 by simp only [Nat.min_def]; split <;> omega] at h
  have hb2 : (W1.setCells w.heap.size (i * 2) [y0, y1, y2, y3]).heap[w.heap.size]? = some (.cells (putAt' ROW (i * 2) [y0, y1, y2, y3]) 26 (0, 0)) := block_setCells' _ _ _ _ hb1
  have hbg2 : (W1.setCells w.heap.size (i * 2) [y0, y1, y2, y3]).heap[g]? = some (.cells cur 26 (0, 0)) := (heap_setCells_other _ _ _ (by omega)).trans hbg1
  have hdl : (xs.drop (i * 2)).length = (n - i) * 2 := by rw [List.length_drop]; omega
  have hcpB : ∀ (W : World), (∀ x, W.cell? x = (W1.setCells w.heap.size (i * 2) [y0, y1, y2, y3]).cell? x) → (∀ x, W.frozen? x = (W1.setCells w.heap.size (i * 2) [y0, y1, y2, y3]).frozen? x) → ∀ ty dc sc, (Builtin.copy_ #[ 22 , 22 ] ty #[.slice (some ⟨w.heap.size, (i + 2) * 2, none⟩) (n + 2 - (i + 2)) dc, .slice (some ⟨g, i * 2, none⟩) (n - i) sc]).run Try.prog W = .ok (goInt ((n - i : Nat) : Int)) (W.setCells w.heap.size ((i + 2) * 2) (xs.drop (i * 2))) := fun W hWc hWf ty dc sc => by
    have h := run_copy_xy (P := Try.prog) W 22 22 ty 26 w.heap.size ((i + 2) * 2) (n + 2 - (i + 2)) dc ⟨g, i * 2, none⟩ (n - i) sc (xs.drop (i * 2)) Try.underlying22 hsz (by rw [hdl]; simp only [Nat.min_def]; split <;> omega)
      (fun j v hj => by
        rw [Addr.add_lit, hWc, cell_of_row _ g _ _ _ (0, 0) hbg2]
        rw [List.getElem?_drop] at hj
        have hj' : i * 2 + j < n * 2 := by have := (List.getElem?_eq_some_iff.1 hj).1; omega
        rw [← hys, List.getElem?_take_of_lt hj', Array.getElem?_toList] at hj
        exact hj)
      (fun j hj => by rw [hWc, cell_of_row _ _ _ _ _ (0, 0) hb2, Array.getElem?_eq_getElem (by rw [putAt'_size]; omega)]; rfl)
      (fun j hj => by rw [hWf]; unfold World.frozen?; simp [hb2]) (fun v hv => h1 v (List.mem_of_mem_drop hv))
    rwa [show Nat.min (n - i) (n + 2 - (i + 2)) = n - i by simp only [Nat.min_def]; split <;> omega] at h
  subst hW1
  have hE1 : ∀ x, ((w.alloc (.cells ROW 26)).drew).cell? x = (w.drew.alloc (.cells ROW 26)).cell? x := fun x => rfl
  have hE2 : ∀ x, ((w.alloc (.cells ROW 26)).drew).frozen? x = (w.drew.alloc (.cells ROW 26)).frozen? x := fun x => rfl
  have hF1 : ∀ x, (((w.alloc (.cells ROW 26)).drew.setCells w.heap.size (i * 2) [y0, y1, y2, y3]).drew).cell? x = ((w.drew.alloc (.cells ROW 26)).setCells w.heap.size (i * 2) [y0, y1, y2, y3]).cell? x := fun x => rfl
  have hF2 : ∀ x, (((w.alloc (.cells ROW 26)).drew.setCells w.heap.size (i * 2) [y0, y1, y2, y3]).drew).frozen? x = ((w.drew.alloc (.cells ROW 26)).setCells w.heap.size (i * 2) [y0, y1, y2, y3]).frozen? x := fun x => rfl
  have hz1 : ¬ ((i : Int) = (n : Int)) := by omega
  have hz3 : (cap : Int) < (n : Int) + 2 := by omega
  have hGi : ¬ (G = i) := by omega
  have hGim : ¬ (G = i + 2) := by omega
  have hci : ¬ (cap = i) := by omega
  have hw1 : IntKind.i64.wrap ((i : Int) + 2) = (i : Int) + 2 := by rw [IntKind.wrap_i64]; omega
  have hb1' : (0 : Int) ≤ (i : Int) + 2 := by omega
  have hin : i ≤ n := by omega
  have htn : ((i : Int) + 2).toNat = i + 2 := by omega
  have hb3 : (i : Int) ≤ (n : Int) := by omega
  have hgg := Lib.hid (And.intro hGn (And.intro hG63 (And.intro hRl hRx)))
  have hG63' : G ≤ 9223372036854775807 := by unfold maxLen at hG63; omega
  clear hkk hik hold hROW hG hRl hRx hb1 hbg1 hbv1 hb2 hbg2 hdl hys hg hv hxc hxl hz2 h1 h1v hz0 hzs hzb hcs
  go_enter Try.func59, Try.ntmps59
  go_wp2_with (first
    | (at_builtin; refine Lib.wpList_append_run _ rfl _ _ _ _ rfl _ _ rfl rfl _ _ (hrz _) ?_)
    | (at_builtin; refine wpList_copy_runI _ rfl _ _ 22 22 rfl _ _ rfl rfl (hcpA _ hE1 hE2 _ _) ?_)
    | (at_builtin; refine wpList_copy_runI _ rfl _ _ 22 22 rfl _ _ rfl rfl (hcpB _ (fun _ => rfl) (fun _ => rfl) _ _ _) ?_))
  go_region_law_o (refine step_copy_runI rfl _ _ 22 22 rfl (.slice (some ⟨w.heap.size, (i + 2) * 2, none⟩) (n + 2 - (i + 2)) (G - (i + 2))) (.slice (some ⟨g, i * 2, none⟩) (n - i) (cap - i)) (by simp [Act.eval, Act.put]) (by simp [Act.eval, Act.put]) (hcpB _ hF1 hF2 3 (G - (i + 2)) (cap - i)) ?_)
  go_wp2
  refine bodyPost_ret (v := .slice (some ⟨w.heap.size, 0, none⟩) (n + 2) G) (by simp [results, Try.results59, go_sem]) rfl ⟨G, ROW, rfl, hgg.out.1, hgg.out.2.1, hgg.out.2.2.1, hgg.out.2.2.2, rfl⟩
end Go.Proofs.Ytkkcnhhfdicppaa
