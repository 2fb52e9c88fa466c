/- The library's contracts of slices.Insert at lists of whole numbers, laid at this program in plain words. -/
import Derived.Test.YtfilofnkiocbeaaRv8
import Derived.Shelf.Spec.SlicesInsertGrow
namespace Go.Proofs
open Go.Shelf
def Try.lays21_ren : Go.Shelf.Ren := ⟨fun | 21 => 75 | 27 => 86 | 28 => 87 | 35 => 91 | 39 => 92 | n => n, fun | 22 => 28 | 0 => 0 | 3 => 3 | 4 => 4 | n => n, fun n => n⟩
theorem Try.lays21 : Go.Proofs.Lays2.n21 Try.prog Try.lays21_ren := {
  mixed := by kernel_rfl
  f21 := Try.func75.trans (congrArg some (by kernel_rfl))
  f27 := Try.func86.trans (congrArg some (by kernel_rfl))
  f28 := Try.func87.trans (congrArg some (by kernel_rfl))
  f35 := Try.func91.trans (congrArg some (by kernel_rfl))
  f39 := Try.func92.trans (congrArg some (by kernel_rfl))
  t0 := Try.underlying0
  a0 := Try.isAgg0
  z0 := Try.sizeOf0
  v0 := Try.zeroValue0
  t3 := Try.underlying3
  a3 := Try.isAgg3
  z3 := Try.sizeOf3
  v3 := Try.zeroValue3
  t4 := Try.underlying4
  a4 := Try.isAgg4
  z4 := Try.sizeOf4
  v4 := Try.zeroValue4
  t22 := Try.underlying28
  a22 := Try.isAgg28
  z22 := Try.sizeOf28
  v22 := Try.zeroValue28
  i3 := by kernel_rfl }
end Go.Proofs
namespace Go.Proofs.Ytfilofnkiocbeaa
open Go.RowKit Ben Prm
def insF (f : Nat → Int) (i : Nat) (x : Int) : Nat → Int := fun j => if j < i then f j else if j = i then x else f (j - 1)
theorem some_setCells (b : Nat) (vs : List Value) (o : Nat) (w : World) (k : Nat) (h : ∀ j, j < vs.length → (w.cell? ⟨b, o + j, none⟩).isSome = true) (hk : (w.cell? ⟨b, k, none⟩).isSome = true) : ((w.setCells b o vs).cell? ⟨b, k, none⟩).isSome = true := by
  by_cases hin : o ≤ k ∧ k < o + vs.length
  · have := World.cell?_setCells_in b vs o w h (k - o) (by omega)
    rw [show o + (k - o) = k by omega] at this
    rw [this]; rfl
  · rw [World.cell?_setCells_out b vs o w ⟨b, k, none⟩ (fun _ _ => by show k < o ∨ o + vs.length ≤ k; omega)]
    exact hk
theorem at_setCells (b : Nat) (vs : List Value) (o N : Nat) (w : World) (h : ∀ k, k < N → (w.cell? ⟨b, k, none⟩).isSome = true) (ho : o + vs.length ≤ N) (k : Nat) : (w.setCells b o vs).cell? ⟨b, k, none⟩ = if o ≤ k ∧ k < o + vs.length then vs[k - o]? else w.cell? ⟨b, k, none⟩ := by
  by_cases hin : o ≤ k ∧ k < o + vs.length
  · have := World.cell?_setCells_in b vs o w (fun j hj => h _ (by omega)) (k - o) (by omega)
    rw [show o + (k - o) = k by omega] at this
    rw [if_pos hin, this, List.getElem?_eq_getElem (by omega)]
  · rw [if_neg hin]
    exact World.cell?_setCells_out b vs o w ⟨b, k, none⟩ (fun _ _ => by show k < o ∨ o + vs.length ≤ k; omega)
theorem cellsI_drop (f : Nat → Int) (n i j : Nat) (h : i + j < n) : ((cellsI f n).drop i)[j]? = some (.int .i64 (f (i + j))) := by
  rw [List.getElem?_drop]
  exact cellsI_get f h
theorem below_sets {B g : Nat} (hg : B ≤ g) : ∀ (vs : List Value) (o : Nat) (w : World), Below B w (w.setCells g o vs)
  | [], _, w => Below.refl B w
  | v :: r, o, w => ((Below.refl B w).setCell (p := ⟨g, o, none⟩) hg v).trans (below_sets hg r (o + 1) _)
theorem size_sets (g : Nat) : ∀ (vs : List Value) (o : Nat) (w : World), (w.setCells g o vs).heap.size = w.heap.size
  | [], _, _ => rfl
  | v :: r, o, w => (size_sets g r (o + 1) _).trans (by simp [World.setCell])
/-- What stands in a row that is the call's own. -/
theorem own_cells {w : World} {B g n cap : Nat} {f : Nat → Int} (h : w.ownsRow B 3 1 (.slice (some ⟨g, 0, none⟩) n cap) n (cellsI f n)) :
    (∀ k, k < cap → (w.cell? ⟨g, k, none⟩).isSome = true) ∧ (∀ k, w.frozen? ⟨g, k, none⟩ = false) ∧ w.shape? g = some (3, cap) := by
  rcases h.2 with ⟨h0, _⟩ | ⟨g', cap', cur, he, _, hg, _, _, hs, _⟩
  · cases h0
  · cases he
    refine ⟨fun k hk => ?_, fun k => h.frozenAt k, ?_⟩
    · rw [cell_of_row w g k cur _ (0, 0) hg, Array.getElem?_eq_getElem (by omega)]
      rfl
    · unfold World.shape?
      simp [hg, hs]
theorem insF_lo {f : Nat → Int} {i j : Nat} {x : Int} (h : j < i) : insF f i x j = f j := if_pos h
theorem insF_at {f : Nat → Int} {i : Nat} {x : Int} : insF f i x i = x := by unfold insF; rw [if_neg (Nat.lt_irrefl _), if_pos rfl]
theorem insF_hi {f : Nat → Int} {i j : Nat} {x : Int} (h : i < j) : insF f i x j = f (j - 1) := by unfold insF; rw [if_neg (by omega), if_neg (by omega)]
/-- Insert of one number: the list anew, in a block of its own. -/
theorem insert_any (B n i vb vc : Nat) (V : Value) (x : Int) (f : Nat → Int) (w : World) (hi : i ≤ n) (hn : n ≤ 100) (hB : B ≤ w.heap.size) (hown : w.ownsRow B 3 1 V n (cellsI f n))
    (hv : w.heap[vb]? = some (.cells #[.int .i64 x] 3 (0, 0))) (hne : V.ownBlock ≠ some vb) :
    Calls Try.prog 75 #[V, .int .i64 (i : Int), .slice (some ⟨vb, 0, none⟩) 1 vc] w fun e w' => IntsRet B w' e (n + 1) (insF f i x) ∧ Below B w w' := by
  have hvc : ∀ j v, [Value.int .i64 x][j]? = some v → w.cell? ⟨vb, 0 + j, none⟩ = some v := fun j v h => by
    rw [Nat.zero_add, cell_of_row w vb j _ _ (0, 0) hv]
    simpa using h
  have h1v : ∀ v ∈ [Value.int .i64 x], v.oneCell' = true := fun v h => by rw [List.mem_singleton.1 h]; rfl
  have hge := grownCap_ge w (n + 1)
  have hle := fun o e => grownCap_le_maxLen w (n + 1) o e (by unfold maxLen; omega)
  unfold maxLen at hle
  rcases hown.2 with ⟨rfl, rfl⟩ | ⟨g, cap, cur, rfl, hbg, hg, hnc, hcm, hcs, _⟩
  · obtain rfl : i = 0 := by omega
    refine (Any2.slices_Insert_int_end_grow Try.lays21 none 0 0 vb 0 1 vc [] [.int .i64 x] w (by omega) (Nat.le_refl _) (by omega) (by omega) rfl rfl (fun _ => rfl) (fun a h => by cases h) hvc h1v).mono ?_
    rintro e w' ⟨rfl, rfl⟩
    have hgr := hge 0 (Try.lays21_ren.t 3)
    have hlr := hle 0 (Try.lays21_ren.t 3)
    obtain ⟨G, hG⟩ : ∃ G, grownCap w (0 + 1) 0 (Try.lays21_ren.t 3) = G := ⟨_, rfl⟩
    rw [hG] at hgr hlr ⊢
    refine ⟨⟨w.heap.size, _, rfl, ?_, hB, by simp, hgr, by omega⟩, ((Below.refl B w).drew).alloc hB _⟩
    obtain ⟨C, hC⟩ : ∃ C : Array Value, C = ([] ++ [Value.int .i64 x]).toArray ++ Builtin.zeroCells (Value.int .i64 0).cells (G - (0 + 1)) := ⟨_, rfl⟩
    rw [← hC]
    obtain ⟨W, hW⟩ : ∃ W, W = w.drew.alloc (.cells C (Try.lays21_ren.t 3)) := ⟨_, rfl⟩
    have h0 : W.heap[w.heap.size]? = some (.cells C (Try.lays21_ren.t 3) (0, 0)) := by rw [hW]; exact heap_alloc_new w.drew _
    rw [← hW]
    intro j hj
    obtain rfl : j = 0 := by omega
    refine ⟨?_, by unfold World.frozen?; simp [h0]⟩
    rw [cell_of_row _ _ _ _ _ (0, 0) h0, insF_at, hC, Array.getElem?_append_left (by simp)]
    rfl
  · have hno : ¬ vb = g := fun e => hne (by rw [e]; rfl)
    obtain ⟨hsp, hfz, hsh⟩ := own_cells hown
    have hcell : ∀ j, j < n → w.cell? ⟨g, j, none⟩ = some (.int .i64 (f j)) := fun j hj => (hown.cellAt j (by omega)).trans (cellsI_get f hj)
    have hgl : g < w.heap.size := (Array.getElem?_eq_some_iff.1 hg).1
    have hcs' : ∀ j v, (cellsI f n)[j]? = some v → w.cell? ⟨g, 0 + j, none⟩ = some v := fun j v h => by
      have hj : j < n := by have := (List.getElem?_eq_some_iff.1 h).1; rwa [cellsI_len] at this
      rw [Nat.zero_add, hcell j hj, ← h, cellsI_get f hj]
    unfold maxLen at hcm
    by_cases hin : i = n
    · subst hin
      by_cases hr : i + 1 ≤ cap
      · refine (Any2.slices_Insert_int_end_room Try.lays21 g 0 i cap vb 0 1 vc [.int .i64 x] w (by omega) hr (by omega) rfl (fun j hj => hsp _ (by omega)) (fun j hj => hfz _) hvc h1v).mono ?_
        rintro e w' ⟨rfl, rfl⟩
        refine ⟨⟨g, cap, rfl, fun j hj => ⟨?_, by rw [World.frozen?_setCells]; exact hfz j⟩, hbg, by rw [size_sets]; exact hgl, hr, by omega⟩, below_sets hbg _ _ _⟩
        rw [at_setCells g _ _ cap w hsp (by simp; omega)]
        by_cases e : j = i
        · subst e
          rw [if_pos (by simp), insF_at, Nat.zero_add, Nat.sub_self]; rfl
        · rw [if_neg (by simp; omega), insF_lo (by omega)]
          exact hcell j (by omega)
      · refine (Any2.slices_Insert_int_end_grow Try.lays21 (some ⟨g, 0, none⟩) i cap vb 0 1 vc (cellsI f i) [.int .i64 x] w (by omega) hnc (by omega) (by omega) (cellsI_len _ _) rfl (fun h => by cases h) (fun a h j v hv => by cases h; rw [Addr.add_lit]; exact hcs' j v hv) hvc h1v).mono ?_
        rintro e w' ⟨rfl, rfl⟩
        have hgr := hge cap (Try.lays21_ren.t 3)
        have hlr := hle cap (Try.lays21_ren.t 3)
        obtain ⟨G, hG⟩ : ∃ G, grownCap w (i + 1) cap (Try.lays21_ren.t 3) = G := ⟨_, rfl⟩
        rw [hG] at hgr hlr ⊢
        refine ⟨⟨w.heap.size, _, rfl, ?_, hB, by simp, hgr, by omega⟩, ((Below.refl B w).drew).alloc hB _⟩
        obtain ⟨C, hC⟩ : ∃ C : Array Value, C = (cellsI f i ++ [Value.int .i64 x]).toArray ++ Builtin.zeroCells (Value.int .i64 0).cells (G - (i + 1)) := ⟨_, rfl⟩
        rw [← hC]
        obtain ⟨W, hW⟩ : ∃ W, W = w.drew.alloc (.cells C (Try.lays21_ren.t 3)) := ⟨_, rfl⟩
        have h0 : W.heap[w.heap.size]? = some (.cells C (Try.lays21_ren.t 3) (0, 0)) := by rw [hW]; exact heap_alloc_new w.drew _
        rw [← hW]
        intro j hj
        refine ⟨?_, by unfold World.frozen?; simp [h0]⟩
        rw [cell_of_row _ _ _ _ _ (0, 0) h0, hC]
        by_cases e : j = i
        · subst e
          rw [insF_at, Array.getElem?_append_left (by simp [cellsI_len])]
          simp [cellsI_len]
        · rw [insF_lo (by omega), Array.getElem?_append_left (by simp [cellsI_len]; omega)]
          simp only [List.getElem?_toArray]
          rw [List.getElem?_append_left (by rw [cellsI_len]; omega)]
          exact cellsI_get f (by omega)
    · have hlt : i < n := by omega
      have hdl : ((cellsI f n).drop i).length = n - i := by rw [List.length_drop, cellsI_len]
      by_cases hr : n + 1 ≤ cap
      · refine (Any2.slices_Insert_int_shift Try.lays21 g 0 n cap i vb 0 1 vc (cellsI f n) [.int .i64 x] w hlt (by omega) hr (by omega) hno (cellsI_len _ _) rfl hcs' (fun j hj => hsp _ (by omega)) (fun j hj => hfz _) hvc (cellsI_one f n) h1v 3 3 1 cap (by unfold World.shape?; simp [hv]) hsh (by omega) (by unfold World.frozen?; simp [hv]) (by unfold World.frozen?; simp [hv])).mono ?_
        rintro e w' ⟨rfl, rfl⟩
        refine ⟨⟨g, cap, rfl, fun j hj => ⟨?_, by rw [World.frozen?_setCells, World.frozen?_setCells]; exact hfz j⟩, hbg, by rw [size_sets, size_sets]; exact hgl, hr, by omega⟩, (((Below.refl B w).drew).trans (below_sets hbg _ _ _)).trans (below_sets hbg _ _ _)⟩
        have hsd : ∀ k, k < cap → (w.drew.cell? ⟨g, k, none⟩).isSome = true := hsp
        rw [at_setCells g _ _ cap _ (fun k hk => some_setCells g _ _ _ _ (fun j hj => hsd _ (by rw [hdl] at hj; omega)) (hsd k hk)) (by simp; omega), at_setCells g _ _ cap _ hsd (by rw [hdl]; omega)]
        by_cases e1 : j < i
        · rw [if_neg (by omega), if_neg (by omega), insF_lo e1]
          exact hcell j (by omega)
        · by_cases e2 : j = i
          · subst e2
            rw [if_pos (by simp), insF_at, Nat.zero_add, Nat.sub_self]; rfl
          · rw [if_neg (by simp; omega), if_pos (by rw [hdl]; omega), insF_hi (by omega), cellsI_drop f n i _ (by omega), show i + (j - (0 + (i + 1))) = j - 1 by omega]
      · refine (Any2.slices_Insert_int_grow Try.lays21 g 0 n cap i vb 0 1 vc (cellsI f n) [.int .i64 x] w hlt (by omega) hnc (by omega) (by omega) (cellsI_len _ _) rfl hcs' hvc (cellsI_one f n) h1v).mono ?_
        rintro e w' ⟨rfl, rfl⟩
        have hgr := hge cap (Try.lays21_ren.t 3)
        have hlr := hle cap (Try.lays21_ren.t 3)
        obtain ⟨G, hG⟩ : ∃ G, grownCap w (n + 1) cap (Try.lays21_ren.t 3) = G := ⟨_, rfl⟩
        rw [hG] at hgr hlr ⊢
        obtain ⟨C, hC⟩ : ∃ C : Array Value, C = ((cellsI f n).take i).toArray ++ Builtin.zeroCells (Value.int .i64 0).cells (n + 1 - i) ++ Builtin.zeroCells (Value.int .i64 0).cells (G - (n + 1)) := ⟨_, rfl⟩
        rw [← hC]
        have hCs : C.size = G := by
          rw [hC, Array.size_append, Array.size_append, show (Value.int .i64 0).cells = #[.int .i64 0] from rfl, zc1, zc1]
          simp [cellsI_len]; omega
        have h0 : (w.alloc (.cells C (Try.lays21_ren.t 3))).heap[w.heap.size]? = some (.cells C (Try.lays21_ren.t 3) (0, 0)) := heap_alloc_new w _
        obtain ⟨W, hW⟩ : ∃ W, W = w.alloc (.cells C (Try.lays21_ren.t 3)) := ⟨_, rfl⟩
        rw [← hW] at h0 ⊢
        have hsd : ∀ k, k < G → (W.drew.cell? ⟨w.heap.size, k, none⟩).isSome = true := fun k hk => by
          show (W.cell? ⟨w.heap.size, k, none⟩).isSome = true
          rw [cell_of_row _ _ _ _ _ (0, 0) h0, Array.getElem?_eq_getElem (by omega)]; rfl
        have hfd : ∀ k, W.frozen? ⟨w.heap.size, k, none⟩ = false := fun k => by unfold World.frozen?; simp [h0]
        have hWB : Below B w W := by rw [hW]; exact (Below.refl B w).alloc hB _
        have hWs : W.heap.size = w.heap.size + 1 := by rw [hW]; simp
        refine ⟨⟨w.heap.size, _, rfl, fun j hj => ⟨?_, by rw [World.frozen?_setCells]; show ((W.drew.setCells _ _ _).frozen? _) = _; rw [World.frozen?_setCells]; exact hfd j⟩, hB, by rw [size_sets]; show w.heap.size < (W.drew.setCells _ _ _).heap.size; rw [size_sets]; show w.heap.size < W.heap.size; omega, by omega, by omega⟩, ((hWB.drew.trans (below_sets hB _ _ _)).drew).trans (below_sets hB _ _ _)⟩
        have hse : ∀ k, k < G → ((W.drew.setCells w.heap.size i [.int .i64 x]).drew.cell? ⟨w.heap.size, k, none⟩).isSome = true := fun k hk => some_setCells _ _ _ _ _ (fun j hj => hsd _ (by simp at hj; omega)) (hsd k hk)
        rw [at_setCells _ _ _ G _ hse (by rw [hdl]; omega)]
        by_cases e1 : i + 1 ≤ j
        · rw [if_pos (by rw [hdl]; omega), insF_hi (by omega), cellsI_drop f n i _ (by omega), show i + (j - (i + 1)) = j - 1 by omega]
        · rw [if_neg (by omega)]
          show (W.drew.setCells _ _ _).cell? _ = _
          rw [at_setCells _ _ _ G _ hsd (by simp; omega)]
          by_cases e2 : j = i
          · subst e2
            rw [if_pos (by simp), insF_at, Nat.sub_self]; rfl
          · rw [if_neg (by simp; omega), insF_lo (by omega)]
            show W.cell? _ = _
            rw [cell_of_row _ _ _ _ _ (0, 0) h0, hC, Array.append_assoc, Array.getElem?_append_left (by simp [cellsI_len]; omega)]
            simp only [List.getElem?_toArray]
            rw [List.getElem?_take, if_pos (by omega)]
            exact cellsI_get f (by omega)
end Go.Proofs.Ytfilofnkiocbeaa
