import Derived.Test.YtfilofnkiocbeaaRv8
import Derived.Shelf.Spec.SlicesInsertGrow
import Derived.Laws.AppendOwnNone
import Derived.Test.YtfilofnkiocbeaaLu8
/- The library's contracts of slices.Insert at lists of whole numbers, laid at this program in plain words. -/
namespace Go.Proofs
open Go.Shelf
def Try.lays21_ren : Go.Shelf.Ren := ⟨fun | 21 => 75 | 27 => 86 | 28 => 87 | 35 => 91 | 39 => 92 | n => n, fun | 22 => 28 | 0 => 0 | 3 => 3 | 4 => 4 | n => n, fun n => n⟩
theorem Try.lays21 : Go.Proofs.Lays2.n21 Try.prog Try.lays21_ren := {
  mixed := by kernel_rfl
  f21 := Try.func75.trans (congrArg some (by kernel_rfl))
  f27 := Try.func86.trans (congrArg some (by kernel_rfl))
  f28 := Try.func87.trans (congrArg some (by kernel_rfl))
  f35 := Try.func91.trans (congrArg some (by kernel_rfl))
  f39 := Try.func92.trans (congrArg some (by kernel_rfl))
  t0 := Try.underlying0
  a0 := Try.isAgg0
  z0 := Try.sizeOf0
  v0 := Try.zeroValue0
  t3 := Try.underlying3
  a3 := Try.isAgg3
  z3 := Try.sizeOf3
  v3 := Try.zeroValue3
  t4 := Try.underlying4
  a4 := Try.isAgg4
  z4 := Try.sizeOf4
  v4 := Try.zeroValue4
  t22 := Try.underlying28
  a22 := Try.isAgg28
  z22 := Try.sizeOf28
  v22 := Try.zeroValue28
  i3 := by kernel_rfl }
end Go.Proofs
namespace Go.Proofs.Ytfilofnkiocbeaa
open Go.RowKit Ben Prm
def insF (f : Nat → Int) (i : Nat) (x : Int) : Nat → Int := fun j => if j < i then f j else if j = i then x else f (j - 1)
theorem some_setCells (b : Nat) (vs : List Value) (o : Nat) (w : World) (k : Nat) (h : ∀ j, j < vs.length → (w.cell? ⟨b, o + j, none⟩).isSome = true) (hk : (w.cell? ⟨b, k, none⟩).isSome = true) : ((w.setCells b o vs).cell? ⟨b, k, none⟩).isSome = true := by
  by_cases hin : o ≤ k ∧ k < o + vs.length
  · have := World.cell?_setCells_in b vs o w h (k - o) (by omega)
    rw [show o + (k - o) = k by omega] at this
    rw [this]; rfl
  · rw [World.cell?_setCells_out b vs o w ⟨b, k, none⟩ (fun _ _ => by show k < o ∨ o + vs.length ≤ k; omega)]
    exact hk
theorem at_setCells (b : Nat) (vs : List Value) (o N : Nat) (w : World) (h : ∀ k, k < N → (w.cell? ⟨b, k, none⟩).isSome = true) (ho : o + vs.length ≤ N) (k : Nat) : (w.setCells b o vs).cell? ⟨b, k, none⟩ = if o ≤ k ∧ k < o + vs.length then vs[k - o]? else w.cell? ⟨b, k, none⟩ := by
  by_cases hin : o ≤ k ∧ k < o + vs.length
  · have := World.cell?_setCells_in b vs o w (fun j hj => h _ (by omega)) (k - o) (by omega)
    rw [show o + (k - o) = k by omega] at this
    rw [if_pos hin, this, List.getElem?_eq_getElem (by omega)]
  · rw [if_neg hin]
    exact World.cell?_setCells_out b vs o w ⟨b, k, none⟩ (fun _ _ => by show k < o ∨ o + vs.length ≤ k; omega)
theorem cellsI_drop (f : Nat → Int) (n i j : Nat) (h : i + j < n) : ((cellsI f n).drop i)[j]? = some (.int .i64 (f (i + j))) := by
  rw [List.getElem?_drop]
  exact cellsI_get f h
theorem below_sets {B g : Nat} (hg : B ≤ g) : ∀ (vs : List Value) (o : Nat) (w : World), Below B w (w.setCells g o vs)
  | [], _, w => Below.refl B w
  | v :: r, o, w => ((Below.refl B w).setCell (p := ⟨g, o, none⟩) hg v).trans (below_sets hg r (o + 1) _)
theorem size_sets (g : Nat) : ∀ (vs : List Value) (o : Nat) (w : World), (w.setCells g o vs).heap.size = w.heap.size
  | [], _, _ => rfl
  | v :: r, o, w => (size_sets g r (o + 1) _).trans (by simp [World.setCell])
/-- What stands in a row that is the call's own. -/
theorem own_cells {w : World} {B g n cap : Nat} {f : Nat → Int} (h : w.ownsRow B 3 1 (.slice (some ⟨g, 0, none⟩) n cap) n (cellsI f n)) :
    (∀ k, k < cap → (w.cell? ⟨g, k, none⟩).isSome = true) ∧ (∀ k, w.frozen? ⟨g, k, none⟩ = false) ∧ w.shape? g = some (3, cap) := by
  rcases h.2 with ⟨h0, _⟩ | ⟨g', cap', cur, he, _, hg, _, _, hs, _⟩
  · cases h0
  · cases he
    refine ⟨fun k hk => ?_, fun k => h.frozenAt k, ?_⟩
    · rw [cell_of_row w g k cur _ (0, 0) hg, Array.getElem?_eq_getElem (by omega)]
      rfl
    · unfold World.shape?
      simp [hg, hs]
theorem insF_lo {f : Nat → Int} {i j : Nat} {x : Int} (h : j < i) : insF f i x j = f j := if_pos h
theorem insF_at {f : Nat → Int} {i : Nat} {x : Int} : insF f i x i = x := by unfold insF; rw [if_neg (Nat.lt_irrefl _), if_pos rfl]
theorem insF_hi {f : Nat → Int} {i j : Nat} {x : Int} (h : i < j) : insF f i x j = f (j - 1) := by unfold insF; rw [if_neg (by omega), if_neg (by omega)]
/-- Insert of one number: the list anew, in a block of its own. -/
theorem insert_any (B n i vb vc : Nat) (V : Value) (x : Int) (f : Nat → Int) (w : World) (hi : i ≤ n) (hn : n ≤ 100) (hB : B ≤ w.heap.size) (hown : w.ownsRow B 3 1 V n (cellsI f n))
    (hv : w.heap[vb]? = some (.cells #[.int .i64 x] 3 (0, 0))) (hne : V.ownBlock ≠ some vb) :
    Calls Try.prog 75 #[V, .int .i64 (i : Int), .slice (some ⟨vb, 0, none⟩) 1 vc] w fun e w' => IntsRet B w' e (n + 1) (insF f i x) ∧ Below B w w' := by
  have hvc : ∀ j v, [Value.int .i64 x][j]? = some v → w.cell? ⟨vb, 0 + j, none⟩ = some v := fun j v h => by
    rw [Nat.zero_add, cell_of_row w vb j _ _ (0, 0) hv]
    simpa using h
  have h1v : ∀ v ∈ [Value.int .i64 x], v.oneCell' = true := fun v h => by rw [List.mem_singleton.1 h]; rfl
  have hge := grownCap_ge w (n + 1)
  have hle := fun o e => grownCap_le_maxLen w (n + 1) o e (by unfold maxLen; omega)
  unfold maxLen at hle
  rcases hown.2 with ⟨rfl, rfl⟩ | ⟨g, cap, cur, rfl, hbg, hg, hnc, hcm, hcs, _⟩
  · obtain rfl : i = 0 := by omega
    refine (Any2.slices_Insert_int_end_grow Try.lays21 none 0 0 vb 0 1 vc [] [.int .i64 x] w (by omega) (Nat.le_refl _) (by omega) (by omega) rfl rfl (fun _ => rfl) (fun a h => by cases h) hvc h1v).mono ?_
    rintro e w' ⟨rfl, rfl⟩
    have hgr := hge 0 (Try.lays21_ren.t 3)
    have hlr := hle 0 (Try.lays21_ren.t 3)
    obtain ⟨G, hG⟩ : ∃ G, grownCap w (0 + 1) 0 (Try.lays21_ren.t 3) = G := ⟨_, rfl⟩
    rw [hG] at hgr hlr ⊢
    refine ⟨⟨w.heap.size, _, rfl, ?_, hB, by simp, hgr, by omega⟩, ((Below.refl B w).drew).alloc hB _⟩
    obtain ⟨C, hC⟩ : ∃ C : Array Value, C = ([] ++ [Value.int .i64 x]).toArray ++ Builtin.zeroCells (Value.int .i64 0).cells (G - (0 + 1)) := ⟨_, rfl⟩
    rw [← hC]
    obtain ⟨W, hW⟩ : ∃ W, W = w.drew.alloc (.cells C (Try.lays21_ren.t 3)) := ⟨_, rfl⟩
    have h0 : W.heap[w.heap.size]? = some (.cells C (Try.lays21_ren.t 3) (0, 0)) := by rw [hW]; exact heap_alloc_new w.drew _
    rw [← hW]
    intro j hj
    obtain rfl : j = 0 := by omega
    refine ⟨?_, by unfold World.frozen?; simp [h0]⟩
    rw [cell_of_row _ _ _ _ _ (0, 0) h0, insF_at, hC, Array.getElem?_append_left (by simp)]
    rfl
  · have hno : ¬ vb = g := fun e => hne (by rw [e]; rfl)
    obtain ⟨hsp, hfz, hsh⟩ := own_cells hown
    have hcell : ∀ j, j < n → w.cell? ⟨g, j, none⟩ = some (.int .i64 (f j)) := fun j hj => (hown.cellAt j (by omega)).trans (cellsI_get f hj)
    have hgl : g < w.heap.size := (Array.getElem?_eq_some_iff.1 hg).1
    have hcs' : ∀ j v, (cellsI f n)[j]? = some v → w.cell? ⟨g, 0 + j, none⟩ = some v := fun j v h => by
      have hj : j < n := by have := (List.getElem?_eq_some_iff.1 h).1; rwa [cellsI_len] at this
      rw [Nat.zero_add, hcell j hj, ← h, cellsI_get f hj]
    unfold maxLen at hcm
    by_cases hin : i = n
    · subst hin
      by_cases hr : i + 1 ≤ cap
      · refine (Any2.slices_Insert_int_end_room Try.lays21 g 0 i cap vb 0 1 vc [.int .i64 x] w (by omega) hr (by omega) rfl (fun j hj => hsp _ (by omega)) (fun j hj => hfz _) hvc h1v).mono ?_
        rintro e w' ⟨rfl, rfl⟩
        refine ⟨⟨g, cap, rfl, fun j hj => ⟨?_, by rw [World.frozen?_setCells]; exact hfz j⟩, hbg, by rw [size_sets]; exact hgl, hr, by omega⟩, below_sets hbg _ _ _⟩
        rw [at_setCells g _ _ cap w hsp (by simp; omega)]
        by_cases e : j = i
        · subst e
          rw [if_pos (by simp), insF_at, Nat.zero_add, Nat.sub_self]; rfl
        · rw [if_neg (by simp; omega), insF_lo (by omega)]
          exact hcell j (by omega)
      · refine (Any2.slices_Insert_int_end_grow Try.lays21 (some ⟨g, 0, none⟩) i cap vb 0 1 vc (cellsI f i) [.int .i64 x] w (by omega) hnc (by omega) (by omega) (cellsI_len _ _) rfl (fun h => by cases h) (fun a h j v hv => by cases h; rw [Addr.add_lit]; exact hcs' j v hv) hvc h1v).mono ?_
        rintro e w' ⟨rfl, rfl⟩
        have hgr := hge cap (Try.lays21_ren.t 3)
        have hlr := hle cap (Try.lays21_ren.t 3)
        obtain ⟨G, hG⟩ : ∃ G, grownCap w (i + 1) cap (Try.lays21_ren.t 3) = G := ⟨_, rfl⟩
        rw [hG] at hgr hlr ⊢
        refine ⟨⟨w.heap.size, _, rfl, ?_, hB, by simp, hgr, by omega⟩, ((Below.refl B w).drew).alloc hB _⟩
        obtain ⟨C, hC⟩ : ∃ C : Array Value, C = (cellsI f i ++ [Value.int .i64 x]).toArray ++ Builtin.zeroCells (Value.int .i64 0).cells (G - (i + 1)) := ⟨_, rfl⟩
        rw [← hC]
        obtain ⟨W, hW⟩ : ∃ W, W = w.drew.alloc (.cells C (Try.lays21_ren.t 3)) := ⟨_, rfl⟩
        have h0 : W.heap[w.heap.size]? = some (.cells C (Try.lays21_ren.t 3) (0, 0)) := by rw [hW]; exact heap_alloc_new w.drew _
        rw [← hW]
        intro j hj
        refine ⟨?_, by unfold World.frozen?; simp [h0]⟩
        rw [cell_of_row _ _ _ _ _ (0, 0) h0, hC]
        by_cases e : j = i
        · subst e
          rw [insF_at, Array.getElem?_append_left (by simp [cellsI_len])]
          simp [cellsI_len]
        · rw [insF_lo (by omega), Array.getElem?_append_left (by simp [cellsI_len]; omega)]
          simp only [List.getElem?_toArray]
          rw [List.getElem?_append_left (by rw [cellsI_len]; omega)]
          exact cellsI_get f (by omega)
    · have hlt : i < n := by omega
      have hdl : ((cellsI f n).drop i).length = n - i := by rw [List.length_drop, cellsI_len]
      by_cases hr : n + 1 ≤ cap
      · refine (Any2.slices_Insert_int_shift Try.lays21 g 0 n cap i vb 0 1 vc (cellsI f n) [.int .i64 x] w hlt (by omega) hr (by omega) hno (cellsI_len _ _) rfl hcs' (fun j hj => hsp _ (by omega)) (fun j hj => hfz _) hvc (cellsI_one f n) h1v 3 3 1 cap (by unfold World.shape?; simp [hv]) hsh (by omega) (by unfold World.frozen?; simp [hv]) (by unfold World.frozen?; simp [hv])).mono ?_
        rintro e w' ⟨rfl, rfl⟩
        refine ⟨⟨g, cap, rfl, fun j hj => ⟨?_, by rw [World.frozen?_setCells, World.frozen?_setCells]; exact hfz j⟩, hbg, by rw [size_sets, size_sets]; exact hgl, hr, by omega⟩, (((Below.refl B w).drew).trans (below_sets hbg _ _ _)).trans (below_sets hbg _ _ _)⟩
        have hsd : ∀ k, k < cap → (w.drew.cell? ⟨g, k, none⟩).isSome = true := hsp
        rw [at_setCells g _ _ cap _ (fun k hk => some_setCells g _ _ _ _ (fun j hj => hsd _ (by rw [hdl] at hj; omega)) (hsd k hk)) (by simp; omega), at_setCells g _ _ cap _ hsd (by rw [hdl]; omega)]
        by_cases e1 : j < i
        · rw [if_neg (by omega), if_neg (by omega), insF_lo e1]
          exact hcell j (by omega)
        · by_cases e2 : j = i
          · subst e2
            rw [if_pos (by simp), insF_at, Nat.zero_add, Nat.sub_self]; rfl
          · rw [if_neg (by simp; omega), if_pos (by rw [hdl]; omega), insF_hi (by omega), cellsI_drop f n i _ (by omega), show i + (j - (0 + (i + 1))) = j - 1 by omega]
      · refine (Any2.slices_Insert_int_grow Try.lays21 g 0 n cap i vb 0 1 vc (cellsI f n) [.int .i64 x] w hlt (by omega) hnc (by omega) (by omega) (cellsI_len _ _) rfl hcs' hvc (cellsI_one f n) h1v).mono ?_
        rintro e w' ⟨rfl, rfl⟩
        have hgr := hge cap (Try.lays21_ren.t 3)
        have hlr := hle cap (Try.lays21_ren.t 3)
        obtain ⟨G, hG⟩ : ∃ G, grownCap w (n + 1) cap (Try.lays21_ren.t 3) = G := ⟨_, rfl⟩
        rw [hG] at hgr hlr ⊢
        obtain ⟨C, hC⟩ : ∃ C : Array Value, C = ((cellsI f n).take i).toArray ++ Builtin.zeroCells (Value.int .i64 0).cells (n + 1 - i) ++ Builtin.zeroCells (Value.int .i64 0).cells (G - (n + 1)) := ⟨_, rfl⟩
        rw [← hC]
        have hCs : C.size = G := by
          rw [hC, Array.size_append, Array.size_append, show (Value.int .i64 0).cells = #[.int .i64 0] from rfl, zc1, zc1]
          simp [cellsI_len]; omega
        have h0 : (w.alloc (.cells C (Try.lays21_ren.t 3))).heap[w.heap.size]? = some (.cells C (Try.lays21_ren.t 3) (0, 0)) := heap_alloc_new w _
        obtain ⟨W, hW⟩ : ∃ W, W = w.alloc (.cells C (Try.lays21_ren.t 3)) := ⟨_, rfl⟩
        rw [← hW] at h0 ⊢
        have hsd : ∀ k, k < G → (W.drew.cell? ⟨w.heap.size, k, none⟩).isSome = true := fun k hk => by
          show (W.cell? ⟨w.heap.size, k, none⟩).isSome = true
          rw [cell_of_row _ _ _ _ _ (0, 0) h0, Array.getElem?_eq_getElem (by omega)]; rfl
        have hfd : ∀ k, W.frozen? ⟨w.heap.size, k, none⟩ = false := fun k => by unfold World.frozen?; simp [h0]
        have hWB : Below B w W := by rw [hW]; exact (Below.refl B w).alloc hB _
        have hWs : W.heap.size = w.heap.size + 1 := by rw [hW]; simp
        refine ⟨⟨w.heap.size, _, rfl, fun j hj => ⟨?_, by rw [World.frozen?_setCells]; show ((W.drew.setCells _ _ _).frozen? _) = _; rw [World.frozen?_setCells]; exact hfd j⟩, hB, by rw [size_sets]; show w.heap.size < (W.drew.setCells _ _ _).heap.size; rw [size_sets]; show w.heap.size < W.heap.size; omega, by omega, by omega⟩, ((hWB.drew.trans (below_sets hB _ _ _)).drew).trans (below_sets hB _ _ _)⟩
        have hse : ∀ k, k < G → ((W.drew.setCells w.heap.size i [.int .i64 x]).drew.cell? ⟨w.heap.size, k, none⟩).isSome = true := fun k hk => some_setCells _ _ _ _ _ (fun j hj => hsd _ (by simp at hj; omega)) (hsd k hk)
        rw [at_setCells _ _ _ G _ hse (by rw [hdl]; omega)]
        by_cases e1 : i + 1 ≤ j
        · rw [if_pos (by rw [hdl]; omega), insF_hi (by omega), cellsI_drop f n i _ (by omega), show i + (j - (i + 1)) = j - 1 by omega]
        · rw [if_neg (by omega)]
          show (W.drew.setCells _ _ _).cell? _ = _
          rw [at_setCells _ _ _ G _ hsd (by simp; omega)]
          by_cases e2 : j = i
          · subst e2
            rw [if_pos (by simp), insF_at, Nat.sub_self]; rfl
          · rw [if_neg (by simp; omega), insF_lo (by omega)]
            show W.cell? _ = _
            rw [cell_of_row _ _ _ _ _ (0, 0) h0, hC, Array.append_assoc, Array.getElem?_append_left (by simp [cellsI_len]; omega)]
            simp only [List.getElem?_toArray]
            rw [List.getElem?_take, if_pos (by omega)]
            exact cellsI_get f (by omega)
end Go.Proofs.Ytfilofnkiocbeaa

namespace Go.Proofs.Ytfilofnkiocbeaa
open Go.RowKit Ben Prm
/-- How many permutations there are. -/
def fc : Nat → Nat
  | 0 => 1
  | k + 1 => fc k * (k + 1)
theorem fc_pos : ∀ k, 1 ≤ fc k
  | 0 => Nat.le_refl _
  | k + 1 => Nat.mul_pos (fc_pos k) (Nat.succ_pos k)
/-- The permutations of k in order: the number k - 1 is put in at each place, first at the front. -/
def prF : Nat → Nat → Nat → Int
  | 0, _ => fun _ => 0
  | k + 1, t => insF (prF k (t / (k + 1))) (t % (k + 1)) (k : Int)
theorem prF_at (k j i : Nat) (hi : i < k + 1) : prF (k + 1) (j * (k + 1) + i) = insF (prF k j) i (k : Int) := by
  show insF (prF k ((j * (k + 1) + i) / (k + 1))) ((j * (k + 1) + i) % (k + 1)) (k : Int) = _
  rw [Nat.mul_comm j, Nat.mul_add_div (by omega), Nat.mul_add_mod, Nat.div_eq_of_lt hi, Nat.mod_eq_of_lt hi, Nat.add_zero]
def rowsN (A : Nat → Option Addr) (n : Nat) (C : Nat → Nat) (i : Nat) : List Value := (List.range i).map fun j => .slice (A j) n (C j)
theorem rowsN_len (A : Nat → Option Addr) (n : Nat) (C : Nat → Nat) (i : Nat) : (rowsN A n C i).length = i := by simp [rowsN]
theorem rowsN_get (A : Nat → Option Addr) (n : Nat) (C : Nat → Nat) {i j : Nat} (h : j < i) : (rowsN A n C i)[j]? = some (.slice (A j) n (C j)) := by simp [rowsN, h]
theorem rowsN_succ (A : Nat → Option Addr) (n : Nat) (C : Nat → Nat) (i : Nat) : rowsN A n C (i + 1) = rowsN A n C i ++ [.slice (A i) n (C i)] := by simp [rowsN, List.range_succ]
theorem rowsN_congr {A A' : Nat → Option Addr} {n : Nat} {C C' : Nat → Nat} {i : Nat} (h : ∀ j, j < i → A j = A' j ∧ C j = C' j) : rowsN A n C i = rowsN A' n C' i := by
  unfold rowsN
  exact List.map_congr_left fun j hj => by
    have := h j (List.mem_range.1 hj)
    rw [this.1, this.2]
/-- A row of n numbers: nil, or in a block of the call's own. -/
def RowP (w : World) (base top : Nat) (V : Value) (n : Nat) (ao : Option Addr) (c : Nat) (f : Nat → Int) : Prop :=
  n ≤ c ∧ c ≤ 9223372036854775807 ∧ ((n = 0 ∧ ao = none ∧ c = 0) ∨ ∃ g, ao = some ⟨g, 0, none⟩ ∧ Intw w g n f ∧ base ≤ g ∧ g < top ∧ V.ownBlock ≠ some g ∧ 0 < n)
theorem RowP.keep {w w1 : World} {base top : Nat} {V : Value} {n c : Nat} {ao : Option Addr} {f : Nat → Int} (h : RowP w base top V n ao c f) (hb : Below w.heap.size w w1) : RowP w1 base top V n ao c f :=
  ⟨h.1, h.2.1, h.2.2.imp id fun ⟨g, e, a, b⟩ => ⟨g, e, a.keep hb, b⟩⟩
theorem RowP.ints {w : World} {base top : Nat} {V : Value} {n c : Nat} {ao : Option Addr} {f : Nat → Int} (h : RowP w base top V n ao c f) : Ints w ao n f := by
  rcases h.2.2 with ⟨e, _⟩ | ⟨g, e, a, _⟩
  · intro h0; omega
  · rw [e]; exact a.ints
structure RowsN (w : World) (base top : Nat) (V : Value) (i n : Nat) (A : Nat → Option Addr) (C : Nat → Nat) (F : Nat → Nat → Int) : Prop where
  own : w.ownsRow base 28 1 V i (rowsN A n C i)
  row : ∀ j, j < i → RowP w base top V n (A j) (C j) (F j)
  blk : ∀ b, V.ownBlock = some b → b < top
  top : top ≤ w.heap.size
theorem RowsN.nil (w : World) (base n : Nat) (A : Nat → Option Addr) (C : Nat → Nat) (F : Nat → Nat → Int) : RowsN w base w.heap.size (.slice none 0 0) 0 n A C F :=
  ⟨World.ownsRow_nil _ _ _ _, fun j hj => by omega, (fun b h => by cases h), Nat.le_refl _⟩
theorem RowsN.keep {w w1 : World} {base top : Nat} {V : Value} {i n : Nat} {A : Nat → Option Addr} {C : Nat → Nat} {F : Nat → Nat → Int} (h : RowsN w base top V i n A C F) (hb : Below w.heap.size w w1) : RowsN w1 base top V i n A C F :=
  ⟨own_below' h.own hb, fun j hj => (h.row j hj).keep hb, h.blk, Nat.le_trans h.top hb.size⟩
theorem RowsN.base {w : World} {base base' top : Nat} {V : Value} {i n : Nat} {A : Nat → Option Addr} {C : Nat → Nat} {F : Nat → Nat → Int} (h : RowsN w base top V i n A C F) (hb : base' ≤ base) : RowsN w base' top V i n A C F :=
  ⟨⟨h.own.1, h.own.2.imp id fun ⟨g, cap, cur, a, b, c⟩ => ⟨g, cap, cur, a, Nat.le_trans hb b, c⟩⟩, fun j hj => by
    obtain ⟨a, b, c⟩ := h.row j hj
    exact ⟨a, b, c.imp id fun ⟨g, e, p, q, r⟩ => ⟨g, e, p, Nat.le_trans hb q, r⟩⟩, h.blk, h.top⟩
theorem RowsN.congr {w : World} {base top : Nat} {V : Value} {i n : Nat} {A : Nat → Option Addr} {C : Nat → Nat} {F F' : Nat → Nat → Int} (h : RowsN w base top V i n A C F) (e : ∀ j, j < i → ∀ q, q < n → F j q = F' j q) : RowsN w base top V i n A C F' :=
  ⟨h.own, fun j hj => by
    obtain ⟨a, b, c⟩ := h.row j hj
    exact ⟨a, b, c.imp id fun ⟨g, e', p, r⟩ => ⟨g, e', p.congr (e j hj), r⟩⟩, h.blk, h.top⟩
def updA (f : Nat → Option Addr) (j : Nat) (z : Option Addr) : Nat → Option Addr := fun k => if k = j then z else f k
/-- One more row, behind an append. -/
theorem RowsN.append {w w1 : World} {base top : Nat} {V : Value} {i g' cap' g n cap : Nat} {A : Nat → Option Addr} {C : Nat → Nat} {F : Nat → Nat → Int} {f : Nat → Int} (h : RowsN w base top V i n A C F)
    (hn0 : 0 < n) (hw : Intw w g n f) (hn : n ≤ cap) (hc : cap ≤ 9223372036854775807) (hg : top ≤ g) (hb : base ≤ g) (hgl : g < w.heap.size)
    (hown : w1.ownsRow base 28 1 (.slice (some ⟨g', 0, none⟩) (i + 1) cap') (i + 1) (rowsN A n C i ++ [.slice (some ⟨g, 0, none⟩) n cap])) (hgr : w.grownBy w1 V.ownBlock) (hor : V.ownBlock = some g' ∨ w.heap.size ≤ g') (hlt : g' < w1.heap.size) :
    RowsN w1 base w1.heap.size (.slice (some ⟨g', 0, none⟩) (i + 1) cap') (i + 1) n (updA A i (some ⟨g, 0, none⟩)) (updN C i cap) (fun j => if j = i then f else F j) := by
  have hsz : w.heap.size ≤ w1.heap.size := hgr.size
  have hne : V.ownBlock ≠ some g := fun e => by have := h.blk g e; omega
  have ho : ∀ {b : Nat}, b < w.heap.size → V.ownBlock ≠ some b → (Value.slice (some ⟨g', 0, none⟩) (i + 1) cap').ownBlock ≠ some b := fun {b} hb hn e => by
    simp only [Value.ownBlock, Option.some.injEq] at e
    subst e
    rcases hor with h1 | h1
    · exact hn h1
    · omega
  refine ⟨?_, fun j hj => ?_, fun b e => ?_, Nat.le_refl _⟩
  · rw [rowsN_succ, rowsN_congr (A' := A) (C' := C) (fun j hj => by unfold updA updN; rw [if_neg (by omega), if_neg (by omega)]; exact ⟨rfl, rfl⟩)]
    unfold updA updN
    rw [if_pos rfl, if_pos rfl]
    exact hown
  · unfold updA updN
    by_cases e : j = i
    · rw [if_pos e, if_pos e, if_pos e]
      exact ⟨hn, hc, .inr ⟨g, rfl, hw.grown hgr (fun e => hne e.symm), hb, by omega, ho hgl hne, hn0⟩⟩
    · rw [if_neg e, if_neg e, if_neg e]
      obtain ⟨a, b, c⟩ := h.row j (by omega)
      have := h.top
      exact ⟨a, b, c.imp id fun ⟨q, e', p, r, s, t, u⟩ => ⟨q, e', p.grown hgr (fun e => t e.symm), r, by omega, ho (by omega) t, u⟩⟩
  · simp only [Value.ownBlock, Option.some.injEq] at e
    subst e
    exact hlt
set_option maxRecDepth 100000 in
set_option maxHeartbeats 2000000 in
theorem clone_own (n cap : Nat) (ao : Option Addr) (f : Nat → Int) (base top : Nat) (V : Value) (w : World) (hn : n ≤ 64) (hc : RowP w base top V n ao cap f) :
    Calls Try.prog 76 #[.slice ao n cap] w fun e w' => OwnRet_I w.heap.size w' e n (cellsI f n) ∧ Below w.heap.size w w' := by
  obtain ⟨i0, hi, hz0, hz1, hz2⟩ := info_parts infoInt
  have HI := Lib.hid (And.intro hi (And.intro hz0 (And.intro hz1 hz2)))
  have hnil := fun (w : World) (a : Option Addr) (m c : Nat) => Lib.run_eql_slice_nil (P := Try.prog) w 28 3 a m c 0 0 Try.underlying28
  clear hi hz0 hz1 hz2
  rcases hc.2.2 with ⟨rfl, rfl, rfl⟩ | ⟨b, rfl, hc', hb1, hb2, _⟩
  · go_enter Try.func76, Try.ntmps76
    go_wp2_with fail
    go_returns
    exact ⟨⟨_, rfl, World.ownsRow_nil _ _ _ _⟩, Below.refl _ _⟩
  · have HC := Lib.hid hc'
    have HN := Lib.hid hn
    clear hc hc' hn hb1 hb2
    go_enter Try.func76, Try.ntmps76
    go_wp2_with (at_builtin; refine wpList_append_own _ rfl (.tmp 5) (.tmp 6) 28 rfl w.heap.size 3 i0 _ 1 8 Try.underlying28 HI.out.1 HI.out.2.1 HI.out.2.2.1 HI.out.2.2.2 rfl (by decide) _ 0 [] rfl (World.ownsRow_made w #[] 0 (Nat.le_refl _) (by unfold maxLen; omega) rfl) ⟨b, 0, none⟩ n cap (cellsI f n) rfl ?c0 ?c1 ?c2 ?c3 ?c4 ?c5 ?_)
    case c0 => rw [cellsI_len]; omega
    case c1 =>
      intro j u hu
      have hj : j < n := by have := (List.getElem?_eq_some_iff.1 hu).1; rwa [cellsI_len] at this
      rw [cellsI_get f hj] at hu
      rw [Addr.add_lit, ← hu, Nat.zero_add]
      have hb : b < w.heap.size := World.block_lt_of_cell? w _ (HC.out j hj).1
      exact (((Below.refl _ _).alloc (Nat.le_refl _) _).cell (p := ⟨b, j, none⟩) hb).trans (HC.out j hj).1
    case c2 => exact cellsI_one f n
    case c3 => unfold maxLen; have := HN.out; omega
    case c4 => have := HN.out; omega
    case c5 => first | omega | (simp; done) | (simp; omega)
    intro v' w2 hown hgrow _
    (try simp only [Nat.zero_add, List.nil_append] at hown)
    have HW : Hid (OwnRet_I w.heap.size w2 (.returned v') n (cellsI f n)) := Lib.hid ⟨v', rfl, hown⟩
    have D2 : Below w.heap.size w w2 := Below.grown (by go_grown) hgrow (by first | omega | (simp; done) | (simp; omega)) (fun k hk => by simp [Value.ownBlock] at hk; omega)
    clear hown hgrow
    go_wp2_with fail
    go_returns
    exact ⟨HW.out, D2⟩
/-- What permutations gives. -/
def PmsR (B n : Nat) (w : World) (e : Ending) : Prop := ∃ g cap top A C, e = .returned (.slice (some ⟨g, 0, none⟩) (fc n) cap) ∧ RowsN w B top (.slice (some ⟨g, 0, none⟩) (fc n) cap) (fc n) n A C (prF n)
set_option maxRecDepth 100000 in
set_option maxHeartbeats 16000000 in
/-- permutations: all of them, in order. -/
theorem permutations_any (n : Nat) (w : World) (h4 : n ≤ 4) :
    Calls Try.prog 63 #[.int .i64 (n : Int)] w fun e w' => PmsR w.heap.size n w' e ∧ Below w.heap.size w w' := by
  obtain ⟨i2, hi2, hz02, hz12, hz22⟩ := info_parts infoSl
  have HSL := Lib.hid (And.intro hi2 (And.intro hz02 (And.intro hz12 hz22)))
  have HN := Lib.hid h4
  clear hi2 hz02 hz12 hz22 h4
  go_enter Try.func63, Try.ntmps63
  go_wp2_with fail
  go_loopw [3, 11] (fun lv iv wr => ∃ (V : Value) (k top : Nat) (A : Nat → Option Addr) (C : Nat → Nat), V = lv ∧ iv = .int .i64 (k : Int) ∧ k ≤ n ∧ Hid (RowsN wr w.heap.size top V (fc k) k A C (prF k)) ∧ Hid (Below w.heap.size w wr)) (fun _ iv _ => n - (intOf iv).toNat)
  case atStart =>
    refine ⟨_, 0, w.heap.size + 1, fun _ => none, fun _ => 0, rfl, rfl, Nat.zero_le _, Lib.hid ⟨?_, fun j hj => ⟨Nat.le_refl _, by omega, .inl ⟨rfl, rfl, rfl⟩⟩, fun b e => ?_, by simp⟩, Lib.hid ((Below.refl _ _).alloc (Nat.le_refl _) _)⟩
    · exact ⟨rfl, .inr ⟨w.heap.size, 1, _, rfl, Nat.le_refl _, heap_alloc_new w _, Nat.le_refl _, by unfold maxLen; omega, rfl, rfl⟩⟩
    · simp [Value.ownBlock] at e; omega
  case round =>
    obtain ⟨V, k, top, A, C, rfl, rfl, hk, HV, HB⟩ := hrel
    obtain ⟨wo, hw⟩ : ∃ z, z = wr := ⟨wr, rfl⟩
    subst hw
    by_cases hlt : k < n
    · have hlt' : (k : Int) < (n : Int) := by omega
      have k0 : (0 : Int) ≤ (k : Int) := by omega
      have k4 : (k : Int) < 4 := by have := HN.out; omega
      have HK := Lib.hid (And.intro hk hlt)
      clear hk hlt
      obtain ⟨m, hm⟩ : ∃ m, fc k = m := ⟨_, rfl⟩
      have hm1 : 1 ≤ m := by rw [← hm]; exact fc_pos k
      have hm24 : m ≤ 24 := by
        have : k = 0 ∨ k = 1 ∨ k = 2 ∨ k = 3 := by omega
        rw [← hm]
        rcases this with rfl | rfl | rfl | rfl <;> decide
      rw [hm] at HV
      obtain ⟨gl, cl, rfl, hgb, hgs, hgc, hgm⟩ := own_fm HV.out.own hm1
      have HMM := Lib.hid (And.intro hm (And.intro hm1 hm24))
      have HTOP : Hid (top ≤ wo.heap.size) := Lib.hid HV.out.top
      clear hm hgb hgs hgc hgm
      go_wp2_with fail
      go_loopw [5, 16] (fun lv iv wr => ∃ (V' : Value) (j top' : Nat) (A' : Nat → Option Addr) (C' : Nat → Nat), V' = lv ∧ iv = .int .i64 (j : Int) ∧ j ≤ m ∧ Hid (RowsN wr wo.heap.size top' V' (j * (k + 1)) (k + 1) A' C' (prF (k + 1))) ∧ Hid (Below wo.heap.size wo wr)) (fun _ iv _ => m - (intOf iv).toNat)
      case atStart => exact ⟨_, 0, wo.heap.size, fun _ => none, fun _ => 0, rfl, rfl, Nat.zero_le _, Lib.hid (by rw [Nat.zero_mul]; exact RowsN.nil _ _ _ _ _ _), Lib.hid (Below.refl _ _)⟩
      case round =>
        obtain ⟨V', j, top', A', C', rfl, rfl, hj, HV', HB'⟩ := hrel
        obtain ⟨wq, hw⟩ : ∃ z, z = wr := ⟨wr, rfl⟩
        subst hw
        by_cases hlt : j < m
        · have hlt' : (j : Int) < (m : Int) := by omega
          have j0 : (0 : Int) ≤ (j : Int) := by omega
          have jt : (j : Int).toNat = j := by omega
          have j24 : (j : Int) < 24 := by omega
          have HVl := Lib.hid (HV.out.keep HB'.out)
          have HR := Lib.hid (HV.out.row j hlt)
          have c0 : wq.cell? ⟨gl, j, none⟩ = some (.slice (A j) k (C j)) := (HVl.out.own.cellAt j (by omega)).trans (rowsN_get A k C hlt)
          have c1 : wq.frozen? ⟨gl, j, none⟩ = false := HVl.out.own.frozenAt _
          have HJ := Lib.hid (And.intro hj hlt)
          clear hj hlt
          go_wp2_with fail
          go_loopw [5, 22] (fun lv iv wr => ∃ (V' : Value) (i top' : Nat) (A' : Nat → Option Addr) (C' : Nat → Nat), V' = lv ∧ iv = .int .i64 (i : Int) ∧ i ≤ k + 1 ∧ Hid (RowsN wr wo.heap.size top' V' (j * (k + 1) + i) (k + 1) A' C' (prF (k + 1))) ∧ Hid (Below wo.heap.size wo wr)) (fun _ iv _ => (k + 1) - (intOf iv).toNat)
          case atStart => exact ⟨_, 0, top', A', C', rfl, rfl, Nat.zero_le _, HV', HB'⟩
          case round =>
            obtain ⟨V2, i, top2, A2, C2, rfl, rfl, hi, HV2, HB2⟩ := hrel
            clear HV'
            by_cases hlt : i < k + 1
            · have hlt' : (i : Int) < (k : Int) + 1 := by omega
              have i0 : (0 : Int) ≤ (i : Int) := by omega
              have i4 : (i : Int) < 4 := by omega
              have HI := Lib.hid (And.intro hi hlt)
              have hbl := HB2.out
              obtain ⟨N, hN⟩ : ∃ N, j * (k + 1) + i = N := ⟨_, rfl⟩
              have hN1 : N ≤ 200 := by
                have h1 : j * (k + 1) ≤ 24 * 5 := Nat.mul_le_mul (by omega) (by omega)
                omega
              rw [hN] at HV2
              have HNN := Lib.hid (And.intro hN hN1)
              have hs1 := HV2.out.top
              have hs2 := HB2.out.size
              have HSZ : Hid (top2 ≤ wr.heap.size ∧ wo.heap.size ≤ wr.heap.size) := Lib.hid ⟨hs1, by omega⟩
              have HRR := Lib.hid (HR.out.keep hbl)
              clear hi hlt hN hN1 hs1 hs2 hbl c0 c1
              go_wp2_with fail
              refine (clone_own k (C j) (A j) (prF k j) _ _ _ _ (by omega) HRR.out).mono ?_
              rintro e w1 ⟨⟨V3, rfl, hown3⟩, hb1⟩
              have HO3 : Hid ((w1.alloc (.cells #[.int .i64 (k : Int)] 3)).ownsRow wr.heap.size 3 1 V3 k (cellsI (prF k j) k)) := Lib.hid (hown3.alloc _)
              have HNE : Hid (V3.ownBlock ≠ some w1.heap.size) := Lib.hid (fun e => by have := (hown3.lt _ e).2; omega)
              have HB1 := Lib.hid hb1
              clear hown3 hb1
              go_wp2_with fail
              refine (insert_any wr.heap.size k i w1.heap.size 1 V3 (k : Int) (prF k j) _ (by have := HI.out; omega) (by omega) (by have := HB1.out.size; simp; omega) HO3.out (heap_alloc_new w1 _) HNE.out).mono ?_
              rintro e w3 ⟨⟨g3, cap3, rfl, hW3, hg3, hl3, hc3, hm3⟩, hb3⟩
              have D3 : Below wr.heap.size wr w3 := (HB1.out.alloc HB1.out.size _).trans hb3
              have hbr : Below w3.heap.size w3 (w3.alloc (.cells #[.slice (some ⟨g3, 0, none⟩) (k + 1) cap3] 28)) := (Below.refl _ _).alloc (Nat.le_refl _) _
              have HVA := Lib.hid (HV2.out.keep (D3.trans (hbr.mono D3.size)))
              have HWA := Lib.hid (hW3.keep hbr)
              have HG := Lib.hid (And.intro hg3 (And.intro hl3 (And.intro hc3 hm3)))
              have HD3 := Lib.hid (D3.trans (hbr.mono D3.size))
              clear hW3 hg3 hl3 hc3 hm3 hb3 hbr HV2 HO3 HB1 HNE HRR
              go_wp2_with (at_builtin; refine wpList_append_lies _ rfl (.tmp 25) (.tmp 32) 52 rfl wo.heap.size 28 i2 _ 1 24 Try.underlying52 HSL.out.1 HSL.out.2.1 HSL.out.2.2.1 HSL.out.2.2.2 rfl (by decide) V2 N (rowsN A2 (k + 1) C2 N) rfl HVA.out.own ⟨w3.heap.size, 0, none⟩ 1 1 [.slice (some ⟨g3, 0, none⟩) (k + 1) cap3] rfl rfl ?e1 ?e2 (by omega) ?e3 ?e4 ?e5 _ rfl ?_)
              try (case e1 => exact fun j u hu => World.news_of_block (cs := #[.slice (some ⟨g3, 0, none⟩) (k + 1) cap3]) (heap_new w3 _) j u hu)
              try (case e2 => first | (intro u hu; simp only [List.mem_cons, List.not_mem_nil, or_false] at hu; subst hu; rfl) | rfl)
              case e3 => unfold maxLen; have h8 := HNN.out; omega
              case e4 => have h8 := HNN.out; omega
              try (case e5 => have h8 := HSZ.out; have h9 := D3.size; simp; omega)
              intro g' cap2 w5 hown' hgrow hor hlg
              have hlt5 := HVA.out.own.lt
              have HV5 : Hid (RowsN w5 wo.heap.size w5.heap.size (.slice (some ⟨g', 0, none⟩) (N + 1) cap2) (j * (k + 1) + (i + 1)) (k + 1) (updA A2 N (some ⟨g3, 0, none⟩)) (updN C2 N cap3) (prF (k + 1))) := Lib.hid (by
                have h8 := HNN.out
                have h9 := HSZ.out
                have h10 := HG.out
                rw [show j * (k + 1) + (i + 1) = N + 1 by omega]
                exact (HVA.out.append (by omega) HWA.out h10.2.2.1 h10.2.2.2 (by omega) (by omega) (by simp; omega) hown' hgrow (hor.imp id (fun h => by first | exact Nat.le_of_eq h.symm | (simp at h ⊢; omega) | (simp; omega) | omega)) hlg).congr (fun t ht q hq => by
                  by_cases e : t = N
                  · subst e
                    rw [if_pos rfl, ← h8.1, prF_at k j i HI.out.2]
                  · rw [if_neg e]))
              have HB5 : Hid (Below wo.heap.size wo w5) := Lib.hid ((HB2.out.trans (HD3.out.mono HB2.out.size)).grown hgrow (by have h8 := HB2.out.size; have h9 := HD3.out.size; omega) (fun p hp => (hlt5 p hp).1))
              clear hown' hgrow hor hlt5 HVA HWA HD3 D3 hlg HB2
              go_wp2_with fail
              go_roundw
              case rel => exact ⟨_, i + 1, _, _, _, rfl, by first | rfl | go_num, by have h8 := HI.out; omega, HV5, HB5⟩
              case measure => have h8 := HI.out; first | (simp [intOf]; done) | (simp [intOf]; omega)
            · have hki : i = k + 1 := by omega
              subst hki
              have hnl : ¬ (((k + 1 : Nat) : Int) < (k : Int) + 1) := by omega
              have HV6 : Hid (RowsN wr wo.heap.size top2 V2 ((j + 1) * (k + 1)) (k + 1) A2 C2 (prF (k + 1))) := Lib.hid (by rw [Nat.succ_mul]; exact HV2.out)
              have HB6 := HB2
              clear hi hlt HV2 HB2 HB' c0 c1
              go_wp2_with fail
              go_roundw
              case rel => exact ⟨_, j + 1, _, _, _, rfl, by first | rfl | go_num, by have h8 := HJ.out; omega, HV6, HB6⟩
              case measure => have h8 := HJ.out; first | (simp [intOf]; done) | (simp [intOf]; omega)
        · have hjm : j = m := by omega
          subst hjm
          have hnl : ¬ ((j : Int) < (j : Int)) := Int.lt_irrefl _
          have HV6 : Hid (RowsN wq w.heap.size top' V' (fc (k + 1)) (k + 1) A' C' (prF (k + 1))) := Lib.hid (by
            show RowsN wq w.heap.size top' V' (fc k * (k + 1)) (k + 1) A' C' (prF (k + 1))
            rw [HMM.out.1]
            exact HV'.out.base HB.out.size)
          have HB6 : Hid (Below w.heap.size w wq) := Lib.hid (HB.out.trans (HB'.out.mono HB.out.size))
          clear hj hlt HV' HB' HV HB HTOP
          go_wp2_with fail
          go_roundw
          case rel => exact ⟨_, k + 1, _, _, _, rfl, by first | rfl | go_num, by have h8 := HK.out; omega, HV6, HB6⟩
          case measure => have h8 := HK.out; first | (simp [intOf]; done) | (simp [intOf]; omega)
    · have hkn : k = n := by omega
      subst hkn
      have hnl : ¬ ((k : Int) < (k : Int)) := Int.lt_irrefl _
      obtain ⟨gV, cV, rfl, _, _, _, _⟩ := own_fm HV.out.own (fc_pos k)
      have HR : Hid (PmsR w.heap.size k wo (.returned (.slice (some ⟨gV, 0, none⟩) (fc k) cV))) := Lib.hid ⟨gV, cV, top, A, C, rfl, HV.out⟩
      clear HV hk hlt
      go_wp2_with fail
      refine bodyPost_ret (v := .slice (some ⟨gV, 0, none⟩) (fc k) cV) (by simp [results, Try.results63, go_sem]) rfl ⟨HR.out, HB.out⟩
end Go.Proofs.Ytfilofnkiocbeaa

namespace Go.Proofs.Ytfilofnkiocbeaa
open Go.RowKit Ben Prm
theorem ins_list (f : Nat → Int) (x : Int) {i k : Nat} (h : i ≤ k) : (cellsI f i ++ [.int .i64 x]) ++ (cellsI f k).drop i = cellsI (insF f i x) (k + 1) := by
  apply List.ext_getElem?
  intro j
  by_cases e0 : j < k + 1
  · rw [cellsI_get _ e0]
    by_cases e1 : j < i
    · rw [List.append_assoc, List.getElem?_append_left (by rw [cellsI_len]; exact e1), cellsI_get f e1, insF_lo e1]
    · by_cases e2 : j = i
      · subst e2
        rw [List.append_assoc, List.getElem?_append_right (by rw [cellsI_len]; omega), cellsI_len, Nat.sub_self, insF_at]
        rfl
      · rw [List.getElem?_append_right (by simp [cellsI_len]; omega)]
        have e3 : (cellsI f i ++ [Value.int .i64 x]).length = i + 1 := by simp [cellsI_len]
        rw [e3, cellsI_drop f k i _ (by omega), insF_hi (by omega), show i + (j - (i + 1)) = j - 1 by omega]
  · rw [List.getElem?_eq_none (by simp [cellsI_len]; omega), List.getElem?_eq_none (by rw [cellsI_len]; omega)]
set_option maxRecDepth 100000 in
set_option maxHeartbeats 4000000 in
theorem rPerms_zero (w : World) :
    Calls Try.prog 46 #[.int .i64 ((0 : Nat) : Int)] w fun e w' => PmsR w.heap.size 0 w' e ∧ Below w.heap.size w w' := by
  go_enter Try.func46, Try.ntmps46
  go_wp2_with fail
  go_returns
  refine ⟨⟨w.heap.size, 1, w.heap.size + 1, fun _ => none, fun _ => 0, rfl, ⟨?_, fun j hj => ⟨Nat.le_refl _, by omega, .inl ⟨rfl, rfl, rfl⟩⟩, fun b e => ?_, by simp⟩⟩, (Below.refl _ _).alloc (Nat.le_refl _) _⟩
  · exact ⟨rfl, .inr ⟨w.heap.size, 1, _, rfl, Nat.le_refl _, heap_alloc_new w _, Nat.le_refl _, by unfold maxLen; omega, rfl, rfl⟩⟩
  · simp [Value.ownBlock] at e; omega
set_option maxRecDepth 100000 in
set_option maxHeartbeats 16000000 in
theorem rPerms_succ (k N : Nat) (hk : 1 ≤ k ∧ k ≤ 3) (hN : N = k + 1) (ih : ∀ w, Calls Try.prog 46 #[.int .i64 (k : Int)] w fun e w' => PmsR w.heap.size k w' e ∧ Below w.heap.size w w') (w : World) :
    Calls Try.prog 46 #[.int .i64 (N : Int)] w fun e w' => PmsR w.heap.size (k + 1) w' e ∧ Below w.heap.size w w' := by
  obtain ⟨i2, hi2, hz02, hz12, hz22⟩ := info_parts infoSl
  have HSL := Lib.hid (And.intro hi2 (And.intro hz02 (And.intro hz12 hz22)))
  obtain ⟨i0, hi, hz0, hz1, hz2⟩ := info_parts infoInt
  have HI := Lib.hid (And.intro hi (And.intro hz0 (And.intro hz1 hz2)))
  have HN := Lib.hid (And.intro hk hN)
  have IH := Lib.hid ih
  have n0 : ¬ ((N : Int) = 0) := by omega
  have n1 : wrap64 ((N : Int) - 1) = (k : Int) := by unfold wrap64; omega
  have kN : (k : Int) < (N : Int) := by omega
  have k4 : (k : Int) < 4 := by omega
  clear hi2 hz02 hz12 hz22 hi hz0 hz1 hz2 hk hN ih
  go_enter Try.func46, Try.ntmps46
  go_wp2_with fail
  (try rw [n1])
  refine (IH.out _).mono ?_
  rintro e wo ⟨⟨gl, cl, top, A, C, rfl, hV⟩, hB⟩
  have HV := Lib.hid hV
  have HB := Lib.hid hB
  have HTOP : Hid (top ≤ wo.heap.size) := Lib.hid hV.top
  obtain ⟨m, hm⟩ : ∃ m, fc k = m := ⟨_, rfl⟩
  have hm1 : 1 ≤ m := by rw [← hm]; exact fc_pos k
  have hm24 : m ≤ 24 := by
    have : k = 0 ∨ k = 1 ∨ k = 2 ∨ k = 3 := by omega
    rw [← hm]
    rcases this with rfl | rfl | rfl | rfl <;> decide
  rw [hm] at HV
  rw [hm]
  have HMM := Lib.hid (And.intro hm (And.intro hm1 hm24))
  clear hm hV hB
  go_wp2_with fail
  go_loopw [3, 15] (fun lv iv wr => ∃ (V' : Value) (j top' : Nat) (A' : Nat → Option Addr) (C' : Nat → Nat), V' = lv ∧ iv = .int .i64 (j : Int) ∧ j ≤ m ∧ Hid (RowsN wr wo.heap.size top' V' (j * (k + 1)) (k + 1) A' C' (prF (k + 1))) ∧ Hid (Below wo.heap.size wo wr)) (fun _ iv _ => m - (intOf iv).toNat)
  case atStart => exact ⟨_, 0, wo.heap.size, fun _ => none, fun _ => 0, rfl, rfl, Nat.zero_le _, Lib.hid (by rw [Nat.zero_mul]; exact RowsN.nil _ _ _ _ _ _), Lib.hid (Below.refl _ _)⟩
  case round =>
        obtain ⟨V', j, top', A', C', rfl, rfl, hj, HV', HB'⟩ := hrel
        obtain ⟨wq, hw⟩ : ∃ z, z = wr := ⟨wr, rfl⟩
        subst hw
        by_cases hlt : j < m
        · have hlt' : (j : Int) < (m : Int) := by omega
          have j0 : (0 : Int) ≤ (j : Int) := by omega
          have jt : (j : Int).toNat = j := by omega
          have j24 : (j : Int) < 24 := by omega
          have HVl := Lib.hid (HV.out.keep HB'.out)
          have HR := Lib.hid (HV.out.row j hlt)
          have c0 : wq.cell? ⟨gl, j, none⟩ = some (.slice (A j) k (C j)) := (HVl.out.own.cellAt j (by omega)).trans (rowsN_get A k C hlt)
          have c1 : wq.frozen? ⟨gl, j, none⟩ = false := HVl.out.own.frozenAt _
          have HJ := Lib.hid (And.intro hj hlt)
          obtain ⟨f, hf⟩ : ∃ f, prF k j = f := ⟨_, rfl⟩
          obtain ⟨c, hc⟩ : ∃ c, C j = c := ⟨_, rfl⟩
          obtain ⟨ao, hao⟩ : ∃ ao, A j = ao := ⟨_, rfl⟩
          have HP : Hid (∀ i, i < k + 1 → prF (k + 1) (j * (k + 1) + i) = insF f i (k : Int)) := Lib.hid (fun i hi => by rw [← hf]; exact prF_at k j i hi)
          rw [hc, hao] at c0
          rw [hf, hc, hao] at HR
          clear hj hlt hf hc hao
          go_wp2_with fail
          go_loopw [3, 6] (fun lv iv wr => ∃ (V' : Value) (i top' : Nat) (A' : Nat → Option Addr) (C' : Nat → Nat), V' = lv ∧ iv = .int .i64 (i : Int) ∧ i ≤ k + 1 ∧ Hid (RowsN wr wo.heap.size top' V' (j * (k + 1) + i) (k + 1) A' C' (prF (k + 1))) ∧ Hid (Below wo.heap.size wo wr)) (fun _ iv _ => (k + 1) - (intOf iv).toNat)
          case atStart => exact ⟨_, 0, top', A', C', rfl, rfl, Nat.zero_le _, HV', HB'⟩
          case round =>
            obtain ⟨V2, i, top2, A2, C2, rfl, rfl, hi, HV2, HB2⟩ := hrel
            clear HV'
            by_cases hlt : i < k + 1
            · have hlt' : (i : Int) < (N : Int) := by have := HN.out; omega
              have i0' : (0 : Int) ≤ (i : Int) := by omega
              have it : (i : Int).toNat = i := by omega
              have i4 : (i : Int) < 4 := by omega
              have HIK := Lib.hid (And.intro hi hlt)
              have hbl := HB2.out
              obtain ⟨M, hM⟩ : ∃ M, j * (k + 1) + i = M := ⟨_, rfl⟩
              have hM1 : M ≤ 200 := by
                have h1 : j * (k + 1) ≤ 24 * 5 := Nat.mul_le_mul (by omega) (by omega)
                omega
              rw [hM] at HV2
              have HNN := Lib.hid (And.intro hM hM1)
              have hs1 := HV2.out.top
              have hs2 := HB2.out.size
              have HSZ : Hid (top2 ≤ wr.heap.size ∧ wo.heap.size ≤ wr.heap.size) := Lib.hid ⟨hs1, by omega⟩
              have HRR := Lib.hid (HR.out.keep hbl)
              clear hi hlt hM hM1 hs1 hs2 hbl c0 c1
              rcases HRR.out.2.2 with ⟨hk0, rfl, rfl⟩ | ⟨b, rfl, hcc, hb1, hb2, _, hpos⟩
              · exact absurd hk0 (by have := HN.out; omega)
              · have HC := Lib.hid hcc
                have ikn : i ≤ k := by have := HIK.out; omega
                have hck : k ≤ c := HRR.out.1
                have hcm : c ≤ 9223372036854775807 := HRR.out.2.1
                have ick : i ≤ c := Nat.le_trans ikn hck
                have ick' : (i : Int) ≤ (c : Int) := by omega
                have HIK2 := Lib.hid ikn
                have ikn' : (i : Int) ≤ (k : Int) := by omega
                have hbl : b < wo.heap.size := by have := HTOP.out; omega
                clear hcc hb1 hb2
                go_wp2_with (at_builtin; refine wpList_append_own _ rfl (.tmp 24) (.tmp 27) 28 rfl wr.heap.size 3 i0 _ 1 8 Try.underlying28 HI.out.1 HI.out.2.1 HI.out.2.2.1 HI.out.2.2.2 rfl (by decide) _ 0 [] rfl (World.ownsRow_nil _ _ _ _) ⟨b, 0, none⟩ i c (cellsI f i) rfl ?c0 ?c1 ?c2 ?c3 ?c4 ?c5 ?_)
                case c0 => rw [cellsI_len]; omega
                case c1 =>
                  intro q u hu
                  have hq : q < i := by have := (List.getElem?_eq_some_iff.1 hu).1; rwa [cellsI_len] at this
                  rw [cellsI_get f hq] at hu
                  rw [Addr.add_lit, ← hu, Nat.zero_add]
                  exact (HC.out q (by omega)).1
                case c2 => exact cellsI_one f i
                case c3 => unfold maxLen; omega
                case c4 => omega
                try (case c5 => first | exact Nat.le_refl _ | omega)
                intro v1 w1 hown1 hgr1 _
                (try simp only [Nat.zero_add, List.nil_append] at hown1)
                have D1 : Below wr.heap.size wr w1 := (Below.refl _ _).grown hgr1 (Nat.le_refl _) (fun p hp => by cases hp)
                have HO1 := Lib.hid (hown1.alloc (.cells #[.int .i64 (k : Int)] 3))
                clear hown1 hgr1
                go_wp2_with (at_builtin; refine wpList_append_own _ rfl (.tmp 29) (.tmp 32) 28 rfl wr.heap.size 3 i0 _ 1 8 Try.underlying28 HI.out.1 HI.out.2.1 HI.out.2.2.1 HI.out.2.2.2 rfl (by decide) v1 i (cellsI f i) rfl HO1.out ⟨w1.heap.size, 0, none⟩ 1 1 [.int .i64 (k : Int)] rfl rfl ?d1 ?d2 ?d3 ?d4 ?d5 ?_)
                try (case d1 => exact fun j u hu => World.news_of_block (cs := #[.int .i64 (k : Int)]) (heap_new w1 _) j u hu)
                try (case d2 => first | (intro u hu; simp only [List.mem_cons, List.not_mem_nil, or_false] at hu; subst hu; rfl) | rfl)
                try (case d3 => unfold maxLen; omega)
                try (case d4 => omega)
                try (case d5 => have := D1.size; simp; omega)
                intro v2 w2 hown2 hgr2 _
                have D2 : Below wr.heap.size wr w2 := (D1.alloc D1.size _).grown hgr2 (by have := D1.size; simp; omega) (fun p hp => (HO1.out.lt p hp).1)
                have HO2 := Lib.hid hown2
                have HC2 := Lib.hid (HC.out.keep D2)
                clear hown2 hgr2 HO1 D1
                by_cases hci : c = i
                · have hki : k = i := by omega
                  subst hci
                  have hki' : k - c = 0 := by omega
                  have HKI := Lib.hid hki
                  clear hki
                  go_wp2_with (at_builtin; refine wpList_append_own _ rfl (.tmp 34) (.tmp 37) 28 rfl wr.heap.size 3 i0 _ 1 8 Try.underlying28 HI.out.1 HI.out.2.1 HI.out.2.2.1 HI.out.2.2.2 rfl (by decide) v2 (c + 1) (cellsI f c ++ [.int .i64 (k : Int)]) rfl HO2.out ⟨b, 0, none⟩ 0 0 ([]) rfl ?c0p ?c1p ?c2p ?c3p ?c4p ?c5p ?_)
                  case c0p => rfl
                  case c1p => intro q u hu; cases hu
                  case c2p => intro u hu; cases hu
                  case c3p => unfold maxLen; have := HIK.out; omega
                  case c4p => have := HIK.out; omega
                  try (case c5p => exact D2.size)
                  intro v3 w3 hown3 hgr3 _
                  have D3 : Below wr.heap.size wr w3 := D2.grown hgr3 D2.size (fun p hp => (HO2.out.lt p hp).1)
                  have hO3 : w3.ownsRow wr.heap.size 3 1 v3 (k + 1) (cellsI (insF f c (k : Int)) (k + 1)) := by
                    rw [← ins_list f (k : Int) HIK2.out, show k + 1 = c + 1 by have := HKI.out; omega, List.drop_eq_nil_of_le (by have := HKI.out; rw [cellsI_len]; omega), List.append_nil]
                    exact hown3
                  obtain ⟨g3, cap3, rfl, hg3, hl3, hc3, hm3⟩ := own_fm hO3 (by omega)
                  have hW3 : Intw w3 g3 (k + 1) (insF f c (k : Int)) := Intw.of_own hO3 fun q hq => cellsI_get _ hq
                  clear hown3 hgr3 hO3 HO2 D2
                  have hbr : Below w3.heap.size w3 (w3.alloc (.cells #[.slice (some ⟨g3, 0, none⟩) (k + 1) cap3] 28)) := (Below.refl _ _).alloc (Nat.le_refl _) _
                  have HVA := Lib.hid (HV2.out.keep (D3.trans (hbr.mono D3.size)))
                  have HWA := Lib.hid (hW3.keep hbr)
                  have HG := Lib.hid (And.intro hg3 (And.intro hl3 (And.intro hc3 hm3)))
                  have HD3 := Lib.hid (D3.trans (hbr.mono D3.size))
                  clear hW3 hg3 hl3 hc3 hm3 hbr HV2 HRR
                  go_wp2_with (at_builtin; refine wpList_append_lies _ rfl (.tmp 39) (.tmp 41) 52 rfl wo.heap.size 28 i2 _ 1 24 Try.underlying52 HSL.out.1 HSL.out.2.1 HSL.out.2.2.1 HSL.out.2.2.2 rfl (by decide) V2 M (rowsN A2 (k + 1) C2 M) rfl HVA.out.own ⟨w3.heap.size, 0, none⟩ 1 1 [.slice (some ⟨g3, 0, none⟩) (k + 1) cap3] rfl rfl ?e1q ?e2q (by omega) ?e3q ?e4q ?e5q _ rfl ?_)
                  try (case e1q => exact fun j u hu => World.news_of_block (cs := #[.slice (some ⟨g3, 0, none⟩) (k + 1) cap3]) (heap_new w3 _) j u hu)
                  try (case e2q => first | (intro u hu; simp only [List.mem_cons, List.not_mem_nil, or_false] at hu; subst hu; rfl) | rfl)
                  case e3q => unfold maxLen; have h8 := HNN.out; omega
                  case e4q => have h8 := HNN.out; omega
                  try (case e5q => have h8 := HSZ.out; have h9 := D3.size; simp; omega)
                  intro g' cap2 w5 hown' hgrow hor hlg
                  have hlt5 := HVA.out.own.lt
                  have HV5 : Hid (RowsN w5 wo.heap.size w5.heap.size (.slice (some ⟨g', 0, none⟩) (M + 1) cap2) (j * (k + 1) + (c + 1)) (k + 1) (updA A2 M (some ⟨g3, 0, none⟩)) (updN C2 M cap3) (prF (k + 1))) := Lib.hid (by
                    have h8 := HNN.out
                    have h9 := HSZ.out
                    have h10 := HG.out
                    rw [show j * (k + 1) + (c + 1) = M + 1 by omega]
                    exact (HVA.out.append (by omega) HWA.out h10.2.2.1 h10.2.2.2 (by omega) (by omega) (by simp; omega) hown' hgrow (hor.imp id (fun h => by first | exact Nat.le_of_eq h.symm | (simp at h ⊢; omega) | (simp; omega) | omega)) hlg).congr (fun t ht q hq => by
                      by_cases e : t = M
                      · subst e
                        rw [if_pos rfl, ← h8.1, HP.out c HIK.out.2]
                      · rw [if_neg e]))
                  have HB5 : Hid (Below wo.heap.size wo w5) := Lib.hid ((HB2.out.trans (HD3.out.mono HB2.out.size)).grown hgrow (by have h8 := HB2.out.size; have h9 := HD3.out.size; omega) (fun p hp => (hlt5 p hp).1))
                  clear hown' hgrow hor hlt5 HVA HWA HD3 D3 hlg HB2
                  go_wp2_with fail
                  go_roundw
                  case rel => exact ⟨_, c + 1, _, _, _, rfl, by first | rfl | go_num, by have h8 := HIK.out; omega, HV5, HB5⟩
                  case measure => have h8 := HIK.out; first | (simp [intOf]; done) | (simp [intOf]; omega)
                · have hci' : ¬ i = c := fun e => hci e.symm
                  go_wp2_with (at_builtin; refine wpList_append_own _ rfl (.tmp 34) (.tmp 37) 28 rfl wr.heap.size 3 i0 _ 1 8 Try.underlying28 HI.out.1 HI.out.2.1 HI.out.2.2.1 HI.out.2.2.2 rfl (by decide) v2 (i + 1) (cellsI f i ++ [.int .i64 (k : Int)]) rfl HO2.out ⟨b, i, none⟩ (k - i) (c - i) ((cellsI f k).drop i) rfl ?c0r ?c1r ?c2r ?c3r ?c4r ?c5r ?_)
                  case c0r => rw [List.length_drop, cellsI_len]; omega
                  case c1r =>
                    intro q u hu
                    have hq : i + q < k := by have := (List.getElem?_eq_some_iff.1 hu).1; rw [List.length_drop, cellsI_len] at this; omega
                    rw [cellsI_drop f k i q hq] at hu
                    rw [Addr.add_lit, ← hu]
                    exact (HC2.out (i + q) hq).1
                  case c2r => exact fun u hu => cellsI_one f k u (List.mem_of_mem_drop hu)
                  case c3r => unfold maxLen; have := HIK.out; omega
                  case c4r => have := HIK.out; omega
                  try (case c5r => exact D2.size)
                  intro v3 w3 hown3 hgr3 _
                  have D3 : Below wr.heap.size wr w3 := D2.grown hgr3 D2.size (fun p hp => (HO2.out.lt p hp).1)
                  have hO3 : w3.ownsRow wr.heap.size 3 1 v3 (k + 1) (cellsI (insF f i (k : Int)) (k + 1)) := by
                    rw [← ins_list f (k : Int) HIK2.out, show k + 1 = i + 1 + (k - i) by omega, List.append_assoc]
                    exact hown3
                  obtain ⟨g3, cap3, rfl, hg3, hl3, hc3, hm3⟩ := own_fm hO3 (by omega)
                  have hW3 : Intw w3 g3 (k + 1) (insF f i (k : Int)) := Intw.of_own hO3 fun q hq => cellsI_get _ hq
                  clear hown3 hgr3 hO3 HO2 D2
                  have hbr : Below w3.heap.size w3 (w3.alloc (.cells #[.slice (some ⟨g3, 0, none⟩) (k + 1) cap3] 28)) := (Below.refl _ _).alloc (Nat.le_refl _) _
                  have HVA := Lib.hid (HV2.out.keep (D3.trans (hbr.mono D3.size)))
                  have HWA := Lib.hid (hW3.keep hbr)
                  have HG := Lib.hid (And.intro hg3 (And.intro hl3 (And.intro hc3 hm3)))
                  have HD3 := Lib.hid (D3.trans (hbr.mono D3.size))
                  clear hW3 hg3 hl3 hc3 hm3 hbr HV2 HRR
                  go_wp2_with (at_builtin; refine wpList_append_lies _ rfl (.tmp 39) (.tmp 41) 52 rfl wo.heap.size 28 i2 _ 1 24 Try.underlying52 HSL.out.1 HSL.out.2.1 HSL.out.2.2.1 HSL.out.2.2.2 rfl (by decide) V2 M (rowsN A2 (k + 1) C2 M) rfl HVA.out.own ⟨w3.heap.size, 0, none⟩ 1 1 [.slice (some ⟨g3, 0, none⟩) (k + 1) cap3] rfl rfl ?e1s ?e2s (by omega) ?e3s ?e4s ?e5s _ rfl ?_)
                  try (case e1s => exact fun j u hu => World.news_of_block (cs := #[.slice (some ⟨g3, 0, none⟩) (k + 1) cap3]) (heap_new w3 _) j u hu)
                  try (case e2s => first | (intro u hu; simp only [List.mem_cons, List.not_mem_nil, or_false] at hu; subst hu; rfl) | rfl)
                  case e3s => unfold maxLen; have h8 := HNN.out; omega
                  case e4s => have h8 := HNN.out; omega
                  try (case e5s => have h8 := HSZ.out; have h9 := D3.size; simp; omega)
                  intro g' cap2 w5 hown' hgrow hor hlg
                  have hlt5 := HVA.out.own.lt
                  have HV5 : Hid (RowsN w5 wo.heap.size w5.heap.size (.slice (some ⟨g', 0, none⟩) (M + 1) cap2) (j * (k + 1) + (i + 1)) (k + 1) (updA A2 M (some ⟨g3, 0, none⟩)) (updN C2 M cap3) (prF (k + 1))) := Lib.hid (by
                    have h8 := HNN.out
                    have h9 := HSZ.out
                    have h10 := HG.out
                    rw [show j * (k + 1) + (i + 1) = M + 1 by omega]
                    exact (HVA.out.append (by omega) HWA.out h10.2.2.1 h10.2.2.2 (by omega) (by omega) (by simp; omega) hown' hgrow (hor.imp id (fun h => by first | exact Nat.le_of_eq h.symm | (simp at h ⊢; omega) | (simp; omega) | omega)) hlg).congr (fun t ht q hq => by
                      by_cases e : t = M
                      · subst e
                        rw [if_pos rfl, ← h8.1, HP.out i HIK.out.2]
                      · rw [if_neg e]))
                  have HB5 : Hid (Below wo.heap.size wo w5) := Lib.hid ((HB2.out.trans (HD3.out.mono HB2.out.size)).grown hgrow (by have h8 := HB2.out.size; have h9 := HD3.out.size; omega) (fun p hp => (hlt5 p hp).1))
                  clear hown' hgrow hor hlt5 HVA HWA HD3 D3 hlg HB2
                  go_wp2_with fail
                  go_roundw
                  case rel => exact ⟨_, i + 1, _, _, _, rfl, by first | rfl | go_num, by have h8 := HIK.out; omega, HV5, HB5⟩
                  case measure => have h8 := HIK.out; first | (simp [intOf]; done) | (simp [intOf]; omega)
            · have hki : i = k + 1 := by omega
              subst hki
              have hnl : ¬ (((k + 1 : Nat) : Int) < (N : Int)) := by have := HN.out; omega
              have HV6 : Hid (RowsN wr wo.heap.size top2 V2 ((j + 1) * (k + 1)) (k + 1) A2 C2 (prF (k + 1))) := Lib.hid (by rw [Nat.succ_mul]; exact HV2.out)
              have HB6 := HB2
              clear hi hlt HV2 HB2 HB' c0 c1
              go_wp2_with fail
              go_roundw
              case rel => exact ⟨_, j + 1, _, _, _, rfl, by first | rfl | go_num, by have h8 := HJ.out; omega, HV6, HB6⟩
              case measure => have h8 := HJ.out; first | (simp [intOf]; done) | (simp [intOf]; omega)
        · have hjm : j = m := by omega
          subst hjm
          have hnl : ¬ ((j : Int) < (j : Int)) := Int.lt_irrefl _
          have HV6 : Hid (RowsN wq w.heap.size top' V' (fc (k + 1)) (k + 1) A' C' (prF (k + 1))) := Lib.hid (by
            show RowsN wq w.heap.size top' V' (fc k * (k + 1)) (k + 1) A' C' (prF (k + 1))
            rw [HMM.out.1]
            exact HV'.out.base HB.out.size)
          have HB6 : Hid (Below w.heap.size w wq) := Lib.hid (HB.out.trans (HB'.out.mono HB.out.size))
          obtain ⟨gV, cV, rfl, _, _, _, _⟩ := own_fm HV6.out.own (fc_pos (k + 1))
          have HR : Hid (PmsR w.heap.size (k + 1) wq (.returned (.slice (some ⟨gV, 0, none⟩) (fc (k + 1)) cV))) := Lib.hid ⟨gV, cV, top', A', C', rfl, HV6.out⟩
          clear hj hlt HV' HB' HV HB HTOP HV6
          go_wp2_with fail
          refine bodyPost_ret (v := .slice (some ⟨gV, 0, none⟩) (fc (k + 1)) cV) (by simp [results, Try.results46, go_sem]) rfl ⟨HR.out, HB6.out⟩
set_option maxRecDepth 100000 in
set_option maxHeartbeats 16000000 in
theorem rPerms_one (N : Nat) (hN : N = 0 + 1) (ih : ∀ w, Calls Try.prog 46 #[.int .i64 (0 : Int)] w fun e w' => PmsR w.heap.size 0 w' e ∧ Below w.heap.size w w') (w : World) :
    Calls Try.prog 46 #[.int .i64 (N : Int)] w fun e w' => PmsR w.heap.size (0 + 1) w' e ∧ Below w.heap.size w w' := by
  obtain ⟨i2, hi2, hz02, hz12, hz22⟩ := info_parts infoSl
  have HSL := Lib.hid (And.intro hi2 (And.intro hz02 (And.intro hz12 hz22)))
  obtain ⟨i0, hi, hz0, hz1, hz2⟩ := info_parts infoInt
  have HI := Lib.hid (And.intro hi (And.intro hz0 (And.intro hz1 hz2)))
  have HN := Lib.hid (And.intro (Nat.zero_le 3) hN)
  have IH := Lib.hid ih
  have n0 : ¬ ((N : Int) = 0) := by omega
  have n1 : wrap64 ((N : Int) - 1) = (0 : Int) := by unfold wrap64; omega
  have kN : (0 : Int) < (N : Int) := by omega
  have k4 : (0 : Int) < 4 := by omega
  clear hi2 hz02 hz12 hz22 hi hz0 hz1 hz2 hN ih
  go_enter Try.func46, Try.ntmps46
  go_wp2_with fail
  (try rw [n1])
  refine (IH.out _).mono ?_
  rintro e wo ⟨⟨gl, cl, top, A, C, rfl, hV⟩, hB⟩
  have HV := Lib.hid hV
  have HB := Lib.hid hB
  have HTOP : Hid (top ≤ wo.heap.size) := Lib.hid hV.top
  obtain ⟨m, hm⟩ : ∃ m, fc 0 = m := ⟨_, rfl⟩
  have hm1 : 1 ≤ m := by rw [← hm]; exact fc_pos 0
  have hm24 : m ≤ 24 := by
    rw [← hm]
    decide
  rw [hm] at HV
  rw [hm]
  have HMM := Lib.hid (And.intro hm (And.intro hm1 hm24))
  clear hm hV hB
  go_wp2_with fail
  go_loopw [3, 15] (fun lv iv wr => ∃ (V' : Value) (j top' : Nat) (A' : Nat → Option Addr) (C' : Nat → Nat), V' = lv ∧ iv = .int .i64 (j : Int) ∧ j ≤ m ∧ Hid (RowsN wr wo.heap.size top' V' (j * (0 + 1)) (0 + 1) A' C' (prF (0 + 1))) ∧ Hid (Below wo.heap.size wo wr)) (fun _ iv _ => m - (intOf iv).toNat)
  case atStart => exact ⟨_, 0, wo.heap.size, fun _ => none, fun _ => 0, rfl, rfl, Nat.zero_le _, Lib.hid (by rw [Nat.zero_mul]; exact RowsN.nil _ _ _ _ _ _), Lib.hid (Below.refl _ _)⟩
  case round =>
        obtain ⟨V', j, top', A', C', rfl, rfl, hj, HV', HB'⟩ := hrel
        obtain ⟨wq, hw⟩ : ∃ z, z = wr := ⟨wr, rfl⟩
        subst hw
        by_cases hlt : j < m
        · have hlt' : (j : Int) < (m : Int) := by omega
          have j0 : (0 : Int) ≤ (j : Int) := by omega
          have jt : (j : Int).toNat = j := by omega
          have j24 : (j : Int) < 24 := by omega
          have HVl := Lib.hid (HV.out.keep HB'.out)
          have HR := Lib.hid (HV.out.row j hlt)
          have c0 : wq.cell? ⟨gl, j, none⟩ = some (.slice (A j) 0 (C j)) := (HVl.out.own.cellAt j (by omega)).trans (rowsN_get A 0 C hlt)
          have c1 : wq.frozen? ⟨gl, j, none⟩ = false := HVl.out.own.frozenAt _
          have HJ := Lib.hid (And.intro hj hlt)
          obtain ⟨f, hf⟩ : ∃ f, prF 0 j = f := ⟨_, rfl⟩
          obtain ⟨c, hc⟩ : ∃ c, C j = c := ⟨_, rfl⟩
          obtain ⟨ao, hao⟩ : ∃ ao, A j = ao := ⟨_, rfl⟩
          have HP : Hid (∀ i, i < 0 + 1 → prF (0 + 1) (j * (0 + 1) + i) = insF f i (0 : Int)) := Lib.hid (fun i hi => by rw [← hf]; exact prF_at 0 j i hi)
          rw [hc, hao] at c0
          rw [hf, hc, hao] at HR
          clear hj hlt hf hc hao
          go_wp2_with fail
          go_loopw [3, 6] (fun lv iv wr => ∃ (V' : Value) (i top' : Nat) (A' : Nat → Option Addr) (C' : Nat → Nat), V' = lv ∧ iv = .int .i64 (i : Int) ∧ i ≤ 0 + 1 ∧ Hid (RowsN wr wo.heap.size top' V' (j * (0 + 1) + i) (0 + 1) A' C' (prF (0 + 1))) ∧ Hid (Below wo.heap.size wo wr)) (fun _ iv _ => (0 + 1) - (intOf iv).toNat)
          case atStart => exact ⟨_, 0, top', A', C', rfl, rfl, Nat.zero_le _, HV', HB'⟩
          case round =>
            obtain ⟨V2, i, top2, A2, C2, rfl, rfl, hi, HV2, HB2⟩ := hrel
            clear HV'
            by_cases hlt : i < 0 + 1
            · have hlt' : (i : Int) < (N : Int) := by have := HN.out; omega
              have i0' : (0 : Int) ≤ (i : Int) := by omega
              have it : (i : Int).toNat = i := by omega
              have i4 : (i : Int) < 4 := by omega
              have HIK := Lib.hid (And.intro hi hlt)
              have hbl := HB2.out
              obtain ⟨M, hM⟩ : ∃ M, j * (0 + 1) + i = M := ⟨_, rfl⟩
              have hM1 : M ≤ 200 := by
                have h1 : j * (0 + 1) ≤ 24 * 5 := Nat.mul_le_mul (by omega) (by omega)
                omega
              rw [hM] at HV2
              have HNN := Lib.hid (And.intro hM hM1)
              have hs1 := HV2.out.top
              have hs2 := HB2.out.size
              have HSZ : Hid (top2 ≤ wr.heap.size ∧ wo.heap.size ≤ wr.heap.size) := Lib.hid ⟨hs1, by omega⟩
              have HRR := Lib.hid (HR.out.keep hbl)
              clear hi hlt hM hM1 hs1 hs2 hbl c0 c1
              rcases HRR.out.2.2 with ⟨hk0, rfl, rfl⟩ | ⟨b, rfl, hcc, hb1, hb2, _, hpos⟩
              · have hi0 : i = 0 := by have := HIK.out; omega
                subst hi0
                go_wp2_with (at_builtin; refine wpList_append_own _ rfl (.tmp 29) (.tmp 32) 28 rfl wr.heap.size 3 i0 _ 1 8 Try.underlying28 HI.out.1 HI.out.2.1 HI.out.2.2.1 HI.out.2.2.2 rfl (by decide) _ 0 [] rfl (World.ownsRow_nil _ _ _ _) ⟨wr.heap.size, 0, none⟩ 1 1 [.int .i64 (0 : Int)] rfl rfl ?d1x ?d2x ?d3x ?d4x ?d5x ?_)
                try (case d1x => exact fun j u hu => World.news_of_block (cs := #[.int .i64 (0 : Int)]) (heap_new wr _) j u hu)
                try (case d2x => first | (intro u hu; simp only [List.mem_cons, List.not_mem_nil, or_false] at hu; subst hu; rfl) | rfl)
                try (case d3x => unfold maxLen; omega)
                try (case d4x => omega)
                try (case d5x => simp)
                intro v2 w3 hown2 hgr2 _
                have D3 : Below wr.heap.size wr w3 := ((Below.refl _ _).alloc (Nat.le_refl _) _).grown hgr2 (by simp) (fun p hp => by cases hp)
                have HO2 := Lib.hid hown2
                clear hown2 hgr2
                have hO3 : w3.ownsRow wr.heap.size 3 1 v2 (0 + 1) (cellsI (insF f 0 (0 : Int)) (0 + 1)) := HO2.out
                obtain ⟨g3, cap3, rfl, hg3, hl3, hc3, hm3⟩ := own_fm hO3 (by omega)
                have hW3 : Intw w3 g3 (0 + 1) (insF f 0 (0 : Int)) := Intw.of_own hO3 fun q hq => cellsI_get _ hq
                have HOA := Lib.hid hO3
                clear HO2 hO3
                have hbr : Below w3.heap.size w3 (w3.alloc (.cells #[.slice (some ⟨g3, 0, none⟩) (0 + 1) cap3] 28)) := (Below.refl _ _).alloc (Nat.le_refl _) _
                have HVA := Lib.hid (HV2.out.keep (D3.trans (hbr.mono D3.size)))
                have HWA := Lib.hid (hW3.keep hbr)
                have HG := Lib.hid (And.intro hg3 (And.intro hl3 (And.intro hc3 hm3)))
                have HD3 := Lib.hid (D3.trans (hbr.mono D3.size))
                clear hW3 hg3 hl3 hc3 hm3 hbr HV2 HRR
                go_wp2_with (at_builtin; first | refine wpList_append_own_none rfl (.tmp 34) (.tmp 37) 28 rfl wr.heap.size 3 i0 1 Try.underlying28 HI.out.1 _ (0 + 1) _ rfl HOA.out rfl ?_ | refine wpList_append_lies _ rfl (.tmp 39) (.tmp 41) 52 rfl wo.heap.size 28 i2 _ 1 24 Try.underlying52 HSL.out.1 HSL.out.2.1 HSL.out.2.2.1 HSL.out.2.2.2 rfl (by decide) V2 M (rowsN A2 (0 + 1) C2 M) rfl HVA.out.own ⟨w3.heap.size, 0, none⟩ 1 1 [.slice (some ⟨g3, 0, none⟩) (0 + 1) cap3] rfl rfl ?e1x ?e2x (by omega) ?e3x ?e4x ?e5x _ rfl ?_)
                try (case e1x => exact fun j u hu => World.news_of_block (cs := #[.slice (some ⟨g3, 0, none⟩) (0 + 1) cap3]) (heap_new w3 _) j u hu)
                try (case e2x => first | (intro u hu; simp only [List.mem_cons, List.not_mem_nil, or_false] at hu; subst hu; rfl) | rfl)
                case e3x => unfold maxLen; have h8 := HNN.out; omega
                case e4x => have h8 := HNN.out; omega
                try (case e5x => have h8 := HSZ.out; have h9 := D3.size; simp; omega)
                intro g' cap2 w5 hown' hgrow hor hlg
                have hlt5 := HVA.out.own.lt
                have HV5 : Hid (RowsN w5 wo.heap.size w5.heap.size (.slice (some ⟨g', 0, none⟩) (M + 1) cap2) (j * (0 + 1) + (0 + 1)) (0 + 1) (updA A2 M (some ⟨g3, 0, none⟩)) (updN C2 M cap3) (prF (0 + 1))) := Lib.hid (by
                  have h8 := HNN.out
                  have h9 := HSZ.out
                  have h10 := HG.out
                  rw [show j * (0 + 1) + (0 + 1) = M + 1 by omega]
                  exact (HVA.out.append (by omega) HWA.out h10.2.2.1 h10.2.2.2 (by omega) (by omega) (by simp; omega) hown' hgrow (hor.imp id (fun h => by first | exact Nat.le_of_eq h.symm | (simp at h ⊢; omega) | (simp; omega) | omega)) hlg).congr (fun t ht q hq => by
                    by_cases e : t = M
                    · subst e
                      rw [if_pos rfl, ← h8.1, HP.out 0 HIK.out.2]
                      <;> rfl
                    · rw [if_neg e]))
                have HB5 : Hid (Below wo.heap.size wo w5) := Lib.hid ((HB2.out.trans (HD3.out.mono HB2.out.size)).grown hgrow (by have h8 := HB2.out.size; have h9 := HD3.out.size; omega) (fun p hp => (hlt5 p hp).1))
                clear hown' hgrow hor hlt5 HVA HWA HD3 D3 hlg HB2
                go_wp2_with fail
                go_roundw
                case rel => exact ⟨_, 0 + 1, _, _, _, rfl, by first | rfl | go_num, by have h8 := HIK.out; omega, HV5, HB5⟩
                case measure => have h8 := HIK.out; first | (simp [intOf]; done) | (simp [intOf]; omega)
              · exact absurd hpos (by omega)
            · have hki : i = 0 + 1 := by omega
              subst hki
              have hnl : ¬ (((0 + 1 : Nat) : Int) < (N : Int)) := by have := HN.out; omega
              have HV6 : Hid (RowsN wr wo.heap.size top2 V2 ((j + 1) * (0 + 1)) (0 + 1) A2 C2 (prF (0 + 1))) := Lib.hid (by rw [Nat.succ_mul]; exact HV2.out)
              have HB6 := HB2
              clear hi hlt HV2 HB2 HB' c0 c1
              go_wp2_with fail
              go_roundw
              case rel => exact ⟨_, j + 1, _, _, _, rfl, by first | rfl | go_num, by have h8 := HJ.out; omega, HV6, HB6⟩
              case measure => have h8 := HJ.out; first | (simp [intOf]; done) | (simp [intOf]; omega)
        · have hjm : j = m := by omega
          subst hjm
          have hnl : ¬ ((j : Int) < (j : Int)) := Int.lt_irrefl _
          have HV6 : Hid (RowsN wq w.heap.size top' V' (fc (0 + 1)) (0 + 1) A' C' (prF (0 + 1))) := Lib.hid (by
            show RowsN wq w.heap.size top' V' (fc 0 * (0 + 1)) (0 + 1) A' C' (prF (0 + 1))
            rw [HMM.out.1]
            exact HV'.out.base HB.out.size)
          have HB6 : Hid (Below w.heap.size w wq) := Lib.hid (HB.out.trans (HB'.out.mono HB.out.size))
          obtain ⟨gV, cV, rfl, _, _, _, _⟩ := own_fm HV6.out.own (fc_pos (0 + 1))
          have HR : Hid (PmsR w.heap.size (0 + 1) wq (.returned (.slice (some ⟨gV, 0, none⟩) (fc (0 + 1)) cV))) := Lib.hid ⟨gV, cV, top', A', C', rfl, HV6.out⟩
          clear hj hlt HV' HB' HV HB HTOP HV6
          go_wp2_with fail
          refine bodyPost_ret (v := .slice (some ⟨gV, 0, none⟩) (fc (0 + 1)) cV) (by simp [results, Try.results46, go_sem]) rfl ⟨HR.out, HB6.out⟩
end Go.Proofs.Ytfilofnkiocbeaa

namespace Go.Proofs.Ytfilofnkiocbeaa
open Go.RowKit Ben Prm
theorem rPerms_any : ∀ n : Nat, n ≤ 4 → ∀ w, Calls Try.prog 46 #[.int .i64 (n : Int)] w fun e w' => PmsR w.heap.size n w' e ∧ Below w.heap.size w w'
  | 0, _ => rPerms_zero
  | 1, _ => rPerms_one 1 rfl rPerms_zero
  | 2, _ => rPerms_succ 1 2 (by omega) rfl (rPerms_any 1 (by omega))
  | 3, _ => rPerms_succ 2 3 (by omega) rfl (rPerms_any 2 (by omega))
  | 4, _ => rPerms_succ 3 4 (by omega) rfl (rPerms_any 3 (by omega))
  | n + 5, h => absurd h (by omega)
theorem prF_isPm (k : Nat) (hk : k ≤ 1) : ∀ t, t < fc (sz k) → Prm.isPm (sz k) (prF (sz k) t) = true := by
  have : k = 0 ∨ k = 1 := by omega
  rcases this with rfl | rfl <;> decide +kernel
theorem pm_q {n : Nat} {f : Nat → Int} (h : Prm.isPm n f = true) : ∃ q, Pm n (fun j => (f j).toNat) q ∧ ∀ j, j < n → f j = (((f j).toNat : Nat) : Int) := by
  obtain ⟨_, _, _, _, q, P, hf⟩ := pm_of h
  exact ⟨q, P, hf⟩
/-- How many of the first t permutations no settings make. -/
def lsT (k : Nat) (g : Nat → Int) : Nat → Nat
  | 0 => 0
  | t + 1 => lsT k g t + (if wN k (fun j => (prF (sz k) t j).toNat) g = 0 then 1 else 0)
theorem lsT_le (k : Nat) (g : Nat → Int) : ∀ t, lsT k g t ≤ t
  | 0 => Nat.le_refl _
  | t + 1 => by
    have := lsT_le k g t
    simp only [lsT]
    split <;> omega
theorem lsT_yes {k t : Nat} {g : Nat → Int} (h : wN k (fun j => (prF (sz k) t j).toNat) g = 0) : lsT k g (t + 1) = lsT k g t + 1 := by
  show lsT k g t + (if wN k (fun j => (prF (sz k) t j).toNat) g = 0 then 1 else 0) = _
  rw [if_pos h]
theorem lsT_no {k t : Nat} {g : Nat → Int} (h : ¬ wN k (fun j => (prF (sz k) t j).toNat) g = 0) : lsT k g (t + 1) = lsT k g t := by
  show lsT k g t + (if wN k (fun j => (prF (sz k) t j).toNat) g = 0 then 1 else 0) = _
  rw [if_neg h]
  rfl
def lsV (n : Int) (m : Nat) (g : Nat → Int) : Int × Int := if csE n m g = 0 then (if 4 < n then (0, 4) else (((lsT (lv n) g (fc (sz (lv n))) : Nat) : Int), 0)) else (0, csE n m g)
theorem lv_sz : ∀ k, k ≤ 3 → lv ((sz k : Nat) : Int) = k := by decide
theorem isP_ofsz : ∀ k, k ≤ 3 → isP ((sz k : Nat) : Int) = true := by decide
theorem csE_zero {n : Int} {m : Nat} {g : Nat → Int} (h : csE n m g = 0) : ∃ k, k ≤ 3 ∧ n = ((sz k : Nat) : Int) ∧ m = cn k ∧ stB g m = true := by
  unfold csE at h
  by_cases e : ckE n m = 0
  · obtain ⟨a, b, c⟩ := ckE_ok e
    rw [if_pos e] at h
    refine ⟨lv n, b, a, c, ?_⟩
    cases hs : stB g m
    · rw [hs] at h; cases h
    · rfl
  · rw [if_neg e] at h
    exact absurd h e
theorem csE_sz (k m : Nat) (g : Nat → Int) (hk : k ≤ 3) : csE ((sz k : Nat) : Int) m g = if (stB g m && decide (m = cn k)) = true then 0 else 80 := by
  unfold csE ckE
  rw [if_pos (isP_ofsz k hk), lv_sz k hk]
  by_cases e : m = cn k
  · rw [if_pos e, if_pos rfl, decide_eq_true e, Bool.and_true]
  · rw [if_neg e, if_neg (by decide), decide_eq_false e, Bool.and_false]
    rfl
theorem csE_notP {n : Int} {m : Nat} {g : Nat → Int} (h : isP n = false) : csE n m g = 2 := by
  unfold csE ckE
  rw [h]
  rfl
theorem lsV_sz (k m : Nat) (g : Nat → Int) (hk : k ≤ 1) (h : csE ((sz k : Nat) : Int) m g = 0) : lsV ((sz k : Nat) : Int) m g = (((lsT k g (fc (sz k)) : Nat) : Int), 0) := by
  have : k = 0 ∨ k = 1 := by omega
  unfold lsV
  rw [if_pos h, lv_sz k (by omega)]
  rcases this with rfl | rfl <;> rfl
theorem lsV_big {n : Int} {m : Nat} {g : Nat → Int} (h : csE n m g = 0) (h4 : 4 < n) : lsV n m g = (0, 4) := by
  unfold lsV
  rw [if_pos h, if_pos h4]
theorem lsV_err {n : Int} {m : Nat} {g : Nat → Int} (h : ¬ csE n m g = 0) : lsV n m g = (0, csE n m g) := by
  unfold lsV
  rw [if_neg h]
set_option maxRecDepth 100000 in
set_option maxHeartbeats 8000000 in
theorem pLost_any (n : Int) (m dap : Nat) (bo : Option Addr) (g : Nat → Int) (w : World) (hm : m ≤ 80) (hd1 : m ≤ dap) (hd2 : dap ≤ 9223372036854775807) (hd : Ints w bo m g) :
    Calls Try.prog 35 #[.int .i64 n, .slice bo m dap] w fun e w' => e = .returned (.tuple #[.int .i64 (lsV n m g).1, .int .i64 (lsV n m g).2]) ∧ Below w.heap.size w w' := by
  have HD := Lib.hid hd
  clear hd
  by_cases hz : ¬ csE n m g = 0
  · have HE := Lib.hid (lsV_err hz)
    obtain ⟨z, hzz⟩ : ∃ z, csE n m g = z := ⟨_, rfl⟩
    rw [hzz] at hz HE
    have HZ := Lib.hid hzz
    clear hzz
    go_enter Try.func35, Try.ntmps35
    go_wp2_with fail
    refine (checkStuck_any n m dap bo g _ hm HD.out).mono ?_
    rw [HZ.out]
    rintro e w' ⟨rfl, rfl⟩
    go_wp2_with fail
    go_ret2
    exact ⟨by rw [HE.out] <;> rfl, Below.refl _ _⟩
  have hz := Decidable.not_not.1 hz
  have HZ := Lib.hid hz
  by_cases h4 : 4 < n
  · have HE := Lib.hid (lsV_big hz h4)
    clear hz
    go_enter Try.func35, Try.ntmps35
    go_wp2_with fail
    refine (checkStuck_any n m dap bo g _ hm HD.out).mono ?_
    rw [HZ.out]
    rintro e w' ⟨rfl, rfl⟩
    go_wp2_with fail
    go_ret2
    exact ⟨by rw [HE.out] <;> rfl, Below.refl _ _⟩
  obtain ⟨k, hk3, rfl, rfl, hst⟩ := csE_zero hz
  have hk1 : k ≤ 1 := by
    have : k = 0 ∨ k = 1 ∨ k = 2 ∨ k = 3 := by omega
    rcases this with rfl | rfl | rfl | rfl
    · omega
    · omega
    · exact absurd (by decide) h4
    · exact absurd (by decide) h4
  have HE := Lib.hid (lsV_sz k (cn k) g hk1 hz)
  have HK := Lib.hid hk1
  have HDD := Lib.hid (And.intro hd1 (And.intro hd2 hm))
  have hs4 : sz k ≤ 4 := by omega
  have HS4 := Lib.hid hs4
  clear hz hst hk3 hd1 hd2 hm hs4
  go_enter Try.func35, Try.ntmps35
  go_wp2_with fail
  refine (checkStuck_any _ (cn k) dap bo g _ HDD.out.2.2 HD.out).mono ?_
  rw [HZ.out]
  rintro e w' ⟨rfl, rfl⟩
  go_wp2_with fail
  refine (permutations_any (sz k) _ HS4.out).mono ?_
  rintro e wo ⟨⟨gl, cl, top, A, C, rfl, hV⟩, hB⟩
  have HV := Lib.hid hV
  have HB := Lib.hid hB
  have HD1 := Lib.hid (HD.out.keep hB)
  obtain ⟨M, hM⟩ : ∃ M, fc (sz k) = M := ⟨_, rfl⟩
  have hM24 : M ≤ 24 := by
    have : k = 0 ∨ k = 1 := by omega
    rw [← hM]
    rcases this with rfl | rfl <;> decide
  have hM1 : 1 ≤ M := by rw [← hM]; exact fc_pos _
  rw [hM] at HV HE
  rw [hM]
  have HMM := Lib.hid (And.intro hM (And.intro hM1 hM24))
  clear hM hV hB
  go_wp2_with fail
  go_loopw [7, 21] (fun lv iv wr => ∃ (c t : Nat), lv = .int .i64 (c : Int) ∧ iv = .int .i64 (t : Int) ∧ t ≤ M ∧ Hid (c = lsT k g t) ∧ Hid (Below w.heap.size w wr) ∧ Hid (Below wo.heap.size wo wr)) (fun _ iv _ => M - (intOf iv).toNat)
  case atStart => exact ⟨0, 0, rfl, rfl, Nat.zero_le _, Lib.hid rfl, HB, Lib.hid (Below.refl _ _)⟩
  case round =>
    obtain ⟨c, t, rfl, rfl, ht, HC, HB1, HB2⟩ := hrel
    by_cases hlt : t < M
    · have hlt' : (t : Int) < (M : Int) := by omega
      have t0 : (0 : Int) ≤ (t : Int) := by omega
      have tt : (t : Int).toNat = t := by omega
      have t24 : (t : Int) < 24 := by omega
      have hct : c ≤ t := by have h1 := HC.out; have h2 := lsT_le k g t; omega
      have c24 : (c : Int) < 24 := by omega
      have HVl := Lib.hid (HV.out.keep HB2.out)
      have c0 : wr.cell? ⟨gl, t, none⟩ = some (.slice (A t) (sz k) (C t)) := (HVl.out.own.cellAt t (by omega)).trans (rowsN_get A _ C hlt)
      have c1 : wr.frozen? ⟨gl, t, none⟩ = false := HVl.out.own.frozenAt _
      obtain ⟨q, P, hf⟩ := pm_q (prF_isPm k HK.out t (by rw [HMM.out.1]; exact hlt))
      have HRI := ((HVl.out.row t hlt).ints).congr hf
      have HD2 := Lib.hid (HD1.out.keep HB2.out)
      have HT := Lib.hid (And.intro ht hlt)
      obtain ⟨v, hv⟩ : ∃ v, wN k (fun j => (prF (sz k) t j).toNat) g = v := ⟨_, rfl⟩
      have HCALL := Lib.hid (waysQ_any k (by omega) (C t) dap (A t) bo _ q g _ HDD.out.1 HDD.out.2.1 P HRI HD2.out)
      rw [hv] at HCALL
      have HVV := Lib.hid hv
      clear hv ht hlt P hf HRI
      by_cases hv0 : v = 0
      · have hv0' : (v : Int) = 0 := by omega
        have HN : Hid (c + 1 = lsT k g (t + 1)) := Lib.hid (by rw [lsT_yes (HVV.out.trans hv0), HC.out])
        have HV0 := Lib.hid hv0
        clear hv0 HVV HC
        go_wp2_with fail
        refine HCALL.out.mono ?_
        rintro e w2 ⟨rfl, hb⟩
        have HB3 := Lib.hid (HB1.out.trans (hb.mono HB1.out.size))
        have HB4 := Lib.hid (HB2.out.trans (hb.mono HB2.out.size))
        clear hb HB1 HB2 HVl HD2 HCALL c0 c1
        go_wp2_with fail
        go_roundw
        case rel => exact ⟨c + 1, t + 1, by first | rfl | go_num, by first | rfl | go_num, by have h8 := HT.out; omega, HN, HB3, HB4⟩
        case measure => have h8 := HT.out; first | (simp [intOf]; done) | (simp [intOf]; omega)
      · have hv0' : ¬ (v : Int) = 0 := by omega
        have HN : Hid (c = lsT k g (t + 1)) := Lib.hid (by rw [lsT_no (by rw [HVV.out]; exact hv0), HC.out])
        clear hv0 HVV HC
        go_wp2_with fail
        refine HCALL.out.mono ?_
        rintro e w2 ⟨rfl, hb⟩
        have HB3 := Lib.hid (HB1.out.trans (hb.mono HB1.out.size))
        have HB4 := Lib.hid (HB2.out.trans (hb.mono HB2.out.size))
        clear hb HB1 HB2 HVl HD2 HCALL c0 c1
        go_wp2_with fail
        go_roundw
        case rel => exact ⟨c, t + 1, rfl, by first | rfl | go_num, by have h8 := HT.out; omega, HN, HB3, HB4⟩
        case measure => have h8 := HT.out; first | (simp [intOf]; done) | (simp [intOf]; omega)
    · have htM : t = M := by omega
      subst htM
      have hnl : ¬ ((t : Int) < (t : Int)) := Int.lt_irrefl _
      have HE2 : Hid (lsV ((sz k : Nat) : Int) (cn k) g = ((c : Int), 0)) := Lib.hid (by rw [HE.out, HC.out])
      clear HC ht hlt HB2 HV HD1
      go_wp2_with fail
      refine bodyPost_ret (v := .tuple #[.int .i64 (c : Int), .int .i64 0]) (by simp [results, Try.results35, go_sem]) rfl ⟨by rw [HE2.out], HB1.out⟩
set_option maxRecDepth 100000 in
set_option maxHeartbeats 8000000 in
theorem rLost_any (n : Int) (m dap : Nat) (bo : Option Addr) (g : Nat → Int) (w : World) (hm : m ≤ 80) (hd1 : m ≤ dap) (hd2 : dap ≤ 9223372036854775807) (hd : Ints w bo m g) :
    Calls Try.prog 36 #[.int .i64 n, .slice bo m dap] w fun e w' => e = .returned (.tuple #[.int .i64 (lsV n m g).1, .int .i64 (lsV n m g).2]) ∧ Below w.heap.size w w' := by
  have HD := Lib.hid hd
  clear hd
  cases hP : isP n
  · have HE := Lib.hid (lsV_err (by rw [csE_notP (m := m) (g := g) hP]; decide))
    rw [csE_notP (m := m) (g := g) hP] at HE
    have HP := Lib.hid hP
    clear hP
    go_enter Try.func36, Try.ntmps36
    go_wp2_with fail
    refine (isSize_any n _).mono ?_
    rw [HP.out]
    rintro e w' ⟨rfl, rfl⟩
    go_wp2_with fail
    go_ret2
    exact ⟨by rw [HE.out] <;> rfl, Below.refl _ _⟩
  obtain ⟨hn, hk3⟩ := isP_sz hP
  obtain ⟨k, hk⟩ : ∃ k, lv n = k := ⟨_, rfl⟩
  rw [hk] at hn hk3
  subst hn
  have HP := Lib.hid hP
  clear hP hk
  cases hs : (stB g m && decide (m = cn k))
  · have hz : csE ((sz k : Nat) : Int) m g = 80 := by rw [csE_sz k m g hk3, hs]; rfl
    have HE := Lib.hid (lsV_err (n := ((sz k : Nat) : Int)) (m := m) (g := g) (by rw [hz]; decide))
    rw [hz] at HE
    have HS := Lib.hid hs
    have HK3 := Lib.hid hk3
    clear hs hz hk3
    go_enter Try.func36, Try.ntmps36
    go_wp2_with fail
    refine (isSize_any _ _).mono ?_
    rw [HP.out]
    rintro e w' ⟨rfl, rfl⟩
    go_wp2_with fail
    refine (isStuck_any k HK3.out m dap bo g _ hm HD.out).mono ?_
    rw [HS.out]
    rintro e w' ⟨rfl, rfl⟩
    go_wp2_with fail
    go_ret2
    exact ⟨by rw [HE.out] <;> rfl, Below.refl _ _⟩
  have hz : csE ((sz k : Nat) : Int) m g = 0 := by rw [csE_sz k m g hk3, hs]; rfl
  have HS := Lib.hid hs
  have HK3 := Lib.hid hk3
  by_cases h4 : 4 < ((sz k : Nat) : Int)
  · have HE := Lib.hid (lsV_big hz h4)
    clear hz hs hk3
    go_enter Try.func36, Try.ntmps36
    go_wp2_with fail
    refine (isSize_any _ _).mono ?_
    rw [HP.out]
    rintro e w' ⟨rfl, rfl⟩
    go_wp2_with fail
    refine (isStuck_any k HK3.out m dap bo g _ hm HD.out).mono ?_
    rw [HS.out]
    rintro e w' ⟨rfl, rfl⟩
    go_wp2_with fail
    go_ret2
    exact ⟨by rw [HE.out] <;> rfl, Below.refl _ _⟩
  have hmk : m = cn k := by
    rw [Bool.and_eq_true] at hs
    exact of_decide_eq_true hs.2
  have HST : Hid (stB g (cn k) = true) := Lib.hid (by
    rw [Bool.and_eq_true] at hs
    rw [← hmk]
    exact hs.1)
  subst hmk
  clear HS
  have hk1 : k ≤ 1 := by
    have : k = 0 ∨ k = 1 ∨ k = 2 ∨ k = 3 := by omega
    rcases this with rfl | rfl | rfl | rfl
    · omega
    · omega
    · exact absurd (by decide) h4
    · exact absurd (by decide) h4
  have HE := Lib.hid (lsV_sz k (cn k) g hk1 hz)
  have HK := Lib.hid hk1
  have HDD := Lib.hid (And.intro hd1 (And.intro hd2 hm))
  have hs4 : sz k ≤ 4 := by omega
  have HS4 := Lib.hid hs4
  clear hz hs hk3 hd1 hd2 hm hs4
  go_enter Try.func36, Try.ntmps36
  go_wp2_with fail
  refine (isSize_any _ _).mono ?_
  rw [HP.out]
  rintro e w' ⟨rfl, rfl⟩
  go_wp2_with fail
  refine (isStuck_any k HK3.out (cn k) dap bo g _ HDD.out.2.2 HD.out).mono ?_
  rw [show (stB g (cn k) && decide (cn k = cn k)) = true by rw [HST.out, decide_eq_true rfl]; rfl]
  rintro e w' ⟨rfl, rfl⟩
  go_wp2_with fail
  refine (rPerms_any (sz k) HS4.out _).mono ?_
  rintro e wo ⟨⟨gl, cl, top, A, C, rfl, hV⟩, hB⟩
  have HV := Lib.hid hV
  have HB := Lib.hid hB
  have HD1 := Lib.hid (HD.out.keep hB)
  obtain ⟨M, hM⟩ : ∃ M, fc (sz k) = M := ⟨_, rfl⟩
  have hM24 : M ≤ 24 := by
    have : k = 0 ∨ k = 1 := by omega
    rw [← hM]
    rcases this with rfl | rfl <;> decide
  have hM1 : 1 ≤ M := by rw [← hM]; exact fc_pos _
  rw [hM] at HV HE
  rw [hM]
  have HMM := Lib.hid (And.intro hM (And.intro hM1 hM24))
  clear hM hV hB
  go_wp2_with fail
  go_loopw [6, 21] (fun lv iv wr => ∃ (c t : Nat), lv = .int .i64 (c : Int) ∧ iv = .int .i64 (t : Int) ∧ t ≤ M ∧ Hid (c = lsT k g t) ∧ Hid (Below w.heap.size w wr) ∧ Hid (Below wo.heap.size wo wr)) (fun _ iv _ => M - (intOf iv).toNat)
  case atStart => exact ⟨0, 0, rfl, rfl, Nat.zero_le _, Lib.hid rfl, HB, Lib.hid (Below.refl _ _)⟩
  case round =>
    obtain ⟨c, t, rfl, rfl, ht, HC, HB1, HB2⟩ := hrel
    by_cases hlt : t < M
    · have hlt' : (t : Int) < (M : Int) := by omega
      have t0 : (0 : Int) ≤ (t : Int) := by omega
      have tt : (t : Int).toNat = t := by omega
      have t24 : (t : Int) < 24 := by omega
      have hct : c ≤ t := by have h1 := HC.out; have h2 := lsT_le k g t; omega
      have c24 : (c : Int) < 24 := by omega
      have HVl := Lib.hid (HV.out.keep HB2.out)
      have c0 : wr.cell? ⟨gl, t, none⟩ = some (.slice (A t) (sz k) (C t)) := (HVl.out.own.cellAt t (by omega)).trans (rowsN_get A _ C hlt)
      have c1 : wr.frozen? ⟨gl, t, none⟩ = false := HVl.out.own.frozenAt _
      obtain ⟨q, P, hf⟩ := pm_q (prF_isPm k HK.out t (by rw [HMM.out.1]; exact hlt))
      have HRI := ((HVl.out.row t hlt).ints).congr hf
      have HD2 := Lib.hid (HD1.out.keep HB2.out)
      have HT := Lib.hid (And.intro ht hlt)
      obtain ⟨v, hv⟩ : ∃ v, wN k (fun j => (prF (sz k) t j).toNat) g = v := ⟨_, rfl⟩
      have HCALL := Lib.hid (waysR_any k (by omega) (C t) (cn k) dap 0 (A t) bo _ q g _ HDD.out.2.2 (by omega) P HRI HD2.out)
      simp only [Nat.zero_add] at HCALL
      rw [hv] at HCALL
      have HVV := Lib.hid hv
      clear hv ht hlt P hf HRI
      by_cases hv0 : v = 0
      · have hv0' : (v : Int) = 0 := by omega
        have HN : Hid (c + 1 = lsT k g (t + 1)) := Lib.hid (by rw [lsT_yes (HVV.out.trans hv0), HC.out])
        have HV0 := Lib.hid hv0
        clear hv0 HVV HC
        go_wp2_with fail
        refine HCALL.out.mono ?_
        rintro e w2 ⟨rfl, hb⟩
        have HB3 := Lib.hid (HB1.out.trans (hb.mono HB1.out.size))
        have HB4 := Lib.hid (HB2.out.trans (hb.mono HB2.out.size))
        clear hb HB1 HB2 HVl HD2 HCALL c0 c1
        go_wp2_with fail
        go_roundw
        case rel => exact ⟨c + 1, t + 1, by first | rfl | go_num, by first | rfl | go_num, by have h8 := HT.out; omega, HN, HB3, HB4⟩
        case measure => have h8 := HT.out; first | (simp [intOf]; done) | (simp [intOf]; omega)
      · have hv0' : ¬ (v : Int) = 0 := by omega
        have HN : Hid (c = lsT k g (t + 1)) := Lib.hid (by rw [lsT_no (by rw [HVV.out]; exact hv0), HC.out])
        clear hv0 HVV HC
        go_wp2_with fail
        refine HCALL.out.mono ?_
        rintro e w2 ⟨rfl, hb⟩
        have HB3 := Lib.hid (HB1.out.trans (hb.mono HB1.out.size))
        have HB4 := Lib.hid (HB2.out.trans (hb.mono HB2.out.size))
        clear hb HB1 HB2 HVl HD2 HCALL c0 c1
        go_wp2_with fail
        go_roundw
        case rel => exact ⟨c, t + 1, rfl, by first | rfl | go_num, by have h8 := HT.out; omega, HN, HB3, HB4⟩
        case measure => have h8 := HT.out; first | (simp [intOf]; done) | (simp [intOf]; omega)
    · have htM : t = M := by omega
      subst htM
      have hnl : ¬ ((t : Int) < (t : Int)) := Int.lt_irrefl _
      have HE2 : Hid (lsV ((sz k : Nat) : Int) (cn k) g = ((c : Int), 0)) := Lib.hid (by rw [HE.out, HC.out])
      clear HC ht hlt HB2 HV HD1
      go_wp2_with fail
      refine bodyPost_ret (v := .tuple #[.int .i64 (c : Int), .int .i64 0]) (by simp [results, Try.results36, go_sem]) rfl ⟨by rw [HE2.out], HB1.out⟩
set_option maxRecDepth 100000 in
set_option maxHeartbeats 8000000 in
theorem BenesLost_any (n : Int) (m dap : Nat) (bo : Option Addr) (g : Nat → Int) (w : World) (hm1 : m ≤ dap) (hm2 : dap ≤ 9223372036854775807) (hd : Ints w bo m g) :
    Calls Try.prog 9 #[.int .i64 n, .slice bo m dap] w fun e w' => e = .returned (.bool true) ∧ Below w.heap.size w w' := by
  have HD := Lib.hid hd
  clear hd
  by_cases h80 : 80 < (m : Int)
  · go_enter Try.func9, Try.ntmps9
    go_wp2_with fail
    refine (sane_any _).mono ?_
    rintro e w1 ⟨rfl, hb⟩
    go_wp2_with fail
    go_returns
    exact ⟨rfl, hb⟩
  have h80' : (m : Int) ≤ 80 := by omega
  obtain ⟨v, e, hve⟩ : ∃ v e, lsV n m g = (v, e) := ⟨_, _, rfl⟩
  have HV := Lib.hid hve
  have HM := Lib.hid (And.intro hm1 hm2)
  clear hve hm1 hm2
  go_enter Try.func9, Try.ntmps9
  go_wp2_with fail
  refine (pLost_any n m dap bo g _ (by omega) HM.out.1 HM.out.2 HD.out).mono ?_
  rw [HV.out]
  rintro e w1 ⟨rfl, hb⟩
  have HB := Lib.hid hb
  have HD1 := Lib.hid (HD.out.keep hb)
  clear hb
  go_wp2_with fail
  refine (rLost_any n m dap bo g _ (by omega) HM.out.1 HM.out.2 HD1.out).mono ?_
  rw [HV.out]
  rintro e w2 ⟨rfl, hb⟩
  have HB2 := Lib.hid (HB.out.trans (hb.mono HB.out.size))
  clear hb
  go_wp2_with fail
  refine (sane_any _).mono ?_
  rintro e wz ⟨rfl, hb⟩
  have DZ := HB2.out.trans (hb.mono HB2.out.size)
  clear hb
  go_wp2_with fail
  go_returns
  exact ⟨rfl, DZ⟩
end Go.Proofs.Ytfilofnkiocbeaa
