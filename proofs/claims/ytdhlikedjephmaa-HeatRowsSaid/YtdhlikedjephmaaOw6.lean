import Derived.Test.YtdhlikedjephmaaDm6
import Derived.Test.YtdhlikedjephmaaHv
import Derived.Test.YtdhlikedjephmaaWd6
namespace Go.Proofs.Ytdhlikedjephmaa
open Go.RowKit Heat
theorem infoSl : (Try.prog.info? 24).map (fun i => (i.zero, i.size, i.bytes)) = some (some (.slice none 0 0), 1, 24) := by kernel_rfl
/-- The first i slices of a list of rows of n numbers, as cells. -/
def rowsC (G C : Nat → Nat) (n i : Nat) : List Value := (List.range i).map fun j => .slice (some ⟨G j, 0, none⟩) n (C j)
theorem rowsC_len (G C : Nat → Nat) (n i : Nat) : (rowsC G C n i).length = i := by simp [rowsC]
theorem rowsC_get (G C : Nat → Nat) (n : Nat) {i j : Nat} (h : j < i) : (rowsC G C n i)[j]? = some (.slice (some ⟨G j, 0, none⟩) n (C j)) := by simp [rowsC, h]
theorem rowsC_succ (G C : Nat → Nat) (n i : Nat) : rowsC G C n (i + 1) = rowsC G C n i ++ [.slice (some ⟨G i, 0, none⟩) n (C i)] := by simp [rowsC, List.range_succ]
theorem rowsC_congr {G C G' C' : Nat → Nat} {n i : Nat} (h : ∀ j, j < i → G j = G' j ∧ C j = C' j) : rowsC G C n i = rowsC G' C' n i := by
  unfold rowsC
  refine List.map_congr_left fun j hj => ?_
  have := List.mem_range.1 hj
  rw [(h j this).1, (h j this).2]
def updN (f : Nat → Nat) (j z : Nat) : Nat → Nat := fun k => if k = j then z else f k
/-- A list of rows that the call makes: V has i of them, each n numbers in a block of its own. -/
def RowsO (w : World) (base : Nat) (V : Value) (i n : Nat) (G C : Nat → Nat) (F : Nat → Nat → Int) : Prop :=
  w.ownsRow base 24 1 V i (rowsC G C n i) ∧ ∀ j, j < i → Intw w (G j) n (F j) ∧ base ≤ G j ∧ G j < w.heap.size ∧ V.ownBlock ≠ some (G j)
theorem RowsO.nil (w : World) (base n : Nat) (G C : Nat → Nat) (F : Nat → Nat → Int) : RowsO w base (.slice none 0 0) 0 n G C F := ⟨World.ownsRow_nil _ _ _ _, fun j hj => by omega⟩
theorem RowsO.keep {w w1 : World} {base : Nat} {V : Value} {i n : Nat} {G C : Nat → Nat} {F : Nat → Nat → Int} (h : RowsO w base V i n G C F) (hb : Below w.heap.size w w1) : RowsO w1 base V i n G C F :=
  ⟨own_below' h.1 hb, fun j hj => by
    obtain ⟨a, b, c, d⟩ := h.2 j hj
    have := hb.size
    exact ⟨a.keep hb, b, by omega, d⟩⟩
/-- One more row, behind an append. -/
theorem RowsO.append {w w1 : World} {base : Nat} {V : Value} {i n g' cap' g cap : Nat} {G C : Nat → Nat} {F : Nat → Nat → Int} {f : Nat → Int} (h : RowsO w base V i n G C F)
    (hw : Intw w g n f) (hg : base ≤ g) (hgl : g < w.heap.size) (hne : V.ownBlock ≠ some g)
    (hown : w1.ownsRow base 24 1 (.slice (some ⟨g', 0, none⟩) (i + 1) cap') (i + 1) (rowsC G C n i ++ [.slice (some ⟨g, 0, none⟩) n cap])) (hgr : w.grownBy w1 V.ownBlock) (hor : V.ownBlock = some g' ∨ w.heap.size ≤ g') :
    RowsO w1 base (.slice (some ⟨g', 0, none⟩) (i + 1) cap') (i + 1) n (updN G i g) (updN C i cap) (fun j => if j = i then f else F j) := by
  have hsz : w.heap.size ≤ w1.heap.size := hgr.size
  have hk : ∀ {b : Nat} {q : Nat → Int}, Intw w b n q → V.ownBlock ≠ some b → Intw w1 b n q := fun {b q} hq hn j hj => by
    obtain ⟨a, c⟩ := hq j hj
    exact ⟨farc hgr a (fun e => hn e.symm), farf hgr a c (fun e => hn e.symm)⟩
  have ho : ∀ {b : Nat}, b < w.heap.size → V.ownBlock ≠ some b → (Value.slice (some ⟨g', 0, none⟩) (i + 1) cap').ownBlock ≠ some b := fun {b} hb hn e => by
    simp only [Value.ownBlock, Option.some.injEq] at e
    subst e
    rcases hor with h1 | h1
    · exact hn h1
    · omega
  refine ⟨?_, fun j hj => ?_⟩
  · rw [rowsC_succ, rowsC_congr (G' := G) (C' := C) (fun j hj => by unfold updN; rw [if_neg (by omega), if_neg (by omega)]; exact ⟨rfl, rfl⟩)]
    unfold updN
    rw [if_pos rfl, if_pos rfl]
    exact hown
  · dsimp only
    unfold updN
    by_cases e : j = i
    · rw [if_pos e, if_pos e]
      exact ⟨hk hw hne, hg, by omega, ho hgl hne⟩
    · rw [if_neg e, if_neg e]
      obtain ⟨a, b, c, d⟩ := h.2 j (by omega)
      exact ⟨hk a d, b, by omega, ho c d⟩
/-- The rows as an argument. -/
theorem RowsO.rows {w : World} {base g cap i n : Nat} {G C : Nat → Nat} {F : Nat → Nat → Int} (h : RowsO w base (.slice (some ⟨g, 0, none⟩) i cap) i n G C F) (hn : n ≤ 9223372036854775807) :
    Rowsw w (some ⟨g, 0, none⟩) i (fun j => some ⟨G j, 0, none⟩) (fun _ => n) C F :=
  ⟨fun _ => ⟨g, 0, rfl, fun j hj => by
    rw [Nat.zero_add, h.1.cellAt j (by omega), rowsC_get G C n hj]⟩, fun j hj => ⟨hn, (h.2 j hj).1.ints⟩⟩
theorem RowsO.congr {w : World} {base : Nat} {V : Value} {i n : Nat} {G C : Nat → Nat} {F F' : Nat → Nat → Int} (h : RowsO w base V i n G C F) (e : ∀ j, j < i → ∀ q, q < n → F j q = F' j q) : RowsO w base V i n G C F' :=
  ⟨h.1, fun j hj => by
    obtain ⟨a, b⟩ := h.2 j hj
    exact ⟨a.congr (e j hj), b⟩⟩
theorem Rowsw.sq {w : World} {ao : Option Addr} {N : Nat} {A : Nat → Option Addr} {l c : Nat → Nat} {F : Nat → Nat → Int} (h : Rowsw w ao N A l c F) (hl : ∀ i, i < N → l i = N) (h0 : 0 < N) :
    ∀ i, i < N → ∃ b o b1 o1, ao = some ⟨b, o, none⟩ ∧ b < w.heap.size ∧ w.cell? ⟨b, o + i, none⟩ = some (.slice (some ⟨b1, o1, none⟩) N (c i)) ∧ b1 < w.heap.size ∧ ∀ j, j < N → w.cell? ⟨b1, o1 + j, none⟩ = some (.int .i64 (F i j)) := by
  intro i hi
  obtain ⟨b, o, hao, hc⟩ := h.1 h0
  obtain ⟨_, hI⟩ := h.2 i hi
  rw [hl i hi] at hI
  obtain ⟨b1, o1, hA, hcell⟩ := hI h0
  have hci := hc i hi
  rw [hl i hi, hA] at hci
  exact ⟨b, o, b1, o1, hao, World.block_lt_of_cell? w _ hci, hci, World.block_lt_of_cell? w _ (hcell 0 h0), hcell⟩
end Go.Proofs.Ytdhlikedjephmaa
