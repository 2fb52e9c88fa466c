import Derived.Test.YtkkcnhhfdicppaaChecked
import Derived.WalkKit
import Derived.WalkSpells
import Derived.WalkLawsBesides
import Derived.Handy
import Derived.Lib.Hide
import Derived.BigQuiet
import Derived.Deep.QuietTactic
import Derived.Outline
import Derived.OwnWalk
import Derived.Laws.OwnMore
import Derived.Deep.AppendLies
import Derived.IntWalk
namespace Go.Proofs.Ytkkcnhhfdicppaa
open Go.RowKit

theorem bcl {W w1 : World} (hb : Below W.heap.size W w1) : (∀ b o, b < W.heap.size → w1.cell? ⟨b, o, none⟩ = W.cell? ⟨b, o, none⟩) ∧ (∀ b o, b < W.heap.size → w1.frozen? ⟨b, o, none⟩ = W.frozen? ⟨b, o, none⟩) :=
  ⟨fun b o h => hb.cell (p := ⟨b, o, none⟩) h, fun b o h => hb.frozen (p := ⟨b, o, none⟩) h⟩
theorem farc {w w' : World} {row : Option Nat} (hg : w.grownBy w' row) {a : Addr} {v : Value} (h : w.cell? a = some v) (hne : some a.block ≠ row) : w'.cell? a = some v := (hg.cell_far a (World.block_lt_of_cell? w _ h) hne).trans h
theorem farf {w w' : World} {row : Option Nat} (hg : w.grownBy w' row) {a : Addr} {v : Value} (h : w.cell? a = some v) (hf : w.frozen? a = false) (hne : some a.block ≠ row) : w'.frozen? a = false := (hg.frozen_far a (World.block_lt_of_cell? w _ h) hne).trans hf

/-- A slice of whole numbers, nil and empty ones let in. -/
def Ints (w : World) (ao : Option Addr) (n : Nat) (f : Nat → Int) : Prop := 0 < n → ∃ b o, ao = some ⟨b, o, none⟩ ∧ ∀ i, i < n → w.cell? ⟨b, o + i, none⟩ = some (.int .i64 (f i))
/-- Block g is n whole numbers of the call's own. -/
def Intw (w : World) (g n : Nat) (f : Nat → Int) : Prop := ∀ i, i < n → w.cell? ⟨g, i, none⟩ = some (.int .i64 (f i)) ∧ w.frozen? ⟨g, i, none⟩ = false
theorem Ints.keep {w w1 : World} {ao : Option Addr} {n : Nat} {f : Nat → Int} (h : Ints w ao n f) (hb : Below w.heap.size w w1) : Ints w1 ao n f := by
  intro hn
  obtain ⟨b, o, e, hc⟩ := h hn
  exact ⟨b, o, e, fun i hi => ((bcl hb).1 _ _ (World.block_lt_of_cell? w _ (hc i hi))).trans (hc i hi)⟩
theorem Ints.congr {w : World} {ao : Option Addr} {n : Nat} {f f' : Nat → Int} (h : Ints w ao n f) (e : ∀ i, i < n → f i = f' i) : Ints w ao n f' := by
  intro hn
  obtain ⟨b, o, e', hc⟩ := h hn
  exact ⟨b, o, e', fun i hi => by rw [← e i hi]; exact hc i hi⟩
theorem Intw.keep {w w1 : World} {g n : Nat} {f : Nat → Int} (h : Intw w g n f) (hb : Below w.heap.size w w1) : Intw w1 g n f := by
  intro i hi
  obtain ⟨h1, h2⟩ := h i hi
  have hB : g < w.heap.size := World.block_lt_of_cell? w _ h1
  exact ⟨((bcl hb).1 _ _ hB).trans h1, ((bcl hb).2 _ _ hB).trans h2⟩
theorem Intw.ints {w : World} {g n : Nat} {f : Nat → Int} (h : Intw w g n f) : Ints w (some ⟨g, 0, none⟩) n f := fun _ => ⟨g, 0, rfl, fun i hi => by rw [Nat.zero_add]; exact (h i hi).1⟩
theorem Intw.congr {w : World} {g n : Nat} {f f' : Nat → Int} (h : Intw w g n f) (e : ∀ i, i < n → f i = f' i) : Intw w g n f' := fun i hi => by rw [← e i hi]; exact h i hi
theorem Intw.other {w : World} {g n : Nat} {f : Nat → Int} (h : Intw w g n f) {m k : Nat} {v : Value} (hne : ¬ m = g) : Intw (w.setCell ⟨m, k, none⟩ v) g n f := by
  intro i hi
  obtain ⟨h1, h2⟩ := h i hi
  exact ⟨by go_cell, by go_cell⟩
def updI (f : Nat → Int) (j : Nat) (z : Int) : Nat → Int := fun k => if k = j then z else f k
theorem updI_at (f : Nat → Int) (j : Nat) (z : Int) : updI f j z j = z := by unfold updI; rw [if_pos rfl]
theorem updI_ne (f : Nat → Int) {j k : Nat} (z : Int) (h : ¬ k = j) : updI f j z k = f k := by unfold updI; rw [if_neg h]
theorem Intw.store {w : World} {g n : Nat} {f : Nat → Int} (h : Intw w g n f) {j : Nat} (hj : j < n) (x : Int) : Intw (w.setCell ⟨g, j, none⟩ (.int .i64 x)) g n (updI f j x) := by
  intro k hk
  obtain ⟨a0, f0⟩ := h j hj
  by_cases e : k = j
  · subst e
    rw [updI_at]
    exact ⟨by go_cell, by go_cell⟩
  · rw [updI_ne _ _ e]
    obtain ⟨b0, g0⟩ := h k hk
    have hne : ¬ j = k := fun e' => e e'.symm
    exact ⟨by go_cell, by go_cell⟩
theorem Intw.block {w w1 : World} {g n : Nat} {f : Nat → Int} (h : Intw w g n f) (e : w1.heap[g]? = w.heap[g]?) : Intw w1 g n f := fun i hi =>
  ⟨(World.cell?_of_block (a := ⟨g, i, none⟩) e).trans (h i hi).1, (World.frozen?_of_block (a := ⟨g, i, none⟩) e).trans (h i hi).2⟩
def cellsI (f : Nat → Int) (n : Nat) : List Value := (List.range n).map fun i => Value.int .i64 (f i)
theorem cellsI_len (f : Nat → Int) (n : Nat) : (cellsI f n).length = n := by simp [cellsI]
theorem cellsI_get (f : Nat → Int) {n i : Nat} (h : i < n) : (cellsI f n)[i]? = some (.int .i64 (f i)) := by simp [cellsI, h]
theorem cellsI_succ (f : Nat → Int) (n : Nat) : cellsI f (n + 1) = cellsI f n ++ [.int .i64 (f n)] := by simp [cellsI, List.range_succ]
theorem cellsI_one (f : Nat → Int) (n : Nat) : ∀ u ∈ cellsI f n, u.oneCell' = true := by
  intro u hu
  simp only [cellsI, List.mem_map] at hu
  obtain ⟨i, _, rfl⟩ := hu
  rfl
theorem Intw.of_own {w : World} {base : Nat} {e : TypeId} {g n cap : Nat} {f : Nat → Int} {xs : List Value} (h : w.ownsRow base e 1 (.slice (some ⟨g, 0, none⟩) n cap) n xs) (hx : ∀ i, i < n → xs[i]? = some (.int .i64 (f i))) : Intw w g n f := by
  intro i hi
  exact ⟨(h.cellAt i (by omega)).trans (hx i hi), h.frozenAt _⟩
theorem own_fm {w : World} {base : Nat} {e : TypeId} {v : Value} {n m : Nat} {xs : List Value} (h : w.ownsRow base e m v n xs) (hn : 0 < n) : ∃ g cap, v = .slice (some ⟨g, 0, none⟩) n cap ∧ base ≤ g ∧ g < w.heap.size ∧ n ≤ cap ∧ cap ≤ 9223372036854775807 := by
  rcases h.2 with ⟨_, h0⟩ | ⟨g, cap, cur, rfl, hb, hg, hc, hm, _⟩
  · omega
  · exact ⟨g, cap, rfl, hb, (Array.getElem?_eq_some_iff.1 hg).1, hc, hm⟩
theorem drewN_below {B : Nat} {a w : World} (h : Below B a w) {n : Nat} : Below B a (w.drewN n) := ⟨h.os, h.tape, h.output, h.size, h.block⟩
theorem heap_new (w : World) (o : Obj) : (w.alloc o).heap[w.heap.size]? = some o := by
  show (w.heap.push o)[w.heap.size]? = some o
  simp
theorem own_below' {w w1 : World} {base : Nat} {e : TypeId} {s : Nat} {v : Value} {n : Nat} {xs : List Value} (h : w.ownsRow base e s v n xs) (hb : Below w.heap.size w w1) : w1.ownsRow base e s v n xs :=
  h.kept (row := none) ⟨hb.os, hb.tape, hb.output, hb.size, fun k hk _ => hb.block k hk⟩ (by cases hv : v.ownBlock with
    | none => exact .inl rfl
    | some b => exact .inr (by simp))
theorem own_set {w : World} {base : Nat} {e : TypeId} {s : Nat} {v u : Value} {n : Nat} {xs : List Value} (h : w.ownsRow base e s v n xs) {b k : Nat} (hb : b < base) : (w.setCell ⟨b, k, none⟩ u).ownsRow base e s v n xs := ownsRow_setCell_below h (a := ⟨b, k, none⟩) hb u
theorem infoInt : (Try.prog.info? 3).map (fun i => (i.zero, i.size, i.bytes)) = some (some (.int .i64 0), 1, 8) := by kernel_rfl
/-- A slice of n whole numbers of the call's own as a result. -/
def IntsRet (B : Nat) (w : World) (e : Ending) (n : Nat) (f : Nat → Int) : Prop := ∃ g cap, e = .returned (.slice (some ⟨g, 0, none⟩) n cap) ∧ Intw w g n f ∧ B ≤ g ∧ g < w.heap.size ∧ n ≤ cap ∧ cap ≤ 9223372036854775807

theorem made_get (n i : Nat) (h : i < n) : (madeCells #[Value.int .i64 0] n).toList[i]? = some (.int .i64 0) := by
  have e : i % 1 = 0 := Nat.mod_one i
  simp [madeCells, h, e]
end Go.Proofs.Ytkkcnhhfdicppaa
