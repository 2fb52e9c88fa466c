import Derived.Test.YtfilofnkiocbeaaVf8
import Derived.Laws.MakeOwn
namespace Ben
/-- What is known of the inverse after k rounds. -/
def srS (q : Nat → Nat) (k : Nat) : Nat → Int := fun y => if q y < k then ((q y : Nat) : Int) else 0
theorem srS_next {p q : Nat → Nat} {n : Nat} (P : Pm n p q) {k : Nat} (hk : k < n) {y : Nat} (hy : y < n) : (if y = p k then (k : Int) else srS q k y) = srS q (k + 1) y := by
  unfold srS
  by_cases e : y = p k
  · have e2 : q y = k := by rw [e]; exact P.qp k hk
    rw [if_pos e, e2, if_pos (by omega)]
  · have e2 : ¬ q y = k := fun h => e (by rw [← h]; exact (P.pq y hy).symm)
    rw [if_neg e]
    by_cases h : q y < k
    · rw [if_pos h, if_pos (by omega)]
    · rw [if_neg h, if_neg (by omega)]
theorem srS_all {p q : Nat → Nat} {n : Nat} (P : Pm n p q) {y : Nat} (hy : y < n) : srS q n y = ((q y : Nat) : Int) := if_pos (P.lq y hy)
/-- What stands at place i of the loop that begins at s. -/
def lpF (p q : Nat → Nat) (s i : Nat) : Nat := if i % 2 = 0 then itt p q s (i / 2) else pt (itt p q s (i / 2))
theorem lpF_even (p q : Nat → Nat) (s j : Nat) : lpF p q s (2 * j) = itt p q s j := by
  unfold lpF
  rw [if_pos (by omega), show 2 * j / 2 = j by omega]
theorem lpF_odd (p q : Nat → Nat) (s j : Nat) : lpF p q s (2 * j + 1) = pt (itt p q s j) := by
  unfold lpF
  rw [if_neg (by omega), show (2 * j + 1) / 2 = j by omega]
theorem sn_zero {p q : Nat → Nat} {sn : Nat → Prop} {s x : Nat} : Sn p q sn s 0 x ↔ sn x := ⟨fun h => h.elim id fun ⟨j, hj, _⟩ => by omega, Or.inl⟩
theorem sn_succ {p q : Nat → Nat} {sn : Nat → Prop} {s k x : Nat} : Sn p q sn s (k + 1) x ↔ Sn p q sn s k x ∨ x = itt p q s k ∨ x = pt (itt p q s k) := by
  constructor
  · rintro (h | ⟨j, hj, h⟩)
    · exact Or.inl (Or.inl h)
    · by_cases e : j = k
      · subst e; exact Or.inr h
      · exact Or.inl (Or.inr ⟨j, by omega, h⟩)
  · rintro ((h | ⟨j, hj, h⟩) | h)
    · exact Or.inl h
    · exact Or.inr ⟨j, by omega, h⟩
    · exact Or.inr ⟨k, by omega, h⟩
theorem lin_succ {p q s kk : Nat → Nat} {L t k x : Nat} : LIn p q (L + 1) (fun i => if i = L then t else s i) (fun i => if i = L then k else kk i) x ↔ Sn p q (LIn p q L s kk) t k x := by
  constructor
  · rintro ⟨i, hi, j, hj, h⟩
    by_cases e : i = L
    · simp only [e, if_pos] at h hj
      exact Or.inr ⟨j, hj, h⟩
    · simp only [e, if_false] at h hj
      exact Or.inl ⟨i, by omega, j, hj, h⟩
  · rintro (⟨i, hi, j, hj, h⟩ | ⟨j, hj, h⟩)
    · have ne : i ≠ L := by omega
      exact ⟨i, by omega, j, by simp only [ne, if_false]; exact hj, by simp only [ne, if_false]; exact h⟩
    · exact ⟨L, by omega, j, by simp only [if_pos]; exact hj, by simp only [if_pos]; exact h⟩
theorem lin_zero {p q s kk : Nat → Nat} {x : Nat} : ¬ LIn p q 0 s kk x := fun ⟨i, hi, _⟩ => by omega
end Ben
namespace Go.Proofs.Ytfilofnkiocbeaa
open Go.RowKit Ben Prm
theorem infoSl : (Try.prog.info? 28).map (fun i => (i.zero, i.size, i.bytes)) = some (some (.slice none 0 0), 1, 24) := by kernel_rfl
def lenV : Value → Nat
  | .slice _ n _ => n
  | _ => 0
theorem lenV_own {w : World} {base : Nat} {e : TypeId} {s : Nat} {v : Value} {n : Nat} {xs : List Value} (h : w.ownsRow base e s v n xs) : lenV v = n := by
  rcases h.2 with ⟨rfl, rfl⟩ | ⟨g, cap, cur, rfl, _⟩ <;> rfl
theorem Intw.grown {w w1 : World} {row : Option Nat} {g n : Nat} {f : Nat → Int} (h : Intw w g n f) (hg : w.grownBy w1 row) (hne : some g ≠ row) : Intw w1 g n f := fun j hj => by
  obtain ⟨a, c⟩ := h j hj
  exact ⟨farc hg a hne, farf hg a c hne⟩
theorem Bow.grown {w w1 : World} {row : Option Nat} {g n : Nat} {f : Nat → Bool} (h : Bow w g n f) (hg : w.grownBy w1 row) (hne : some g ≠ row) : Bow w1 g n f := fun j hj => by
  obtain ⟨a, c⟩ := h j hj
  exact ⟨farc hg a hne, farf hg a c hne⟩
theorem Bow.other {w : World} {g n : Nat} {f : Nat → Bool} (h : Bow w g n f) {m k : Nat} {v : Value} (hne : ¬ m = g) : Bow (w.setCell ⟨m, k, none⟩ v) g n f := by
  intro i hi
  obtain ⟨h1, h2⟩ := h i hi
  exact ⟨by go_cell, by go_cell⟩
/-- The first i slices of a list of rows, as cells. -/
def rowsV (G l C : Nat → Nat) (i : Nat) : List Value := (List.range i).map fun j => .slice (some ⟨G j, 0, none⟩) (l j) (C j)
theorem rowsV_len (G l C : Nat → Nat) (i : Nat) : (rowsV G l C i).length = i := by simp [rowsV]
theorem rowsV_get (G l C : Nat → Nat) {i j : Nat} (h : j < i) : (rowsV G l C i)[j]? = some (.slice (some ⟨G j, 0, none⟩) (l j) (C j)) := by simp [rowsV, h]
theorem rowsV_succ (G l C : Nat → Nat) (i : Nat) : rowsV G l C (i + 1) = rowsV G l C i ++ [.slice (some ⟨G i, 0, none⟩) (l i) (C i)] := by simp [rowsV, List.range_succ]
theorem rowsV_congr {G l C G' l' C' : Nat → Nat} {i : Nat} (h : ∀ j, j < i → G j = G' j ∧ l j = l' j ∧ C j = C' j) : rowsV G l C i = rowsV G' l' C' i := by
  unfold rowsV
  refine List.map_congr_left fun j hj => ?_
  have := List.mem_range.1 hj
  rw [(h j this).1, (h j this).2.1, (h j this).2.2]
def updN (f : Nat → Nat) (j z : Nat) : Nat → Nat := fun k => if k = j then z else f k
/-- A list of rows that the call makes: V has i of them, of any lengths, each in a block of its own below top. -/
structure RowsV (w : World) (base top : Nat) (V : Value) (i : Nat) (l G C : Nat → Nat) (F : Nat → Nat → Int) : Prop where
  own : w.ownsRow base 28 1 V i (rowsV G l C i)
  row : ∀ j, j < i → Intw w (G j) (l j) (F j) ∧ base ≤ G j ∧ G j < top ∧ V.ownBlock ≠ some (G j)
  blk : ∀ b, V.ownBlock = some b → b < top
  top : top ≤ w.heap.size
theorem RowsV.nil (w : World) (base : Nat) (l G C : Nat → Nat) (F : Nat → Nat → Int) : RowsV w base w.heap.size (.slice none 0 0) 0 l G C F :=
  ⟨World.ownsRow_nil _ _ _ _, fun j hj => by omega, (fun b h => by cases h), Nat.le_refl _⟩
theorem RowsV.keep {w w1 : World} {base top : Nat} {V : Value} {i : Nat} {l G C : Nat → Nat} {F : Nat → Nat → Int} (h : RowsV w base top V i l G C F) (hb : Below w.heap.size w w1) : RowsV w1 base top V i l G C F :=
  ⟨own_below' h.own hb, fun j hj => by
    obtain ⟨a, b, c, d⟩ := h.row j hj
    exact ⟨a.keep hb, b, c, d⟩, h.blk, Nat.le_trans h.top hb.size⟩
theorem RowsV.grown {w w1 : World} {row : Option Nat} {base top : Nat} {V : Value} {i : Nat} {l G C : Nat → Nat} {F : Nat → Nat → Int} (h : RowsV w base top V i l G C F) (hg : w.grownBy w1 row) (hr : ∀ b, row = some b → top ≤ b) : RowsV w1 base top V i l G C F :=
  ⟨h.own.kept hg (by cases hv : V.ownBlock with
    | none => exact .inl rfl
    | some b => exact .inr fun e => by have := h.blk b hv; have := hr b e.symm; omega), fun j hj => by
    obtain ⟨a, b, c, d⟩ := h.row j hj
    exact ⟨a.grown hg (fun e => by have := hr _ e.symm; omega), b, c, d⟩, h.blk, Nat.le_trans h.top hg.size⟩
theorem RowsV.set {w : World} {base top : Nat} {V : Value} {i : Nat} {l G C : Nat → Nat} {F : Nat → Nat → Int} (h : RowsV w base top V i l G C F) {b k : Nat} {v : Value} (hb : b < base) : RowsV (w.setCell ⟨b, k, none⟩ v) base top V i l G C F :=
  ⟨own_set h.own hb, fun j hj => by
    obtain ⟨a, b', c, d⟩ := h.row j hj
    exact ⟨a.other (by omega), b', c, d⟩, h.blk, by have := h.top; simpa using this⟩
theorem RowsV.le {w : World} {base top top' : Nat} {V : Value} {i : Nat} {l G C : Nat → Nat} {F : Nat → Nat → Int} (h : RowsV w base top V i l G C F) (h1 : top ≤ top') (h2 : top' ≤ w.heap.size) : RowsV w base top' V i l G C F :=
  ⟨h.own, fun j hj => by
    obtain ⟨a, b, c, d⟩ := h.row j hj
    exact ⟨a, b, by omega, d⟩, fun b e => by have := h.blk b e; omega, h2⟩
theorem RowsV.congr {w : World} {base top : Nat} {V : Value} {i : Nat} {l G C l' : Nat → Nat} {F F' : Nat → Nat → Int} (h : RowsV w base top V i l G C F) (e : ∀ j, j < i → l j = l' j ∧ ∀ q, q < l j → F j q = F' j q) : RowsV w base top V i l' G C F' :=
  ⟨by rw [rowsV_congr (G' := G) (l' := l) (C' := C) (fun j hj => ⟨rfl, (e j hj).1.symm, rfl⟩)]; exact h.own, fun j hj => by
    obtain ⟨a, b⟩ := h.row j hj
    exact ⟨by rw [← (e j hj).1]; exact a.congr (e j hj).2, b⟩, h.blk, h.top⟩
theorem RowsV.base {w : World} {base base' top : Nat} {V : Value} {i : Nat} {l G C : Nat → Nat} {F : Nat → Nat → Int} (h : RowsV w base top V i l G C F) (hb : base' ≤ base) : RowsV w base' top V i l G C F :=
  ⟨⟨h.own.1, h.own.2.imp id fun ⟨g, cap, cur, a, b, c⟩ => ⟨g, cap, cur, a, Nat.le_trans hb b, c⟩⟩, fun j hj => by
    obtain ⟨a, b, c⟩ := h.row j hj
    exact ⟨a, Nat.le_trans hb b, c⟩, h.blk, h.top⟩
/-- One more row, behind an append. -/
theorem RowsV.append {w w1 : World} {base top : Nat} {V : Value} {i g' cap' g n cap : Nat} {l G C : Nat → Nat} {F : Nat → Nat → Int} {f : Nat → Int} (h : RowsV w base top V i l G C F)
    (hw : Intw w g n f) (hg : top ≤ g) (hb : base ≤ g) (hgl : g < w.heap.size)
    (hown : w1.ownsRow base 28 1 (.slice (some ⟨g', 0, none⟩) (i + 1) cap') (i + 1) (rowsV G l C i ++ [.slice (some ⟨g, 0, none⟩) n cap])) (hgr : w.grownBy w1 V.ownBlock) (hor : V.ownBlock = some g' ∨ w.heap.size ≤ g') (hlt : g' < w1.heap.size) :
    RowsV w1 base w1.heap.size (.slice (some ⟨g', 0, none⟩) (i + 1) cap') (i + 1) (updN l i n) (updN G i g) (updN C i cap) (fun j => if j = i then f else F j) := by
  have hsz : w.heap.size ≤ w1.heap.size := hgr.size
  have hne : V.ownBlock ≠ some g := fun e => by have := h.blk g e; omega
  have ho : ∀ {b : Nat}, b < w.heap.size → V.ownBlock ≠ some b → (Value.slice (some ⟨g', 0, none⟩) (i + 1) cap').ownBlock ≠ some b := fun {b} hb hn e => by
    simp only [Value.ownBlock, Option.some.injEq] at e
    subst e
    rcases hor with h1 | h1
    · exact hn h1
    · omega
  refine ⟨?_, fun j hj => ?_, fun b e => ?_, Nat.le_refl _⟩
  · rw [rowsV_succ, rowsV_congr (G' := G) (l' := l) (C' := C) (fun j hj => by unfold updN; rw [if_neg (by omega), if_neg (by omega), if_neg (by omega)]; exact ⟨rfl, rfl, rfl⟩)]
    unfold updN
    rw [if_pos rfl, if_pos rfl, if_pos rfl]
    exact hown
  · unfold updN
    by_cases e : j = i
    · rw [if_pos e, if_pos e, if_pos e]
      exact ⟨hw.grown hgr (fun e => hne e.symm), hb, by omega, ho hgl hne⟩
    · rw [if_neg e, if_neg e, if_neg e]
      obtain ⟨a, b, c, d⟩ := h.row j (by omega)
      have := h.top
      exact ⟨a.grown hgr (fun e => d e.symm), b, by omega, ho (by omega) d⟩
  · simp only [Value.ownBlock, Option.some.injEq] at e
    subst e
    exact hlt
end Go.Proofs.Ytfilofnkiocbeaa
