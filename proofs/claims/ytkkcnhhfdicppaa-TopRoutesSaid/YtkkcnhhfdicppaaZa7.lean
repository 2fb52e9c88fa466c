import Derived.Test.YtkkcnhhfdicppaaMa7
import Derived.Deep.DeepCutAuto
import Derived.Deep.RegionHeld2
import Derived.StillTailTactics
import Derived.Deep.MidRow
import Derived.Deep.Upon
namespace Go.Proofs.Ytkkcnhhfdicppaa
open Go.RowKit Lay
/-- How a slot is filled. -/
theorem act_all : (∀ (a : Act) (v : Value), a.put none v = a) ∧ (∀ (a : Act) (d : Tmp) (v : Value), a.put (some d) v = { a with tmps := a.tmps.setIfInBounds d v }) ∧ (∀ {α : Type} (l : List α) (i : Nat) (v : α), l.toArray.setIfInBounds i v = (l.set i v).toArray) ∧ (∀ {α : Type} (x : α) (l : List α) (v : α), (x :: l).set 0 v = v :: l) ∧ (∀ {α : Type} (x : α) (l : List α) (n : Nat) (v : α), (x :: l).set (n + 1) v = x :: l.set n v) :=
  ⟨fun _ _ => rfl, fun _ _ _ => rfl, fun l i v => List.setIfInBounds_toArray l i v, fun _ _ _ => rfl, fun _ _ _ _ => rfl⟩
/-- A new block, above all that stood at the start. -/
theorem bal {a w : World} (h : Below a.heap.size a w) (o : Obj) : Below a.heap.size a (w.alloc o) := h.alloc h.size o
theorem below_mids {B g : Nat} (hg : B ≤ g) : ∀ (vs : List Value) (o : Nat) {a w : World}, Below B a w → Below B a (w.setCells g o vs)
  | [], _, _, _, h => h
  | v :: r, o, _, _, h => below_mids hg r (o + 1) (h.setCell (p := ⟨g, o, none⟩) hg v)
/-- A part of a block that is known whole. -/
theorem range_row {w : World} {b : Nat} {cs : Array Value} {t : TypeId} (h : w.heap[b]? = some (.cells cs t (0, 0))) (o : Nat) (l : List Value) (hl : ∀ j, j < l.length → cs[o + j]? = l[j]?) : w.rangeAt b o l := fun j v hv => by
  rw [cell_of_row _ _ _ _ _ (0, 0) h, hl j (List.getElem?_eq_some_iff.1 hv).1, hv]
theorem there_row {w : World} {b : Nat} {cs : Array Value} {t : TypeId} (h : w.heap[b]? = some (.cells cs t (0, 0))) (n : Nat) (hn : n ≤ cs.size) : w.there b 0 n := fun j hj => by
  refine ⟨?_, ?_⟩
  · rw [cell_of_row _ _ _ _ _ (0, 0) h, Nat.zero_add, Array.getElem?_eq_getElem (by omega)]; rfl
  · unfold World.frozen?; simp [h]
theorem there_mid {w : World} {b : Nat} {cs : Array Value} {t : TypeId} (h : w.heap[b]? = some (.cells cs t (0, 0))) (o n : Nat) (hn : o + n ≤ cs.size) : w.there b o n := fun j hj => by
  refine ⟨?_, ?_⟩
  · rw [cell_of_row _ _ _ _ _ (0, 0) h, Array.getElem?_eq_getElem (by omega)]; rfl
  · unfold World.frozen?; simp [h]
def putAt' (cs : Array Value) : Nat → List Value → Array Value
  | _, [] => cs
  | o, v :: r => putAt' (cs.setIfInBounds o v) (o + 1) r
theorem putAt'_get : ∀ (vs : List Value) (o : Nat) (cs : Array Value), o + vs.length ≤ cs.size → ∀ j : Nat, (putAt' cs o vs)[j]? = if j < o then cs[j]? else if j < o + vs.length then vs[j - o]? else cs[j]?
  | [], o, cs, _, j => by
    unfold putAt'
    split
    · rfl
    · rw [if_neg (by simp; omega)]
  | v :: r, o, cs, h, j => by
    unfold putAt'
    have hl : o + 1 + r.length ≤ cs.size := by simp at h; omega
    rw [putAt'_get r (o + 1) _ (by rw [Array.size_setIfInBounds]; exact hl) j]
    by_cases h1 : j < o
    · rw [if_pos (by omega), if_pos h1, Array.getElem?_setIfInBounds_ne (by omega)]
    · rw [if_neg h1]
      by_cases h2 : j = o
      · subst h2
        rw [if_pos (by omega), if_pos (by simp), Nat.sub_self, Array.getElem?_setIfInBounds_self_of_lt (by omega)]
        rfl
      · rw [if_neg (by omega)]
        by_cases h3 : j < o + 1 + r.length
        · rw [if_pos h3, if_pos (by simp; omega)]
          obtain ⟨k, rfl⟩ : ∃ k, j = o + 1 + k := ⟨j - (o + 1), by omega⟩
          rw [show o + 1 + k - (o + 1) = k by omega, show o + 1 + k - o = k + 1 by omega]
          rfl
        · rw [if_neg h3, if_neg (by simp; omega), Array.getElem?_setIfInBounds_ne (by omega)]
theorem putAt'_all (cs : Array Value) (vs : List Value) (h : cs.size = vs.length) : putAt' cs 0 vs = vs.toArray := by
  apply Array.ext_getElem?
  intro j
  rw [putAt'_get vs 0 cs (by omega) j, if_neg (by omega)]
  by_cases h2 : j < 0 + vs.length
  · rw [if_pos h2, Nat.sub_zero, List.getElem?_toArray]
  · rw [if_neg h2, Array.getElem?_eq_none (xs := cs) (by omega), Array.getElem?_eq_none (xs := vs.toArray) (by rw [List.size_toArray]; omega)]
theorem block_setCells' {b : Nat} {t : TypeId} : ∀ (vs : List Value) (o : Nat) (cs : Array Value) (w : World), w.heap[b]? = some (.cells cs t (0, 0)) → (w.setCells b o vs).heap[b]? = some (.cells (putAt' cs o vs) t (0, 0))
  | [], _, _, _, h => h
  | v :: r, o, cs, w, h => block_setCells' r (o + 1) _ (w.setCell ⟨b, o, none⟩ v) (heap_setCell_same w b o cs t v h)
/-- A block that is stored to as a whole. -/
theorem block_whole {b : Nat} {t : TypeId} {w : World} {cs : Array Value} (vs : List Value) (h : w.heap[b]? = some (.cells cs t (0, 0))) (hs : cs.size = vs.length) : (w.setCells b 0 vs).heap[b]? = some (.cells vs.toArray t (0, 0)) := by
  rw [block_setCells' vs 0 cs w h, putAt'_all cs vs hs]
end Go.Proofs.Ytkkcnhhfdicppaa
