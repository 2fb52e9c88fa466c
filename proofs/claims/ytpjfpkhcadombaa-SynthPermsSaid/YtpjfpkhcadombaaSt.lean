import Derived.Test.YtpjfpkhcadombaaSrt
import Derived.Test.YtpjfpkhcadombaaIb
import Derived.Sort.OwnSortedInts
namespace Go.Proofs.Ytpjfpkhcadombaa
open Go.RowKit Go.Sort
/-- A list's elements as a function. -/
def lf (A : List Int) (i : Nat) : Int := A[i]?.getD 0
theorem holds_lf {w : World} {g : Nat} {A : List Int} (h : Intw w g A.length (lf A)) : Holds (Value.int .i64) w g 0 A.toArray := by
  intro j hj
  have hj' : j < A.length := by simpa using hj
  obtain ⟨a, b⟩ := h j hj'
  rw [Nat.zero_add]
  refine ⟨?_, b⟩
  rw [a]
  have e : lf A j = A.toArray[j]! := by simp [lf, hj']
  rw [e]
theorem lf_holds {w : World} {g : Nat} {A : List Int} (h : Holds (Value.int .i64) w g 0 A.toArray) : Intw w g A.length (lf A) := by
  intro j hj
  obtain ⟨a, b⟩ := h j (by simpa using hj)
  rw [Nat.zero_add] at a b
  refine ⟨?_, b⟩
  rw [a]
  have e : lf A j = A.toArray[j]! := by simp [lf, hj]
  rw [e]
theorem sort_any (g cap : Nat) (A : List Int) (w : World) (h : Intw w g A.length (lf A)) (h0 : 0 < A.length) (hn : A.length ≤ 64) :
    Calls Try.prog 23 #[.slice (some ⟨g, 0, none⟩) A.length cap] w fun e w' => e = .returned (.tuple #[]) ∧ Intw w' g A.length (lf (A.mergeSort fun x y => decide (x ≤ y))) ∧ w.grownBy w' (some g) := by
  have hg : g < w.heap.size := World.block_lt_of_cell? w _ (h 0 h0).1
  refine (Try.slices_Sort_int g 0 cap A w (holds_lf h) hg (by omega)).mono ?_
  rintro e w' ⟨rfl, n, os, rfl⟩
  have hl : (A.mergeSort fun x y => decide (x ≤ y)).length = A.length := by simp
  refine ⟨rfl, ?_, grownBy_sortedI _⟩
  rw [← hl]
  refine lf_holds (holds_grow _ _ _ _ _ _ (by simpa [putRow, mapBlock, Sort.ahead] using hg) (holds_putRow _ _ _ _ A.toArray _ ?_ (by simp)))
  exact fun j hj => holds_lf h j hj
end Go.Proofs.Ytpjfpkhcadombaa
