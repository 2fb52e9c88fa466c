import Derived.Test.YtfilofnkiocbeaaBd8
import Derived.Test.YtfilofnkiocbeaaBe8
import Derived.Deep.RegionHeld3
import Derived.Deep.DeepCutAuto
import Derived.Deep.RegionWith
namespace Go.Proofs.Ytfilofnkiocbeaa
open Go.RowKit Ben
/-- A list of switches as cells. -/
def cellsN (l : List Nat) : List Value := l.map fun x => .int .i64 (x : Nat)
theorem cellsN_len (l : List Nat) : (cellsN l).length = l.length := by simp [cellsN]
theorem cellsN_one (l : List Nat) : ∀ v ∈ cellsN l, v.oneCell' = true := by
  intro v hv
  simp only [cellsN, List.mem_map] at hv
  obtain ⟨x, _, rfl⟩ := hv
  rfl
theorem own_one {w : World} {B g : Nat} {x : Value} (hB : B ≤ g) (h : w.heap[g]? = some (.cells #[x] 3 (0, 0))) : w.ownsRow B 3 1 (.slice (some ⟨g, 0, none⟩) 1 1) 1 [x] :=
  ⟨rfl, .inr ⟨g, 1, #[x], rfl, hB, h, Nat.le_refl _, by unfold maxLen; omega, rfl, rfl⟩⟩
theorem heap2 (w : World) (a b : Obj) : ((w.alloc a).alloc b).heap[w.heap.size + 1]? = some b := by
  have h := heap_new (w.alloc a) b
  rw [show (w.alloc a).heap.size = w.heap.size + 1 by simp] at h
  exact h
theorem heap3 (w : World) (a b c : Obj) : (((w.alloc a).alloc b).alloc c).heap[w.heap.size + 1 + 1]? = some c := by
  have h := heap2 (w.alloc a) b c
  rw [show (w.alloc a).heap.size = w.heap.size + 1 by simp] at h
  exact h
/-- What comes back of follow. -/
def FolR (B : Nat) (w : World) (e : Ending) (s : Nat → Bool) (k b i : Nat) : Prop := ∃ V, e = .returned (.tuple #[V, .int .i64 (out s k b i : Nat)]) ∧ w.ownsRow B 3 1 V (dp k) (cellsN (met s k b i))
set_option maxRecDepth 100000 in
set_option maxHeartbeats 8000000 in
theorem follow_zero (g o cap b i : Nat) (s : Nat → Bool) (w : World) (_hc : cn 0 ≤ cap) (_hm : cap ≤ 9223372036854775807) (_hb : b + cn 0 ≤ 80) (hi : i < sz 0) (hU : Unw w g o (cn 0) b s) :
    Calls Try.prog 66 #[.int .i64 (sz 0 : Nat), .slice (some ⟨g, o, none⟩) (cn 0) cap, .int .i64 i] w fun e w' => FolR w.heap.size w' e s 0 b i ∧ Below w.heap.size w w' := by
  obtain ⟨g0, g1⟩ := hU 0 (by decide)
  have hgz := World.block_lt_of_cell? _ _ g0
  have hi2 : i < 2 := hi
  simp only [Nat.zero_mul, Nat.add_zero] at g0 g1
  obtain ⟨t, ht⟩ : ∃ t, s b = t := ⟨_, rfl⟩
  have HO : Hid (out s 0 b i = fl t i) := Lib.hid (by rw [← ht]; rfl)
  rw [ht] at g1
  show Calls Try.prog 66 #[.int .i64 2, .slice (some ⟨g, o, none⟩) 1 cap, .int .i64 i] w _
  clear hU ht hi
  go_enter Try.func66, Try.ntmps66
  go_upto_region 3 with fail
  have c0 : (w.alloc (Obj.cells #[.int .i64 (b : Nat), .bool t] 92)).cell? ⟨w.heap.size, 0, none⟩ = some (.int .i64 (b : Nat)) := by go_cell
  have c1 : (w.alloc (Obj.cells #[.int .i64 (b : Nat), .bool t] 92)).cell? ⟨w.heap.size, 1, none⟩ = some (.bool t) := by go_cell
  have hbl : Below w.heap.size w (w.alloc (Obj.cells #[.int .i64 (b : Nat), .bool t] 92)) := by go_grown
  have hsz : w.heap.size < (w.alloc (Obj.cells #[.int .i64 (b : Nat), .bool t] 92)).heap.size := by simp
  clear g0 g1 hgz
  go_region_with ((go_at_call 79; refine (passed_any _ t i _ hi2).mono ?_; rintro e w' ⟨rfl, rfl⟩))
  all_goals
    go_wp2_with fail
    first
    | (refine bodyPost_ret (v := .tuple #[.slice (some ⟨w.heap.size + 1, 0, none⟩) 1 1, .int .i64 (fl t i : Nat)]) ?_ rfl ?_; (focus (simp [results, Try.results66, go_sem]; done)); exact ⟨⟨_, by rw [HO.out], own_below' (own_one (w := (w.alloc (Obj.cells #[.int .i64 (b : Nat), .bool t] 92)).alloc (Obj.cells #[.int .i64 (b : Nat)] 3)) (g := w.heap.size + 1) (by omega) (heap2 w _ _)) (by go_grown)⟩, by go_grown⟩)
    | (refine bodyPost_ret (v := .tuple #[.slice (some ⟨w.heap.size + 1 + 1, 0, none⟩) 1 1, .int .i64 (fl t i : Nat)]) ?_ rfl ?_; (focus (simp [results, Try.results66, go_sem]; done)); exact ⟨⟨_, by rw [HO.out], own_below' (own_one (w := ((w.alloc (Obj.cells #[.int .i64 (b : Nat), .bool t] 92)).alloc (Obj.cells #[.int .i64 (b : Nat), .bool t] 92)).alloc (Obj.cells #[.int .i64 (b : Nat)] 3)) (g := w.heap.size + 1 + 1) (by omega) (heap3 w _ _ _)) (by go_grown)⟩, by go_grown⟩)
end Go.Proofs.Ytfilofnkiocbeaa
