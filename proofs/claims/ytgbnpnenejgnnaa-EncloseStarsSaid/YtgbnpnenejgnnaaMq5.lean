import Derived.Test.YtgbnpnenejgnnaaMp5
import Derived.Test.YtgbnpnenejgnnaaSj5
import Derived.Test.YtgbnpnenejgnnaaPr5
import Derived.Deep.Upon
namespace Go.Proofs.Ytgbnpnenejgnnaa
open Go.RowKit Encl
set_option maxRecDepth 100000 in
set_option maxHeartbeats 8000000 in
theorem rMirror_no (a0 b0 c0 d0 a1 b1 c1 d1 a2 b2 c2 d2 a3 b3 c3 d3 : Int) (w : World) (hok : okP ⟨⟨a0, b0⟩, ⟨c0, d0⟩⟩ ⟨⟨a1, b1⟩, ⟨c1, d1⟩⟩ ⟨⟨a2, b2⟩, ⟨c2, d2⟩⟩ ⟨⟨a3, b3⟩, ⟨c3, d3⟩⟩ = false) :
    Calls Try.prog 46 #[.agg #[.int .i64 a0, .int .i64 b0, .int .i64 c0, .int .i64 d0, .int .i64 a1, .int .i64 b1, .int .i64 c1, .int .i64 d1, .int .i64 a2, .int .i64 b2, .int .i64 c2, .int .i64 d2, .int .i64 a3, .int .i64 b3, .int .i64 c3, .int .i64 d3]] w fun e w' => e = .returned (.tuple #[.agg #[.int .i64 0, .int .i64 0, .int .i64 0, .int .i64 0, .int .i64 0, .int .i64 0, .int .i64 0, .int .i64 0, .int .i64 0, .int .i64 0, .int .i64 0, .int .i64 0, .int .i64 0, .int .i64 0, .int .i64 0, .int .i64 0], .int .i64 50]) ∧ Below w.heap.size w w' := by
  have HBB := Lib.hid hok
  clear hok
  go_enter Try.func46, Try.ntmps46
  go_upto_region 1 with fail
  have hb0 : Below w.heap.size w ((w.alloc (.cells #[.int .i64 a0, .int .i64 b0, .int .i64 c0, .int .i64 d0, .int .i64 a1, .int .i64 b1, .int .i64 c1, .int .i64 d1, .int .i64 a2, .int .i64 b2, .int .i64 c2, .int .i64 d2, .int .i64 a3, .int .i64 b3, .int .i64 c3, .int .i64 d3] 49)).alloc (.cells #[.int .i64 0, .int .i64 0, .int .i64 0, .int .i64 0, .int .i64 0, .int .i64 0, .int .i64 0, .int .i64 0, .int .i64 0, .int .i64 0, .int .i64 0, .int .i64 0, .int .i64 0, .int .i64 0, .int .i64 0, .int .i64 0] 49)) := by go_grown
  have bP : ((w.alloc (.cells #[.int .i64 a0, .int .i64 b0, .int .i64 c0, .int .i64 d0, .int .i64 a1, .int .i64 b1, .int .i64 c1, .int .i64 d1, .int .i64 a2, .int .i64 b2, .int .i64 c2, .int .i64 d2, .int .i64 a3, .int .i64 b3, .int .i64 c3, .int .i64 d3] 49)).alloc (.cells #[.int .i64 0, .int .i64 0, .int .i64 0, .int .i64 0, .int .i64 0, .int .i64 0, .int .i64 0, .int .i64 0, .int .i64 0, .int .i64 0, .int .i64 0, .int .i64 0, .int .i64 0, .int .i64 0, .int .i64 0, .int .i64 0] 49)).heap[w.heap.size]? = some (.cells #[.int .i64 a0, .int .i64 b0, .int .i64 c0, .int .i64 d0, .int .i64 a1, .int .i64 b1, .int .i64 c1, .int .i64 d1, .int .i64 a2, .int .i64 b2, .int .i64 c2, .int .i64 d2, .int .i64 a3, .int .i64 b3, .int .i64 c3, .int .i64 d3] 49 (0, 0)) := (Below.heap_alloc _ _ _ (by first | omega | (simp; done) | (simp; omega))).trans (heap_alloc_new w _)
  have bT : ((w.alloc (.cells #[.int .i64 a0, .int .i64 b0, .int .i64 c0, .int .i64 d0, .int .i64 a1, .int .i64 b1, .int .i64 c1, .int .i64 d1, .int .i64 a2, .int .i64 b2, .int .i64 c2, .int .i64 d2, .int .i64 a3, .int .i64 b3, .int .i64 c3, .int .i64 d3] 49)).alloc (.cells #[.int .i64 0, .int .i64 0, .int .i64 0, .int .i64 0, .int .i64 0, .int .i64 0, .int .i64 0, .int .i64 0, .int .i64 0, .int .i64 0, .int .i64 0, .int .i64 0, .int .i64 0, .int .i64 0, .int .i64 0, .int .i64 0] 49)).heap[w.heap.size + 1]? = some (.cells #[.int .i64 0, .int .i64 0, .int .i64 0, .int .i64 0, .int .i64 0, .int .i64 0, .int .i64 0, .int .i64 0, .int .i64 0, .int .i64 0, .int .i64 0, .int .i64 0, .int .i64 0, .int .i64 0, .int .i64 0, .int .i64 0] 49 (0, 0)) := by
    have h := heap_alloc_new (w.alloc (.cells #[.int .i64 a0, .int .i64 b0, .int .i64 c0, .int .i64 d0, .int .i64 a1, .int .i64 b1, .int .i64 c1, .int .i64 d1, .int .i64 a2, .int .i64 b2, .int .i64 c2, .int .i64 d2, .int .i64 a3, .int .i64 b3, .int .i64 c3, .int .i64 d3] 49)) (.cells #[.int .i64 0, .int .i64 0, .int .i64 0, .int .i64 0, .int .i64 0, .int .i64 0, .int .i64 0, .int .i64 0, .int .i64 0, .int .i64 0, .int .i64 0, .int .i64 0, .int .i64 0, .int .i64 0, .int .i64 0, .int .i64 0] 49)
    rwa [World.size_alloc] at h
  have hsz : w.heap.size + 1 < ((w.alloc (.cells #[.int .i64 a0, .int .i64 b0, .int .i64 c0, .int .i64 d0, .int .i64 a1, .int .i64 b1, .int .i64 c1, .int .i64 d1, .int .i64 a2, .int .i64 b2, .int .i64 c2, .int .i64 d2, .int .i64 a3, .int .i64 b3, .int .i64 c3, .int .i64 d3] 49)).alloc (.cells #[.int .i64 0, .int .i64 0, .int .i64 0, .int .i64 0, .int .i64 0, .int .i64 0, .int .i64 0, .int .i64 0, .int .i64 0, .int .i64 0, .int .i64 0, .int .i64 0, .int .i64 0, .int .i64 0, .int .i64 0, .int .i64 0] 49)).heap.size := by simp
  generalize ((w.alloc (.cells #[.int .i64 a0, .int .i64 b0, .int .i64 c0, .int .i64 d0, .int .i64 a1, .int .i64 b1, .int .i64 c1, .int .i64 d1, .int .i64 a2, .int .i64 b2, .int .i64 c2, .int .i64 d2, .int .i64 a3, .int .i64 b3, .int .i64 c3, .int .i64 d3] 49)).alloc (.cells #[.int .i64 0, .int .i64 0, .int .i64 0, .int .i64 0, .int .i64 0, .int .i64 0, .int .i64 0, .int .i64 0, .int .i64 0, .int .i64 0, .int .i64 0, .int .i64 0, .int .i64 0, .int .i64 0, .int .i64 0, .int .i64 0] 49)) = W at *
  have lP : w.heap.size < W.heap.size := by omega
  have HRP := Lib.hid (range_row bP 0 [.int .i64 a0, .int .i64 b0, .int .i64 c0, .int .i64 d0, .int .i64 a1, .int .i64 b1, .int .i64 c1, .int .i64 d1, .int .i64 a2, .int .i64 b2, .int .i64 c2, .int .i64 d2, .int .i64 a3, .int .i64 b3, .int .i64 c3, .int .i64 d3] (fun j hj => by simp only [Nat.zero_add, List.getElem?_toArray]))
  have HB0 := Lib.hid hb0
  have HBP := Lib.hid bP
  have HBT := Lib.hid bT
  clear hb0 bP bT
  refine wp_region_lit ?_
  refine wpList_load_mid rfl 49 (.tmp 1) rfl w.heap.size 0 rfl [.int .i64 a0, .int .i64 b0, .int .i64 c0, .int .i64 d0, .int .i64 a1, .int .i64 b1, .int .i64 c1, .int .i64 d1, .int .i64 a2, .int .i64 b2, .int .i64 c2, .int .i64 d2, .int .i64 a3, .int .i64 b3, .int .i64 c3, .int .i64 d3] _ HRP.out Try.underlying49 rfl (by kernel_rfl) ?_
  refine wpList_step (fun K hK => ?_)
  go_simp
  refine (rValidPort_any a0 b0 c0 d0 a1 b1 c1 d1 a2 b2 c2 d2 a3 b3 c3 d3 _).mono ?_
  rw [HBB.out]
  rintro e w1 ⟨rfl, hb⟩
  have D1 := HB0.out.trans (hb.mono (by omega))
  have bP := (hb.block _ lP).trans HBP.out
  have bT := (hb.block _ hsz).trans HBT.out
  have s1 : w.heap.size + 1 < w1.heap.size := by have := hb.size; omega
  clear hb HB0 HBP HBT HRP
  refine hK _ _ ?_
  clear hK K
  refine wpList_step (fun K hK => ?_); go_simp; refine hK _ _ ?_; clear hK K
  refine wpList_nil ?_
  have HTH := Lib.hid (there_row bT 16 (Nat.le_refl _))
  have HDF := Lib.hid D1
  clear bP bT D1
  go_upto_region 2 with fail
  refine wp_region_lit ?_
  refine wpList_step (fun K hK => ?_); go_simp; refine hK _ _ ?_; clear hK K
  refine wpList_store_mid rfl 49 (.tmp 2) (.tmp 10) rfl (w.heap.size + 1) 0 #[.int .i64 0, .int .i64 0, .int .i64 0, .int .i64 0, .int .i64 0, .int .i64 0, .int .i64 0, .int .i64 0, .int .i64 0, .int .i64 0, .int .i64 0, .int .i64 0, .int .i64 0, .int .i64 0, .int .i64 0, .int .i64 0] rfl rfl HTH.out (by kernel_rfl) (by simp [Value.oneCell']) ?_
  have hload : (w1.setCells (w.heap.size + 1) 0 [.int .i64 0, .int .i64 0, .int .i64 0, .int .i64 0, .int .i64 0, .int .i64 0, .int .i64 0, .int .i64 0, .int .i64 0, .int .i64 0, .int .i64 0, .int .i64 0, .int .i64 0, .int .i64 0, .int .i64 0, .int .i64 0]).rangeAt (w.heap.size + 1) 0 [.int .i64 0, .int .i64 0, .int .i64 0, .int .i64 0, .int .i64 0, .int .i64 0, .int .i64 0, .int .i64 0, .int .i64 0, .int .i64 0, .int .i64 0, .int .i64 0, .int .i64 0, .int .i64 0, .int .i64 0, .int .i64 0] := World.rangeAt_setCells_same w1 _ _ _ HTH.out
  have DZ : Below w.heap.size w (w1.setCells (w.heap.size + 1) 0 [.int .i64 0, .int .i64 0, .int .i64 0, .int .i64 0, .int .i64 0, .int .i64 0, .int .i64 0, .int .i64 0, .int .i64 0, .int .i64 0, .int .i64 0, .int .i64 0, .int .i64 0, .int .i64 0, .int .i64 0, .int .i64 0]) := below_mids (by omega) _ _ HDF.out
  (try rw [show (#[.int .i64 0, .int .i64 0, .int .i64 0, .int .i64 0, .int .i64 0, .int .i64 0, .int .i64 0, .int .i64 0, .int .i64 0, .int .i64 0, .int .i64 0, .int .i64 0, .int .i64 0, .int .i64 0, .int .i64 0, .int .i64 0] : Array Value).toList = [.int .i64 0, .int .i64 0, .int .i64 0, .int .i64 0, .int .i64 0, .int .i64 0, .int .i64 0, .int .i64 0, .int .i64 0, .int .i64 0, .int .i64 0, .int .i64 0, .int .i64 0, .int .i64 0, .int .i64 0, .int .i64 0] from rfl])
  generalize w1.setCells (w.heap.size + 1) 0 [.int .i64 0, .int .i64 0, .int .i64 0, .int .i64 0, .int .i64 0, .int .i64 0, .int .i64 0, .int .i64 0, .int .i64 0, .int .i64 0, .int .i64 0, .int .i64 0, .int .i64 0, .int .i64 0, .int .i64 0, .int .i64 0] = W3 at *
  have HL := Lib.hid hload
  clear hload HTH HDF
  refine wpList_step (fun K hK => ?_); go_simp; refine hK _ _ ?_; clear hK K
  refine wpList_nil ?_
  refine (‹∀ (a : Act) (w : World), Code.wp Try.prog Code.ret _ a w → _› _ _ ?_)
  apply wp_ret
  unfold Exit.then
  (try dsimp only)
  (try simp only [act_all])
  obtain ⟨q0, q1, q2, q3, q4, q5, q6, q7, q8, q9, q10, q11, q12, q13, q14, q15⟩ : (W3.cell? ⟨w.heap.size + 1, 0, none⟩ = some (.int .i64 0) ∧ W3.cell? ⟨w.heap.size + 1, 1, none⟩ = some (.int .i64 0) ∧ W3.cell? ⟨w.heap.size + 1, 2, none⟩ = some (.int .i64 0) ∧ W3.cell? ⟨w.heap.size + 1, 3, none⟩ = some (.int .i64 0) ∧ W3.cell? ⟨w.heap.size + 1, 4, none⟩ = some (.int .i64 0) ∧ W3.cell? ⟨w.heap.size + 1, 5, none⟩ = some (.int .i64 0) ∧ W3.cell? ⟨w.heap.size + 1, 6, none⟩ = some (.int .i64 0) ∧ W3.cell? ⟨w.heap.size + 1, 7, none⟩ = some (.int .i64 0) ∧ W3.cell? ⟨w.heap.size + 1, 8, none⟩ = some (.int .i64 0) ∧ W3.cell? ⟨w.heap.size + 1, 9, none⟩ = some (.int .i64 0) ∧ W3.cell? ⟨w.heap.size + 1, 10, none⟩ = some (.int .i64 0) ∧ W3.cell? ⟨w.heap.size + 1, 11, none⟩ = some (.int .i64 0) ∧ W3.cell? ⟨w.heap.size + 1, 12, none⟩ = some (.int .i64 0) ∧ W3.cell? ⟨w.heap.size + 1, 13, none⟩ = some (.int .i64 0) ∧ W3.cell? ⟨w.heap.size + 1, 14, none⟩ = some (.int .i64 0) ∧ W3.cell? ⟨w.heap.size + 1, 15, none⟩ = some (.int .i64 0)) := by
    have h := HL.out
    refine ⟨by have h1 := h 0 _ rfl; rwa [Nat.zero_add] at h1, by have h1 := h 1 _ rfl; rwa [Nat.zero_add] at h1, by have h1 := h 2 _ rfl; rwa [Nat.zero_add] at h1, by have h1 := h 3 _ rfl; rwa [Nat.zero_add] at h1, by have h1 := h 4 _ rfl; rwa [Nat.zero_add] at h1, by have h1 := h 5 _ rfl; rwa [Nat.zero_add] at h1, by have h1 := h 6 _ rfl; rwa [Nat.zero_add] at h1, by have h1 := h 7 _ rfl; rwa [Nat.zero_add] at h1, by have h1 := h 8 _ rfl; rwa [Nat.zero_add] at h1, by have h1 := h 9 _ rfl; rwa [Nat.zero_add] at h1, by have h1 := h 10 _ rfl; rwa [Nat.zero_add] at h1, by have h1 := h 11 _ rfl; rwa [Nat.zero_add] at h1, by have h1 := h 12 _ rfl; rwa [Nat.zero_add] at h1, by have h1 := h 13 _ rfl; rwa [Nat.zero_add] at h1, by have h1 := h 14 _ rfl; rwa [Nat.zero_add] at h1, by have h1 := h 15 _ rfl; rwa [Nat.zero_add] at h1⟩
  refine bodyPost_ret (v := .tuple #[.agg #[.int .i64 0, .int .i64 0, .int .i64 0, .int .i64 0, .int .i64 0, .int .i64 0, .int .i64 0, .int .i64 0, .int .i64 0, .int .i64 0, .int .i64 0, .int .i64 0, .int .i64 0, .int .i64 0, .int .i64 0, .int .i64 0], .int .i64 50]) (by simp [results, Try.results46, go_sem, q0, q1, q2, q3, q4, q5, q6, q7, q8, q9, q10, q11, q12, q13, q14, q15]) rfl ⟨rfl, DZ⟩
set_option maxRecDepth 100000 in
set_option maxHeartbeats 8000000 in
theorem rMirror_ok (a0 b0 c0 d0 a1 b1 c1 d1 a2 b2 c2 d2 a3 b3 c3 d3 : Int) (w : World) (hok : okP ⟨⟨a0, b0⟩, ⟨c0, d0⟩⟩ ⟨⟨a1, b1⟩, ⟨c1, d1⟩⟩ ⟨⟨a2, b2⟩, ⟨c2, d2⟩⟩ ⟨⟨a3, b3⟩, ⟨c3, d3⟩⟩ = true) :
    Calls Try.prog 46 #[.agg #[.int .i64 a0, .int .i64 b0, .int .i64 c0, .int .i64 d0, .int .i64 a1, .int .i64 b1, .int .i64 c1, .int .i64 d1, .int .i64 a2, .int .i64 b2, .int .i64 c2, .int .i64 d2, .int .i64 a3, .int .i64 b3, .int .i64 c3, .int .i64 d3]] w fun e w' => e = .returned (.tuple #[.agg #[.int .i64 a3, .int .i64 b3, .int .i64 c3, .int .i64 d3, .int .i64 a2, .int .i64 b2, .int .i64 c2, .int .i64 d2, .int .i64 a1, .int .i64 b1, .int .i64 c1, .int .i64 d1, .int .i64 a0, .int .i64 b0, .int .i64 c0, .int .i64 d0], .int .i64 0]) ∧ Below w.heap.size w w' := by
  have HBB := Lib.hid hok
  clear hok
  go_enter Try.func46, Try.ntmps46
  go_upto_region 1 with fail
  have hb0 : Below w.heap.size w ((w.alloc (.cells #[.int .i64 a0, .int .i64 b0, .int .i64 c0, .int .i64 d0, .int .i64 a1, .int .i64 b1, .int .i64 c1, .int .i64 d1, .int .i64 a2, .int .i64 b2, .int .i64 c2, .int .i64 d2, .int .i64 a3, .int .i64 b3, .int .i64 c3, .int .i64 d3] 49)).alloc (.cells #[.int .i64 0, .int .i64 0, .int .i64 0, .int .i64 0, .int .i64 0, .int .i64 0, .int .i64 0, .int .i64 0, .int .i64 0, .int .i64 0, .int .i64 0, .int .i64 0, .int .i64 0, .int .i64 0, .int .i64 0, .int .i64 0] 49)) := by go_grown
  have bP : ((w.alloc (.cells #[.int .i64 a0, .int .i64 b0, .int .i64 c0, .int .i64 d0, .int .i64 a1, .int .i64 b1, .int .i64 c1, .int .i64 d1, .int .i64 a2, .int .i64 b2, .int .i64 c2, .int .i64 d2, .int .i64 a3, .int .i64 b3, .int .i64 c3, .int .i64 d3] 49)).alloc (.cells #[.int .i64 0, .int .i64 0, .int .i64 0, .int .i64 0, .int .i64 0, .int .i64 0, .int .i64 0, .int .i64 0, .int .i64 0, .int .i64 0, .int .i64 0, .int .i64 0, .int .i64 0, .int .i64 0, .int .i64 0, .int .i64 0] 49)).heap[w.heap.size]? = some (.cells #[.int .i64 a0, .int .i64 b0, .int .i64 c0, .int .i64 d0, .int .i64 a1, .int .i64 b1, .int .i64 c1, .int .i64 d1, .int .i64 a2, .int .i64 b2, .int .i64 c2, .int .i64 d2, .int .i64 a3, .int .i64 b3, .int .i64 c3, .int .i64 d3] 49 (0, 0)) := (Below.heap_alloc _ _ _ (by first | omega | (simp; done) | (simp; omega))).trans (heap_alloc_new w _)
  have bT : ((w.alloc (.cells #[.int .i64 a0, .int .i64 b0, .int .i64 c0, .int .i64 d0, .int .i64 a1, .int .i64 b1, .int .i64 c1, .int .i64 d1, .int .i64 a2, .int .i64 b2, .int .i64 c2, .int .i64 d2, .int .i64 a3, .int .i64 b3, .int .i64 c3, .int .i64 d3] 49)).alloc (.cells #[.int .i64 0, .int .i64 0, .int .i64 0, .int .i64 0, .int .i64 0, .int .i64 0, .int .i64 0, .int .i64 0, .int .i64 0, .int .i64 0, .int .i64 0, .int .i64 0, .int .i64 0, .int .i64 0, .int .i64 0, .int .i64 0] 49)).heap[w.heap.size + 1]? = some (.cells #[.int .i64 0, .int .i64 0, .int .i64 0, .int .i64 0, .int .i64 0, .int .i64 0, .int .i64 0, .int .i64 0, .int .i64 0, .int .i64 0, .int .i64 0, .int .i64 0, .int .i64 0, .int .i64 0, .int .i64 0, .int .i64 0] 49 (0, 0)) := by
    have h := heap_alloc_new (w.alloc (.cells #[.int .i64 a0, .int .i64 b0, .int .i64 c0, .int .i64 d0, .int .i64 a1, .int .i64 b1, .int .i64 c1, .int .i64 d1, .int .i64 a2, .int .i64 b2, .int .i64 c2, .int .i64 d2, .int .i64 a3, .int .i64 b3, .int .i64 c3, .int .i64 d3] 49)) (.cells #[.int .i64 0, .int .i64 0, .int .i64 0, .int .i64 0, .int .i64 0, .int .i64 0, .int .i64 0, .int .i64 0, .int .i64 0, .int .i64 0, .int .i64 0, .int .i64 0, .int .i64 0, .int .i64 0, .int .i64 0, .int .i64 0] 49)
    rwa [World.size_alloc] at h
  have hsz : w.heap.size + 1 < ((w.alloc (.cells #[.int .i64 a0, .int .i64 b0, .int .i64 c0, .int .i64 d0, .int .i64 a1, .int .i64 b1, .int .i64 c1, .int .i64 d1, .int .i64 a2, .int .i64 b2, .int .i64 c2, .int .i64 d2, .int .i64 a3, .int .i64 b3, .int .i64 c3, .int .i64 d3] 49)).alloc (.cells #[.int .i64 0, .int .i64 0, .int .i64 0, .int .i64 0, .int .i64 0, .int .i64 0, .int .i64 0, .int .i64 0, .int .i64 0, .int .i64 0, .int .i64 0, .int .i64 0, .int .i64 0, .int .i64 0, .int .i64 0, .int .i64 0] 49)).heap.size := by simp
  generalize ((w.alloc (.cells #[.int .i64 a0, .int .i64 b0, .int .i64 c0, .int .i64 d0, .int .i64 a1, .int .i64 b1, .int .i64 c1, .int .i64 d1, .int .i64 a2, .int .i64 b2, .int .i64 c2, .int .i64 d2, .int .i64 a3, .int .i64 b3, .int .i64 c3, .int .i64 d3] 49)).alloc (.cells #[.int .i64 0, .int .i64 0, .int .i64 0, .int .i64 0, .int .i64 0, .int .i64 0, .int .i64 0, .int .i64 0, .int .i64 0, .int .i64 0, .int .i64 0, .int .i64 0, .int .i64 0, .int .i64 0, .int .i64 0, .int .i64 0] 49)) = W at *
  have lP : w.heap.size < W.heap.size := by omega
  have HRP := Lib.hid (range_row bP 0 [.int .i64 a0, .int .i64 b0, .int .i64 c0, .int .i64 d0, .int .i64 a1, .int .i64 b1, .int .i64 c1, .int .i64 d1, .int .i64 a2, .int .i64 b2, .int .i64 c2, .int .i64 d2, .int .i64 a3, .int .i64 b3, .int .i64 c3, .int .i64 d3] (fun j hj => by simp only [Nat.zero_add, List.getElem?_toArray]))
  have HB0 := Lib.hid hb0
  have HBP := Lib.hid bP
  have HBT := Lib.hid bT
  clear hb0 bP bT
  refine wp_region_lit ?_
  refine wpList_load_mid rfl 49 (.tmp 1) rfl w.heap.size 0 rfl [.int .i64 a0, .int .i64 b0, .int .i64 c0, .int .i64 d0, .int .i64 a1, .int .i64 b1, .int .i64 c1, .int .i64 d1, .int .i64 a2, .int .i64 b2, .int .i64 c2, .int .i64 d2, .int .i64 a3, .int .i64 b3, .int .i64 c3, .int .i64 d3] _ HRP.out Try.underlying49 rfl (by kernel_rfl) ?_
  refine wpList_step (fun K hK => ?_)
  go_simp
  refine (rValidPort_any a0 b0 c0 d0 a1 b1 c1 d1 a2 b2 c2 d2 a3 b3 c3 d3 _).mono ?_
  rw [HBB.out]
  rintro e w1 ⟨rfl, hb⟩
  have D1 := HB0.out.trans (hb.mono (by omega))
  have bP := (hb.block _ lP).trans HBP.out
  have bT := (hb.block _ hsz).trans HBT.out
  have s1 : w.heap.size + 1 < w1.heap.size := by have := hb.size; omega
  clear hb HB0 HBP HBT HRP
  refine hK _ _ ?_
  clear hK K
  refine wpList_step (fun K hK => ?_); go_simp; refine hK _ _ ?_; clear hK K
  refine wpList_nil ?_
  have HBT := Lib.hid bT
  have HBP := Lib.hid bP
  have HD1 := Lib.hid D1
  clear bT bP D1
  go_wp2_with fail
  have hbV : Below w1.heap.size w1 (w1.alloc (.cells #[.int .i64 0, .int .i64 0, .int .i64 0, .int .i64 0, .int .i64 0, .int .i64 0, .int .i64 0, .int .i64 0, .int .i64 0, .int .i64 0, .int .i64 0, .int .i64 0, .int .i64 0, .int .i64 0, .int .i64 0, .int .i64 0] 49)) := bal (Below.refl _ _) _
  have HDV := Lib.hid (HD1.out.trans (hbV.mono (by omega)))
  have HVP := Lib.hid ((hbV.block _ (by omega)).trans HBP.out)
  have HVT := Lib.hid ((hbV.block _ s1).trans HBT.out)
  have HO : Hid ((w1.alloc (.cells #[.int .i64 0, .int .i64 0, .int .i64 0, .int .i64 0, .int .i64 0, .int .i64 0, .int .i64 0, .int .i64 0, .int .i64 0, .int .i64 0, .int .i64 0, .int .i64 0, .int .i64 0, .int .i64 0, .int .i64 0, .int .i64 0] 49)).heap[w1.heap.size]? = some (.cells #[.int .i64 0, .int .i64 0, .int .i64 0, .int .i64 0, .int .i64 0, .int .i64 0, .int .i64 0, .int .i64 0, .int .i64 0, .int .i64 0, .int .i64 0, .int .i64 0, .int .i64 0, .int .i64 0, .int .i64 0, .int .i64 0] 49 (0, 0))) := Lib.hid (heap_alloc_new w1 _)
  have lO : w1.heap.size < (w1.alloc (.cells #[.int .i64 0, .int .i64 0, .int .i64 0, .int .i64 0, .int .i64 0, .int .i64 0, .int .i64 0, .int .i64 0, .int .i64 0, .int .i64 0, .int .i64 0, .int .i64 0, .int .i64 0, .int .i64 0, .int .i64 0, .int .i64 0] 49)).heap.size := by simp
  clear hbV HBT HBP HD1
  generalize (w1.alloc (.cells #[.int .i64 0, .int .i64 0, .int .i64 0, .int .i64 0, .int .i64 0, .int .i64 0, .int .i64 0, .int .i64 0, .int .i64 0, .int .i64 0, .int .i64 0, .int .i64 0, .int .i64 0, .int .i64 0, .int .i64 0, .int .i64 0] 49)) = V at *
  generalize w1.heap.size = OB at *
  refine wp_loop_rounds 3 ?_
  rw [rounds_succ]
  go_wp2_with fail
  refine wp_loop_rounds 3 ?_
  rw [rounds_succ]
  go_upto_region 10 with fail
  have HR := Lib.hid (range_row HVP.out 12 [.int .i64 a3, .int .i64 b3, .int .i64 c3, .int .i64 d3] (fun j hj => by rcases four_at (by simpa using hj) with rfl | rfl | rfl | rfl <;> rfl))
  have HTH := Lib.hid (there_mid HO.out 0 4 (show 0 + 4 ≤ 16 by decide))
  have hB : Below OB V (V.drew.setCells OB 0 [.int .i64 a3, .int .i64 b3, .int .i64 c3, .int .i64 d3]) := below_mids (Nat.le_refl _) _ _ (Below.refl _ _).drew
  have hwr1 : IntKind.i64.wrap 1 = 1 := by decide
  have hwr0 : IntKind.i64.wrap 0 = 0 := by decide
  refine wp_region_held_drew (S := fun w' => w'.heap[w.heap.size]? = some (.cells #[.int .i64 a0, .int .i64 b0, .int .i64 c0, .int .i64 d0, .int .i64 a1, .int .i64 b1, .int .i64 c1, .int .i64 d1, .int .i64 a2, .int .i64 b2, .int .i64 c2, .int .i64 d2, .int .i64 a3, .int .i64 b3, .int .i64 c3, .int .i64 d3] 49 (0, 0))) (by kernel_rfl) HVP.out (fun hHeld => ?_)
  refine wpAnyH_take (i := 0) (oi := _) (v := ?_) rfl (by kernel_rfl) (by kernel_rfl) (by kernel_rfl) (fun _ _ _ h => h) (Or.inl ⟨by rfl, ?_⟩) (by assumption) ?_
  rotate_left
  · intro w _; go_simp; (try with_reducible rfl)
  try change wpAnyH _ _ _ _ _ _ _ (Act.put _ (some 17) _) _
  try simp only [act_all]
  refine wpAnyH_take (i := 1) (oi := _) (v := ?_) rfl (by kernel_rfl) (by kernel_rfl) (by kernel_rfl) (fun _ _ _ h => h) (Or.inl ⟨by rfl, ?_⟩) (by assumption) ?_
  rotate_left
  · intro w _; go_simp; (try with_reducible rfl)
  try change wpAnyH _ _ _ _ _ _ _ (Act.put _ (some 18) _) _
  try simp only [act_all]
  refine wpAnyH_take (i := 2) (oi := _) (v := ?_) rfl (by kernel_rfl) (by kernel_rfl) (by kernel_rfl) (fun _ _ _ h => h) (Or.inl ⟨by rfl, ?_⟩) (by assumption) ?_
  rotate_left
  · intro w _; go_simp; (try with_reducible rfl)
  try change wpAnyH _ _ _ _ _ _ _ (Act.put _ (some 19) _) _
  try simp only [act_all]
  refine wpAnyH_take (i := 3) (oi := _) (v := ?_) rfl (by kernel_rfl) (by kernel_rfl) (by kernel_rfl) (fun _ _ _ h => h) (Or.inl ⟨by rfl, ?_⟩) (by assumption) ?_
  rotate_left
  · intro w _; go_simp; (try with_reducible rfl)
  try change wpAnyH _ _ _ _ _ _ _ (Act.put _ (some 20) _) _
  try simp only [act_all]
  refine wpAnyH_take (i := 4) (oi := _) (v := ?_) rfl (by kernel_rfl) (by kernel_rfl) (by kernel_rfl) (fun _ _ _ h => h) (Or.inl ⟨by rfl, ?_⟩) (by assumption) ?_
  rotate_left
  · intro w _; go_simp; (try with_reducible rfl)
  try change wpAnyH _ _ _ _ _ _ _ (Act.put _ (some 21) _) _
  try simp only [act_all]
  refine wpAnyH_take (i := 5) (oi := _) (v := ?_) rfl (by kernel_rfl) (by kernel_rfl) (by kernel_rfl) (fun _ _ _ h => h) (Or.inl ⟨by rfl, ?_⟩) (by assumption) ?_
  rotate_left
  · intro w _; go_simp; (try with_reducible rfl)
  try change wpAnyH _ _ _ _ _ _ _ (Act.put _ (some 22) _) _
  try simp only [act_all]
  refine wpAnyH_take (i := 6) (oi := _) (v := ?_) rfl (by kernel_rfl) (by kernel_rfl) (by kernel_rfl) (fun _ _ _ h => h) (Or.inl ⟨by rfl, ?_⟩) (by assumption) ?_
  rotate_left
  · intro w _; go_simp; (try with_reducible rfl)
  try change wpAnyH _ _ _ _ _ _ _ (Act.put _ (some 23) _) _
  try simp only [act_all]
  refine wpAnyH_take (i := 7) (oi := _) (v := ?_) rfl (by kernel_rfl) (by kernel_rfl) (by kernel_rfl) (fun _ _ _ h => h) (Or.inl ⟨by rfl, ?_⟩) (by assumption) ?_
  rotate_left
  · intro w _; go_simp; (try with_reducible rfl)
  try change wpAnyH _ _ _ _ _ _ _ (Act.put _ (some 24) _) _
  try simp only [act_all]
  refine wpAnyH_take (i := 8) (oi := _) (v := ?_) rfl (by kernel_rfl) (by kernel_rfl) (by kernel_rfl) (fun _ _ _ h => h) (Or.inl ⟨by rfl, ?_⟩) (by assumption) ?_
  rotate_left
  · intro w _; go_simp; (try with_reducible rfl)
  try change wpAnyH _ _ _ _ _ _ _ (Act.put _ (some 25) _) _
  try simp only [act_all]
  refine wpAnyH_take (i := 9) (oi := _) (v := _) rfl (by kernel_rfl) (by kernel_rfl) (by kernel_rfl) (fun _ _ _ h => h) (yieldsIf_load_mid (by rfl) 25 _ rfl (w.heap.size) 12 rfl [.int .i64 a3, .int .i64 b3, .int .i64 c3, .int .i64 d3] _ (fun w' h => range_row h 12 [.int .i64 a3, .int .i64 b3, .int .i64 c3, .int .i64 d3] (fun j hj => by rcases four_at (by simpa using hj) with rfl | rfl | rfl | rfl <;> rfl)) Try.underlying25 rfl (by kernel_rfl)) (by assumption) ?_
  try change wpAnyH _ _ _ _ _ _ _ (Act.put _ (some 26) _) _
  try simp only [act_all]
  refine wpAnyH_take (i := 10) (oi := _) (v := ?_) rfl (by kernel_rfl) (by kernel_rfl) (by kernel_rfl) (fun _ _ _ h => h) (Or.inl ⟨by rfl, ?_⟩) (by assumption) ?_
  rotate_left
  · intro w _; go_simp; (try with_reducible rfl)
  try change wpAnyH _ _ _ _ _ _ _ (Act.put _ (some 27) _) _
  try simp only [act_all]
  refine wpAnyH_take (i := 11) (oi := _) (v := ?_) rfl (by kernel_rfl) (by kernel_rfl) (by kernel_rfl) (fun _ _ _ h => h) (Or.inl ⟨by rfl, ?_⟩) (by assumption) ?_
  rotate_left
  · intro w _; go_simp; (try with_reducible rfl)
  try change wpAnyH _ _ _ _ _ _ _ (Act.put _ (some 28) _) _
  try simp only [act_all]
  refine wpAnyH_take (i := 12) (oi := _) (v := ?_) rfl (by kernel_rfl) (by kernel_rfl) (by kernel_rfl) (fun _ _ _ h => h) (Or.inl ⟨by rfl, ?_⟩) (by assumption) ?_
  rotate_left
  · intro w _; go_simp; (try with_reducible rfl)
  try change wpAnyH _ _ _ _ _ _ _ (Act.put _ (some 29) _) _
  try simp only [act_all]
  refine wpAnyH_ready (rs := [13]) (by kernel_rfl) (by simp) ?_
  refine AllReadyH.cons (o := _) rfl (fun K hK => ?_) AllReadyH.nil
  rw [if_pos (show Region.wanted _ _ = true from rfl)]
  refine wp_store_mid 25 (.tmp 29) (.tmp 26) rfl OB 0 #[.int .i64 a3, .int .i64 b3, .int .i64 c3, .int .i64 d3] rfl rfl HTH.out (by kernel_rfl) (by simp [Value.oneCell']) ?_
  (try rw [show (#[.int .i64 a3, .int .i64 b3, .int .i64 c3, .int .i64 d3] : Array Value).toList = [.int .i64 a3, .int .i64 b3, .int .i64 c3, .int .i64 d3] from rfl])
  refine hK.out _ _ (by exact (hB.block _ (by omega)).trans HVP.out) (fun hHeld => ?_)
  clear hK K
  try simp only [act_all]
  refine wpAnyH_done (by kernel_rfl) ?_ _
  clear hHeld HR
  have HO' : Hid ((V.drew.setCells OB 0 [.int .i64 a3, .int .i64 b3, .int .i64 c3, .int .i64 d3]).heap[OB]? = some (.cells #[.int .i64 a3, .int .i64 b3, .int .i64 c3, .int .i64 d3, .int .i64 0, .int .i64 0, .int .i64 0, .int .i64 0, .int .i64 0, .int .i64 0, .int .i64 0, .int .i64 0, .int .i64 0, .int .i64 0, .int .i64 0, .int .i64 0] 49 (0, 0))) := Lib.hid (block_setCells [.int .i64 a3, .int .i64 b3, .int .i64 c3, .int .i64 d3] 0 _ _ HO.out)
  have HDV' := Lib.hid (HDV.out.trans (hB.mono (by omega)))
  have HVP' := Lib.hid ((hB.block _ (by omega)).trans HVP.out)
  have HVT' := Lib.hid ((hB.block _ (by omega)).trans HVT.out)
  have lO1 : OB < (V.drew.setCells OB 0 [.int .i64 a3, .int .i64 b3, .int .i64 c3, .int .i64 d3]).heap.size := Nat.lt_of_lt_of_le lO hB.size
  clear HO HDV HVP HVT hB HTH
  generalize (V.drew.setCells OB 0 [.int .i64 a3, .int .i64 b3, .int .i64 c3, .int .i64 d3]) = V1 at *
  obtain ⟨HO, HDV, HVP, HVT⟩ : _ ∧ _ ∧ _ ∧ _ := ⟨HO', HDV', HVP', HVT'⟩
  clear HO' HDV' HVP' HVT'
  go_wp2_with fail
  rw [rounds_succ]
  go_upto_region 10 with fail
  have HR := Lib.hid (range_row HVP.out 8 [.int .i64 a2, .int .i64 b2, .int .i64 c2, .int .i64 d2] (fun j hj => by rcases four_at (by simpa using hj) with rfl | rfl | rfl | rfl <;> rfl))
  have HTH := Lib.hid (there_mid HO.out 4 4 (show 4 + 4 ≤ 16 by decide))
  have hB : Below OB V1 (V1.drew.setCells OB 4 [.int .i64 a2, .int .i64 b2, .int .i64 c2, .int .i64 d2]) := below_mids (Nat.le_refl _) _ _ (Below.refl _ _).drew
  refine wp_region_held_drew (S := fun w' => w'.heap[w.heap.size]? = some (.cells #[.int .i64 a0, .int .i64 b0, .int .i64 c0, .int .i64 d0, .int .i64 a1, .int .i64 b1, .int .i64 c1, .int .i64 d1, .int .i64 a2, .int .i64 b2, .int .i64 c2, .int .i64 d2, .int .i64 a3, .int .i64 b3, .int .i64 c3, .int .i64 d3] 49 (0, 0))) (by kernel_rfl) HVP.out (fun hHeld => ?_)
  refine wpAnyH_take (i := 0) (oi := _) (v := ?_) rfl (by kernel_rfl) (by kernel_rfl) (by kernel_rfl) (fun _ _ _ h => h) (Or.inl ⟨by rfl, ?_⟩) (by assumption) ?_
  rotate_left
  · intro w _; go_simp; (try with_reducible rfl)
  try change wpAnyH _ _ _ _ _ _ _ (Act.put _ (some 17) _) _
  try simp only [act_all]
  refine wpAnyH_take (i := 1) (oi := _) (v := ?_) rfl (by kernel_rfl) (by kernel_rfl) (by kernel_rfl) (fun _ _ _ h => h) (Or.inl ⟨by rfl, ?_⟩) (by assumption) ?_
  rotate_left
  · intro w _; go_simp; (try with_reducible rfl)
  try change wpAnyH _ _ _ _ _ _ _ (Act.put _ (some 18) _) _
  try simp only [act_all]
  refine wpAnyH_take (i := 2) (oi := _) (v := ?_) rfl (by kernel_rfl) (by kernel_rfl) (by kernel_rfl) (fun _ _ _ h => h) (Or.inl ⟨by rfl, ?_⟩) (by assumption) ?_
  rotate_left
  · intro w _; go_simp; (try with_reducible rfl)
  try change wpAnyH _ _ _ _ _ _ _ (Act.put _ (some 19) _) _
  try simp only [act_all]
  refine wpAnyH_take (i := 3) (oi := _) (v := ?_) rfl (by kernel_rfl) (by kernel_rfl) (by kernel_rfl) (fun _ _ _ h => h) (Or.inl ⟨by rfl, ?_⟩) (by assumption) ?_
  rotate_left
  · intro w _; go_simp; (try with_reducible rfl)
  try change wpAnyH _ _ _ _ _ _ _ (Act.put _ (some 20) _) _
  try simp only [act_all]
  refine wpAnyH_take (i := 4) (oi := _) (v := ?_) rfl (by kernel_rfl) (by kernel_rfl) (by kernel_rfl) (fun _ _ _ h => h) (Or.inl ⟨by rfl, ?_⟩) (by assumption) ?_
  rotate_left
  · intro w _; go_simp; (try with_reducible rfl)
  try change wpAnyH _ _ _ _ _ _ _ (Act.put _ (some 21) _) _
  try simp only [act_all]
  refine wpAnyH_take (i := 5) (oi := _) (v := ?_) rfl (by kernel_rfl) (by kernel_rfl) (by kernel_rfl) (fun _ _ _ h => h) (Or.inl ⟨by rfl, ?_⟩) (by assumption) ?_
  rotate_left
  · intro w _; go_simp; (try with_reducible rfl)
  try change wpAnyH _ _ _ _ _ _ _ (Act.put _ (some 22) _) _
  try simp only [act_all]
  refine wpAnyH_take (i := 6) (oi := _) (v := ?_) rfl (by kernel_rfl) (by kernel_rfl) (by kernel_rfl) (fun _ _ _ h => h) (Or.inl ⟨by rfl, ?_⟩) (by assumption) ?_
  rotate_left
  · intro w _; go_simp; (try with_reducible rfl)
  try change wpAnyH _ _ _ _ _ _ _ (Act.put _ (some 23) _) _
  try simp only [act_all]
  refine wpAnyH_take (i := 7) (oi := _) (v := ?_) rfl (by kernel_rfl) (by kernel_rfl) (by kernel_rfl) (fun _ _ _ h => h) (Or.inl ⟨by rfl, ?_⟩) (by assumption) ?_
  rotate_left
  · intro w _; go_simp; (try with_reducible rfl)
  try change wpAnyH _ _ _ _ _ _ _ (Act.put _ (some 24) _) _
  try simp only [act_all]
  refine wpAnyH_take (i := 8) (oi := _) (v := ?_) rfl (by kernel_rfl) (by kernel_rfl) (by kernel_rfl) (fun _ _ _ h => h) (Or.inl ⟨by rfl, ?_⟩) (by assumption) ?_
  rotate_left
  · intro w _; go_simp; (try with_reducible rfl)
  try change wpAnyH _ _ _ _ _ _ _ (Act.put _ (some 25) _) _
  try simp only [act_all]
  refine wpAnyH_take (i := 9) (oi := _) (v := _) rfl (by kernel_rfl) (by kernel_rfl) (by kernel_rfl) (fun _ _ _ h => h) (yieldsIf_load_mid (by rfl) 25 _ rfl (w.heap.size) 8 rfl [.int .i64 a2, .int .i64 b2, .int .i64 c2, .int .i64 d2] _ (fun w' h => range_row h 8 [.int .i64 a2, .int .i64 b2, .int .i64 c2, .int .i64 d2] (fun j hj => by rcases four_at (by simpa using hj) with rfl | rfl | rfl | rfl <;> rfl)) Try.underlying25 rfl (by kernel_rfl)) (by assumption) ?_
  try change wpAnyH _ _ _ _ _ _ _ (Act.put _ (some 26) _) _
  try simp only [act_all]
  refine wpAnyH_take (i := 10) (oi := _) (v := ?_) rfl (by kernel_rfl) (by kernel_rfl) (by kernel_rfl) (fun _ _ _ h => h) (Or.inl ⟨by rfl, ?_⟩) (by assumption) ?_
  rotate_left
  · intro w _; go_simp; (try with_reducible rfl)
  try change wpAnyH _ _ _ _ _ _ _ (Act.put _ (some 27) _) _
  try simp only [act_all]
  refine wpAnyH_take (i := 11) (oi := _) (v := ?_) rfl (by kernel_rfl) (by kernel_rfl) (by kernel_rfl) (fun _ _ _ h => h) (Or.inl ⟨by rfl, ?_⟩) (by assumption) ?_
  rotate_left
  · intro w _; go_simp; (try with_reducible rfl)
  try change wpAnyH _ _ _ _ _ _ _ (Act.put _ (some 28) _) _
  try simp only [act_all]
  refine wpAnyH_take (i := 12) (oi := _) (v := ?_) rfl (by kernel_rfl) (by kernel_rfl) (by kernel_rfl) (fun _ _ _ h => h) (Or.inl ⟨by rfl, ?_⟩) (by assumption) ?_
  rotate_left
  · intro w _; go_simp; (try with_reducible rfl)
  try change wpAnyH _ _ _ _ _ _ _ (Act.put _ (some 29) _) _
  try simp only [act_all]
  refine wpAnyH_ready (rs := [13]) (by kernel_rfl) (by simp) ?_
  refine AllReadyH.cons (o := _) rfl (fun K hK => ?_) AllReadyH.nil
  rw [if_pos (show Region.wanted _ _ = true from rfl)]
  refine wp_store_mid 25 (.tmp 29) (.tmp 26) rfl OB 4 #[.int .i64 a2, .int .i64 b2, .int .i64 c2, .int .i64 d2] rfl rfl HTH.out (by kernel_rfl) (by simp [Value.oneCell']) ?_
  (try rw [show (#[.int .i64 a2, .int .i64 b2, .int .i64 c2, .int .i64 d2] : Array Value).toList = [.int .i64 a2, .int .i64 b2, .int .i64 c2, .int .i64 d2] from rfl])
  refine hK.out _ _ (by exact (hB.block _ (by omega)).trans HVP.out) (fun hHeld => ?_)
  clear hK K
  try simp only [act_all]
  refine wpAnyH_done (by kernel_rfl) ?_ _
  clear hHeld HR
  have HO' : Hid ((V1.drew.setCells OB 4 [.int .i64 a2, .int .i64 b2, .int .i64 c2, .int .i64 d2]).heap[OB]? = some (.cells #[.int .i64 a3, .int .i64 b3, .int .i64 c3, .int .i64 d3, .int .i64 a2, .int .i64 b2, .int .i64 c2, .int .i64 d2, .int .i64 0, .int .i64 0, .int .i64 0, .int .i64 0, .int .i64 0, .int .i64 0, .int .i64 0, .int .i64 0] 49 (0, 0))) := Lib.hid (block_setCells [.int .i64 a2, .int .i64 b2, .int .i64 c2, .int .i64 d2] 4 _ _ HO.out)
  have HDV' := Lib.hid (HDV.out.trans (hB.mono (by omega)))
  have HVP' := Lib.hid ((hB.block _ (by omega)).trans HVP.out)
  have HVT' := Lib.hid ((hB.block _ (by omega)).trans HVT.out)
  have lO2 : OB < (V1.drew.setCells OB 4 [.int .i64 a2, .int .i64 b2, .int .i64 c2, .int .i64 d2]).heap.size := Nat.lt_of_lt_of_le lO1 hB.size
  clear HO HDV HVP HVT hB HTH
  generalize (V1.drew.setCells OB 4 [.int .i64 a2, .int .i64 b2, .int .i64 c2, .int .i64 d2]) = V2 at *
  obtain ⟨HO, HDV, HVP, HVT⟩ : _ ∧ _ ∧ _ ∧ _ := ⟨HO', HDV', HVP', HVT'⟩
  clear HO' HDV' HVP' HVT'
  go_wp2_with fail
  rw [rounds_succ]
  go_wp2_with fail
  rw [rounds_succ]
  go_wp2_with fail
  refine wp_loop_rounds 3 ?_
  rw [rounds_succ]
  go_upto_region 10 with fail
  have HR := Lib.hid (range_row HVP.out 4 [.int .i64 a1, .int .i64 b1, .int .i64 c1, .int .i64 d1] (fun j hj => by rcases four_at (by simpa using hj) with rfl | rfl | rfl | rfl <;> rfl))
  have HTH := Lib.hid (there_mid HO.out 8 4 (show 8 + 4 ≤ 16 by decide))
  have hB : Below OB V2 (V2.drew.setCells OB 8 [.int .i64 a1, .int .i64 b1, .int .i64 c1, .int .i64 d1]) := below_mids (Nat.le_refl _) _ _ (Below.refl _ _).drew
  refine wp_region_held_drew (S := fun w' => w'.heap[w.heap.size]? = some (.cells #[.int .i64 a0, .int .i64 b0, .int .i64 c0, .int .i64 d0, .int .i64 a1, .int .i64 b1, .int .i64 c1, .int .i64 d1, .int .i64 a2, .int .i64 b2, .int .i64 c2, .int .i64 d2, .int .i64 a3, .int .i64 b3, .int .i64 c3, .int .i64 d3] 49 (0, 0))) (by kernel_rfl) HVP.out (fun hHeld => ?_)
  refine wpAnyH_take (i := 0) (oi := _) (v := ?_) rfl (by kernel_rfl) (by kernel_rfl) (by kernel_rfl) (fun _ _ _ h => h) (Or.inl ⟨by rfl, ?_⟩) (by assumption) ?_
  rotate_left
  · intro w _; go_simp; (try with_reducible rfl)
  try change wpAnyH _ _ _ _ _ _ _ (Act.put _ (some 17) _) _
  try simp only [act_all]
  refine wpAnyH_take (i := 1) (oi := _) (v := ?_) rfl (by kernel_rfl) (by kernel_rfl) (by kernel_rfl) (fun _ _ _ h => h) (Or.inl ⟨by rfl, ?_⟩) (by assumption) ?_
  rotate_left
  · intro w _; go_simp; (try with_reducible rfl)
  try change wpAnyH _ _ _ _ _ _ _ (Act.put _ (some 18) _) _
  try simp only [act_all]
  refine wpAnyH_take (i := 2) (oi := _) (v := ?_) rfl (by kernel_rfl) (by kernel_rfl) (by kernel_rfl) (fun _ _ _ h => h) (Or.inl ⟨by rfl, ?_⟩) (by assumption) ?_
  rotate_left
  · intro w _; go_simp; (try with_reducible rfl)
  try change wpAnyH _ _ _ _ _ _ _ (Act.put _ (some 19) _) _
  try simp only [act_all]
  refine wpAnyH_take (i := 3) (oi := _) (v := ?_) rfl (by kernel_rfl) (by kernel_rfl) (by kernel_rfl) (fun _ _ _ h => h) (Or.inl ⟨by rfl, ?_⟩) (by assumption) ?_
  rotate_left
  · intro w _; go_simp; (try with_reducible rfl)
  try change wpAnyH _ _ _ _ _ _ _ (Act.put _ (some 20) _) _
  try simp only [act_all]
  refine wpAnyH_take (i := 4) (oi := _) (v := ?_) rfl (by kernel_rfl) (by kernel_rfl) (by kernel_rfl) (fun _ _ _ h => h) (Or.inl ⟨by rfl, ?_⟩) (by assumption) ?_
  rotate_left
  · intro w _; go_simp; (try with_reducible rfl)
  try change wpAnyH _ _ _ _ _ _ _ (Act.put _ (some 21) _) _
  try simp only [act_all]
  refine wpAnyH_take (i := 5) (oi := _) (v := ?_) rfl (by kernel_rfl) (by kernel_rfl) (by kernel_rfl) (fun _ _ _ h => h) (Or.inl ⟨by rfl, ?_⟩) (by assumption) ?_
  rotate_left
  · intro w _; go_simp; (try with_reducible rfl)
  try change wpAnyH _ _ _ _ _ _ _ (Act.put _ (some 22) _) _
  try simp only [act_all]
  refine wpAnyH_take (i := 6) (oi := _) (v := ?_) rfl (by kernel_rfl) (by kernel_rfl) (by kernel_rfl) (fun _ _ _ h => h) (Or.inl ⟨by rfl, ?_⟩) (by assumption) ?_
  rotate_left
  · intro w _; go_simp; (try with_reducible rfl)
  try change wpAnyH _ _ _ _ _ _ _ (Act.put _ (some 23) _) _
  try simp only [act_all]
  refine wpAnyH_take (i := 7) (oi := _) (v := ?_) rfl (by kernel_rfl) (by kernel_rfl) (by kernel_rfl) (fun _ _ _ h => h) (Or.inl ⟨by rfl, ?_⟩) (by assumption) ?_
  rotate_left
  · intro w _; go_simp; (try with_reducible rfl)
  try change wpAnyH _ _ _ _ _ _ _ (Act.put _ (some 24) _) _
  try simp only [act_all]
  refine wpAnyH_take (i := 8) (oi := _) (v := ?_) rfl (by kernel_rfl) (by kernel_rfl) (by kernel_rfl) (fun _ _ _ h => h) (Or.inl ⟨by rfl, ?_⟩) (by assumption) ?_
  rotate_left
  · intro w _; go_simp; (try with_reducible rfl)
  try change wpAnyH _ _ _ _ _ _ _ (Act.put _ (some 25) _) _
  try simp only [act_all]
  refine wpAnyH_take (i := 9) (oi := _) (v := _) rfl (by kernel_rfl) (by kernel_rfl) (by kernel_rfl) (fun _ _ _ h => h) (yieldsIf_load_mid (by rfl) 25 _ rfl (w.heap.size) 4 rfl [.int .i64 a1, .int .i64 b1, .int .i64 c1, .int .i64 d1] _ (fun w' h => range_row h 4 [.int .i64 a1, .int .i64 b1, .int .i64 c1, .int .i64 d1] (fun j hj => by rcases four_at (by simpa using hj) with rfl | rfl | rfl | rfl <;> rfl)) Try.underlying25 rfl (by kernel_rfl)) (by assumption) ?_
  try change wpAnyH _ _ _ _ _ _ _ (Act.put _ (some 26) _) _
  try simp only [act_all]
  refine wpAnyH_take (i := 10) (oi := _) (v := ?_) rfl (by kernel_rfl) (by kernel_rfl) (by kernel_rfl) (fun _ _ _ h => h) (Or.inl ⟨by rfl, ?_⟩) (by assumption) ?_
  rotate_left
  · intro w _; go_simp; (try with_reducible rfl)
  try change wpAnyH _ _ _ _ _ _ _ (Act.put _ (some 27) _) _
  try simp only [act_all]
  refine wpAnyH_take (i := 11) (oi := _) (v := ?_) rfl (by kernel_rfl) (by kernel_rfl) (by kernel_rfl) (fun _ _ _ h => h) (Or.inl ⟨by rfl, ?_⟩) (by assumption) ?_
  rotate_left
  · intro w _; go_simp; (try with_reducible rfl)
  try change wpAnyH _ _ _ _ _ _ _ (Act.put _ (some 28) _) _
  try simp only [act_all]
  refine wpAnyH_take (i := 12) (oi := _) (v := ?_) rfl (by kernel_rfl) (by kernel_rfl) (by kernel_rfl) (fun _ _ _ h => h) (Or.inl ⟨by rfl, ?_⟩) (by assumption) ?_
  rotate_left
  · intro w _; go_simp; (try with_reducible rfl)
  try change wpAnyH _ _ _ _ _ _ _ (Act.put _ (some 29) _) _
  try simp only [act_all]
  refine wpAnyH_ready (rs := [13]) (by kernel_rfl) (by simp) ?_
  refine AllReadyH.cons (o := _) rfl (fun K hK => ?_) AllReadyH.nil
  rw [if_pos (show Region.wanted _ _ = true from rfl)]
  refine wp_store_mid 25 (.tmp 29) (.tmp 26) rfl OB 8 #[.int .i64 a1, .int .i64 b1, .int .i64 c1, .int .i64 d1] rfl rfl HTH.out (by kernel_rfl) (by simp [Value.oneCell']) ?_
  (try rw [show (#[.int .i64 a1, .int .i64 b1, .int .i64 c1, .int .i64 d1] : Array Value).toList = [.int .i64 a1, .int .i64 b1, .int .i64 c1, .int .i64 d1] from rfl])
  refine hK.out _ _ (by exact (hB.block _ (by omega)).trans HVP.out) (fun hHeld => ?_)
  clear hK K
  try simp only [act_all]
  refine wpAnyH_done (by kernel_rfl) ?_ _
  clear hHeld HR
  have HO' : Hid ((V2.drew.setCells OB 8 [.int .i64 a1, .int .i64 b1, .int .i64 c1, .int .i64 d1]).heap[OB]? = some (.cells #[.int .i64 a3, .int .i64 b3, .int .i64 c3, .int .i64 d3, .int .i64 a2, .int .i64 b2, .int .i64 c2, .int .i64 d2, .int .i64 a1, .int .i64 b1, .int .i64 c1, .int .i64 d1, .int .i64 0, .int .i64 0, .int .i64 0, .int .i64 0] 49 (0, 0))) := Lib.hid (block_setCells [.int .i64 a1, .int .i64 b1, .int .i64 c1, .int .i64 d1] 8 _ _ HO.out)
  have HDV' := Lib.hid (HDV.out.trans (hB.mono (by omega)))
  have HVP' := Lib.hid ((hB.block _ (by omega)).trans HVP.out)
  have HVT' := Lib.hid ((hB.block _ (by omega)).trans HVT.out)
  have lO3 : OB < (V2.drew.setCells OB 8 [.int .i64 a1, .int .i64 b1, .int .i64 c1, .int .i64 d1]).heap.size := Nat.lt_of_lt_of_le lO2 hB.size
  clear HO HDV HVP HVT hB HTH
  generalize (V2.drew.setCells OB 8 [.int .i64 a1, .int .i64 b1, .int .i64 c1, .int .i64 d1]) = V3 at *
  obtain ⟨HO, HDV, HVP, HVT⟩ : _ ∧ _ ∧ _ ∧ _ := ⟨HO', HDV', HVP', HVT'⟩
  clear HO' HDV' HVP' HVT'
  go_wp2_with fail
  rw [rounds_succ]
  go_upto_region 10 with fail
  have HR := Lib.hid (range_row HVP.out 0 [.int .i64 a0, .int .i64 b0, .int .i64 c0, .int .i64 d0] (fun j hj => by rcases four_at (by simpa using hj) with rfl | rfl | rfl | rfl <;> rfl))
  have HTH := Lib.hid (there_mid HO.out 12 4 (show 12 + 4 ≤ 16 by decide))
  have hB : Below OB V3 (V3.drew.setCells OB 12 [.int .i64 a0, .int .i64 b0, .int .i64 c0, .int .i64 d0]) := below_mids (Nat.le_refl _) _ _ (Below.refl _ _).drew
  refine wp_region_held_drew (S := fun w' => w'.heap[w.heap.size]? = some (.cells #[.int .i64 a0, .int .i64 b0, .int .i64 c0, .int .i64 d0, .int .i64 a1, .int .i64 b1, .int .i64 c1, .int .i64 d1, .int .i64 a2, .int .i64 b2, .int .i64 c2, .int .i64 d2, .int .i64 a3, .int .i64 b3, .int .i64 c3, .int .i64 d3] 49 (0, 0))) (by kernel_rfl) HVP.out (fun hHeld => ?_)
  refine wpAnyH_take (i := 0) (oi := _) (v := ?_) rfl (by kernel_rfl) (by kernel_rfl) (by kernel_rfl) (fun _ _ _ h => h) (Or.inl ⟨by rfl, ?_⟩) (by assumption) ?_
  rotate_left
  · intro w _; go_simp; (try with_reducible rfl)
  try change wpAnyH _ _ _ _ _ _ _ (Act.put _ (some 17) _) _
  try simp only [act_all]
  refine wpAnyH_take (i := 1) (oi := _) (v := ?_) rfl (by kernel_rfl) (by kernel_rfl) (by kernel_rfl) (fun _ _ _ h => h) (Or.inl ⟨by rfl, ?_⟩) (by assumption) ?_
  rotate_left
  · intro w _; go_simp; (try with_reducible rfl)
  try change wpAnyH _ _ _ _ _ _ _ (Act.put _ (some 18) _) _
  try simp only [act_all]
  refine wpAnyH_take (i := 2) (oi := _) (v := ?_) rfl (by kernel_rfl) (by kernel_rfl) (by kernel_rfl) (fun _ _ _ h => h) (Or.inl ⟨by rfl, ?_⟩) (by assumption) ?_
  rotate_left
  · intro w _; go_simp; (try with_reducible rfl)
  try change wpAnyH _ _ _ _ _ _ _ (Act.put _ (some 19) _) _
  try simp only [act_all]
  refine wpAnyH_take (i := 3) (oi := _) (v := ?_) rfl (by kernel_rfl) (by kernel_rfl) (by kernel_rfl) (fun _ _ _ h => h) (Or.inl ⟨by rfl, ?_⟩) (by assumption) ?_
  rotate_left
  · intro w _; go_simp; (try with_reducible rfl)
  try change wpAnyH _ _ _ _ _ _ _ (Act.put _ (some 20) _) _
  try simp only [act_all]
  refine wpAnyH_take (i := 4) (oi := _) (v := ?_) rfl (by kernel_rfl) (by kernel_rfl) (by kernel_rfl) (fun _ _ _ h => h) (Or.inl ⟨by rfl, ?_⟩) (by assumption) ?_
  rotate_left
  · intro w _; go_simp; (try with_reducible rfl)
  try change wpAnyH _ _ _ _ _ _ _ (Act.put _ (some 21) _) _
  try simp only [act_all]
  refine wpAnyH_take (i := 5) (oi := _) (v := ?_) rfl (by kernel_rfl) (by kernel_rfl) (by kernel_rfl) (fun _ _ _ h => h) (Or.inl ⟨by rfl, ?_⟩) (by assumption) ?_
  rotate_left
  · intro w _; go_simp; (try with_reducible rfl)
  try change wpAnyH _ _ _ _ _ _ _ (Act.put _ (some 22) _) _
  try simp only [act_all]
  refine wpAnyH_take (i := 6) (oi := _) (v := ?_) rfl (by kernel_rfl) (by kernel_rfl) (by kernel_rfl) (fun _ _ _ h => h) (Or.inl ⟨by rfl, ?_⟩) (by assumption) ?_
  rotate_left
  · intro w _; go_simp; (try with_reducible rfl)
  try change wpAnyH _ _ _ _ _ _ _ (Act.put _ (some 23) _) _
  try simp only [act_all]
  refine wpAnyH_take (i := 7) (oi := _) (v := ?_) rfl (by kernel_rfl) (by kernel_rfl) (by kernel_rfl) (fun _ _ _ h => h) (Or.inl ⟨by rfl, ?_⟩) (by assumption) ?_
  rotate_left
  · intro w _; go_simp; (try with_reducible rfl)
  try change wpAnyH _ _ _ _ _ _ _ (Act.put _ (some 24) _) _
  try simp only [act_all]
  refine wpAnyH_take (i := 8) (oi := _) (v := ?_) rfl (by kernel_rfl) (by kernel_rfl) (by kernel_rfl) (fun _ _ _ h => h) (Or.inl ⟨by rfl, ?_⟩) (by assumption) ?_
  rotate_left
  · intro w _; go_simp; (try with_reducible rfl)
  try change wpAnyH _ _ _ _ _ _ _ (Act.put _ (some 25) _) _
  try simp only [act_all]
  refine wpAnyH_take (i := 9) (oi := _) (v := _) rfl (by kernel_rfl) (by kernel_rfl) (by kernel_rfl) (fun _ _ _ h => h) (yieldsIf_load_mid (by rfl) 25 _ rfl (w.heap.size) 0 rfl [.int .i64 a0, .int .i64 b0, .int .i64 c0, .int .i64 d0] _ (fun w' h => range_row h 0 [.int .i64 a0, .int .i64 b0, .int .i64 c0, .int .i64 d0] (fun j hj => by rcases four_at (by simpa using hj) with rfl | rfl | rfl | rfl <;> rfl)) Try.underlying25 rfl (by kernel_rfl)) (by assumption) ?_
  try change wpAnyH _ _ _ _ _ _ _ (Act.put _ (some 26) _) _
  try simp only [act_all]
  refine wpAnyH_take (i := 10) (oi := _) (v := ?_) rfl (by kernel_rfl) (by kernel_rfl) (by kernel_rfl) (fun _ _ _ h => h) (Or.inl ⟨by rfl, ?_⟩) (by assumption) ?_
  rotate_left
  · intro w _; go_simp; (try with_reducible rfl)
  try change wpAnyH _ _ _ _ _ _ _ (Act.put _ (some 27) _) _
  try simp only [act_all]
  refine wpAnyH_take (i := 11) (oi := _) (v := ?_) rfl (by kernel_rfl) (by kernel_rfl) (by kernel_rfl) (fun _ _ _ h => h) (Or.inl ⟨by rfl, ?_⟩) (by assumption) ?_
  rotate_left
  · intro w _; go_simp; (try with_reducible rfl)
  try change wpAnyH _ _ _ _ _ _ _ (Act.put _ (some 28) _) _
  try simp only [act_all]
  refine wpAnyH_take (i := 12) (oi := _) (v := ?_) rfl (by kernel_rfl) (by kernel_rfl) (by kernel_rfl) (fun _ _ _ h => h) (Or.inl ⟨by rfl, ?_⟩) (by assumption) ?_
  rotate_left
  · intro w _; go_simp; (try with_reducible rfl)
  try change wpAnyH _ _ _ _ _ _ _ (Act.put _ (some 29) _) _
  try simp only [act_all]
  refine wpAnyH_ready (rs := [13]) (by kernel_rfl) (by simp) ?_
  refine AllReadyH.cons (o := _) rfl (fun K hK => ?_) AllReadyH.nil
  rw [if_pos (show Region.wanted _ _ = true from rfl)]
  refine wp_store_mid 25 (.tmp 29) (.tmp 26) rfl OB 12 #[.int .i64 a0, .int .i64 b0, .int .i64 c0, .int .i64 d0] rfl rfl HTH.out (by kernel_rfl) (by simp [Value.oneCell']) ?_
  (try rw [show (#[.int .i64 a0, .int .i64 b0, .int .i64 c0, .int .i64 d0] : Array Value).toList = [.int .i64 a0, .int .i64 b0, .int .i64 c0, .int .i64 d0] from rfl])
  refine hK.out _ _ (by exact (hB.block _ (by omega)).trans HVP.out) (fun hHeld => ?_)
  clear hK K
  try simp only [act_all]
  refine wpAnyH_done (by kernel_rfl) ?_ _
  clear hHeld HR
  have HO' : Hid ((V3.drew.setCells OB 12 [.int .i64 a0, .int .i64 b0, .int .i64 c0, .int .i64 d0]).heap[OB]? = some (.cells #[.int .i64 a3, .int .i64 b3, .int .i64 c3, .int .i64 d3, .int .i64 a2, .int .i64 b2, .int .i64 c2, .int .i64 d2, .int .i64 a1, .int .i64 b1, .int .i64 c1, .int .i64 d1, .int .i64 a0, .int .i64 b0, .int .i64 c0, .int .i64 d0] 49 (0, 0))) := Lib.hid (block_setCells [.int .i64 a0, .int .i64 b0, .int .i64 c0, .int .i64 d0] 12 _ _ HO.out)
  have HDV' := Lib.hid (HDV.out.trans (hB.mono (by omega)))
  have HVP' := Lib.hid ((hB.block _ (by omega)).trans HVP.out)
  have HVT' := Lib.hid ((hB.block _ (by omega)).trans HVT.out)
  have lO4 : OB < (V3.drew.setCells OB 12 [.int .i64 a0, .int .i64 b0, .int .i64 c0, .int .i64 d0]).heap.size := Nat.lt_of_lt_of_le lO3 hB.size
  clear HO HDV HVP HVT hB HTH
  generalize (V3.drew.setCells OB 12 [.int .i64 a0, .int .i64 b0, .int .i64 c0, .int .i64 d0]) = V4 at *
  obtain ⟨HO, HDV, HVP, HVT⟩ : _ ∧ _ ∧ _ ∧ _ := ⟨HO', HDV', HVP', HVT'⟩
  clear HO' HDV' HVP' HVT'
  go_wp2_with fail
  rw [rounds_succ]
  go_wp2_with fail
  rw [rounds_succ]
  have HTH := Lib.hid (there_row HVT.out 16 (Nat.le_refl _))
  have HDF := HDV
  have HRO := Lib.hid (range_row HO.out 0 [.int .i64 a3, .int .i64 b3, .int .i64 c3, .int .i64 d3, .int .i64 a2, .int .i64 b2, .int .i64 c2, .int .i64 d2, .int .i64 a1, .int .i64 b1, .int .i64 c1, .int .i64 d1, .int .i64 a0, .int .i64 b0, .int .i64 c0, .int .i64 d0] (fun j hj => by simp only [Nat.zero_add, List.getElem?_toArray]))
  go_upto_region 13 with fail
  refine wp_region_lit ?_
  refine wpList_load_mid rfl 49 (.tmp 4) rfl OB 0 rfl [.int .i64 a3, .int .i64 b3, .int .i64 c3, .int .i64 d3, .int .i64 a2, .int .i64 b2, .int .i64 c2, .int .i64 d2, .int .i64 a1, .int .i64 b1, .int .i64 c1, .int .i64 d1, .int .i64 a0, .int .i64 b0, .int .i64 c0, .int .i64 d0] _ HRO.out Try.underlying49 rfl (by kernel_rfl) ?_
  refine wpList_store_mid rfl 49 (.tmp 2) (.tmp 32) rfl (w.heap.size + 1) 0 #[.int .i64 a3, .int .i64 b3, .int .i64 c3, .int .i64 d3, .int .i64 a2, .int .i64 b2, .int .i64 c2, .int .i64 d2, .int .i64 a1, .int .i64 b1, .int .i64 c1, .int .i64 d1, .int .i64 a0, .int .i64 b0, .int .i64 c0, .int .i64 d0] rfl rfl HTH.out (by kernel_rfl) (by simp [Value.oneCell']) ?_
  have hload : (V4.setCells (w.heap.size + 1) 0 [.int .i64 a3, .int .i64 b3, .int .i64 c3, .int .i64 d3, .int .i64 a2, .int .i64 b2, .int .i64 c2, .int .i64 d2, .int .i64 a1, .int .i64 b1, .int .i64 c1, .int .i64 d1, .int .i64 a0, .int .i64 b0, .int .i64 c0, .int .i64 d0]).rangeAt (w.heap.size + 1) 0 [.int .i64 a3, .int .i64 b3, .int .i64 c3, .int .i64 d3, .int .i64 a2, .int .i64 b2, .int .i64 c2, .int .i64 d2, .int .i64 a1, .int .i64 b1, .int .i64 c1, .int .i64 d1, .int .i64 a0, .int .i64 b0, .int .i64 c0, .int .i64 d0] := World.rangeAt_setCells_same V4 _ _ _ HTH.out
  have DZ : Below w.heap.size w (V4.setCells (w.heap.size + 1) 0 [.int .i64 a3, .int .i64 b3, .int .i64 c3, .int .i64 d3, .int .i64 a2, .int .i64 b2, .int .i64 c2, .int .i64 d2, .int .i64 a1, .int .i64 b1, .int .i64 c1, .int .i64 d1, .int .i64 a0, .int .i64 b0, .int .i64 c0, .int .i64 d0]) := below_mids (by omega) _ _ HDF.out
  (try rw [show (#[.int .i64 a3, .int .i64 b3, .int .i64 c3, .int .i64 d3, .int .i64 a2, .int .i64 b2, .int .i64 c2, .int .i64 d2, .int .i64 a1, .int .i64 b1, .int .i64 c1, .int .i64 d1, .int .i64 a0, .int .i64 b0, .int .i64 c0, .int .i64 d0] : Array Value).toList = [.int .i64 a3, .int .i64 b3, .int .i64 c3, .int .i64 d3, .int .i64 a2, .int .i64 b2, .int .i64 c2, .int .i64 d2, .int .i64 a1, .int .i64 b1, .int .i64 c1, .int .i64 d1, .int .i64 a0, .int .i64 b0, .int .i64 c0, .int .i64 d0] from rfl])
  generalize V4.setCells (w.heap.size + 1) 0 [.int .i64 a3, .int .i64 b3, .int .i64 c3, .int .i64 d3, .int .i64 a2, .int .i64 b2, .int .i64 c2, .int .i64 d2, .int .i64 a1, .int .i64 b1, .int .i64 c1, .int .i64 d1, .int .i64 a0, .int .i64 b0, .int .i64 c0, .int .i64 d0] = W3 at *
  have HL := Lib.hid hload
  clear hload HTH HDF
  refine wpList_step (fun K hK => ?_); go_simp; refine hK _ _ ?_; clear hK K
  refine wpList_nil ?_
  refine (‹∀ (a : Act) (w : World), Code.wp Try.prog Code.ret _ a w → _› _ _ ?_)
  apply wp_ret
  obtain ⟨q0, q1, q2, q3, q4, q5, q6, q7, q8, q9, q10, q11, q12, q13, q14, q15⟩ : (W3.cell? ⟨w.heap.size + 1, 0, none⟩ = some (.int .i64 a3) ∧ W3.cell? ⟨w.heap.size + 1, 1, none⟩ = some (.int .i64 b3) ∧ W3.cell? ⟨w.heap.size + 1, 2, none⟩ = some (.int .i64 c3) ∧ W3.cell? ⟨w.heap.size + 1, 3, none⟩ = some (.int .i64 d3) ∧ W3.cell? ⟨w.heap.size + 1, 4, none⟩ = some (.int .i64 a2) ∧ W3.cell? ⟨w.heap.size + 1, 5, none⟩ = some (.int .i64 b2) ∧ W3.cell? ⟨w.heap.size + 1, 6, none⟩ = some (.int .i64 c2) ∧ W3.cell? ⟨w.heap.size + 1, 7, none⟩ = some (.int .i64 d2) ∧ W3.cell? ⟨w.heap.size + 1, 8, none⟩ = some (.int .i64 a1) ∧ W3.cell? ⟨w.heap.size + 1, 9, none⟩ = some (.int .i64 b1) ∧ W3.cell? ⟨w.heap.size + 1, 10, none⟩ = some (.int .i64 c1) ∧ W3.cell? ⟨w.heap.size + 1, 11, none⟩ = some (.int .i64 d1) ∧ W3.cell? ⟨w.heap.size + 1, 12, none⟩ = some (.int .i64 a0) ∧ W3.cell? ⟨w.heap.size + 1, 13, none⟩ = some (.int .i64 b0) ∧ W3.cell? ⟨w.heap.size + 1, 14, none⟩ = some (.int .i64 c0) ∧ W3.cell? ⟨w.heap.size + 1, 15, none⟩ = some (.int .i64 d0)) := by
    have h := HL.out
    refine ⟨by have h1 := h 0 _ rfl; rwa [Nat.zero_add] at h1, by have h1 := h 1 _ rfl; rwa [Nat.zero_add] at h1, by have h1 := h 2 _ rfl; rwa [Nat.zero_add] at h1, by have h1 := h 3 _ rfl; rwa [Nat.zero_add] at h1, by have h1 := h 4 _ rfl; rwa [Nat.zero_add] at h1, by have h1 := h 5 _ rfl; rwa [Nat.zero_add] at h1, by have h1 := h 6 _ rfl; rwa [Nat.zero_add] at h1, by have h1 := h 7 _ rfl; rwa [Nat.zero_add] at h1, by have h1 := h 8 _ rfl; rwa [Nat.zero_add] at h1, by have h1 := h 9 _ rfl; rwa [Nat.zero_add] at h1, by have h1 := h 10 _ rfl; rwa [Nat.zero_add] at h1, by have h1 := h 11 _ rfl; rwa [Nat.zero_add] at h1, by have h1 := h 12 _ rfl; rwa [Nat.zero_add] at h1, by have h1 := h 13 _ rfl; rwa [Nat.zero_add] at h1, by have h1 := h 14 _ rfl; rwa [Nat.zero_add] at h1, by have h1 := h 15 _ rfl; rwa [Nat.zero_add] at h1⟩
  refine bodyPost_ret (v := .tuple #[.agg #[.int .i64 a3, .int .i64 b3, .int .i64 c3, .int .i64 d3, .int .i64 a2, .int .i64 b2, .int .i64 c2, .int .i64 d2, .int .i64 a1, .int .i64 b1, .int .i64 c1, .int .i64 d1, .int .i64 a0, .int .i64 b0, .int .i64 c0, .int .i64 d0], .int .i64 0]) (by simp [results, Try.results46, go_sem, q0, q1, q2, q3, q4, q5, q6, q7, q8, q9, q10, q11, q12, q13, q14, q15]) rfl ⟨rfl, DZ⟩
theorem rMirror_any (a0 b0 c0 d0 a1 b1 c1 d1 a2 b2 c2 d2 a3 b3 c3 d3 : Int) (w : World) :
    Calls Try.prog 46 #[.agg #[.int .i64 a0, .int .i64 b0, .int .i64 c0, .int .i64 d0, .int .i64 a1, .int .i64 b1, .int .i64 c1, .int .i64 d1, .int .i64 a2, .int .i64 b2, .int .i64 c2, .int .i64 d2, .int .i64 a3, .int .i64 b3, .int .i64 c3, .int .i64 d3]] w fun e w' => e = OutO (mirO ⟨⟨a0, b0⟩, ⟨c0, d0⟩⟩ ⟨⟨a1, b1⟩, ⟨c1, d1⟩⟩ ⟨⟨a2, b2⟩, ⟨c2, d2⟩⟩ ⟨⟨a3, b3⟩, ⟨c3, d3⟩⟩) ∧ Below w.heap.size w w' := by
  cases h : okP ⟨⟨a0, b0⟩, ⟨c0, d0⟩⟩ ⟨⟨a1, b1⟩, ⟨c1, d1⟩⟩ ⟨⟨a2, b2⟩, ⟨c2, d2⟩⟩ ⟨⟨a3, b3⟩, ⟨c3, d3⟩⟩ with
  | true =>
    rw [show mirO ⟨⟨a0, b0⟩, ⟨c0, d0⟩⟩ ⟨⟨a1, b1⟩, ⟨c1, d1⟩⟩ ⟨⟨a2, b2⟩, ⟨c2, d2⟩⟩ ⟨⟨a3, b3⟩, ⟨c3, d3⟩⟩ = .ok ⟨⟨⟨a3, b3⟩, ⟨c3, d3⟩⟩, ⟨⟨a2, b2⟩, ⟨c2, d2⟩⟩, ⟨⟨a1, b1⟩, ⟨c1, d1⟩⟩, ⟨⟨a0, b0⟩, ⟨c0, d0⟩⟩⟩ by unfold mirO; rw [if_pos h]]
    exact rMirror_ok a0 b0 c0 d0 a1 b1 c1 d1 a2 b2 c2 d2 a3 b3 c3 d3 w h
  | false =>
    rw [show mirO ⟨⟨a0, b0⟩, ⟨c0, d0⟩⟩ ⟨⟨a1, b1⟩, ⟨c1, d1⟩⟩ ⟨⟨a2, b2⟩, ⟨c2, d2⟩⟩ ⟨⟨a3, b3⟩, ⟨c3, d3⟩⟩ = .bad 50 by unfold mirO; rw [if_neg (by rw [h]; decide)]]
    exact rMirror_no a0 b0 c0 d0 a1 b1 c1 d1 a2 b2 c2 d2 a3 b3 c3 d3 w h
end Go.Proofs.Ytgbnpnenejgnnaa
