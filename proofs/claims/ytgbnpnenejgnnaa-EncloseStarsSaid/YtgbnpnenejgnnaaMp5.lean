import Derived.Test.YtgbnpnenejgnnaaPp5
import Derived.Test.YtgbnpnenejgnnaaMs5
import Derived.Deep.MidRow
namespace Encl
def mirO (p q r s : Rc) : Out Po := if okP p q r s = true then .ok ⟨s, r, q, p⟩ else .bad 50
end Encl
namespace Go.Proofs.Ytgbnpnenejgnnaa
open Go.RowKit Encl
/-- What comes back with a two-port. -/
def OutO : Out Po → Ending
  | .ok x => .returned (.tuple #[.agg #[.int .i64 x.a.re.lo, .int .i64 x.a.re.hi, .int .i64 x.a.im.lo, .int .i64 x.a.im.hi, .int .i64 x.b.re.lo, .int .i64 x.b.re.hi, .int .i64 x.b.im.lo, .int .i64 x.b.im.hi, .int .i64 x.c.re.lo, .int .i64 x.c.re.hi, .int .i64 x.c.im.lo, .int .i64 x.c.im.hi, .int .i64 x.d.re.lo, .int .i64 x.d.re.hi, .int .i64 x.d.im.lo, .int .i64 x.d.im.hi], .int .i64 0])
  | .bad k => .returned (.tuple #[.agg #[.int .i64 0, .int .i64 0, .int .i64 0, .int .i64 0, .int .i64 0, .int .i64 0, .int .i64 0, .int .i64 0, .int .i64 0, .int .i64 0, .int .i64 0, .int .i64 0, .int .i64 0, .int .i64 0, .int .i64 0, .int .i64 0], .int .i64 k])
theorem below_mids {B g : Nat} (hg : B ≤ g) : ∀ (vs : List Value) (o : Nat) {a w : World}, Below B a w → Below B a (w.setCells g o vs)
  | [], _, _, _, h => h
  | v :: r, o, _, _, h => below_mids hg r (o + 1) (h.setCell (p := ⟨g, o, none⟩) hg v)
/-- A part of a block that is known whole. -/
theorem range_row {w : World} {b : Nat} {cs : Array Value} {t : TypeId} (h : w.heap[b]? = some (.cells cs t (0, 0))) (o : Nat) (l : List Value) (hl : ∀ j, j < l.length → cs[o + j]? = l[j]?) : w.rangeAt b o l := fun j v hv => by
  rw [cell_of_row _ _ _ _ _ (0, 0) h, hl j (List.getElem?_eq_some_iff.1 hv).1, hv]
theorem there_row {w : World} {b : Nat} {cs : Array Value} {t : TypeId} (h : w.heap[b]? = some (.cells cs t (0, 0))) (n : Nat) (hn : n ≤ cs.size) : w.there b 0 n := fun j hj => by
  refine ⟨?_, ?_⟩
  · rw [cell_of_row _ _ _ _ _ (0, 0) h, Nat.zero_add, Array.getElem?_eq_getElem (by omega)]; rfl
  · unfold World.frozen?; simp [h]
set_option maxRecDepth 100000 in
set_option maxHeartbeats 8000000 in
theorem eMirror_ok (a0 b0 c0 d0 a1 b1 c1 d1 a2 b2 c2 d2 a3 b3 c3 d3 : Int) (w : World) (hok : okP ⟨⟨a0, b0⟩, ⟨c0, d0⟩⟩ ⟨⟨a1, b1⟩, ⟨c1, d1⟩⟩ ⟨⟨a2, b2⟩, ⟨c2, d2⟩⟩ ⟨⟨a3, b3⟩, ⟨c3, d3⟩⟩ = true) :
    Calls Try.prog 45 #[.agg #[.int .i64 a0, .int .i64 b0, .int .i64 c0, .int .i64 d0, .int .i64 a1, .int .i64 b1, .int .i64 c1, .int .i64 d1, .int .i64 a2, .int .i64 b2, .int .i64 c2, .int .i64 d2, .int .i64 a3, .int .i64 b3, .int .i64 c3, .int .i64 d3]] w fun e w' => e = .returned (.tuple #[.agg #[.int .i64 a3, .int .i64 b3, .int .i64 c3, .int .i64 d3, .int .i64 a2, .int .i64 b2, .int .i64 c2, .int .i64 d2, .int .i64 a1, .int .i64 b1, .int .i64 c1, .int .i64 d1, .int .i64 a0, .int .i64 b0, .int .i64 c0, .int .i64 d0], .int .i64 0]) ∧ Below w.heap.size w w' := by
  have HBB := Lib.hid hok
  clear hok
  go_enter Try.func45, Try.ntmps45
  go_wp2_with fail
  refine (eValidPort_any a0 b0 c0 d0 a1 b1 c1 d1 a2 b2 c2 d2 a3 b3 c3 d3 _).mono ?_
  rw [HBB.out]
  rintro e w1 ⟨rfl, hb⟩
  have D1 : Below w.heap.size w w1 := Below.trans (by go_grown) (hb.mono (by first | omega | (simp; done) | (simp; omega)))
  have hp : w1.heap[w.heap.size]? = some (.cells #[.int .i64 a0, .int .i64 b0, .int .i64 c0, .int .i64 d0, .int .i64 a1, .int .i64 b1, .int .i64 c1, .int .i64 d1, .int .i64 a2, .int .i64 b2, .int .i64 c2, .int .i64 d2, .int .i64 a3, .int .i64 b3, .int .i64 c3, .int .i64 d3] 49 (0, 0)) := (hb.block _ (by first | omega | (simp; done) | (simp; omega))).trans ((Below.heap_alloc _ _ _ (by simp)).trans (heap_alloc_new w _))
  have hr : w1.heap[w.heap.size + 1]? = some (.cells #[.int .i64 0, .int .i64 0, .int .i64 0, .int .i64 0, .int .i64 0, .int .i64 0, .int .i64 0, .int .i64 0, .int .i64 0, .int .i64 0, .int .i64 0, .int .i64 0, .int .i64 0, .int .i64 0, .int .i64 0, .int .i64 0] 49 (0, 0)) := (hb.block _ (by first | omega | (simp; done) | (simp; omega))).trans (by
    have h := heap_alloc_new (w.alloc (.cells #[.int .i64 a0, .int .i64 b0, .int .i64 c0, .int .i64 d0, .int .i64 a1, .int .i64 b1, .int .i64 c1, .int .i64 d1, .int .i64 a2, .int .i64 b2, .int .i64 c2, .int .i64 d2, .int .i64 a3, .int .i64 b3, .int .i64 c3, .int .i64 d3] 49)) (.cells #[.int .i64 0, .int .i64 0, .int .i64 0, .int .i64 0, .int .i64 0, .int .i64 0, .int .i64 0, .int .i64 0, .int .i64 0, .int .i64 0, .int .i64 0, .int .i64 0, .int .i64 0, .int .i64 0, .int .i64 0, .int .i64 0] 49)
    rwa [World.size_alloc] at h)
  have HR0 := Lib.hid (range_row hp 0 [.int .i64 a0, .int .i64 b0, .int .i64 c0, .int .i64 d0] (fun j hj => by
    have : j = 0 ∨ j = 1 ∨ j = 2 ∨ j = 3 := by simp at hj; omega
    rcases this with rfl | rfl | rfl | rfl <;> rfl))
  have HR1 := Lib.hid (range_row hp 4 [.int .i64 a1, .int .i64 b1, .int .i64 c1, .int .i64 d1] (fun j hj => by
    have : j = 0 ∨ j = 1 ∨ j = 2 ∨ j = 3 := by simp at hj; omega
    rcases this with rfl | rfl | rfl | rfl <;> rfl))
  have HR2 := Lib.hid (range_row hp 8 [.int .i64 a2, .int .i64 b2, .int .i64 c2, .int .i64 d2] (fun j hj => by
    have : j = 0 ∨ j = 1 ∨ j = 2 ∨ j = 3 := by simp at hj; omega
    rcases this with rfl | rfl | rfl | rfl <;> rfl))
  have HR3 := Lib.hid (range_row hp 12 [.int .i64 a3, .int .i64 b3, .int .i64 c3, .int .i64 d3] (fun j hj => by
    have : j = 0 ∨ j = 1 ∨ j = 2 ∨ j = 3 := by simp at hj; omega
    rcases this with rfl | rfl | rfl | rfl <;> rfl))
  have HTH := Lib.hid (there_row hr 16 (Nat.le_refl _))
  have HD := Lib.hid D1
  clear hb hp hr D1
  go_upto_region 3 with fail
  refine wp_region_lit ?_
  refine wpList_step (fun K hK => ?_); go_simp; refine hK _ _ ?_; clear hK K
  refine wpList_step (fun K hK => ?_); go_simp; refine hK _ _ ?_; clear hK K
  refine wpList_step (fun K hK => ?_); go_simp; refine hK _ _ ?_; clear hK K
  (refine wpList_load_mid rfl 25 (.tmp 10) rfl w.heap.size 12 rfl [.int .i64 a3, .int .i64 b3, .int .i64 c3, .int .i64 d3] _ HR3.out Try.underlying25 rfl (by kernel_rfl) ?_)
  refine wpList_step (fun K hK => ?_); go_simp; refine hK _ _ ?_; clear hK K
  refine wpList_step (fun K hK => ?_); go_simp; refine hK _ _ ?_; clear hK K
  refine wpList_step (fun K hK => ?_); go_simp; refine hK _ _ ?_; clear hK K
  (refine wpList_load_mid rfl 25 (.tmp 14) rfl w.heap.size 8 rfl [.int .i64 a2, .int .i64 b2, .int .i64 c2, .int .i64 d2] _ HR2.out Try.underlying25 rfl (by kernel_rfl) ?_)
  refine wpList_step (fun K hK => ?_); go_simp; refine hK _ _ ?_; clear hK K
  refine wpList_step (fun K hK => ?_); go_simp; refine hK _ _ ?_; clear hK K
  refine wpList_step (fun K hK => ?_); go_simp; refine hK _ _ ?_; clear hK K
  refine wpList_step (fun K hK => ?_); go_simp; refine hK _ _ ?_; clear hK K
  (refine wpList_load_mid rfl 25 (.tmp 19) rfl w.heap.size 4 rfl [.int .i64 a1, .int .i64 b1, .int .i64 c1, .int .i64 d1] _ HR1.out Try.underlying25 rfl (by kernel_rfl) ?_)
  refine wpList_step (fun K hK => ?_); go_simp; refine hK _ _ ?_; clear hK K
  refine wpList_step (fun K hK => ?_); go_simp; refine hK _ _ ?_; clear hK K
  refine wpList_step (fun K hK => ?_); go_simp; refine hK _ _ ?_; clear hK K
  (refine wpList_load_mid rfl 25 (.tmp 23) rfl w.heap.size 0 rfl [.int .i64 a0, .int .i64 b0, .int .i64 c0, .int .i64 d0] _ HR0.out Try.underlying25 rfl (by kernel_rfl) ?_)
  refine wpList_step (fun K hK => ?_); go_simp; refine hK _ _ ?_; clear hK K
  refine wpList_step (fun K hK => ?_); go_simp; refine hK _ _ ?_; clear hK K
  refine wpList_step (fun K hK => ?_); go_simp; refine hK _ _ ?_; clear hK K
  (refine wpList_store_mid rfl 49 (.tmp 2) (.tmp 27) rfl (w.heap.size + 1) 0 #[.int .i64 a3, .int .i64 b3, .int .i64 c3, .int .i64 d3, .int .i64 a2, .int .i64 b2, .int .i64 c2, .int .i64 d2, .int .i64 a1, .int .i64 b1, .int .i64 c1, .int .i64 d1, .int .i64 a0, .int .i64 b0, .int .i64 c0, .int .i64 d0] rfl rfl HTH.out (by kernel_rfl) (by simp [Value.oneCell']) ?_)
  have hload : (w1.setCells (w.heap.size + 1) 0 [.int .i64 a3, .int .i64 b3, .int .i64 c3, .int .i64 d3, .int .i64 a2, .int .i64 b2, .int .i64 c2, .int .i64 d2, .int .i64 a1, .int .i64 b1, .int .i64 c1, .int .i64 d1, .int .i64 a0, .int .i64 b0, .int .i64 c0, .int .i64 d0]).rangeAt (w.heap.size + 1) 0 [.int .i64 a3, .int .i64 b3, .int .i64 c3, .int .i64 d3, .int .i64 a2, .int .i64 b2, .int .i64 c2, .int .i64 d2, .int .i64 a1, .int .i64 b1, .int .i64 c1, .int .i64 d1, .int .i64 a0, .int .i64 b0, .int .i64 c0, .int .i64 d0] := World.rangeAt_setCells_same w1 _ _ _ HTH.out
  have DZ : Below w.heap.size w (w1.setCells (w.heap.size + 1) 0 [.int .i64 a3, .int .i64 b3, .int .i64 c3, .int .i64 d3, .int .i64 a2, .int .i64 b2, .int .i64 c2, .int .i64 d2, .int .i64 a1, .int .i64 b1, .int .i64 c1, .int .i64 d1, .int .i64 a0, .int .i64 b0, .int .i64 c0, .int .i64 d0]) := below_mids (by omega) _ _ HD.out
  (try rw [show (#[.int .i64 a3, .int .i64 b3, .int .i64 c3, .int .i64 d3, .int .i64 a2, .int .i64 b2, .int .i64 c2, .int .i64 d2, .int .i64 a1, .int .i64 b1, .int .i64 c1, .int .i64 d1, .int .i64 a0, .int .i64 b0, .int .i64 c0, .int .i64 d0] : Array Value).toList = [.int .i64 a3, .int .i64 b3, .int .i64 c3, .int .i64 d3, .int .i64 a2, .int .i64 b2, .int .i64 c2, .int .i64 d2, .int .i64 a1, .int .i64 b1, .int .i64 c1, .int .i64 d1, .int .i64 a0, .int .i64 b0, .int .i64 c0, .int .i64 d0] from rfl])
  generalize w1.setCells (w.heap.size + 1) 0 [.int .i64 a3, .int .i64 b3, .int .i64 c3, .int .i64 d3, .int .i64 a2, .int .i64 b2, .int .i64 c2, .int .i64 d2, .int .i64 a1, .int .i64 b1, .int .i64 c1, .int .i64 d1, .int .i64 a0, .int .i64 b0, .int .i64 c0, .int .i64 d0] = W3 at *
  have HL := Lib.hid hload
  clear hload HTH HD
  refine wpList_step (fun K hK => ?_); go_simp; refine hK _ _ ?_; clear hK K
  refine wpList_nil ?_
  go_wp2_with fail
  obtain ⟨q0, q1, q2, q3, q4, q5, q6, q7, q8, q9, q10, q11, q12, q13, q14, q15⟩ : (W3.cell? ⟨w.heap.size + 1, 0, none⟩ = some (.int .i64 a3) ∧ W3.cell? ⟨w.heap.size + 1, 1, none⟩ = some (.int .i64 b3) ∧ W3.cell? ⟨w.heap.size + 1, 2, none⟩ = some (.int .i64 c3) ∧ W3.cell? ⟨w.heap.size + 1, 3, none⟩ = some (.int .i64 d3) ∧ W3.cell? ⟨w.heap.size + 1, 4, none⟩ = some (.int .i64 a2) ∧ W3.cell? ⟨w.heap.size + 1, 5, none⟩ = some (.int .i64 b2) ∧ W3.cell? ⟨w.heap.size + 1, 6, none⟩ = some (.int .i64 c2) ∧ W3.cell? ⟨w.heap.size + 1, 7, none⟩ = some (.int .i64 d2) ∧ W3.cell? ⟨w.heap.size + 1, 8, none⟩ = some (.int .i64 a1) ∧ W3.cell? ⟨w.heap.size + 1, 9, none⟩ = some (.int .i64 b1) ∧ W3.cell? ⟨w.heap.size + 1, 10, none⟩ = some (.int .i64 c1) ∧ W3.cell? ⟨w.heap.size + 1, 11, none⟩ = some (.int .i64 d1) ∧ W3.cell? ⟨w.heap.size + 1, 12, none⟩ = some (.int .i64 a0) ∧ W3.cell? ⟨w.heap.size + 1, 13, none⟩ = some (.int .i64 b0) ∧ W3.cell? ⟨w.heap.size + 1, 14, none⟩ = some (.int .i64 c0) ∧ W3.cell? ⟨w.heap.size + 1, 15, none⟩ = some (.int .i64 d0)) := by
    have h := HL.out
    refine ⟨by have h1 := h 0 _ rfl; rwa [Nat.zero_add] at h1, by have h1 := h 1 _ rfl; rwa [Nat.zero_add] at h1, by have h1 := h 2 _ rfl; rwa [Nat.zero_add] at h1, by have h1 := h 3 _ rfl; rwa [Nat.zero_add] at h1, by have h1 := h 4 _ rfl; rwa [Nat.zero_add] at h1, by have h1 := h 5 _ rfl; rwa [Nat.zero_add] at h1, by have h1 := h 6 _ rfl; rwa [Nat.zero_add] at h1, by have h1 := h 7 _ rfl; rwa [Nat.zero_add] at h1, by have h1 := h 8 _ rfl; rwa [Nat.zero_add] at h1, by have h1 := h 9 _ rfl; rwa [Nat.zero_add] at h1, by have h1 := h 10 _ rfl; rwa [Nat.zero_add] at h1, by have h1 := h 11 _ rfl; rwa [Nat.zero_add] at h1, by have h1 := h 12 _ rfl; rwa [Nat.zero_add] at h1, by have h1 := h 13 _ rfl; rwa [Nat.zero_add] at h1, by have h1 := h 14 _ rfl; rwa [Nat.zero_add] at h1, by have h1 := h 15 _ rfl; rwa [Nat.zero_add] at h1⟩
  refine bodyPost_ret (v := .tuple #[.agg #[.int .i64 a3, .int .i64 b3, .int .i64 c3, .int .i64 d3, .int .i64 a2, .int .i64 b2, .int .i64 c2, .int .i64 d2, .int .i64 a1, .int .i64 b1, .int .i64 c1, .int .i64 d1, .int .i64 a0, .int .i64 b0, .int .i64 c0, .int .i64 d0], .int .i64 0]) (by simp [results, Try.results45, go_sem, q0, q1, q2, q3, q4, q5, q6, q7, q8, q9, q10, q11, q12, q13, q14, q15]) rfl ⟨rfl, DZ⟩
set_option maxRecDepth 100000 in
set_option maxHeartbeats 8000000 in
theorem eMirror_no (a0 b0 c0 d0 a1 b1 c1 d1 a2 b2 c2 d2 a3 b3 c3 d3 : Int) (w : World) (hok : okP ⟨⟨a0, b0⟩, ⟨c0, d0⟩⟩ ⟨⟨a1, b1⟩, ⟨c1, d1⟩⟩ ⟨⟨a2, b2⟩, ⟨c2, d2⟩⟩ ⟨⟨a3, b3⟩, ⟨c3, d3⟩⟩ = false) :
    Calls Try.prog 45 #[.agg #[.int .i64 a0, .int .i64 b0, .int .i64 c0, .int .i64 d0, .int .i64 a1, .int .i64 b1, .int .i64 c1, .int .i64 d1, .int .i64 a2, .int .i64 b2, .int .i64 c2, .int .i64 d2, .int .i64 a3, .int .i64 b3, .int .i64 c3, .int .i64 d3]] w fun e w' => e = .returned (.tuple #[.agg #[.int .i64 0, .int .i64 0, .int .i64 0, .int .i64 0, .int .i64 0, .int .i64 0, .int .i64 0, .int .i64 0, .int .i64 0, .int .i64 0, .int .i64 0, .int .i64 0, .int .i64 0, .int .i64 0, .int .i64 0, .int .i64 0], .int .i64 50]) ∧ Below w.heap.size w w' := by
  have HBB := Lib.hid hok
  clear hok
  go_enter Try.func45, Try.ntmps45
  go_wp2_with fail
  refine (eValidPort_any a0 b0 c0 d0 a1 b1 c1 d1 a2 b2 c2 d2 a3 b3 c3 d3 _).mono ?_
  rw [HBB.out]
  rintro e w1 ⟨rfl, hb⟩
  have D1 : Below w.heap.size w w1 := Below.trans (by go_grown) (hb.mono (by first | omega | (simp; done) | (simp; omega)))
  have hp : w1.heap[w.heap.size]? = some (.cells #[.int .i64 a0, .int .i64 b0, .int .i64 c0, .int .i64 d0, .int .i64 a1, .int .i64 b1, .int .i64 c1, .int .i64 d1, .int .i64 a2, .int .i64 b2, .int .i64 c2, .int .i64 d2, .int .i64 a3, .int .i64 b3, .int .i64 c3, .int .i64 d3] 49 (0, 0)) := (hb.block _ (by first | omega | (simp; done) | (simp; omega))).trans ((Below.heap_alloc _ _ _ (by simp)).trans (heap_alloc_new w _))
  have hr : w1.heap[w.heap.size + 1]? = some (.cells #[.int .i64 0, .int .i64 0, .int .i64 0, .int .i64 0, .int .i64 0, .int .i64 0, .int .i64 0, .int .i64 0, .int .i64 0, .int .i64 0, .int .i64 0, .int .i64 0, .int .i64 0, .int .i64 0, .int .i64 0, .int .i64 0] 49 (0, 0)) := (hb.block _ (by first | omega | (simp; done) | (simp; omega))).trans (by
    have h := heap_alloc_new (w.alloc (.cells #[.int .i64 a0, .int .i64 b0, .int .i64 c0, .int .i64 d0, .int .i64 a1, .int .i64 b1, .int .i64 c1, .int .i64 d1, .int .i64 a2, .int .i64 b2, .int .i64 c2, .int .i64 d2, .int .i64 a3, .int .i64 b3, .int .i64 c3, .int .i64 d3] 49)) (.cells #[.int .i64 0, .int .i64 0, .int .i64 0, .int .i64 0, .int .i64 0, .int .i64 0, .int .i64 0, .int .i64 0, .int .i64 0, .int .i64 0, .int .i64 0, .int .i64 0, .int .i64 0, .int .i64 0, .int .i64 0, .int .i64 0] 49)
    rwa [World.size_alloc] at h)
  have HTH := Lib.hid (there_row hr 16 (Nat.le_refl _))
  have HD := Lib.hid D1
  clear hb hp hr D1
  go_upto_region 2 with fail
  refine wp_region_lit ?_
  refine wpList_step (fun K hK => ?_); go_simp; refine hK _ _ ?_; clear hK K
  (refine wpList_store_mid rfl 49 (.tmp 2) (.tmp 7) rfl (w.heap.size + 1) 0 #[.int .i64 0, .int .i64 0, .int .i64 0, .int .i64 0, .int .i64 0, .int .i64 0, .int .i64 0, .int .i64 0, .int .i64 0, .int .i64 0, .int .i64 0, .int .i64 0, .int .i64 0, .int .i64 0, .int .i64 0, .int .i64 0] rfl rfl HTH.out (by kernel_rfl) (by simp [Value.oneCell']) ?_)
  have hload : (w1.setCells (w.heap.size + 1) 0 [.int .i64 0, .int .i64 0, .int .i64 0, .int .i64 0, .int .i64 0, .int .i64 0, .int .i64 0, .int .i64 0, .int .i64 0, .int .i64 0, .int .i64 0, .int .i64 0, .int .i64 0, .int .i64 0, .int .i64 0, .int .i64 0]).rangeAt (w.heap.size + 1) 0 [.int .i64 0, .int .i64 0, .int .i64 0, .int .i64 0, .int .i64 0, .int .i64 0, .int .i64 0, .int .i64 0, .int .i64 0, .int .i64 0, .int .i64 0, .int .i64 0, .int .i64 0, .int .i64 0, .int .i64 0, .int .i64 0] := World.rangeAt_setCells_same w1 _ _ _ HTH.out
  have DZ : Below w.heap.size w (w1.setCells (w.heap.size + 1) 0 [.int .i64 0, .int .i64 0, .int .i64 0, .int .i64 0, .int .i64 0, .int .i64 0, .int .i64 0, .int .i64 0, .int .i64 0, .int .i64 0, .int .i64 0, .int .i64 0, .int .i64 0, .int .i64 0, .int .i64 0, .int .i64 0]) := below_mids (by omega) _ _ HD.out
  (try rw [show (#[.int .i64 0, .int .i64 0, .int .i64 0, .int .i64 0, .int .i64 0, .int .i64 0, .int .i64 0, .int .i64 0, .int .i64 0, .int .i64 0, .int .i64 0, .int .i64 0, .int .i64 0, .int .i64 0, .int .i64 0, .int .i64 0] : Array Value).toList = [.int .i64 0, .int .i64 0, .int .i64 0, .int .i64 0, .int .i64 0, .int .i64 0, .int .i64 0, .int .i64 0, .int .i64 0, .int .i64 0, .int .i64 0, .int .i64 0, .int .i64 0, .int .i64 0, .int .i64 0, .int .i64 0] from rfl])
  generalize w1.setCells (w.heap.size + 1) 0 [.int .i64 0, .int .i64 0, .int .i64 0, .int .i64 0, .int .i64 0, .int .i64 0, .int .i64 0, .int .i64 0, .int .i64 0, .int .i64 0, .int .i64 0, .int .i64 0, .int .i64 0, .int .i64 0, .int .i64 0, .int .i64 0] = W3 at *
  have HL := Lib.hid hload
  clear hload HTH HD
  refine wpList_step (fun K hK => ?_); go_simp; refine hK _ _ ?_; clear hK K
  refine wpList_nil ?_
  go_wp2_with fail
  obtain ⟨q0, q1, q2, q3, q4, q5, q6, q7, q8, q9, q10, q11, q12, q13, q14, q15⟩ : (W3.cell? ⟨w.heap.size + 1, 0, none⟩ = some (.int .i64 0) ∧ W3.cell? ⟨w.heap.size + 1, 1, none⟩ = some (.int .i64 0) ∧ W3.cell? ⟨w.heap.size + 1, 2, none⟩ = some (.int .i64 0) ∧ W3.cell? ⟨w.heap.size + 1, 3, none⟩ = some (.int .i64 0) ∧ W3.cell? ⟨w.heap.size + 1, 4, none⟩ = some (.int .i64 0) ∧ W3.cell? ⟨w.heap.size + 1, 5, none⟩ = some (.int .i64 0) ∧ W3.cell? ⟨w.heap.size + 1, 6, none⟩ = some (.int .i64 0) ∧ W3.cell? ⟨w.heap.size + 1, 7, none⟩ = some (.int .i64 0) ∧ W3.cell? ⟨w.heap.size + 1, 8, none⟩ = some (.int .i64 0) ∧ W3.cell? ⟨w.heap.size + 1, 9, none⟩ = some (.int .i64 0) ∧ W3.cell? ⟨w.heap.size + 1, 10, none⟩ = some (.int .i64 0) ∧ W3.cell? ⟨w.heap.size + 1, 11, none⟩ = some (.int .i64 0) ∧ W3.cell? ⟨w.heap.size + 1, 12, none⟩ = some (.int .i64 0) ∧ W3.cell? ⟨w.heap.size + 1, 13, none⟩ = some (.int .i64 0) ∧ W3.cell? ⟨w.heap.size + 1, 14, none⟩ = some (.int .i64 0) ∧ W3.cell? ⟨w.heap.size + 1, 15, none⟩ = some (.int .i64 0)) := by
    have h := HL.out
    refine ⟨by have h1 := h 0 _ rfl; rwa [Nat.zero_add] at h1, by have h1 := h 1 _ rfl; rwa [Nat.zero_add] at h1, by have h1 := h 2 _ rfl; rwa [Nat.zero_add] at h1, by have h1 := h 3 _ rfl; rwa [Nat.zero_add] at h1, by have h1 := h 4 _ rfl; rwa [Nat.zero_add] at h1, by have h1 := h 5 _ rfl; rwa [Nat.zero_add] at h1, by have h1 := h 6 _ rfl; rwa [Nat.zero_add] at h1, by have h1 := h 7 _ rfl; rwa [Nat.zero_add] at h1, by have h1 := h 8 _ rfl; rwa [Nat.zero_add] at h1, by have h1 := h 9 _ rfl; rwa [Nat.zero_add] at h1, by have h1 := h 10 _ rfl; rwa [Nat.zero_add] at h1, by have h1 := h 11 _ rfl; rwa [Nat.zero_add] at h1, by have h1 := h 12 _ rfl; rwa [Nat.zero_add] at h1, by have h1 := h 13 _ rfl; rwa [Nat.zero_add] at h1, by have h1 := h 14 _ rfl; rwa [Nat.zero_add] at h1, by have h1 := h 15 _ rfl; rwa [Nat.zero_add] at h1⟩
  refine bodyPost_ret (v := .tuple #[.agg #[.int .i64 0, .int .i64 0, .int .i64 0, .int .i64 0, .int .i64 0, .int .i64 0, .int .i64 0, .int .i64 0, .int .i64 0, .int .i64 0, .int .i64 0, .int .i64 0, .int .i64 0, .int .i64 0, .int .i64 0, .int .i64 0], .int .i64 50]) (by simp [results, Try.results45, go_sem, q0, q1, q2, q3, q4, q5, q6, q7, q8, q9, q10, q11, q12, q13, q14, q15]) rfl ⟨rfl, DZ⟩
theorem eMirror_any (a0 b0 c0 d0 a1 b1 c1 d1 a2 b2 c2 d2 a3 b3 c3 d3 : Int) (w : World) :
    Calls Try.prog 45 #[.agg #[.int .i64 a0, .int .i64 b0, .int .i64 c0, .int .i64 d0, .int .i64 a1, .int .i64 b1, .int .i64 c1, .int .i64 d1, .int .i64 a2, .int .i64 b2, .int .i64 c2, .int .i64 d2, .int .i64 a3, .int .i64 b3, .int .i64 c3, .int .i64 d3]] w fun e w' => e = OutO (mirO ⟨⟨a0, b0⟩, ⟨c0, d0⟩⟩ ⟨⟨a1, b1⟩, ⟨c1, d1⟩⟩ ⟨⟨a2, b2⟩, ⟨c2, d2⟩⟩ ⟨⟨a3, b3⟩, ⟨c3, d3⟩⟩) ∧ Below w.heap.size w w' := by
  cases h : okP ⟨⟨a0, b0⟩, ⟨c0, d0⟩⟩ ⟨⟨a1, b1⟩, ⟨c1, d1⟩⟩ ⟨⟨a2, b2⟩, ⟨c2, d2⟩⟩ ⟨⟨a3, b3⟩, ⟨c3, d3⟩⟩ with
  | true =>
    rw [show mirO ⟨⟨a0, b0⟩, ⟨c0, d0⟩⟩ ⟨⟨a1, b1⟩, ⟨c1, d1⟩⟩ ⟨⟨a2, b2⟩, ⟨c2, d2⟩⟩ ⟨⟨a3, b3⟩, ⟨c3, d3⟩⟩ = .ok ⟨⟨⟨a3, b3⟩, ⟨c3, d3⟩⟩, ⟨⟨a2, b2⟩, ⟨c2, d2⟩⟩, ⟨⟨a1, b1⟩, ⟨c1, d1⟩⟩, ⟨⟨a0, b0⟩, ⟨c0, d0⟩⟩⟩ by unfold mirO; rw [if_pos h]]
    exact eMirror_ok a0 b0 c0 d0 a1 b1 c1 d1 a2 b2 c2 d2 a3 b3 c3 d3 w h
  | false =>
    rw [show mirO ⟨⟨a0, b0⟩, ⟨c0, d0⟩⟩ ⟨⟨a1, b1⟩, ⟨c1, d1⟩⟩ ⟨⟨a2, b2⟩, ⟨c2, d2⟩⟩ ⟨⟨a3, b3⟩, ⟨c3, d3⟩⟩ = .bad 50 by unfold mirO; rw [if_neg (by rw [h]; decide)]]
    exact eMirror_no a0 b0 c0 d0 a1 b1 c1 d1 a2 b2 c2 d2 a3 b3 c3 d3 w h
end Go.Proofs.Ytgbnpnenejgnnaa
