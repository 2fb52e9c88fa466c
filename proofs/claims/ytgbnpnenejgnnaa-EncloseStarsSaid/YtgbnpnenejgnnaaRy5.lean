import Derived.Test.YtgbnpnenejgnnaaRt5
import Derived.Deep.Upon
namespace Go.Proofs.Ytgbnpnenejgnnaa
open Go.RowKit Encl
set_option maxRecDepth 100000 in
set_option maxHeartbeats 8000000 in
theorem rStar_ok (a0 b0 c0 d0 a1 b1 c1 d1 a2 b2 c2 d2 a3 b3 c3 d3 e0 f0 g0 h0 e1 f1 g1 h1 e2 f2 g2 h2 e3 f3 g3 h3 : Int) (w : World) (hp : okP ⟨⟨a0, b0⟩, ⟨c0, d0⟩⟩ ⟨⟨a1, b1⟩, ⟨c1, d1⟩⟩ ⟨⟨a2, b2⟩, ⟨c2, d2⟩⟩ ⟨⟨a3, b3⟩, ⟨c3, d3⟩⟩ = true) (hq : okP ⟨⟨e0, f0⟩, ⟨g0, h0⟩⟩ ⟨⟨e1, f1⟩, ⟨g1, h1⟩⟩ ⟨⟨e2, f2⟩, ⟨g2, h2⟩⟩ ⟨⟨e3, f3⟩, ⟨g3, h3⟩⟩ = true) :
    Calls Try.prog 44 #[.agg #[.int .i64 a0, .int .i64 b0, .int .i64 c0, .int .i64 d0, .int .i64 a1, .int .i64 b1, .int .i64 c1, .int .i64 d1, .int .i64 a2, .int .i64 b2, .int .i64 c2, .int .i64 d2, .int .i64 a3, .int .i64 b3, .int .i64 c3, .int .i64 d3], .agg #[.int .i64 e0, .int .i64 f0, .int .i64 g0, .int .i64 h0, .int .i64 e1, .int .i64 f1, .int .i64 g1, .int .i64 h1, .int .i64 e2, .int .i64 f2, .int .i64 g2, .int .i64 h2, .int .i64 e3, .int .i64 f3, .int .i64 g3, .int .i64 h3]] w fun e w' => e = OutO (starR ⟨⟨⟨a0, b0⟩, ⟨c0, d0⟩⟩, ⟨⟨a1, b1⟩, ⟨c1, d1⟩⟩, ⟨⟨a2, b2⟩, ⟨c2, d2⟩⟩, ⟨⟨a3, b3⟩, ⟨c3, d3⟩⟩⟩ ⟨⟨⟨e0, f0⟩, ⟨g0, h0⟩⟩, ⟨⟨e1, f1⟩, ⟨g1, h1⟩⟩, ⟨⟨e2, f2⟩, ⟨g2, h2⟩⟩, ⟨⟨e3, f3⟩, ⟨g3, h3⟩⟩⟩) ∧ Below w.heap.size w w' := by
  have HBP := Lib.hid hp
  have HBQ := Lib.hid hq
  obtain ⟨SP, hsp⟩ : ∃ SP, starR ⟨⟨⟨a0, b0⟩, ⟨c0, d0⟩⟩, ⟨⟨a1, b1⟩, ⟨c1, d1⟩⟩, ⟨⟨a2, b2⟩, ⟨c2, d2⟩⟩, ⟨⟨a3, b3⟩, ⟨c3, d3⟩⟩⟩ ⟨⟨⟨e0, f0⟩, ⟨g0, h0⟩⟩, ⟨⟨e1, f1⟩, ⟨g1, h1⟩⟩, ⟨⟨e2, f2⟩, ⟨g2, h2⟩⟩, ⟨⟨e3, f3⟩, ⟨g3, h3⟩⟩⟩ = SP := ⟨_, rfl⟩
  have HSP := Lib.hid hsp
  rw [hsp]
  clear hsp
  have h0k : Hid (okS ⟨0, 0⟩ = true) := Lib.hid (by decide)
  have h1k : Hid (okS ⟨1073741824, 1073741824⟩ = true) := Lib.hid (by decide)
  go_enter Try.func44, Try.ntmps44
  go_upto_region 1 with fail
  have hb0 : Below w.heap.size w (((w.alloc (.cells #[.int .i64 a0, .int .i64 b0, .int .i64 c0, .int .i64 d0, .int .i64 a1, .int .i64 b1, .int .i64 c1, .int .i64 d1, .int .i64 a2, .int .i64 b2, .int .i64 c2, .int .i64 d2, .int .i64 a3, .int .i64 b3, .int .i64 c3, .int .i64 d3] 49)).alloc (.cells #[.int .i64 e0, .int .i64 f0, .int .i64 g0, .int .i64 h0, .int .i64 e1, .int .i64 f1, .int .i64 g1, .int .i64 h1, .int .i64 e2, .int .i64 f2, .int .i64 g2, .int .i64 h2, .int .i64 e3, .int .i64 f3, .int .i64 g3, .int .i64 h3] 49)).alloc (.cells #[.int .i64 0, .int .i64 0, .int .i64 0, .int .i64 0, .int .i64 0, .int .i64 0, .int .i64 0, .int .i64 0, .int .i64 0, .int .i64 0, .int .i64 0, .int .i64 0, .int .i64 0, .int .i64 0, .int .i64 0, .int .i64 0] 49)) := by go_grown
  have bP : (((w.alloc (.cells #[.int .i64 a0, .int .i64 b0, .int .i64 c0, .int .i64 d0, .int .i64 a1, .int .i64 b1, .int .i64 c1, .int .i64 d1, .int .i64 a2, .int .i64 b2, .int .i64 c2, .int .i64 d2, .int .i64 a3, .int .i64 b3, .int .i64 c3, .int .i64 d3] 49)).alloc (.cells #[.int .i64 e0, .int .i64 f0, .int .i64 g0, .int .i64 h0, .int .i64 e1, .int .i64 f1, .int .i64 g1, .int .i64 h1, .int .i64 e2, .int .i64 f2, .int .i64 g2, .int .i64 h2, .int .i64 e3, .int .i64 f3, .int .i64 g3, .int .i64 h3] 49)).alloc (.cells #[.int .i64 0, .int .i64 0, .int .i64 0, .int .i64 0, .int .i64 0, .int .i64 0, .int .i64 0, .int .i64 0, .int .i64 0, .int .i64 0, .int .i64 0, .int .i64 0, .int .i64 0, .int .i64 0, .int .i64 0, .int .i64 0] 49)).heap[w.heap.size]? = some (.cells #[.int .i64 a0, .int .i64 b0, .int .i64 c0, .int .i64 d0, .int .i64 a1, .int .i64 b1, .int .i64 c1, .int .i64 d1, .int .i64 a2, .int .i64 b2, .int .i64 c2, .int .i64 d2, .int .i64 a3, .int .i64 b3, .int .i64 c3, .int .i64 d3] 49 (0, 0)) := (Below.heap_alloc _ _ _ (by first | omega | (simp; done) | (simp; omega))).trans ((Below.heap_alloc _ _ _ (by first | omega | (simp; done) | (simp; omega))).trans (heap_alloc_new w _))
  have bQ : (((w.alloc (.cells #[.int .i64 a0, .int .i64 b0, .int .i64 c0, .int .i64 d0, .int .i64 a1, .int .i64 b1, .int .i64 c1, .int .i64 d1, .int .i64 a2, .int .i64 b2, .int .i64 c2, .int .i64 d2, .int .i64 a3, .int .i64 b3, .int .i64 c3, .int .i64 d3] 49)).alloc (.cells #[.int .i64 e0, .int .i64 f0, .int .i64 g0, .int .i64 h0, .int .i64 e1, .int .i64 f1, .int .i64 g1, .int .i64 h1, .int .i64 e2, .int .i64 f2, .int .i64 g2, .int .i64 h2, .int .i64 e3, .int .i64 f3, .int .i64 g3, .int .i64 h3] 49)).alloc (.cells #[.int .i64 0, .int .i64 0, .int .i64 0, .int .i64 0, .int .i64 0, .int .i64 0, .int .i64 0, .int .i64 0, .int .i64 0, .int .i64 0, .int .i64 0, .int .i64 0, .int .i64 0, .int .i64 0, .int .i64 0, .int .i64 0] 49)).heap[w.heap.size + 1]? = some (.cells #[.int .i64 e0, .int .i64 f0, .int .i64 g0, .int .i64 h0, .int .i64 e1, .int .i64 f1, .int .i64 g1, .int .i64 h1, .int .i64 e2, .int .i64 f2, .int .i64 g2, .int .i64 h2, .int .i64 e3, .int .i64 f3, .int .i64 g3, .int .i64 h3] 49 (0, 0)) := (Below.heap_alloc _ _ _ (by first | omega | (simp; done) | (simp; omega))).trans (by
    have h := heap_alloc_new (w.alloc (.cells #[.int .i64 a0, .int .i64 b0, .int .i64 c0, .int .i64 d0, .int .i64 a1, .int .i64 b1, .int .i64 c1, .int .i64 d1, .int .i64 a2, .int .i64 b2, .int .i64 c2, .int .i64 d2, .int .i64 a3, .int .i64 b3, .int .i64 c3, .int .i64 d3] 49)) (.cells #[.int .i64 e0, .int .i64 f0, .int .i64 g0, .int .i64 h0, .int .i64 e1, .int .i64 f1, .int .i64 g1, .int .i64 h1, .int .i64 e2, .int .i64 f2, .int .i64 g2, .int .i64 h2, .int .i64 e3, .int .i64 f3, .int .i64 g3, .int .i64 h3] 49)
    rwa [World.size_alloc] at h)
  have bT : (((w.alloc (.cells #[.int .i64 a0, .int .i64 b0, .int .i64 c0, .int .i64 d0, .int .i64 a1, .int .i64 b1, .int .i64 c1, .int .i64 d1, .int .i64 a2, .int .i64 b2, .int .i64 c2, .int .i64 d2, .int .i64 a3, .int .i64 b3, .int .i64 c3, .int .i64 d3] 49)).alloc (.cells #[.int .i64 e0, .int .i64 f0, .int .i64 g0, .int .i64 h0, .int .i64 e1, .int .i64 f1, .int .i64 g1, .int .i64 h1, .int .i64 e2, .int .i64 f2, .int .i64 g2, .int .i64 h2, .int .i64 e3, .int .i64 f3, .int .i64 g3, .int .i64 h3] 49)).alloc (.cells #[.int .i64 0, .int .i64 0, .int .i64 0, .int .i64 0, .int .i64 0, .int .i64 0, .int .i64 0, .int .i64 0, .int .i64 0, .int .i64 0, .int .i64 0, .int .i64 0, .int .i64 0, .int .i64 0, .int .i64 0, .int .i64 0] 49)).heap[w.heap.size + 1 + 1]? = some (.cells #[.int .i64 0, .int .i64 0, .int .i64 0, .int .i64 0, .int .i64 0, .int .i64 0, .int .i64 0, .int .i64 0, .int .i64 0, .int .i64 0, .int .i64 0, .int .i64 0, .int .i64 0, .int .i64 0, .int .i64 0, .int .i64 0] 49 (0, 0)) := by
    have h := heap_alloc_new ((w.alloc (.cells #[.int .i64 a0, .int .i64 b0, .int .i64 c0, .int .i64 d0, .int .i64 a1, .int .i64 b1, .int .i64 c1, .int .i64 d1, .int .i64 a2, .int .i64 b2, .int .i64 c2, .int .i64 d2, .int .i64 a3, .int .i64 b3, .int .i64 c3, .int .i64 d3] 49)).alloc (.cells #[.int .i64 e0, .int .i64 f0, .int .i64 g0, .int .i64 h0, .int .i64 e1, .int .i64 f1, .int .i64 g1, .int .i64 h1, .int .i64 e2, .int .i64 f2, .int .i64 g2, .int .i64 h2, .int .i64 e3, .int .i64 f3, .int .i64 g3, .int .i64 h3] 49)) (.cells #[.int .i64 0, .int .i64 0, .int .i64 0, .int .i64 0, .int .i64 0, .int .i64 0, .int .i64 0, .int .i64 0, .int .i64 0, .int .i64 0, .int .i64 0, .int .i64 0, .int .i64 0, .int .i64 0, .int .i64 0, .int .i64 0] 49)
    rwa [World.size_alloc, World.size_alloc] at h
  have hsz : w.heap.size + 1 + 1 < (((w.alloc (.cells #[.int .i64 a0, .int .i64 b0, .int .i64 c0, .int .i64 d0, .int .i64 a1, .int .i64 b1, .int .i64 c1, .int .i64 d1, .int .i64 a2, .int .i64 b2, .int .i64 c2, .int .i64 d2, .int .i64 a3, .int .i64 b3, .int .i64 c3, .int .i64 d3] 49)).alloc (.cells #[.int .i64 e0, .int .i64 f0, .int .i64 g0, .int .i64 h0, .int .i64 e1, .int .i64 f1, .int .i64 g1, .int .i64 h1, .int .i64 e2, .int .i64 f2, .int .i64 g2, .int .i64 h2, .int .i64 e3, .int .i64 f3, .int .i64 g3, .int .i64 h3] 49)).alloc (.cells #[.int .i64 0, .int .i64 0, .int .i64 0, .int .i64 0, .int .i64 0, .int .i64 0, .int .i64 0, .int .i64 0, .int .i64 0, .int .i64 0, .int .i64 0, .int .i64 0, .int .i64 0, .int .i64 0, .int .i64 0, .int .i64 0] 49)).heap.size := by simp
  generalize (((w.alloc (.cells #[.int .i64 a0, .int .i64 b0, .int .i64 c0, .int .i64 d0, .int .i64 a1, .int .i64 b1, .int .i64 c1, .int .i64 d1, .int .i64 a2, .int .i64 b2, .int .i64 c2, .int .i64 d2, .int .i64 a3, .int .i64 b3, .int .i64 c3, .int .i64 d3] 49)).alloc (.cells #[.int .i64 e0, .int .i64 f0, .int .i64 g0, .int .i64 h0, .int .i64 e1, .int .i64 f1, .int .i64 g1, .int .i64 h1, .int .i64 e2, .int .i64 f2, .int .i64 g2, .int .i64 h2, .int .i64 e3, .int .i64 f3, .int .i64 g3, .int .i64 h3] 49)).alloc (.cells #[.int .i64 0, .int .i64 0, .int .i64 0, .int .i64 0, .int .i64 0, .int .i64 0, .int .i64 0, .int .i64 0, .int .i64 0, .int .i64 0, .int .i64 0, .int .i64 0, .int .i64 0, .int .i64 0, .int .i64 0, .int .i64 0] 49)) = W at *
  have lP : w.heap.size < W.heap.size := by omega
  have lQ : w.heap.size + 1 < W.heap.size := by omega
  have G0 : Hid (∀ w', Below W.heap.size W w' → w'.heap[w.heap.size]? = some (.cells #[.int .i64 a0, .int .i64 b0, .int .i64 c0, .int .i64 d0, .int .i64 a1, .int .i64 b1, .int .i64 c1, .int .i64 d1, .int .i64 a2, .int .i64 b2, .int .i64 c2, .int .i64 d2, .int .i64 a3, .int .i64 b3, .int .i64 c3, .int .i64 d3] 49 (0, 0)) ∧ w'.heap[w.heap.size + 1]? = some (.cells #[.int .i64 e0, .int .i64 f0, .int .i64 g0, .int .i64 h0, .int .i64 e1, .int .i64 f1, .int .i64 g1, .int .i64 h1, .int .i64 e2, .int .i64 f2, .int .i64 g2, .int .i64 h2, .int .i64 e3, .int .i64 f3, .int .i64 g3, .int .i64 h3] 49 (0, 0))) := Lib.hid (fun w' hb => ⟨(hb.block _ lP).trans bP, (hb.block _ lQ).trans bQ⟩)
  have G1 : Hid (∀ w', Below W.heap.size W w' → w'.heap[w.heap.size + 1 + 1]? = some (.cells #[.int .i64 0, .int .i64 0, .int .i64 0, .int .i64 0, .int .i64 0, .int .i64 0, .int .i64 0, .int .i64 0, .int .i64 0, .int .i64 0, .int .i64 0, .int .i64 0, .int .i64 0, .int .i64 0, .int .i64 0, .int .i64 0] 49 (0, 0))) := Lib.hid (fun w' hb => (hb.block _ hsz).trans bT)
  have HB0 := Lib.hid hb0
  have HRP := Lib.hid (range_row bP 0 [.int .i64 a0, .int .i64 b0, .int .i64 c0, .int .i64 d0, .int .i64 a1, .int .i64 b1, .int .i64 c1, .int .i64 d1, .int .i64 a2, .int .i64 b2, .int .i64 c2, .int .i64 d2, .int .i64 a3, .int .i64 b3, .int .i64 c3, .int .i64 d3] (fun j hj => by simp only [Nat.zero_add, List.getElem?_toArray]))
  clear hb0 bP bQ bT
  refine wp_region_lit ?_
  refine wpList_load_mid rfl 49 (.tmp 2) rfl w.heap.size 0 rfl [.int .i64 a0, .int .i64 b0, .int .i64 c0, .int .i64 d0, .int .i64 a1, .int .i64 b1, .int .i64 c1, .int .i64 d1, .int .i64 a2, .int .i64 b2, .int .i64 c2, .int .i64 d2, .int .i64 a3, .int .i64 b3, .int .i64 c3, .int .i64 d3] _ HRP.out Try.underlying49 rfl (by kernel_rfl) ?_
  refine wpList_step (fun K hK => ?_)
  go_simp
  refine (rValidPort_any a0 b0 c0 d0 a1 b1 c1 d1 a2 b2 c2 d2 a3 b3 c3 d3 _).mono ?_
  rw [HBP.out]
  rintro e w1 ⟨rfl, hb⟩
  have D1 : Below W.heap.size W w1 := hb.mono (Nat.le_refl _)
  clear hb HRP
  refine hK _ _ ?_
  clear hK K
  refine wpList_step (fun K hK => ?_); go_simp; refine hK _ _ ?_; clear hK K
  refine wpList_step (fun K hK => ?_); go_simp; refine hK _ _ ?_; clear hK K
  have HRQ := Lib.hid (range_row (G0.out _ D1).2 0 [.int .i64 e0, .int .i64 f0, .int .i64 g0, .int .i64 h0, .int .i64 e1, .int .i64 f1, .int .i64 g1, .int .i64 h1, .int .i64 e2, .int .i64 f2, .int .i64 g2, .int .i64 h2, .int .i64 e3, .int .i64 f3, .int .i64 g3, .int .i64 h3] (fun j hj => by simp only [Nat.zero_add, List.getElem?_toArray]))
  have l1 := D1.size
  refine wpList_step (fun K hK => ?_)
  rw [if_pos (show Region.wanted _ _ = true from rfl)]
  refine wp_load_mid 49 (.tmp 3) rfl (w.heap.size + 1) 0 rfl [.int .i64 e0, .int .i64 f0, .int .i64 g0, .int .i64 h0, .int .i64 e1, .int .i64 f1, .int .i64 g1, .int .i64 h1, .int .i64 e2, .int .i64 f2, .int .i64 g2, .int .i64 h2, .int .i64 e3, .int .i64 f3, .int .i64 g3, .int .i64 h3] _ HRQ.out Try.underlying49 rfl (by kernel_rfl) ?_
  refine hK _ _ ?_
  clear hK K HRQ
  refine wpList_step (fun K hK => ?_)
  go_simp
  refine (rValidPort_any e0 f0 g0 h0 e1 f1 g1 h1 e2 f2 g2 h2 e3 f3 g3 h3 _).mono ?_
  rw [HBQ.out]
  rintro e w2 ⟨rfl, hb⟩
  have D2 : Below W.heap.size W w2 := D1.trans (hb.mono l1)
  clear hb D1 l1
  refine hK _ _ ?_
  clear hK K
  refine wpList_step (fun K hK => ?_); go_simp; refine hK _ _ ?_; clear hK K
  refine wpList_step (fun K hK => ?_); go_simp; refine hK _ _ ?_; clear hK K
  refine wpList_nil ?_
  have HP0 := Lib.hid ((okR_iff _).1 (okP_iff.1 HBP.out).1)
  have HQ0 := Lib.hid ((okR_iff _).1 (okP_iff.1 HBQ.out).1)
  have HP1 := Lib.hid ((okR_iff _).1 (okP_iff.1 HBP.out).2.1)
  have HQ1 := Lib.hid ((okR_iff _).1 (okP_iff.1 HBQ.out).2.1)
  have HP2 := Lib.hid ((okR_iff _).1 (okP_iff.1 HBP.out).2.2.1)
  have HQ2 := Lib.hid ((okR_iff _).1 (okP_iff.1 HBQ.out).2.2.1)
  have HP3 := Lib.hid ((okR_iff _).1 (okP_iff.1 HBP.out).2.2.2)
  have HQ3 := Lib.hid ((okR_iff _).1 (okP_iff.1 HBQ.out).2.2.2)
  have l2 := D2.size
  go_upto_region 5 with fail
  have hbV : Below w2.heap.size w2 ((w2.alloc (Obj.cells #[.int .i64 0] 82)).alloc (Obj.cells #[.int .i64 0, .int .i64 0, .int .i64 0, .int .i64 0, .int .i64 0, .int .i64 0, .int .i64 0, .int .i64 0, .int .i64 0, .int .i64 0, .int .i64 0, .int .i64 0, .int .i64 0, .int .i64 0, .int .i64 0, .int .i64 0] 49)) := bal (bal (Below.refl _ _) _) _
  have bb0 := HB0.out.trans (D2.mono (by omega))
  have bb1 := bb0.trans (hbV.mono (by omega))
  obtain ⟨bP, bQ⟩ := G0.out _ D2
  have bT := G1.out _ D2
  have cP : ((w2.alloc (Obj.cells #[.int .i64 0] 82)).alloc (Obj.cells #[.int .i64 0, .int .i64 0, .int .i64 0, .int .i64 0, .int .i64 0, .int .i64 0, .int .i64 0, .int .i64 0, .int .i64 0, .int .i64 0, .int .i64 0, .int .i64 0, .int .i64 0, .int .i64 0, .int .i64 0, .int .i64 0] 49)).heap[w.heap.size]? = some (.cells #[.int .i64 a0, .int .i64 b0, .int .i64 c0, .int .i64 d0, .int .i64 a1, .int .i64 b1, .int .i64 c1, .int .i64 d1, .int .i64 a2, .int .i64 b2, .int .i64 c2, .int .i64 d2, .int .i64 a3, .int .i64 b3, .int .i64 c3, .int .i64 d3] 49 (0, 0)) := (hbV.block _ (by omega)).trans bP
  have cQ : ((w2.alloc (Obj.cells #[.int .i64 0] 82)).alloc (Obj.cells #[.int .i64 0, .int .i64 0, .int .i64 0, .int .i64 0, .int .i64 0, .int .i64 0, .int .i64 0, .int .i64 0, .int .i64 0, .int .i64 0, .int .i64 0, .int .i64 0, .int .i64 0, .int .i64 0, .int .i64 0, .int .i64 0] 49)).heap[w.heap.size + 1]? = some (.cells #[.int .i64 e0, .int .i64 f0, .int .i64 g0, .int .i64 h0, .int .i64 e1, .int .i64 f1, .int .i64 g1, .int .i64 h1, .int .i64 e2, .int .i64 f2, .int .i64 g2, .int .i64 h2, .int .i64 e3, .int .i64 f3, .int .i64 g3, .int .i64 h3] 49 (0, 0)) := (hbV.block _ (by omega)).trans bQ
  have cT : ((w2.alloc (Obj.cells #[.int .i64 0] 82)).alloc (Obj.cells #[.int .i64 0, .int .i64 0, .int .i64 0, .int .i64 0, .int .i64 0, .int .i64 0, .int .i64 0, .int .i64 0, .int .i64 0, .int .i64 0, .int .i64 0, .int .i64 0, .int .i64 0, .int .i64 0, .int .i64 0, .int .i64 0] 49)).heap[w.heap.size + 1 + 1]? = some (.cells #[.int .i64 0, .int .i64 0, .int .i64 0, .int .i64 0, .int .i64 0, .int .i64 0, .int .i64 0, .int .i64 0, .int .i64 0, .int .i64 0, .int .i64 0, .int .i64 0, .int .i64 0, .int .i64 0, .int .i64 0, .int .i64 0] 49 (0, 0)) := (hbV.block _ (by omega)).trans bT
  have cO : ((w2.alloc (Obj.cells #[.int .i64 0] 82)).alloc (Obj.cells #[.int .i64 0, .int .i64 0, .int .i64 0, .int .i64 0, .int .i64 0, .int .i64 0, .int .i64 0, .int .i64 0, .int .i64 0, .int .i64 0, .int .i64 0, .int .i64 0, .int .i64 0, .int .i64 0, .int .i64 0, .int .i64 0] 49)).heap[w2.heap.size + 1]? = some (.cells #[.int .i64 0, .int .i64 0, .int .i64 0, .int .i64 0, .int .i64 0, .int .i64 0, .int .i64 0, .int .i64 0, .int .i64 0, .int .i64 0, .int .i64 0, .int .i64 0, .int .i64 0, .int .i64 0, .int .i64 0, .int .i64 0] 49 (0, 0)) := by
    have h := heap_alloc_new (w2.alloc (Obj.cells #[.int .i64 0] 82)) (.cells #[.int .i64 0, .int .i64 0, .int .i64 0, .int .i64 0, .int .i64 0, .int .i64 0, .int .i64 0, .int .i64 0, .int .i64 0, .int .i64 0, .int .i64 0, .int .i64 0, .int .i64 0, .int .i64 0, .int .i64 0, .int .i64 0] 49)
    rwa [World.size_alloc] at h
  have gc : ((w2.alloc (Obj.cells #[.int .i64 0] 82)).alloc (Obj.cells #[.int .i64 0, .int .i64 0, .int .i64 0, .int .i64 0, .int .i64 0, .int .i64 0, .int .i64 0, .int .i64 0, .int .i64 0, .int .i64 0, .int .i64 0, .int .i64 0, .int .i64 0, .int .i64 0, .int .i64 0, .int .i64 0] 49)).cell? ⟨w2.heap.size, 0, none⟩ = some (.int .i64 0) := by go_cell
  have gf : ((w2.alloc (Obj.cells #[.int .i64 0] 82)).alloc (Obj.cells #[.int .i64 0, .int .i64 0, .int .i64 0, .int .i64 0, .int .i64 0, .int .i64 0, .int .i64 0, .int .i64 0, .int .i64 0, .int .i64 0, .int .i64 0, .int .i64 0, .int .i64 0, .int .i64 0, .int .i64 0, .int .i64 0] 49)).frozen? ⟨w2.heap.size, 0, none⟩ = false := by go_cell
  have lO : w2.heap.size + 1 < ((w2.alloc (Obj.cells #[.int .i64 0] 82)).alloc (Obj.cells #[.int .i64 0, .int .i64 0, .int .i64 0, .int .i64 0, .int .i64 0, .int .i64 0, .int .i64 0, .int .i64 0, .int .i64 0, .int .i64 0, .int .i64 0, .int .i64 0, .int .i64 0, .int .i64 0, .int .i64 0, .int .i64 0] 49)).heap.size := by simp
  have lp3 : w.heap.size + 1 + 1 < w2.heap.size := by omega
  clear hbV bb0 bP bQ bT D2 G0 G1 HB0 l2 lP lQ hsz
  generalize ((w2.alloc (Obj.cells #[.int .i64 0] 82)).alloc (Obj.cells #[.int .i64 0, .int .i64 0, .int .i64 0, .int .i64 0, .int .i64 0, .int .i64 0, .int .i64 0, .int .i64 0, .int .i64 0, .int .i64 0, .int .i64 0, .int .i64 0, .int .i64 0, .int .i64 0, .int .i64 0, .int .i64 0] 49)) = V at *
  have lGO : w2.heap.size < w2.heap.size + 1 := Nat.lt_succ_self _
  generalize w2.heap.size + 1 = OB at *
  generalize w2.heap.size = GB at *
  have G0 : Hid (∀ (e : Int) (w' : World), Wk GB e OB V w' → w'.heap[w.heap.size]? = some (.cells #[.int .i64 a0, .int .i64 b0, .int .i64 c0, .int .i64 d0, .int .i64 a1, .int .i64 b1, .int .i64 c1, .int .i64 d1, .int .i64 a2, .int .i64 b2, .int .i64 c2, .int .i64 d2, .int .i64 a3, .int .i64 b3, .int .i64 c3, .int .i64 d3] 49 (0, 0)) ∧ w'.heap[w.heap.size + 1]? = some (.cells #[.int .i64 e0, .int .i64 f0, .int .i64 g0, .int .i64 h0, .int .i64 e1, .int .i64 f1, .int .i64 g1, .int .i64 h1, .int .i64 e2, .int .i64 f2, .int .i64 g2, .int .i64 h2, .int .i64 e3, .int .i64 f3, .int .i64 g3, .int .i64 h3] 49 (0, 0))) := Lib.hid (fun e w' hb => ⟨(hb.block _ (by omega) (by omega)).trans cP, (hb.block _ (by omega) (by omega)).trans cQ⟩)
  have G1 : Hid (∀ (e : Int) (w' : World), Wk GB e OB V w' → w'.heap[w.heap.size + 1 + 1]? = some (.cells #[.int .i64 0, .int .i64 0, .int .i64 0, .int .i64 0, .int .i64 0, .int .i64 0, .int .i64 0, .int .i64 0, .int .i64 0, .int .i64 0, .int .i64 0, .int .i64 0, .int .i64 0, .int .i64 0, .int .i64 0, .int .i64 0] 49 (0, 0))) := Lib.hid (fun e w' hb => (hb.block _ (by omega) (by omega)).trans cT)
  have HBB0 := Lib.hid bb1
  have HKA : Wk GB 0 OB V V := ⟨rfl, rfl, rfl, Nat.le_refl _, fun _ _ _ => rfl, gc, gf⟩
  clear bb1 cP cQ cT gc gf
  have RBP0 : Hid (∀ w' : World, (w'.heap[w.heap.size]? = some (.cells #[.int .i64 a0, .int .i64 b0, .int .i64 c0, .int .i64 d0, .int .i64 a1, .int .i64 b1, .int .i64 c1, .int .i64 d1, .int .i64 a2, .int .i64 b2, .int .i64 c2, .int .i64 d2, .int .i64 a3, .int .i64 b3, .int .i64 c3, .int .i64 d3] 49 (0, 0)) ∧ w'.heap[w.heap.size + 1]? = some (.cells #[.int .i64 e0, .int .i64 f0, .int .i64 g0, .int .i64 h0, .int .i64 e1, .int .i64 f1, .int .i64 g1, .int .i64 h1, .int .i64 e2, .int .i64 f2, .int .i64 g2, .int .i64 h2, .int .i64 e3, .int .i64 f3, .int .i64 g3, .int .i64 h3] 49 (0, 0))) → w'.rangeAt (w.heap.size) 0 [.int .i64 a0, .int .i64 b0, .int .i64 c0, .int .i64 d0]) := Lib.hid (fun w' h => range_row h.1 0 [.int .i64 a0, .int .i64 b0, .int .i64 c0, .int .i64 d0] (fun j hj => by
    rcases four_at (by simpa using hj) with rfl | rfl | rfl | rfl <;> rfl))
  have RBP1 : Hid (∀ w' : World, (w'.heap[w.heap.size]? = some (.cells #[.int .i64 a0, .int .i64 b0, .int .i64 c0, .int .i64 d0, .int .i64 a1, .int .i64 b1, .int .i64 c1, .int .i64 d1, .int .i64 a2, .int .i64 b2, .int .i64 c2, .int .i64 d2, .int .i64 a3, .int .i64 b3, .int .i64 c3, .int .i64 d3] 49 (0, 0)) ∧ w'.heap[w.heap.size + 1]? = some (.cells #[.int .i64 e0, .int .i64 f0, .int .i64 g0, .int .i64 h0, .int .i64 e1, .int .i64 f1, .int .i64 g1, .int .i64 h1, .int .i64 e2, .int .i64 f2, .int .i64 g2, .int .i64 h2, .int .i64 e3, .int .i64 f3, .int .i64 g3, .int .i64 h3] 49 (0, 0))) → w'.rangeAt (w.heap.size) 4 [.int .i64 a1, .int .i64 b1, .int .i64 c1, .int .i64 d1]) := Lib.hid (fun w' h => range_row h.1 4 [.int .i64 a1, .int .i64 b1, .int .i64 c1, .int .i64 d1] (fun j hj => by
    rcases four_at (by simpa using hj) with rfl | rfl | rfl | rfl <;> rfl))
  have RBP2 : Hid (∀ w' : World, (w'.heap[w.heap.size]? = some (.cells #[.int .i64 a0, .int .i64 b0, .int .i64 c0, .int .i64 d0, .int .i64 a1, .int .i64 b1, .int .i64 c1, .int .i64 d1, .int .i64 a2, .int .i64 b2, .int .i64 c2, .int .i64 d2, .int .i64 a3, .int .i64 b3, .int .i64 c3, .int .i64 d3] 49 (0, 0)) ∧ w'.heap[w.heap.size + 1]? = some (.cells #[.int .i64 e0, .int .i64 f0, .int .i64 g0, .int .i64 h0, .int .i64 e1, .int .i64 f1, .int .i64 g1, .int .i64 h1, .int .i64 e2, .int .i64 f2, .int .i64 g2, .int .i64 h2, .int .i64 e3, .int .i64 f3, .int .i64 g3, .int .i64 h3] 49 (0, 0))) → w'.rangeAt (w.heap.size) 8 [.int .i64 a2, .int .i64 b2, .int .i64 c2, .int .i64 d2]) := Lib.hid (fun w' h => range_row h.1 8 [.int .i64 a2, .int .i64 b2, .int .i64 c2, .int .i64 d2] (fun j hj => by
    rcases four_at (by simpa using hj) with rfl | rfl | rfl | rfl <;> rfl))
  have RBP3 : Hid (∀ w' : World, (w'.heap[w.heap.size]? = some (.cells #[.int .i64 a0, .int .i64 b0, .int .i64 c0, .int .i64 d0, .int .i64 a1, .int .i64 b1, .int .i64 c1, .int .i64 d1, .int .i64 a2, .int .i64 b2, .int .i64 c2, .int .i64 d2, .int .i64 a3, .int .i64 b3, .int .i64 c3, .int .i64 d3] 49 (0, 0)) ∧ w'.heap[w.heap.size + 1]? = some (.cells #[.int .i64 e0, .int .i64 f0, .int .i64 g0, .int .i64 h0, .int .i64 e1, .int .i64 f1, .int .i64 g1, .int .i64 h1, .int .i64 e2, .int .i64 f2, .int .i64 g2, .int .i64 h2, .int .i64 e3, .int .i64 f3, .int .i64 g3, .int .i64 h3] 49 (0, 0))) → w'.rangeAt (w.heap.size) 12 [.int .i64 a3, .int .i64 b3, .int .i64 c3, .int .i64 d3]) := Lib.hid (fun w' h => range_row h.1 12 [.int .i64 a3, .int .i64 b3, .int .i64 c3, .int .i64 d3] (fun j hj => by
    rcases four_at (by simpa using hj) with rfl | rfl | rfl | rfl <;> rfl))
  have RBQ0 : Hid (∀ w' : World, (w'.heap[w.heap.size]? = some (.cells #[.int .i64 a0, .int .i64 b0, .int .i64 c0, .int .i64 d0, .int .i64 a1, .int .i64 b1, .int .i64 c1, .int .i64 d1, .int .i64 a2, .int .i64 b2, .int .i64 c2, .int .i64 d2, .int .i64 a3, .int .i64 b3, .int .i64 c3, .int .i64 d3] 49 (0, 0)) ∧ w'.heap[w.heap.size + 1]? = some (.cells #[.int .i64 e0, .int .i64 f0, .int .i64 g0, .int .i64 h0, .int .i64 e1, .int .i64 f1, .int .i64 g1, .int .i64 h1, .int .i64 e2, .int .i64 f2, .int .i64 g2, .int .i64 h2, .int .i64 e3, .int .i64 f3, .int .i64 g3, .int .i64 h3] 49 (0, 0))) → w'.rangeAt (w.heap.size + 1) 0 [.int .i64 e0, .int .i64 f0, .int .i64 g0, .int .i64 h0]) := Lib.hid (fun w' h => range_row h.2 0 [.int .i64 e0, .int .i64 f0, .int .i64 g0, .int .i64 h0] (fun j hj => by
    rcases four_at (by simpa using hj) with rfl | rfl | rfl | rfl <;> rfl))
  have RBQ1 : Hid (∀ w' : World, (w'.heap[w.heap.size]? = some (.cells #[.int .i64 a0, .int .i64 b0, .int .i64 c0, .int .i64 d0, .int .i64 a1, .int .i64 b1, .int .i64 c1, .int .i64 d1, .int .i64 a2, .int .i64 b2, .int .i64 c2, .int .i64 d2, .int .i64 a3, .int .i64 b3, .int .i64 c3, .int .i64 d3] 49 (0, 0)) ∧ w'.heap[w.heap.size + 1]? = some (.cells #[.int .i64 e0, .int .i64 f0, .int .i64 g0, .int .i64 h0, .int .i64 e1, .int .i64 f1, .int .i64 g1, .int .i64 h1, .int .i64 e2, .int .i64 f2, .int .i64 g2, .int .i64 h2, .int .i64 e3, .int .i64 f3, .int .i64 g3, .int .i64 h3] 49 (0, 0))) → w'.rangeAt (w.heap.size + 1) 4 [.int .i64 e1, .int .i64 f1, .int .i64 g1, .int .i64 h1]) := Lib.hid (fun w' h => range_row h.2 4 [.int .i64 e1, .int .i64 f1, .int .i64 g1, .int .i64 h1] (fun j hj => by
    rcases four_at (by simpa using hj) with rfl | rfl | rfl | rfl <;> rfl))
  have RBQ2 : Hid (∀ w' : World, (w'.heap[w.heap.size]? = some (.cells #[.int .i64 a0, .int .i64 b0, .int .i64 c0, .int .i64 d0, .int .i64 a1, .int .i64 b1, .int .i64 c1, .int .i64 d1, .int .i64 a2, .int .i64 b2, .int .i64 c2, .int .i64 d2, .int .i64 a3, .int .i64 b3, .int .i64 c3, .int .i64 d3] 49 (0, 0)) ∧ w'.heap[w.heap.size + 1]? = some (.cells #[.int .i64 e0, .int .i64 f0, .int .i64 g0, .int .i64 h0, .int .i64 e1, .int .i64 f1, .int .i64 g1, .int .i64 h1, .int .i64 e2, .int .i64 f2, .int .i64 g2, .int .i64 h2, .int .i64 e3, .int .i64 f3, .int .i64 g3, .int .i64 h3] 49 (0, 0))) → w'.rangeAt (w.heap.size + 1) 8 [.int .i64 e2, .int .i64 f2, .int .i64 g2, .int .i64 h2]) := Lib.hid (fun w' h => range_row h.2 8 [.int .i64 e2, .int .i64 f2, .int .i64 g2, .int .i64 h2] (fun j hj => by
    rcases four_at (by simpa using hj) with rfl | rfl | rfl | rfl <;> rfl))
  have RBQ3 : Hid (∀ w' : World, (w'.heap[w.heap.size]? = some (.cells #[.int .i64 a0, .int .i64 b0, .int .i64 c0, .int .i64 d0, .int .i64 a1, .int .i64 b1, .int .i64 c1, .int .i64 d1, .int .i64 a2, .int .i64 b2, .int .i64 c2, .int .i64 d2, .int .i64 a3, .int .i64 b3, .int .i64 c3, .int .i64 d3] 49 (0, 0)) ∧ w'.heap[w.heap.size + 1]? = some (.cells #[.int .i64 e0, .int .i64 f0, .int .i64 g0, .int .i64 h0, .int .i64 e1, .int .i64 f1, .int .i64 g1, .int .i64 h1, .int .i64 e2, .int .i64 f2, .int .i64 g2, .int .i64 h2, .int .i64 e3, .int .i64 f3, .int .i64 g3, .int .i64 h3] 49 (0, 0))) → w'.rangeAt (w.heap.size + 1) 12 [.int .i64 e3, .int .i64 f3, .int .i64 g3, .int .i64 h3]) := Lib.hid (fun w' h => range_row h.2 12 [.int .i64 e3, .int .i64 f3, .int .i64 g3, .int .i64 h3] (fun j hj => by
    rcases four_at (by simpa using hj) with rfl | rfl | rfl | rfl <;> rfl))
  go_cut [8] (fun vx wx => ∃ (X : Nat) (m1 m2 m3 m4 ke1 n1 n2 n3 n4 ke2 : Int), vx = .pointer (some ⟨X, 0, none⟩) ∧ OB < X ∧ mulW 0 ⟨⟨a3, b3⟩, ⟨c3, d3⟩⟩ ⟨⟨e0, f0⟩, ⟨g0, h0⟩⟩ = (⟨⟨m1, m2⟩, ⟨m3, m4⟩⟩, ke1) ∧ subW ke1 ⟨⟨1073741824, 1073741824⟩, ⟨0, 0⟩⟩ ⟨⟨m1, m2⟩, ⟨m3, m4⟩⟩ = (⟨⟨n1, n2⟩, ⟨n3, n4⟩⟩, ke2) ∧ wx.heap[OB]? = some (.cells #[.int .i64 0, .int .i64 0, .int .i64 0, .int .i64 0, .int .i64 0, .int .i64 0, .int .i64 0, .int .i64 0, .int .i64 0, .int .i64 0, .int .i64 0, .int .i64 0, .int .i64 0, .int .i64 0, .int .i64 0, .int .i64 0] 49 (0, 0)) ∧ wx.heap[X]? = some (.cells #[.int .i64 n1, .int .i64 n2, .int .i64 n3, .int .i64 n4] 25 (0, 0)) ∧ Wk GB ke2 OB V wx)
  case first =>
    as_aux_lemma =>
      have HD1 : Wk GB 0 OB V V.drew := HKA.then (((Below.refl _ _).drew).mono (Nat.le_trans (Nat.le_of_lt lO) HKA.size)) lGO
      refine wp_region_held_drew (S := fun w' => w'.heap[w.heap.size]? = some (.cells #[.int .i64 a0, .int .i64 b0, .int .i64 c0, .int .i64 d0, .int .i64 a1, .int .i64 b1, .int .i64 c1, .int .i64 d1, .int .i64 a2, .int .i64 b2, .int .i64 c2, .int .i64 d2, .int .i64 a3, .int .i64 b3, .int .i64 c3, .int .i64 d3] 49 (0, 0)) ∧ w'.heap[w.heap.size + 1]? = some (.cells #[.int .i64 e0, .int .i64 f0, .int .i64 g0, .int .i64 h0, .int .i64 e1, .int .i64 f1, .int .i64 g1, .int .i64 h1, .int .i64 e2, .int .i64 f2, .int .i64 g2, .int .i64 h2, .int .i64 e3, .int .i64 f3, .int .i64 g3, .int .i64 h3] 49 (0, 0))) (by kernel_rfl) ⟨(G0.out _ _ HD1).1, (G0.out _ _ HD1).2⟩ (fun hHeld => ?_)
      refine wpAnyH_take (i := 0) (oi := _) (v := ?_) rfl (by kernel_rfl) (by kernel_rfl) (by kernel_rfl) (fun _ _ _ h => h) (Or.inl ⟨by rfl, ?_⟩) (by assumption) ?_
      rotate_left
      · intro w _; go_simp; (try with_reducible rfl)
      try change wpAnyH _ _ _ _ _ _ _ (Act.put _ (some 21) _) _
      try simp only [act_all]
      refine wpAnyH_take (i := 2) (oi := _) (v := ?_) rfl (by kernel_rfl) (by kernel_rfl) (by kernel_rfl) (fun _ _ _ h => h) (Or.inl ⟨by rfl, ?_⟩) (by assumption) ?_
      rotate_left
      · intro w _; go_simp; (try with_reducible rfl)
      try change wpAnyH _ _ _ _ _ _ _ (Act.put _ (some 23) _) _
      try simp only [act_all]
      refine wpAnyH_take (i := 3) (oi := _) (v := ?_) rfl (by kernel_rfl) (by kernel_rfl) (by kernel_rfl) (fun _ _ _ h => h) (Or.inl ⟨by rfl, ?_⟩) (by assumption) ?_
      rotate_left
      · intro w _; go_simp; (try with_reducible rfl)
      try change wpAnyH _ _ _ _ _ _ _ (Act.put _ (some 24) _) _
      try simp only [act_all]
      refine wpAnyH_take (i := 4) (oi := _) (v := ?_) rfl (by kernel_rfl) (by kernel_rfl) (by kernel_rfl) (fun _ _ _ h => h) (Or.inl ⟨by rfl, ?_⟩) (by assumption) ?_
      rotate_left
      · intro w _; go_simp; (try with_reducible rfl)
      try change wpAnyH _ _ _ _ _ _ _ (Act.put _ (some 25) _) _
      try simp only [act_all]
      refine wpAnyH_take (i := 5) (oi := _) (v := ?_) rfl (by kernel_rfl) (by kernel_rfl) (by kernel_rfl) (fun _ _ _ h => h) (Or.inl ⟨by rfl, ?_⟩) (by assumption) ?_
      rotate_left
      · intro w _; go_simp; (try with_reducible rfl)
      try change wpAnyH _ _ _ _ _ _ _ (Act.put _ (some 26) _) _
      try simp only [act_all]
      refine wpAnyH_take (i := 6) (oi := _) (v := _) rfl (by kernel_rfl) (by kernel_rfl) (by kernel_rfl) (fun _ _ _ h => h) (yieldsIf_load_mid (by rfl) 25 _ rfl (w.heap.size) 12 rfl [.int .i64 a3, .int .i64 b3, .int .i64 c3, .int .i64 d3] _ RBP3.out Try.underlying25 rfl (by kernel_rfl)) (by assumption) ?_
      try change wpAnyH _ _ _ _ _ _ _ (Act.put _ (some 27) _) _
      try simp only [act_all]
      refine wpAnyH_take (i := 7) (oi := _) (v := ?_) rfl (by kernel_rfl) (by kernel_rfl) (by kernel_rfl) (fun _ _ _ h => h) (Or.inl ⟨by rfl, ?_⟩) (by assumption) ?_
      rotate_left
      · intro w _; go_simp; (try with_reducible rfl)
      try change wpAnyH _ _ _ _ _ _ _ (Act.put _ (some 28) _) _
      try simp only [act_all]
      refine wpAnyH_take (i := 8) (oi := _) (v := ?_) rfl (by kernel_rfl) (by kernel_rfl) (by kernel_rfl) (fun _ _ _ h => h) (Or.inl ⟨by rfl, ?_⟩) (by assumption) ?_
      rotate_left
      · intro w _; go_simp; (try with_reducible rfl)
      try change wpAnyH _ _ _ _ _ _ _ (Act.put _ (some 29) _) _
      try simp only [act_all]
      refine wpAnyH_take (i := 9) (oi := _) (v := ?_) rfl (by kernel_rfl) (by kernel_rfl) (by kernel_rfl) (fun _ _ _ h => h) (Or.inl ⟨by rfl, ?_⟩) (by assumption) ?_
      rotate_left
      · intro w _; go_simp; (try with_reducible rfl)
      try change wpAnyH _ _ _ _ _ _ _ (Act.put _ (some 30) _) _
      try simp only [act_all]
      refine wpAnyH_take (i := 10) (oi := _) (v := _) rfl (by kernel_rfl) (by kernel_rfl) (by kernel_rfl) (fun _ _ _ h => h) (yieldsIf_load_mid (by rfl) 25 _ rfl (w.heap.size + 1) 0 rfl [.int .i64 e0, .int .i64 f0, .int .i64 g0, .int .i64 h0] _ RBQ0.out Try.underlying25 rfl (by kernel_rfl)) (by assumption) ?_
      try change wpAnyH _ _ _ _ _ _ _ (Act.put _ (some 31) _) _
      try simp only [act_all]
      refine wpAnyH_ready (rs := [1, 13]) (by kernel_rfl) (by simp) ?_
      refine AllReadyH.cons (o := _) rfl (fun K hK => ?_) ?_
      · go_simp
        refine ((rWhole_any 1 _ (by omega) (by omega)).mono (fun e w' h => (by rw [show (1 : Int) * 1073741824 = 1073741824 from rfl] at h; exact h : e = retR ⟨⟨1073741824, 1073741824⟩, ⟨0, 0⟩⟩ ∧ Below _ _ w'))).mono ?_
        rintro e y2_ ⟨he, hb⟩
        have HD2 : Wk GB 0 OB V y2_ := HD1.then (hb.mono (Nat.le_trans (Nat.le_of_lt lO) HD1.size)) lGO
        have kO2 : y2_.heap[OB]? = some (.cells #[.int .i64 0, .int .i64 0, .int .i64 0, .int .i64 0, .int .i64 0, .int .i64 0, .int .i64 0, .int .i64 0, .int .i64 0, .int .i64 0, .int .i64 0, .int .i64 0, .int .i64 0, .int .i64 0, .int .i64 0, .int .i64 0] 49 (0, 0)) := (hb.block _ (by first | omega | (simp; done) | (simp; omega))).trans cO
        have hz2 := hb.size
        (try simp at hz2)
        clear hb 
        clear hHeld
        obtain rfl : e = .returned (.agg #[.int .i64 1073741824, .int .i64 1073741824, .int .i64 0, .int .i64 0]) := he
        refine hK.out _ _ ⟨(G0.out _ _ HD2).1, (G0.out _ _ HD2).2⟩ (fun hHeld => ?_)
        clear hK K
        try simp only [act_all]
        refine wpAnyH_ready (rs := [11, 13]) (by kernel_rfl) (by simp) ?_
        refine AllReadyH.cons (o := _) rfl (fun K hK => ?_) ?_
        · go_simp
          refine (rMulW_any a3 b3 c3 d3 e0 f0 g0 h0 0 GB _ HP3.out.1 HP3.out.2 HQ0.out.1 HQ0.out.2 HD2.cell HD2.free).mono ?_
          rintro e y3_ ⟨he, hb⟩
          obtain ⟨r, hr⟩ : ∃ r, (mulW 0 ⟨⟨a3, b3⟩, ⟨c3, d3⟩⟩ ⟨⟨e0, f0⟩, ⟨g0, h0⟩⟩) = r := ⟨_, rfl⟩
          rw [hr] at he hb
          obtain ⟨⟨⟨m1, m2⟩, ⟨m3, m4⟩⟩, ke1⟩ := r
          have HR3 := Lib.hid hr
          have HO3 := Lib.hid (mulW_okR hr)
          have HD3 : Wk GB ke1 OB V y3_ := HD2.trans (hb.mono (Nat.le_trans (Nat.le_of_lt lO) HD2.size))
          have kO3 : y3_.heap[OB]? = some (.cells #[.int .i64 0, .int .i64 0, .int .i64 0, .int .i64 0, .int .i64 0, .int .i64 0, .int .i64 0, .int .i64 0, .int .i64 0, .int .i64 0, .int .i64 0, .int .i64 0, .int .i64 0, .int .i64 0, .int .i64 0, .int .i64 0] 49 (0, 0)) := (hb.block _ (by first | omega | (simp; done) | (simp; omega)) (by omega)).trans kO2
          have hz3 := hb.size
          (try simp at hz3)
          clear hb hr
          clear hHeld
          obtain rfl : e = .returned (.agg #[.int .i64 m1, .int .i64 m2, .int .i64 m3, .int .i64 m4]) := he
          refine hK.out _ _ ⟨(G0.out _ _ HD3).1, (G0.out _ _ HD3).2⟩ (fun hHeld => ?_)
          clear hK K
          try simp only [act_all]
          refine wpAnyH_ready (rs := [12, 13]) (by kernel_rfl) (by simp) ?_
          refine AllReadyH.cons (o := _) rfl (fun K hK => ?_) ?_
          · go_simp
            refine (rSubW_any 1073741824 1073741824 0 0 m1 m2 m3 m4 ke1 GB _ h1k.out h0k.out HO3.out.1 HO3.out.2 HD3.cell HD3.free).mono ?_
            rintro e y4_ ⟨he, hb⟩
            obtain ⟨r, hr⟩ : ∃ r, (subW ke1 ⟨⟨1073741824, 1073741824⟩, ⟨0, 0⟩⟩ ⟨⟨m1, m2⟩, ⟨m3, m4⟩⟩) = r := ⟨_, rfl⟩
            rw [hr] at he hb
            obtain ⟨⟨⟨n1, n2⟩, ⟨n3, n4⟩⟩, ke2⟩ := r
            have HR4 := Lib.hid hr
            have HO4 := Lib.hid (subW_okR' hr)
            have HD4 : Wk GB ke2 OB V y4_ := HD3.trans (hb.mono (Nat.le_trans (Nat.le_of_lt lO) HD3.size))
            have kO4 : y4_.heap[OB]? = some (.cells #[.int .i64 0, .int .i64 0, .int .i64 0, .int .i64 0, .int .i64 0, .int .i64 0, .int .i64 0, .int .i64 0, .int .i64 0, .int .i64 0, .int .i64 0, .int .i64 0, .int .i64 0, .int .i64 0, .int .i64 0, .int .i64 0] 49 (0, 0)) := (hb.block _ (by first | omega | (simp; done) | (simp; omega)) (by omega)).trans kO3
            have hz4 := hb.size
            (try simp at hz4)
            clear hb hr
            clear hHeld
            obtain rfl : e = .returned (.agg #[.int .i64 n1, .int .i64 n2, .int .i64 n3, .int .i64 n4]) := he
            refine hK.out _ _ ⟨(G0.out _ _ HD4).1, (G0.out _ _ HD4).2⟩ (fun hHeld => ?_)
            clear hK K
            try simp only [act_all]
            refine wpAnyH_ready (rs := [13]) (by kernel_rfl) (by simp) ?_
            refine AllReadyH.cons (o := _) rfl (fun K hK => ?_) AllReadyH.nil
            have HD5 : Wk GB ke2 OB V (y4_.alloc (Obj.cells #[.int .i64 0, .int .i64 0, .int .i64 0, .int .i64 0] 25)) := HD4.then ((bal (Below.refl _ _) _).mono (Nat.le_trans (Nat.le_of_lt lO) HD4.size)) lGO
            have kO5 : (y4_.alloc (Obj.cells #[.int .i64 0, .int .i64 0, .int .i64 0, .int .i64 0] 25)).heap[OB]? = some (.cells #[.int .i64 0, .int .i64 0, .int .i64 0, .int .i64 0, .int .i64 0, .int .i64 0, .int .i64 0, .int .i64 0, .int .i64 0, .int .i64 0, .int .i64 0, .int .i64 0, .int .i64 0, .int .i64 0, .int .i64 0, .int .i64 0] 49 (0, 0)) := (Below.heap_alloc _ _ _ (by first | omega | (simp; done) | (simp; omega))).trans kO4
            go_simp
            refine hK.out _ _ ⟨(G0.out _ _ HD5).1, (G0.out _ _ HD5).2⟩ (fun hHeld => ?_)
            clear hK K
            try simp only [act_all]
            refine wpAnyH_ready (rs := [14]) (by kernel_rfl) (by simp) ?_
            refine AllReadyH.cons (o := _) rfl (fun K hK => ?_) AllReadyH.nil
            have kx6 : (y4_.alloc (Obj.cells #[.int .i64 0, .int .i64 0, .int .i64 0, .int .i64 0] 25)).heap[y4_.heap.size]? = some (.cells #[.int .i64 0, .int .i64 0, .int .i64 0, .int .i64 0] 25 (0, 0)) := (heap_alloc_new y4_ _)
            have HTH := Lib.hid (there_mid kx6 0 4 (show 0 + 4 ≤ 4 by decide))
            have HB6 : Below OB (y4_.alloc (Obj.cells #[.int .i64 0, .int .i64 0, .int .i64 0, .int .i64 0] 25)) ((y4_.alloc (Obj.cells #[.int .i64 0, .int .i64 0, .int .i64 0, .int .i64 0] 25)).setCells (y4_.heap.size) 0 [.int .i64 n1, .int .i64 n2, .int .i64 n3, .int .i64 n4]) := below_mids (by have := HD5.size; first | omega | (simp; done) | (simp; omega)) _ _ (Below.refl _ _)
            have HD6 : Wk GB ke2 OB V ((y4_.alloc (Obj.cells #[.int .i64 0, .int .i64 0, .int .i64 0, .int .i64 0] 25)).setCells (y4_.heap.size) 0 [.int .i64 n1, .int .i64 n2, .int .i64 n3, .int .i64 n4]) := HD5.then HB6 lGO
            have kN6 : ((y4_.alloc (Obj.cells #[.int .i64 0, .int .i64 0, .int .i64 0, .int .i64 0] 25)).setCells (y4_.heap.size) 0 [.int .i64 n1, .int .i64 n2, .int .i64 n3, .int .i64 n4]).heap[y4_.heap.size]? = some (.cells #[.int .i64 n1, .int .i64 n2, .int .i64 n3, .int .i64 n4] 25 (0, 0)) := block_setCells [.int .i64 n1, .int .i64 n2, .int .i64 n3, .int .i64 n4] 0 _ _ kx6
            have kO6 : ((y4_.alloc (Obj.cells #[.int .i64 0, .int .i64 0, .int .i64 0, .int .i64 0] 25)).setCells (y4_.heap.size) 0 [.int .i64 n1, .int .i64 n2, .int .i64 n3, .int .i64 n4]).heap[OB]? = some (.cells #[.int .i64 0, .int .i64 0, .int .i64 0, .int .i64 0, .int .i64 0, .int .i64 0, .int .i64 0, .int .i64 0, .int .i64 0, .int .i64 0, .int .i64 0, .int .i64 0, .int .i64 0, .int .i64 0, .int .i64 0, .int .i64 0] 49 (0, 0)) := (World.heap_setCells_other _ _ _ _ (by first | omega | (simp; done) | (simp; omega)) (by have := HD5.size; first | omega | (simp; done) | (simp; omega))).trans kO5
            rw [if_pos (show Region.wanted _ _ = true from rfl)]
            refine wp_store_mid 25 (.tmp 8) (.tmp 33) rfl (y4_.heap.size) 0 #[.int .i64 n1, .int .i64 n2, .int .i64 n3, .int .i64 n4] rfl rfl HTH.out (by kernel_rfl) (by simp [Value.oneCell']) ?_
            (try rw [show (#[.int .i64 n1, .int .i64 n2, .int .i64 n3, .int .i64 n4] : Array Value).toList = [.int .i64 n1, .int .i64 n2, .int .i64 n3, .int .i64 n4] from rfl])
            refine hK.out _ _ ⟨(G0.out _ _ HD6).1, (G0.out _ _ HD6).2⟩ (fun hHeld => ?_)
            clear hK K
            try simp only [act_all]
            refine wpAnyH_done (by kernel_rfl) ?_ _
            go_wp2_with fail
            go_meet
            exact ⟨_, _, _, _, _, _, _, _, _, _, _, rfl, by have := HD6.size; first | omega | (simp; done) | (simp; omega), HR3.out, HR4.out, kO6, kN6, HD6⟩
          refine AllReadyH.cons (o := _) rfl (fun K hK => ?_) AllReadyH.nil
          have HD7 : Wk GB ke1 OB V (y3_.alloc (Obj.cells #[.int .i64 0, .int .i64 0, .int .i64 0, .int .i64 0] 25)) := HD3.then ((bal (Below.refl _ _) _).mono (Nat.le_trans (Nat.le_of_lt lO) HD3.size)) lGO
          have kO7 : (y3_.alloc (Obj.cells #[.int .i64 0, .int .i64 0, .int .i64 0, .int .i64 0] 25)).heap[OB]? = some (.cells #[.int .i64 0, .int .i64 0, .int .i64 0, .int .i64 0, .int .i64 0, .int .i64 0, .int .i64 0, .int .i64 0, .int .i64 0, .int .i64 0, .int .i64 0, .int .i64 0, .int .i64 0, .int .i64 0, .int .i64 0, .int .i64 0] 49 (0, 0)) := (Below.heap_alloc _ _ _ (by first | omega | (simp; done) | (simp; omega))).trans kO3
          go_simp
          refine hK.out _ _ ⟨(G0.out _ _ HD7).1, (G0.out _ _ HD7).2⟩ (fun hHeld => ?_)
          clear hK K
          try simp only [act_all]
          refine wpAnyH_ready (rs := [12]) (by kernel_rfl) (by simp) ?_
          refine AllReadyH.cons (o := _) rfl (fun K hK => ?_) AllReadyH.nil
          go_simp
          refine (rSubW_any 1073741824 1073741824 0 0 m1 m2 m3 m4 ke1 GB _ h1k.out h0k.out HO3.out.1 HO3.out.2 HD7.cell HD7.free).mono ?_
          rintro e y8_ ⟨he, hb⟩
          obtain ⟨r, hr⟩ : ∃ r, (subW ke1 ⟨⟨1073741824, 1073741824⟩, ⟨0, 0⟩⟩ ⟨⟨m1, m2⟩, ⟨m3, m4⟩⟩) = r := ⟨_, rfl⟩
          rw [hr] at he hb
          obtain ⟨⟨⟨n1, n2⟩, ⟨n3, n4⟩⟩, ke2⟩ := r
          have HR8 := Lib.hid hr
          have HO8 := Lib.hid (subW_okR' hr)
          have HD8 : Wk GB ke2 OB V y8_ := HD7.trans (hb.mono (Nat.le_trans (Nat.le_of_lt lO) HD7.size))
          have kO8 : y8_.heap[OB]? = some (.cells #[.int .i64 0, .int .i64 0, .int .i64 0, .int .i64 0, .int .i64 0, .int .i64 0, .int .i64 0, .int .i64 0, .int .i64 0, .int .i64 0, .int .i64 0, .int .i64 0, .int .i64 0, .int .i64 0, .int .i64 0, .int .i64 0] 49 (0, 0)) := (hb.block _ (by first | omega | (simp; done) | (simp; omega)) (by omega)).trans kO7
          have kN8 : y8_.heap[y3_.heap.size]? = some (.cells #[.int .i64 0, .int .i64 0, .int .i64 0, .int .i64 0] 25 (0, 0)) := (hb.block _ (by first | omega | (simp; done) | (simp; omega)) (by omega)).trans (heap_alloc_new y3_ _)
          have hz8 := hb.size
          (try simp at hz8)
          clear hb hr
          clear hHeld
          obtain rfl : e = .returned (.agg #[.int .i64 n1, .int .i64 n2, .int .i64 n3, .int .i64 n4]) := he
          refine hK.out _ _ ⟨(G0.out _ _ HD8).1, (G0.out _ _ HD8).2⟩ (fun hHeld => ?_)
          clear hK K
          try simp only [act_all]
          refine wpAnyH_ready (rs := [14]) (by kernel_rfl) (by simp) ?_
          refine AllReadyH.cons (o := _) rfl (fun K hK => ?_) AllReadyH.nil
          have kx9 : y8_.heap[y3_.heap.size]? = some (.cells #[.int .i64 0, .int .i64 0, .int .i64 0, .int .i64 0] 25 (0, 0)) := kN8
          have HTH := Lib.hid (there_mid kx9 0 4 (show 0 + 4 ≤ 4 by decide))
          have HB9 : Below OB y8_ (y8_.setCells (y3_.heap.size) 0 [.int .i64 n1, .int .i64 n2, .int .i64 n3, .int .i64 n4]) := below_mids (by have := HD8.size; first | omega | (simp; done) | (simp; omega)) _ _ (Below.refl _ _)
          have HD9 : Wk GB ke2 OB V (y8_.setCells (y3_.heap.size) 0 [.int .i64 n1, .int .i64 n2, .int .i64 n3, .int .i64 n4]) := HD8.then HB9 lGO
          have kN9 : (y8_.setCells (y3_.heap.size) 0 [.int .i64 n1, .int .i64 n2, .int .i64 n3, .int .i64 n4]).heap[y3_.heap.size]? = some (.cells #[.int .i64 n1, .int .i64 n2, .int .i64 n3, .int .i64 n4] 25 (0, 0)) := block_setCells [.int .i64 n1, .int .i64 n2, .int .i64 n3, .int .i64 n4] 0 _ _ kx9
          have kO9 : (y8_.setCells (y3_.heap.size) 0 [.int .i64 n1, .int .i64 n2, .int .i64 n3, .int .i64 n4]).heap[OB]? = some (.cells #[.int .i64 0, .int .i64 0, .int .i64 0, .int .i64 0, .int .i64 0, .int .i64 0, .int .i64 0, .int .i64 0, .int .i64 0, .int .i64 0, .int .i64 0, .int .i64 0, .int .i64 0, .int .i64 0, .int .i64 0, .int .i64 0] 49 (0, 0)) := (World.heap_setCells_other _ _ _ _ (by first | omega | (simp; done) | (simp; omega)) (by have := HD8.size; first | omega | (simp; done) | (simp; omega))).trans kO8
          rw [if_pos (show Region.wanted _ _ = true from rfl)]
          refine wp_store_mid 25 (.tmp 8) (.tmp 33) rfl (y3_.heap.size) 0 #[.int .i64 n1, .int .i64 n2, .int .i64 n3, .int .i64 n4] rfl rfl HTH.out (by kernel_rfl) (by simp [Value.oneCell']) ?_
          (try rw [show (#[.int .i64 n1, .int .i64 n2, .int .i64 n3, .int .i64 n4] : Array Value).toList = [.int .i64 n1, .int .i64 n2, .int .i64 n3, .int .i64 n4] from rfl])
          refine hK.out _ _ ⟨(G0.out _ _ HD9).1, (G0.out _ _ HD9).2⟩ (fun hHeld => ?_)
          clear hK K
          try simp only [act_all]
          refine wpAnyH_done (by kernel_rfl) ?_ _
          go_wp2_with fail
          go_meet
          exact ⟨_, _, _, _, _, _, _, _, _, _, _, rfl, by have := HD9.size; first | omega | (simp; done) | (simp; omega), HR3.out, HR8.out, kO9, kN9, HD9⟩
        refine AllReadyH.cons (o := _) rfl (fun K hK => ?_) AllReadyH.nil
        have HD10 : Wk GB 0 OB V (y2_.alloc (Obj.cells #[.int .i64 0, .int .i64 0, .int .i64 0, .int .i64 0] 25)) := HD2.then ((bal (Below.refl _ _) _).mono (Nat.le_trans (Nat.le_of_lt lO) HD2.size)) lGO
        have kO10 : (y2_.alloc (Obj.cells #[.int .i64 0, .int .i64 0, .int .i64 0, .int .i64 0] 25)).heap[OB]? = some (.cells #[.int .i64 0, .int .i64 0, .int .i64 0, .int .i64 0, .int .i64 0, .int .i64 0, .int .i64 0, .int .i64 0, .int .i64 0, .int .i64 0, .int .i64 0, .int .i64 0, .int .i64 0, .int .i64 0, .int .i64 0, .int .i64 0] 49 (0, 0)) := (Below.heap_alloc _ _ _ (by first | omega | (simp; done) | (simp; omega))).trans kO2
        go_simp
        refine hK.out _ _ ⟨(G0.out _ _ HD10).1, (G0.out _ _ HD10).2⟩ (fun hHeld => ?_)
        clear hK K
        try simp only [act_all]
        refine wpAnyH_ready (rs := [11]) (by kernel_rfl) (by simp) ?_
        refine AllReadyH.cons (o := _) rfl (fun K hK => ?_) AllReadyH.nil
        go_simp
        refine (rMulW_any a3 b3 c3 d3 e0 f0 g0 h0 0 GB _ HP3.out.1 HP3.out.2 HQ0.out.1 HQ0.out.2 HD10.cell HD10.free).mono ?_
        rintro e y11_ ⟨he, hb⟩
        obtain ⟨r, hr⟩ : ∃ r, (mulW 0 ⟨⟨a3, b3⟩, ⟨c3, d3⟩⟩ ⟨⟨e0, f0⟩, ⟨g0, h0⟩⟩) = r := ⟨_, rfl⟩
        rw [hr] at he hb
        obtain ⟨⟨⟨m1, m2⟩, ⟨m3, m4⟩⟩, ke1⟩ := r
        have HR11 := Lib.hid hr
        have HO11 := Lib.hid (mulW_okR hr)
        have HD11 : Wk GB ke1 OB V y11_ := HD10.trans (hb.mono (Nat.le_trans (Nat.le_of_lt lO) HD10.size))
        have kO11 : y11_.heap[OB]? = some (.cells #[.int .i64 0, .int .i64 0, .int .i64 0, .int .i64 0, .int .i64 0, .int .i64 0, .int .i64 0, .int .i64 0, .int .i64 0, .int .i64 0, .int .i64 0, .int .i64 0, .int .i64 0, .int .i64 0, .int .i64 0, .int .i64 0] 49 (0, 0)) := (hb.block _ (by first | omega | (simp; done) | (simp; omega)) (by omega)).trans kO10
        have kN11 : y11_.heap[y2_.heap.size]? = some (.cells #[.int .i64 0, .int .i64 0, .int .i64 0, .int .i64 0] 25 (0, 0)) := (hb.block _ (by first | omega | (simp; done) | (simp; omega)) (by omega)).trans (heap_alloc_new y2_ _)
        have hz11 := hb.size
        (try simp at hz11)
        clear hb hr
        clear hHeld
        obtain rfl : e = .returned (.agg #[.int .i64 m1, .int .i64 m2, .int .i64 m3, .int .i64 m4]) := he
        refine hK.out _ _ ⟨(G0.out _ _ HD11).1, (G0.out _ _ HD11).2⟩ (fun hHeld => ?_)
        clear hK K
        try simp only [act_all]
        refine wpAnyH_ready (rs := [12]) (by kernel_rfl) (by simp) ?_
        refine AllReadyH.cons (o := _) rfl (fun K hK => ?_) AllReadyH.nil
        go_simp
        refine (rSubW_any 1073741824 1073741824 0 0 m1 m2 m3 m4 ke1 GB _ h1k.out h0k.out HO11.out.1 HO11.out.2 HD11.cell HD11.free).mono ?_
        rintro e y12_ ⟨he, hb⟩
        obtain ⟨r, hr⟩ : ∃ r, (subW ke1 ⟨⟨1073741824, 1073741824⟩, ⟨0, 0⟩⟩ ⟨⟨m1, m2⟩, ⟨m3, m4⟩⟩) = r := ⟨_, rfl⟩
        rw [hr] at he hb
        obtain ⟨⟨⟨n1, n2⟩, ⟨n3, n4⟩⟩, ke2⟩ := r
        have HR12 := Lib.hid hr
        have HO12 := Lib.hid (subW_okR' hr)
        have HD12 : Wk GB ke2 OB V y12_ := HD11.trans (hb.mono (Nat.le_trans (Nat.le_of_lt lO) HD11.size))
        have kO12 : y12_.heap[OB]? = some (.cells #[.int .i64 0, .int .i64 0, .int .i64 0, .int .i64 0, .int .i64 0, .int .i64 0, .int .i64 0, .int .i64 0, .int .i64 0, .int .i64 0, .int .i64 0, .int .i64 0, .int .i64 0, .int .i64 0, .int .i64 0, .int .i64 0] 49 (0, 0)) := (hb.block _ (by first | omega | (simp; done) | (simp; omega)) (by omega)).trans kO11
        have kN12 : y12_.heap[y2_.heap.size]? = some (.cells #[.int .i64 0, .int .i64 0, .int .i64 0, .int .i64 0] 25 (0, 0)) := (hb.block _ (by first | omega | (simp; done) | (simp; omega)) (by omega)).trans kN11
        have hz12 := hb.size
        (try simp at hz12)
        clear hb hr
        clear hHeld
        obtain rfl : e = .returned (.agg #[.int .i64 n1, .int .i64 n2, .int .i64 n3, .int .i64 n4]) := he
        refine hK.out _ _ ⟨(G0.out _ _ HD12).1, (G0.out _ _ HD12).2⟩ (fun hHeld => ?_)
        clear hK K
        try simp only [act_all]
        refine wpAnyH_ready (rs := [14]) (by kernel_rfl) (by simp) ?_
        refine AllReadyH.cons (o := _) rfl (fun K hK => ?_) AllReadyH.nil
        have kx13 : y12_.heap[y2_.heap.size]? = some (.cells #[.int .i64 0, .int .i64 0, .int .i64 0, .int .i64 0] 25 (0, 0)) := kN12
        have HTH := Lib.hid (there_mid kx13 0 4 (show 0 + 4 ≤ 4 by decide))
        have HB13 : Below OB y12_ (y12_.setCells (y2_.heap.size) 0 [.int .i64 n1, .int .i64 n2, .int .i64 n3, .int .i64 n4]) := below_mids (by have := HD12.size; first | omega | (simp; done) | (simp; omega)) _ _ (Below.refl _ _)
        have HD13 : Wk GB ke2 OB V (y12_.setCells (y2_.heap.size) 0 [.int .i64 n1, .int .i64 n2, .int .i64 n3, .int .i64 n4]) := HD12.then HB13 lGO
        have kN13 : (y12_.setCells (y2_.heap.size) 0 [.int .i64 n1, .int .i64 n2, .int .i64 n3, .int .i64 n4]).heap[y2_.heap.size]? = some (.cells #[.int .i64 n1, .int .i64 n2, .int .i64 n3, .int .i64 n4] 25 (0, 0)) := block_setCells [.int .i64 n1, .int .i64 n2, .int .i64 n3, .int .i64 n4] 0 _ _ kx13
        have kO13 : (y12_.setCells (y2_.heap.size) 0 [.int .i64 n1, .int .i64 n2, .int .i64 n3, .int .i64 n4]).heap[OB]? = some (.cells #[.int .i64 0, .int .i64 0, .int .i64 0, .int .i64 0, .int .i64 0, .int .i64 0, .int .i64 0, .int .i64 0, .int .i64 0, .int .i64 0, .int .i64 0, .int .i64 0, .int .i64 0, .int .i64 0, .int .i64 0, .int .i64 0] 49 (0, 0)) := (World.heap_setCells_other _ _ _ _ (by first | omega | (simp; done) | (simp; omega)) (by have := HD12.size; first | omega | (simp; done) | (simp; omega))).trans kO12
        rw [if_pos (show Region.wanted _ _ = true from rfl)]
        refine wp_store_mid 25 (.tmp 8) (.tmp 33) rfl (y2_.heap.size) 0 #[.int .i64 n1, .int .i64 n2, .int .i64 n3, .int .i64 n4] rfl rfl HTH.out (by kernel_rfl) (by simp [Value.oneCell']) ?_
        (try rw [show (#[.int .i64 n1, .int .i64 n2, .int .i64 n3, .int .i64 n4] : Array Value).toList = [.int .i64 n1, .int .i64 n2, .int .i64 n3, .int .i64 n4] from rfl])
        refine hK.out _ _ ⟨(G0.out _ _ HD13).1, (G0.out _ _ HD13).2⟩ (fun hHeld => ?_)
        clear hK K
        try simp only [act_all]
        refine wpAnyH_done (by kernel_rfl) ?_ _
        go_wp2_with fail
        go_meet
        exact ⟨_, _, _, _, _, _, _, _, _, _, _, rfl, by have := HD13.size; first | omega | (simp; done) | (simp; omega), HR11.out, HR12.out, kO13, kN13, HD13⟩
      refine AllReadyH.cons (o := _) rfl (fun K hK => ?_) AllReadyH.nil
      have HD14 : Wk GB 0 OB V (V.drew.alloc (Obj.cells #[.int .i64 0, .int .i64 0, .int .i64 0, .int .i64 0] 25)) := HD1.then ((bal (Below.refl _ _) _).mono (Nat.le_trans (Nat.le_of_lt lO) HD1.size)) lGO
      have kO14 : (V.drew.alloc (Obj.cells #[.int .i64 0, .int .i64 0, .int .i64 0, .int .i64 0] 25)).heap[OB]? = some (.cells #[.int .i64 0, .int .i64 0, .int .i64 0, .int .i64 0, .int .i64 0, .int .i64 0, .int .i64 0, .int .i64 0, .int .i64 0, .int .i64 0, .int .i64 0, .int .i64 0, .int .i64 0, .int .i64 0, .int .i64 0, .int .i64 0] 49 (0, 0)) := (Below.heap_alloc _ _ _ (by first | omega | (simp; done) | (simp; omega))).trans cO
      go_simp
      refine hK.out _ _ ⟨(G0.out _ _ HD14).1, (G0.out _ _ HD14).2⟩ (fun hHeld => ?_)
      clear hK K
      try simp only [act_all]
      refine wpAnyH_ready (rs := [1]) (by kernel_rfl) (by simp) ?_
      refine AllReadyH.cons (o := _) rfl (fun K hK => ?_) AllReadyH.nil
      go_simp
      refine ((rWhole_any 1 _ (by omega) (by omega)).mono (fun e w' h => (by rw [show (1 : Int) * 1073741824 = 1073741824 from rfl] at h; exact h : e = retR ⟨⟨1073741824, 1073741824⟩, ⟨0, 0⟩⟩ ∧ Below _ _ w'))).mono ?_
      rintro e y15_ ⟨he, hb⟩
      have HD15 : Wk GB 0 OB V y15_ := HD14.then (hb.mono (Nat.le_trans (Nat.le_of_lt lO) HD14.size)) lGO
      have kO15 : y15_.heap[OB]? = some (.cells #[.int .i64 0, .int .i64 0, .int .i64 0, .int .i64 0, .int .i64 0, .int .i64 0, .int .i64 0, .int .i64 0, .int .i64 0, .int .i64 0, .int .i64 0, .int .i64 0, .int .i64 0, .int .i64 0, .int .i64 0, .int .i64 0] 49 (0, 0)) := (hb.block _ (by first | omega | (simp; done) | (simp; omega))).trans kO14
      have kN15 : y15_.heap[V.heap.size]? = some (.cells #[.int .i64 0, .int .i64 0, .int .i64 0, .int .i64 0] 25 (0, 0)) := (hb.block _ (by first | omega | (simp; done) | (simp; omega))).trans (heap_alloc_new V.drew _)
      have hz15 := hb.size
      (try simp at hz15)
      clear hb 
      clear hHeld
      obtain rfl : e = .returned (.agg #[.int .i64 1073741824, .int .i64 1073741824, .int .i64 0, .int .i64 0]) := he
      refine hK.out _ _ ⟨(G0.out _ _ HD15).1, (G0.out _ _ HD15).2⟩ (fun hHeld => ?_)
      clear hK K
      try simp only [act_all]
      refine wpAnyH_ready (rs := [11]) (by kernel_rfl) (by simp) ?_
      refine AllReadyH.cons (o := _) rfl (fun K hK => ?_) AllReadyH.nil
      go_simp
      refine (rMulW_any a3 b3 c3 d3 e0 f0 g0 h0 0 GB _ HP3.out.1 HP3.out.2 HQ0.out.1 HQ0.out.2 HD15.cell HD15.free).mono ?_
      rintro e y16_ ⟨he, hb⟩
      obtain ⟨r, hr⟩ : ∃ r, (mulW 0 ⟨⟨a3, b3⟩, ⟨c3, d3⟩⟩ ⟨⟨e0, f0⟩, ⟨g0, h0⟩⟩) = r := ⟨_, rfl⟩
      rw [hr] at he hb
      obtain ⟨⟨⟨m1, m2⟩, ⟨m3, m4⟩⟩, ke1⟩ := r
      have HR16 := Lib.hid hr
      have HO16 := Lib.hid (mulW_okR hr)
      have HD16 : Wk GB ke1 OB V y16_ := HD15.trans (hb.mono (Nat.le_trans (Nat.le_of_lt lO) HD15.size))
      have kO16 : y16_.heap[OB]? = some (.cells #[.int .i64 0, .int .i64 0, .int .i64 0, .int .i64 0, .int .i64 0, .int .i64 0, .int .i64 0, .int .i64 0, .int .i64 0, .int .i64 0, .int .i64 0, .int .i64 0, .int .i64 0, .int .i64 0, .int .i64 0, .int .i64 0] 49 (0, 0)) := (hb.block _ (by first | omega | (simp; done) | (simp; omega)) (by omega)).trans kO15
      have kN16 : y16_.heap[V.heap.size]? = some (.cells #[.int .i64 0, .int .i64 0, .int .i64 0, .int .i64 0] 25 (0, 0)) := (hb.block _ (by first | omega | (simp; done) | (simp; omega)) (by omega)).trans kN15
      have hz16 := hb.size
      (try simp at hz16)
      clear hb hr
      clear hHeld
      obtain rfl : e = .returned (.agg #[.int .i64 m1, .int .i64 m2, .int .i64 m3, .int .i64 m4]) := he
      refine hK.out _ _ ⟨(G0.out _ _ HD16).1, (G0.out _ _ HD16).2⟩ (fun hHeld => ?_)
      clear hK K
      try simp only [act_all]
      refine wpAnyH_ready (rs := [12]) (by kernel_rfl) (by simp) ?_
      refine AllReadyH.cons (o := _) rfl (fun K hK => ?_) AllReadyH.nil
      go_simp
      refine (rSubW_any 1073741824 1073741824 0 0 m1 m2 m3 m4 ke1 GB _ h1k.out h0k.out HO16.out.1 HO16.out.2 HD16.cell HD16.free).mono ?_
      rintro e y17_ ⟨he, hb⟩
      obtain ⟨r, hr⟩ : ∃ r, (subW ke1 ⟨⟨1073741824, 1073741824⟩, ⟨0, 0⟩⟩ ⟨⟨m1, m2⟩, ⟨m3, m4⟩⟩) = r := ⟨_, rfl⟩
      rw [hr] at he hb
      obtain ⟨⟨⟨n1, n2⟩, ⟨n3, n4⟩⟩, ke2⟩ := r
      have HR17 := Lib.hid hr
      have HO17 := Lib.hid (subW_okR' hr)
      have HD17 : Wk GB ke2 OB V y17_ := HD16.trans (hb.mono (Nat.le_trans (Nat.le_of_lt lO) HD16.size))
      have kO17 : y17_.heap[OB]? = some (.cells #[.int .i64 0, .int .i64 0, .int .i64 0, .int .i64 0, .int .i64 0, .int .i64 0, .int .i64 0, .int .i64 0, .int .i64 0, .int .i64 0, .int .i64 0, .int .i64 0, .int .i64 0, .int .i64 0, .int .i64 0, .int .i64 0] 49 (0, 0)) := (hb.block _ (by first | omega | (simp; done) | (simp; omega)) (by omega)).trans kO16
      have kN17 : y17_.heap[V.heap.size]? = some (.cells #[.int .i64 0, .int .i64 0, .int .i64 0, .int .i64 0] 25 (0, 0)) := (hb.block _ (by first | omega | (simp; done) | (simp; omega)) (by omega)).trans kN16
      have hz17 := hb.size
      (try simp at hz17)
      clear hb hr
      clear hHeld
      obtain rfl : e = .returned (.agg #[.int .i64 n1, .int .i64 n2, .int .i64 n3, .int .i64 n4]) := he
      refine hK.out _ _ ⟨(G0.out _ _ HD17).1, (G0.out _ _ HD17).2⟩ (fun hHeld => ?_)
      clear hK K
      try simp only [act_all]
      refine wpAnyH_ready (rs := [14]) (by kernel_rfl) (by simp) ?_
      refine AllReadyH.cons (o := _) rfl (fun K hK => ?_) AllReadyH.nil
      have kx18 : y17_.heap[V.heap.size]? = some (.cells #[.int .i64 0, .int .i64 0, .int .i64 0, .int .i64 0] 25 (0, 0)) := kN17
      have HTH := Lib.hid (there_mid kx18 0 4 (show 0 + 4 ≤ 4 by decide))
      have HB18 : Below OB y17_ (y17_.setCells (V.heap.size) 0 [.int .i64 n1, .int .i64 n2, .int .i64 n3, .int .i64 n4]) := below_mids (by have := HD17.size; first | omega | (simp; done) | (simp; omega)) _ _ (Below.refl _ _)
      have HD18 : Wk GB ke2 OB V (y17_.setCells (V.heap.size) 0 [.int .i64 n1, .int .i64 n2, .int .i64 n3, .int .i64 n4]) := HD17.then HB18 lGO
      have kN18 : (y17_.setCells (V.heap.size) 0 [.int .i64 n1, .int .i64 n2, .int .i64 n3, .int .i64 n4]).heap[V.heap.size]? = some (.cells #[.int .i64 n1, .int .i64 n2, .int .i64 n3, .int .i64 n4] 25 (0, 0)) := block_setCells [.int .i64 n1, .int .i64 n2, .int .i64 n3, .int .i64 n4] 0 _ _ kx18
      have kO18 : (y17_.setCells (V.heap.size) 0 [.int .i64 n1, .int .i64 n2, .int .i64 n3, .int .i64 n4]).heap[OB]? = some (.cells #[.int .i64 0, .int .i64 0, .int .i64 0, .int .i64 0, .int .i64 0, .int .i64 0, .int .i64 0, .int .i64 0, .int .i64 0, .int .i64 0, .int .i64 0, .int .i64 0, .int .i64 0, .int .i64 0, .int .i64 0, .int .i64 0] 49 (0, 0)) := (World.heap_setCells_other _ _ _ _ (by first | omega | (simp; done) | (simp; omega)) (by have := HD17.size; first | omega | (simp; done) | (simp; omega))).trans kO17
      rw [if_pos (show Region.wanted _ _ = true from rfl)]
      refine wp_store_mid 25 (.tmp 8) (.tmp 33) rfl (V.heap.size) 0 #[.int .i64 n1, .int .i64 n2, .int .i64 n3, .int .i64 n4] rfl rfl HTH.out (by kernel_rfl) (by simp [Value.oneCell']) ?_
      (try rw [show (#[.int .i64 n1, .int .i64 n2, .int .i64 n3, .int .i64 n4] : Array Value).toList = [.int .i64 n1, .int .i64 n2, .int .i64 n3, .int .i64 n4] from rfl])
      refine hK.out _ _ ⟨(G0.out _ _ HD18).1, (G0.out _ _ HD18).2⟩ (fun hHeld => ?_)
      clear hK K
      try simp only [act_all]
      refine wpAnyH_done (by kernel_rfl) ?_ _
      go_wp2_with fail
      go_meet
      exact ⟨_, _, _, _, _, _, _, _, _, _, _, rfl, by have := HD18.size; first | omega | (simp; done) | (simp; omega), HR16.out, HR17.out, kO18, kN18, HD18⟩
  case rest =>
  obtain ⟨DB, m1, m2, m3, m4, ke1, n1, n2, n3, n4, ke2, rfl, lX5, hx5_0, hx5_1, cO5, cD5, HK5⟩ := hcut
  have HOD := Lib.hid (subW_okR' hx5_1)
  clear cO   HKA
  have HX5_0 := Lib.hid hx5_0
  have HX5_1 := Lib.hid hx5_1
  clear hx5_0 hx5_1
  obtain ⟨V5, hV⟩ : ∃ z, z = wc := ⟨wc, rfl⟩
  subst hV
  have lO5 : OB < V5.heap.size := by have := HK5.size; omega
  have lD5 : DB < V5.heap.size := (Array.getElem?_eq_some_iff.1 cD5).1
  go_upto_region 6 with fail
  go_cut [9] (fun vx wx => ∃ (X : Nat) (p1 p2 p3 p4 ke3 o1 o2 o3 o4 ke4 r1 r2 r3 r4 ke5 : Int), vx = .pointer (some ⟨X, 0, none⟩) ∧ DB < X ∧ mulW ke2 ⟨⟨a1, b1⟩, ⟨c1, d1⟩⟩ ⟨⟨e0, f0⟩, ⟨g0, h0⟩⟩ = (⟨⟨p1, p2⟩, ⟨p3, p4⟩⟩, ke3) ∧ mulW ke3 ⟨⟨p1, p2⟩, ⟨p3, p4⟩⟩ ⟨⟨a2, b2⟩, ⟨c2, d2⟩⟩ = (⟨⟨o1, o2⟩, ⟨o3, o4⟩⟩, ke4) ∧ divW ke4 ⟨⟨o1, o2⟩, ⟨o3, o4⟩⟩ ⟨⟨n1, n2⟩, ⟨n3, n4⟩⟩ = (⟨⟨r1, r2⟩, ⟨r3, r4⟩⟩, ke5) ∧ wx.heap[OB]? = some (.cells #[.int .i64 0, .int .i64 0, .int .i64 0, .int .i64 0, .int .i64 0, .int .i64 0, .int .i64 0, .int .i64 0, .int .i64 0, .int .i64 0, .int .i64 0, .int .i64 0, .int .i64 0, .int .i64 0, .int .i64 0, .int .i64 0] 49 (0, 0)) ∧ wx.heap[DB]? = some (.cells #[.int .i64 n1, .int .i64 n2, .int .i64 n3, .int .i64 n4] 25 (0, 0)) ∧ wx.heap[X]? = some (.cells #[.int .i64 r1, .int .i64 r2, .int .i64 r3, .int .i64 r4] 25 (0, 0)) ∧ Wk GB ke5 OB V wx)
  case first =>
    as_aux_lemma =>
      have HD19 : Wk GB ke2 OB V V5.drew := HK5.then (((Below.refl _ _).drew).mono (Nat.le_trans (Nat.le_of_lt lO) HK5.size)) lGO
      refine wp_region_held_drew (S := fun w' => w'.heap[w.heap.size]? = some (.cells #[.int .i64 a0, .int .i64 b0, .int .i64 c0, .int .i64 d0, .int .i64 a1, .int .i64 b1, .int .i64 c1, .int .i64 d1, .int .i64 a2, .int .i64 b2, .int .i64 c2, .int .i64 d2, .int .i64 a3, .int .i64 b3, .int .i64 c3, .int .i64 d3] 49 (0, 0)) ∧ w'.heap[w.heap.size + 1]? = some (.cells #[.int .i64 e0, .int .i64 f0, .int .i64 g0, .int .i64 h0, .int .i64 e1, .int .i64 f1, .int .i64 g1, .int .i64 h1, .int .i64 e2, .int .i64 f2, .int .i64 g2, .int .i64 h2, .int .i64 e3, .int .i64 f3, .int .i64 g3, .int .i64 h3] 49 (0, 0)) ∧ w'.heap[DB]? = some (.cells #[.int .i64 n1, .int .i64 n2, .int .i64 n3, .int .i64 n4] 25 (0, 0))) (by kernel_rfl) ⟨(G0.out _ _ HD19).1, (G0.out _ _ HD19).2, cD5⟩ (fun hHeld => ?_)
      refine wpAnyH_take (i := 0) (oi := _) (v := ?_) rfl (by kernel_rfl) (by kernel_rfl) (by kernel_rfl) (fun _ _ _ h => h) (Or.inl ⟨by rfl, ?_⟩) (by assumption) ?_
      rotate_left
      · intro w _; go_simp; (try with_reducible rfl)
      try change wpAnyH _ _ _ _ _ _ _ (Act.put _ (some 34) _) _
      try simp only [act_all]
      refine wpAnyH_take (i := 1) (oi := _) (v := ?_) rfl (by kernel_rfl) (by kernel_rfl) (by kernel_rfl) (fun _ _ _ h => h) (Or.inl ⟨by rfl, ?_⟩) (by assumption) ?_
      rotate_left
      · intro w _; go_simp; (try with_reducible rfl)
      try change wpAnyH _ _ _ _ _ _ _ (Act.put _ (some 35) _) _
      try simp only [act_all]
      refine wpAnyH_take (i := 2) (oi := _) (v := ?_) rfl (by kernel_rfl) (by kernel_rfl) (by kernel_rfl) (fun _ _ _ h => h) (Or.inl ⟨by rfl, ?_⟩) (by assumption) ?_
      rotate_left
      · intro w _; go_simp; (try with_reducible rfl)
      try change wpAnyH _ _ _ _ _ _ _ (Act.put _ (some 36) _) _
      try simp only [act_all]
      refine wpAnyH_take (i := 3) (oi := _) (v := ?_) rfl (by kernel_rfl) (by kernel_rfl) (by kernel_rfl) (fun _ _ _ h => h) (Or.inl ⟨by rfl, ?_⟩) (by assumption) ?_
      rotate_left
      · intro w _; go_simp; (try with_reducible rfl)
      try change wpAnyH _ _ _ _ _ _ _ (Act.put _ (some 37) _) _
      try simp only [act_all]
      refine wpAnyH_take (i := 4) (oi := _) (v := ?_) rfl (by kernel_rfl) (by kernel_rfl) (by kernel_rfl) (fun _ _ _ h => h) (Or.inl ⟨by rfl, ?_⟩) (by assumption) ?_
      rotate_left
      · intro w _; go_simp; (try with_reducible rfl)
      try change wpAnyH _ _ _ _ _ _ _ (Act.put _ (some 38) _) _
      try simp only [act_all]
      refine wpAnyH_take (i := 5) (oi := _) (v := ?_) rfl (by kernel_rfl) (by kernel_rfl) (by kernel_rfl) (fun _ _ _ h => h) (Or.inl ⟨by rfl, ?_⟩) (by assumption) ?_
      rotate_left
      · intro w _; go_simp; (try with_reducible rfl)
      try change wpAnyH _ _ _ _ _ _ _ (Act.put _ (some 39) _) _
      try simp only [act_all]
      refine wpAnyH_take (i := 6) (oi := _) (v := _) rfl (by kernel_rfl) (by kernel_rfl) (by kernel_rfl) (fun _ _ _ h => h) (yieldsIf_load_mid (by rfl) 25 _ rfl (w.heap.size) 4 rfl [.int .i64 a1, .int .i64 b1, .int .i64 c1, .int .i64 d1] _ (fun w' h => RBP1.out w' ⟨h.1, h.2.1⟩) Try.underlying25 rfl (by kernel_rfl)) (by assumption) ?_
      try change wpAnyH _ _ _ _ _ _ _ (Act.put _ (some 40) _) _
      try simp only [act_all]
      refine wpAnyH_take (i := 7) (oi := _) (v := ?_) rfl (by kernel_rfl) (by kernel_rfl) (by kernel_rfl) (fun _ _ _ h => h) (Or.inl ⟨by rfl, ?_⟩) (by assumption) ?_
      rotate_left
      · intro w _; go_simp; (try with_reducible rfl)
      try change wpAnyH _ _ _ _ _ _ _ (Act.put _ (some 41) _) _
      try simp only [act_all]
      refine wpAnyH_take (i := 8) (oi := _) (v := ?_) rfl (by kernel_rfl) (by kernel_rfl) (by kernel_rfl) (fun _ _ _ h => h) (Or.inl ⟨by rfl, ?_⟩) (by assumption) ?_
      rotate_left
      · intro w _; go_simp; (try with_reducible rfl)
      try change wpAnyH _ _ _ _ _ _ _ (Act.put _ (some 42) _) _
      try simp only [act_all]
      refine wpAnyH_take (i := 9) (oi := _) (v := ?_) rfl (by kernel_rfl) (by kernel_rfl) (by kernel_rfl) (fun _ _ _ h => h) (Or.inl ⟨by rfl, ?_⟩) (by assumption) ?_
      rotate_left
      · intro w _; go_simp; (try with_reducible rfl)
      try change wpAnyH _ _ _ _ _ _ _ (Act.put _ (some 43) _) _
      try simp only [act_all]
      refine wpAnyH_take (i := 10) (oi := _) (v := _) rfl (by kernel_rfl) (by kernel_rfl) (by kernel_rfl) (fun _ _ _ h => h) (yieldsIf_load_mid (by rfl) 25 _ rfl (w.heap.size + 1) 0 rfl [.int .i64 e0, .int .i64 f0, .int .i64 g0, .int .i64 h0] _ (fun w' h => RBQ0.out w' ⟨h.1, h.2.1⟩) Try.underlying25 rfl (by kernel_rfl)) (by assumption) ?_
      try change wpAnyH _ _ _ _ _ _ _ (Act.put _ (some 44) _) _
      try simp only [act_all]
      refine wpAnyH_take (i := 12) (oi := _) (v := ?_) rfl (by kernel_rfl) (by kernel_rfl) (by kernel_rfl) (fun _ _ _ h => h) (Or.inl ⟨by rfl, ?_⟩) (by assumption) ?_
      rotate_left
      · intro w _; go_simp; (try with_reducible rfl)
      try change wpAnyH _ _ _ _ _ _ _ (Act.put _ (some 46) _) _
      try simp only [act_all]
      refine wpAnyH_take (i := 13) (oi := _) (v := ?_) rfl (by kernel_rfl) (by kernel_rfl) (by kernel_rfl) (fun _ _ _ h => h) (Or.inl ⟨by rfl, ?_⟩) (by assumption) ?_
      rotate_left
      · intro w _; go_simp; (try with_reducible rfl)
      try change wpAnyH _ _ _ _ _ _ _ (Act.put _ (some 47) _) _
      try simp only [act_all]
      refine wpAnyH_take (i := 14) (oi := _) (v := ?_) rfl (by kernel_rfl) (by kernel_rfl) (by kernel_rfl) (fun _ _ _ h => h) (Or.inl ⟨by rfl, ?_⟩) (by assumption) ?_
      rotate_left
      · intro w _; go_simp; (try with_reducible rfl)
      try change wpAnyH _ _ _ _ _ _ _ (Act.put _ (some 48) _) _
      try simp only [act_all]
      refine wpAnyH_take (i := 15) (oi := _) (v := _) rfl (by kernel_rfl) (by kernel_rfl) (by kernel_rfl) (fun _ _ _ h => h) (yieldsIf_load_mid (by rfl) 25 _ rfl (w.heap.size) 8 rfl [.int .i64 a2, .int .i64 b2, .int .i64 c2, .int .i64 d2] _ (fun w' h => RBP2.out w' ⟨h.1, h.2.1⟩) Try.underlying25 rfl (by kernel_rfl)) (by assumption) ?_
      try change wpAnyH _ _ _ _ _ _ _ (Act.put _ (some 49) _) _
      try simp only [act_all]
      refine wpAnyH_take (i := 17) (oi := _) (v := _) rfl (by kernel_rfl) (by kernel_rfl) (by kernel_rfl) (fun _ _ _ h => h) (yieldsIf_load_mid (by rfl) 25 _ rfl (DB) 0 rfl [.int .i64 n1, .int .i64 n2, .int .i64 n3, .int .i64 n4] _ (fun w' h => range_row h.2.2 0 [.int .i64 n1, .int .i64 n2, .int .i64 n3, .int .i64 n4] (fun j hj => by rcases four_at (by simpa using hj) with rfl | rfl | rfl | rfl <;> rfl)) Try.underlying25 rfl (by kernel_rfl)) (by assumption) ?_
      try change wpAnyH _ _ _ _ _ _ _ (Act.put _ (some 51) _) _
      try simp only [act_all]
      refine wpAnyH_ready (rs := [11, 19]) (by kernel_rfl) (by simp) ?_
      refine AllReadyH.cons (o := _) rfl (fun K hK => ?_) ?_
      · go_simp
        refine (rMulW_any a1 b1 c1 d1 e0 f0 g0 h0 ke2 GB _ HP1.out.1 HP1.out.2 HQ0.out.1 HQ0.out.2 HD19.cell HD19.free).mono ?_
        rintro e y20_ ⟨he, hb⟩
        obtain ⟨r, hr⟩ : ∃ r, (mulW ke2 ⟨⟨a1, b1⟩, ⟨c1, d1⟩⟩ ⟨⟨e0, f0⟩, ⟨g0, h0⟩⟩) = r := ⟨_, rfl⟩
        rw [hr] at he hb
        obtain ⟨⟨⟨p1, p2⟩, ⟨p3, p4⟩⟩, ke3⟩ := r
        have HR20 := Lib.hid hr
        have HO20 := Lib.hid (mulW_okR hr)
        have HD20 : Wk GB ke3 OB V y20_ := HD19.trans (hb.mono (Nat.le_trans (Nat.le_of_lt lO) HD19.size))
        have kO20 : y20_.heap[OB]? = some (.cells #[.int .i64 0, .int .i64 0, .int .i64 0, .int .i64 0, .int .i64 0, .int .i64 0, .int .i64 0, .int .i64 0, .int .i64 0, .int .i64 0, .int .i64 0, .int .i64 0, .int .i64 0, .int .i64 0, .int .i64 0, .int .i64 0] 49 (0, 0)) := (hb.block _ (by first | omega | (simp; done) | (simp; omega)) (by omega)).trans cO5
        have kD20 : y20_.heap[DB]? = some (.cells #[.int .i64 n1, .int .i64 n2, .int .i64 n3, .int .i64 n4] 25 (0, 0)) := (hb.block _ (by first | omega | (simp; done) | (simp; omega)) (by omega)).trans cD5
        have hz20 := hb.size
        (try simp at hz20)
        clear hb hr
        clear hHeld
        obtain rfl : e = .returned (.agg #[.int .i64 p1, .int .i64 p2, .int .i64 p3, .int .i64 p4]) := he
        refine hK.out _ _ ⟨(G0.out _ _ HD20).1, (G0.out _ _ HD20).2, kD20⟩ (fun hHeld => ?_)
        clear hK K
        try simp only [act_all]
        refine wpAnyH_ready (rs := [16, 19]) (by kernel_rfl) (by simp) ?_
        refine AllReadyH.cons (o := _) rfl (fun K hK => ?_) ?_
        · go_simp
          refine (rMulW_any p1 p2 p3 p4 a2 b2 c2 d2 ke3 GB _ HO20.out.1 HO20.out.2 HP2.out.1 HP2.out.2 HD20.cell HD20.free).mono ?_
          rintro e y21_ ⟨he, hb⟩
          obtain ⟨r, hr⟩ : ∃ r, (mulW ke3 ⟨⟨p1, p2⟩, ⟨p3, p4⟩⟩ ⟨⟨a2, b2⟩, ⟨c2, d2⟩⟩) = r := ⟨_, rfl⟩
          rw [hr] at he hb
          obtain ⟨⟨⟨o1, o2⟩, ⟨o3, o4⟩⟩, ke4⟩ := r
          have HR21 := Lib.hid hr
          have HO21 := Lib.hid (mulW_okR hr)
          have HD21 : Wk GB ke4 OB V y21_ := HD20.trans (hb.mono (Nat.le_trans (Nat.le_of_lt lO) HD20.size))
          have kO21 : y21_.heap[OB]? = some (.cells #[.int .i64 0, .int .i64 0, .int .i64 0, .int .i64 0, .int .i64 0, .int .i64 0, .int .i64 0, .int .i64 0, .int .i64 0, .int .i64 0, .int .i64 0, .int .i64 0, .int .i64 0, .int .i64 0, .int .i64 0, .int .i64 0] 49 (0, 0)) := (hb.block _ (by first | omega | (simp; done) | (simp; omega)) (by omega)).trans kO20
          have kD21 : y21_.heap[DB]? = some (.cells #[.int .i64 n1, .int .i64 n2, .int .i64 n3, .int .i64 n4] 25 (0, 0)) := (hb.block _ (by first | omega | (simp; done) | (simp; omega)) (by omega)).trans kD20
          have hz21 := hb.size
          (try simp at hz21)
          clear hb hr
          clear hHeld
          obtain rfl : e = .returned (.agg #[.int .i64 o1, .int .i64 o2, .int .i64 o3, .int .i64 o4]) := he
          refine hK.out _ _ ⟨(G0.out _ _ HD21).1, (G0.out _ _ HD21).2, kD21⟩ (fun hHeld => ?_)
          clear hK K
          try simp only [act_all]
          refine wpAnyH_ready (rs := [18, 19]) (by kernel_rfl) (by simp) ?_
          refine AllReadyH.cons (o := _) rfl (fun K hK => ?_) ?_
          · go_simp
            refine (rDivW_any o1 o2 o3 o4 n1 n2 n3 n4 ke4 GB _ HO21.out.1 HO21.out.2 HOD.out.1 HOD.out.2 HD21.cell HD21.free).mono ?_
            rintro e y22_ ⟨he, hb⟩
            obtain ⟨r, hr⟩ : ∃ r, (divW ke4 ⟨⟨o1, o2⟩, ⟨o3, o4⟩⟩ ⟨⟨n1, n2⟩, ⟨n3, n4⟩⟩) = r := ⟨_, rfl⟩
            rw [hr] at he hb
            obtain ⟨⟨⟨r1, r2⟩, ⟨r3, r4⟩⟩, ke5⟩ := r
            have HR22 := Lib.hid hr
            have HO22 := Lib.hid (divW_okR hr)
            have HD22 : Wk GB ke5 OB V y22_ := HD21.trans (hb.mono (Nat.le_trans (Nat.le_of_lt lO) HD21.size))
            have kO22 : y22_.heap[OB]? = some (.cells #[.int .i64 0, .int .i64 0, .int .i64 0, .int .i64 0, .int .i64 0, .int .i64 0, .int .i64 0, .int .i64 0, .int .i64 0, .int .i64 0, .int .i64 0, .int .i64 0, .int .i64 0, .int .i64 0, .int .i64 0, .int .i64 0] 49 (0, 0)) := (hb.block _ (by first | omega | (simp; done) | (simp; omega)) (by omega)).trans kO21
            have kD22 : y22_.heap[DB]? = some (.cells #[.int .i64 n1, .int .i64 n2, .int .i64 n3, .int .i64 n4] 25 (0, 0)) := (hb.block _ (by first | omega | (simp; done) | (simp; omega)) (by omega)).trans kD21
            have hz22 := hb.size
            (try simp at hz22)
            clear hb hr
            clear hHeld
            obtain rfl : e = .returned (.agg #[.int .i64 r1, .int .i64 r2, .int .i64 r3, .int .i64 r4]) := he
            refine hK.out _ _ ⟨(G0.out _ _ HD22).1, (G0.out _ _ HD22).2, kD22⟩ (fun hHeld => ?_)
            clear hK K
            try simp only [act_all]
            refine wpAnyH_ready (rs := [19]) (by kernel_rfl) (by simp) ?_
            refine AllReadyH.cons (o := _) rfl (fun K hK => ?_) AllReadyH.nil
            have HD23 : Wk GB ke5 OB V (y22_.alloc (Obj.cells #[.int .i64 0, .int .i64 0, .int .i64 0, .int .i64 0] 25)) := HD22.then ((bal (Below.refl _ _) _).mono (Nat.le_trans (Nat.le_of_lt lO) HD22.size)) lGO
            have kO23 : (y22_.alloc (Obj.cells #[.int .i64 0, .int .i64 0, .int .i64 0, .int .i64 0] 25)).heap[OB]? = some (.cells #[.int .i64 0, .int .i64 0, .int .i64 0, .int .i64 0, .int .i64 0, .int .i64 0, .int .i64 0, .int .i64 0, .int .i64 0, .int .i64 0, .int .i64 0, .int .i64 0, .int .i64 0, .int .i64 0, .int .i64 0, .int .i64 0] 49 (0, 0)) := (Below.heap_alloc _ _ _ (by first | omega | (simp; done) | (simp; omega))).trans kO22
            have kD23 : (y22_.alloc (Obj.cells #[.int .i64 0, .int .i64 0, .int .i64 0, .int .i64 0] 25)).heap[DB]? = some (.cells #[.int .i64 n1, .int .i64 n2, .int .i64 n3, .int .i64 n4] 25 (0, 0)) := (Below.heap_alloc _ _ _ (by first | omega | (simp; done) | (simp; omega))).trans kD22
            go_simp
            refine hK.out _ _ ⟨(G0.out _ _ HD23).1, (G0.out _ _ HD23).2, kD23⟩ (fun hHeld => ?_)
            clear hK K
            try simp only [act_all]
            refine wpAnyH_ready (rs := [20]) (by kernel_rfl) (by simp) ?_
            refine AllReadyH.cons (o := _) rfl (fun K hK => ?_) AllReadyH.nil
            have kx24 : (y22_.alloc (Obj.cells #[.int .i64 0, .int .i64 0, .int .i64 0, .int .i64 0] 25)).heap[y22_.heap.size]? = some (.cells #[.int .i64 0, .int .i64 0, .int .i64 0, .int .i64 0] 25 (0, 0)) := (heap_alloc_new y22_ _)
            have HTH := Lib.hid (there_mid kx24 0 4 (show 0 + 4 ≤ 4 by decide))
            have HB24 : Below OB (y22_.alloc (Obj.cells #[.int .i64 0, .int .i64 0, .int .i64 0, .int .i64 0] 25)) ((y22_.alloc (Obj.cells #[.int .i64 0, .int .i64 0, .int .i64 0, .int .i64 0] 25)).setCells (y22_.heap.size) 0 [.int .i64 r1, .int .i64 r2, .int .i64 r3, .int .i64 r4]) := below_mids (by have := HD23.size; first | omega | (simp; done) | (simp; omega)) _ _ (Below.refl _ _)
            have HD24 : Wk GB ke5 OB V ((y22_.alloc (Obj.cells #[.int .i64 0, .int .i64 0, .int .i64 0, .int .i64 0] 25)).setCells (y22_.heap.size) 0 [.int .i64 r1, .int .i64 r2, .int .i64 r3, .int .i64 r4]) := HD23.then HB24 lGO
            have kN24 : ((y22_.alloc (Obj.cells #[.int .i64 0, .int .i64 0, .int .i64 0, .int .i64 0] 25)).setCells (y22_.heap.size) 0 [.int .i64 r1, .int .i64 r2, .int .i64 r3, .int .i64 r4]).heap[y22_.heap.size]? = some (.cells #[.int .i64 r1, .int .i64 r2, .int .i64 r3, .int .i64 r4] 25 (0, 0)) := block_setCells [.int .i64 r1, .int .i64 r2, .int .i64 r3, .int .i64 r4] 0 _ _ kx24
            have kO24 : ((y22_.alloc (Obj.cells #[.int .i64 0, .int .i64 0, .int .i64 0, .int .i64 0] 25)).setCells (y22_.heap.size) 0 [.int .i64 r1, .int .i64 r2, .int .i64 r3, .int .i64 r4]).heap[OB]? = some (.cells #[.int .i64 0, .int .i64 0, .int .i64 0, .int .i64 0, .int .i64 0, .int .i64 0, .int .i64 0, .int .i64 0, .int .i64 0, .int .i64 0, .int .i64 0, .int .i64 0, .int .i64 0, .int .i64 0, .int .i64 0, .int .i64 0] 49 (0, 0)) := (World.heap_setCells_other _ _ _ _ (by first | omega | (simp; done) | (simp; omega)) (by have := HD23.size; first | omega | (simp; done) | (simp; omega))).trans kO23
            have kD24 : ((y22_.alloc (Obj.cells #[.int .i64 0, .int .i64 0, .int .i64 0, .int .i64 0] 25)).setCells (y22_.heap.size) 0 [.int .i64 r1, .int .i64 r2, .int .i64 r3, .int .i64 r4]).heap[DB]? = some (.cells #[.int .i64 n1, .int .i64 n2, .int .i64 n3, .int .i64 n4] 25 (0, 0)) := (World.heap_setCells_other _ _ _ _ (by first | omega | (simp; done) | (simp; omega)) (by have := HD23.size; first | omega | (simp; done) | (simp; omega))).trans kD23
            rw [if_pos (show Region.wanted _ _ = true from rfl)]
            refine wp_store_mid 25 (.tmp 9) (.tmp 52) rfl (y22_.heap.size) 0 #[.int .i64 r1, .int .i64 r2, .int .i64 r3, .int .i64 r4] rfl rfl HTH.out (by kernel_rfl) (by simp [Value.oneCell']) ?_
            (try rw [show (#[.int .i64 r1, .int .i64 r2, .int .i64 r3, .int .i64 r4] : Array Value).toList = [.int .i64 r1, .int .i64 r2, .int .i64 r3, .int .i64 r4] from rfl])
            refine hK.out _ _ ⟨(G0.out _ _ HD24).1, (G0.out _ _ HD24).2, kD24⟩ (fun hHeld => ?_)
            clear hK K
            try simp only [act_all]
            refine wpAnyH_done (by kernel_rfl) ?_ _
            go_wp2_with fail
            go_meet
            exact ⟨_, _, _, _, _, _, _, _, _, _, _, _, _, _, _, _, rfl, by have := HD24.size; first | omega | (simp; done) | (simp; omega), HR20.out, HR21.out, HR22.out, kO24, kD24, kN24, HD24⟩
          refine AllReadyH.cons (o := _) rfl (fun K hK => ?_) AllReadyH.nil
          have HD25 : Wk GB ke4 OB V (y21_.alloc (Obj.cells #[.int .i64 0, .int .i64 0, .int .i64 0, .int .i64 0] 25)) := HD21.then ((bal (Below.refl _ _) _).mono (Nat.le_trans (Nat.le_of_lt lO) HD21.size)) lGO
          have kO25 : (y21_.alloc (Obj.cells #[.int .i64 0, .int .i64 0, .int .i64 0, .int .i64 0] 25)).heap[OB]? = some (.cells #[.int .i64 0, .int .i64 0, .int .i64 0, .int .i64 0, .int .i64 0, .int .i64 0, .int .i64 0, .int .i64 0, .int .i64 0, .int .i64 0, .int .i64 0, .int .i64 0, .int .i64 0, .int .i64 0, .int .i64 0, .int .i64 0] 49 (0, 0)) := (Below.heap_alloc _ _ _ (by first | omega | (simp; done) | (simp; omega))).trans kO21
          have kD25 : (y21_.alloc (Obj.cells #[.int .i64 0, .int .i64 0, .int .i64 0, .int .i64 0] 25)).heap[DB]? = some (.cells #[.int .i64 n1, .int .i64 n2, .int .i64 n3, .int .i64 n4] 25 (0, 0)) := (Below.heap_alloc _ _ _ (by first | omega | (simp; done) | (simp; omega))).trans kD21
          go_simp
          refine hK.out _ _ ⟨(G0.out _ _ HD25).1, (G0.out _ _ HD25).2, kD25⟩ (fun hHeld => ?_)
          clear hK K
          try simp only [act_all]
          refine wpAnyH_ready (rs := [18]) (by kernel_rfl) (by simp) ?_
          refine AllReadyH.cons (o := _) rfl (fun K hK => ?_) AllReadyH.nil
          go_simp
          refine (rDivW_any o1 o2 o3 o4 n1 n2 n3 n4 ke4 GB _ HO21.out.1 HO21.out.2 HOD.out.1 HOD.out.2 HD25.cell HD25.free).mono ?_
          rintro e y26_ ⟨he, hb⟩
          obtain ⟨r, hr⟩ : ∃ r, (divW ke4 ⟨⟨o1, o2⟩, ⟨o3, o4⟩⟩ ⟨⟨n1, n2⟩, ⟨n3, n4⟩⟩) = r := ⟨_, rfl⟩
          rw [hr] at he hb
          obtain ⟨⟨⟨r1, r2⟩, ⟨r3, r4⟩⟩, ke5⟩ := r
          have HR26 := Lib.hid hr
          have HO26 := Lib.hid (divW_okR hr)
          have HD26 : Wk GB ke5 OB V y26_ := HD25.trans (hb.mono (Nat.le_trans (Nat.le_of_lt lO) HD25.size))
          have kO26 : y26_.heap[OB]? = some (.cells #[.int .i64 0, .int .i64 0, .int .i64 0, .int .i64 0, .int .i64 0, .int .i64 0, .int .i64 0, .int .i64 0, .int .i64 0, .int .i64 0, .int .i64 0, .int .i64 0, .int .i64 0, .int .i64 0, .int .i64 0, .int .i64 0] 49 (0, 0)) := (hb.block _ (by first | omega | (simp; done) | (simp; omega)) (by omega)).trans kO25
          have kD26 : y26_.heap[DB]? = some (.cells #[.int .i64 n1, .int .i64 n2, .int .i64 n3, .int .i64 n4] 25 (0, 0)) := (hb.block _ (by first | omega | (simp; done) | (simp; omega)) (by omega)).trans kD25
          have kN26 : y26_.heap[y21_.heap.size]? = some (.cells #[.int .i64 0, .int .i64 0, .int .i64 0, .int .i64 0] 25 (0, 0)) := (hb.block _ (by first | omega | (simp; done) | (simp; omega)) (by omega)).trans (heap_alloc_new y21_ _)
          have hz26 := hb.size
          (try simp at hz26)
          clear hb hr
          clear hHeld
          obtain rfl : e = .returned (.agg #[.int .i64 r1, .int .i64 r2, .int .i64 r3, .int .i64 r4]) := he
          refine hK.out _ _ ⟨(G0.out _ _ HD26).1, (G0.out _ _ HD26).2, kD26⟩ (fun hHeld => ?_)
          clear hK K
          try simp only [act_all]
          refine wpAnyH_ready (rs := [20]) (by kernel_rfl) (by simp) ?_
          refine AllReadyH.cons (o := _) rfl (fun K hK => ?_) AllReadyH.nil
          have kx27 : y26_.heap[y21_.heap.size]? = some (.cells #[.int .i64 0, .int .i64 0, .int .i64 0, .int .i64 0] 25 (0, 0)) := kN26
          have HTH := Lib.hid (there_mid kx27 0 4 (show 0 + 4 ≤ 4 by decide))
          have HB27 : Below OB y26_ (y26_.setCells (y21_.heap.size) 0 [.int .i64 r1, .int .i64 r2, .int .i64 r3, .int .i64 r4]) := below_mids (by have := HD26.size; first | omega | (simp; done) | (simp; omega)) _ _ (Below.refl _ _)
          have HD27 : Wk GB ke5 OB V (y26_.setCells (y21_.heap.size) 0 [.int .i64 r1, .int .i64 r2, .int .i64 r3, .int .i64 r4]) := HD26.then HB27 lGO
          have kN27 : (y26_.setCells (y21_.heap.size) 0 [.int .i64 r1, .int .i64 r2, .int .i64 r3, .int .i64 r4]).heap[y21_.heap.size]? = some (.cells #[.int .i64 r1, .int .i64 r2, .int .i64 r3, .int .i64 r4] 25 (0, 0)) := block_setCells [.int .i64 r1, .int .i64 r2, .int .i64 r3, .int .i64 r4] 0 _ _ kx27
          have kO27 : (y26_.setCells (y21_.heap.size) 0 [.int .i64 r1, .int .i64 r2, .int .i64 r3, .int .i64 r4]).heap[OB]? = some (.cells #[.int .i64 0, .int .i64 0, .int .i64 0, .int .i64 0, .int .i64 0, .int .i64 0, .int .i64 0, .int .i64 0, .int .i64 0, .int .i64 0, .int .i64 0, .int .i64 0, .int .i64 0, .int .i64 0, .int .i64 0, .int .i64 0] 49 (0, 0)) := (World.heap_setCells_other _ _ _ _ (by first | omega | (simp; done) | (simp; omega)) (by have := HD26.size; first | omega | (simp; done) | (simp; omega))).trans kO26
          have kD27 : (y26_.setCells (y21_.heap.size) 0 [.int .i64 r1, .int .i64 r2, .int .i64 r3, .int .i64 r4]).heap[DB]? = some (.cells #[.int .i64 n1, .int .i64 n2, .int .i64 n3, .int .i64 n4] 25 (0, 0)) := (World.heap_setCells_other _ _ _ _ (by first | omega | (simp; done) | (simp; omega)) (by have := HD26.size; first | omega | (simp; done) | (simp; omega))).trans kD26
          rw [if_pos (show Region.wanted _ _ = true from rfl)]
          refine wp_store_mid 25 (.tmp 9) (.tmp 52) rfl (y21_.heap.size) 0 #[.int .i64 r1, .int .i64 r2, .int .i64 r3, .int .i64 r4] rfl rfl HTH.out (by kernel_rfl) (by simp [Value.oneCell']) ?_
          (try rw [show (#[.int .i64 r1, .int .i64 r2, .int .i64 r3, .int .i64 r4] : Array Value).toList = [.int .i64 r1, .int .i64 r2, .int .i64 r3, .int .i64 r4] from rfl])
          refine hK.out _ _ ⟨(G0.out _ _ HD27).1, (G0.out _ _ HD27).2, kD27⟩ (fun hHeld => ?_)
          clear hK K
          try simp only [act_all]
          refine wpAnyH_done (by kernel_rfl) ?_ _
          go_wp2_with fail
          go_meet
          exact ⟨_, _, _, _, _, _, _, _, _, _, _, _, _, _, _, _, rfl, by have := HD27.size; first | omega | (simp; done) | (simp; omega), HR20.out, HR21.out, HR26.out, kO27, kD27, kN27, HD27⟩
        refine AllReadyH.cons (o := _) rfl (fun K hK => ?_) AllReadyH.nil
        have HD28 : Wk GB ke3 OB V (y20_.alloc (Obj.cells #[.int .i64 0, .int .i64 0, .int .i64 0, .int .i64 0] 25)) := HD20.then ((bal (Below.refl _ _) _).mono (Nat.le_trans (Nat.le_of_lt lO) HD20.size)) lGO
        have kO28 : (y20_.alloc (Obj.cells #[.int .i64 0, .int .i64 0, .int .i64 0, .int .i64 0] 25)).heap[OB]? = some (.cells #[.int .i64 0, .int .i64 0, .int .i64 0, .int .i64 0, .int .i64 0, .int .i64 0, .int .i64 0, .int .i64 0, .int .i64 0, .int .i64 0, .int .i64 0, .int .i64 0, .int .i64 0, .int .i64 0, .int .i64 0, .int .i64 0] 49 (0, 0)) := (Below.heap_alloc _ _ _ (by first | omega | (simp; done) | (simp; omega))).trans kO20
        have kD28 : (y20_.alloc (Obj.cells #[.int .i64 0, .int .i64 0, .int .i64 0, .int .i64 0] 25)).heap[DB]? = some (.cells #[.int .i64 n1, .int .i64 n2, .int .i64 n3, .int .i64 n4] 25 (0, 0)) := (Below.heap_alloc _ _ _ (by first | omega | (simp; done) | (simp; omega))).trans kD20
        go_simp
        refine hK.out _ _ ⟨(G0.out _ _ HD28).1, (G0.out _ _ HD28).2, kD28⟩ (fun hHeld => ?_)
        clear hK K
        try simp only [act_all]
        refine wpAnyH_ready (rs := [16]) (by kernel_rfl) (by simp) ?_
        refine AllReadyH.cons (o := _) rfl (fun K hK => ?_) AllReadyH.nil
        go_simp
        refine (rMulW_any p1 p2 p3 p4 a2 b2 c2 d2 ke3 GB _ HO20.out.1 HO20.out.2 HP2.out.1 HP2.out.2 HD28.cell HD28.free).mono ?_
        rintro e y29_ ⟨he, hb⟩
        obtain ⟨r, hr⟩ : ∃ r, (mulW ke3 ⟨⟨p1, p2⟩, ⟨p3, p4⟩⟩ ⟨⟨a2, b2⟩, ⟨c2, d2⟩⟩) = r := ⟨_, rfl⟩
        rw [hr] at he hb
        obtain ⟨⟨⟨o1, o2⟩, ⟨o3, o4⟩⟩, ke4⟩ := r
        have HR29 := Lib.hid hr
        have HO29 := Lib.hid (mulW_okR hr)
        have HD29 : Wk GB ke4 OB V y29_ := HD28.trans (hb.mono (Nat.le_trans (Nat.le_of_lt lO) HD28.size))
        have kO29 : y29_.heap[OB]? = some (.cells #[.int .i64 0, .int .i64 0, .int .i64 0, .int .i64 0, .int .i64 0, .int .i64 0, .int .i64 0, .int .i64 0, .int .i64 0, .int .i64 0, .int .i64 0, .int .i64 0, .int .i64 0, .int .i64 0, .int .i64 0, .int .i64 0] 49 (0, 0)) := (hb.block _ (by first | omega | (simp; done) | (simp; omega)) (by omega)).trans kO28
        have kD29 : y29_.heap[DB]? = some (.cells #[.int .i64 n1, .int .i64 n2, .int .i64 n3, .int .i64 n4] 25 (0, 0)) := (hb.block _ (by first | omega | (simp; done) | (simp; omega)) (by omega)).trans kD28
        have kN29 : y29_.heap[y20_.heap.size]? = some (.cells #[.int .i64 0, .int .i64 0, .int .i64 0, .int .i64 0] 25 (0, 0)) := (hb.block _ (by first | omega | (simp; done) | (simp; omega)) (by omega)).trans (heap_alloc_new y20_ _)
        have hz29 := hb.size
        (try simp at hz29)
        clear hb hr
        clear hHeld
        obtain rfl : e = .returned (.agg #[.int .i64 o1, .int .i64 o2, .int .i64 o3, .int .i64 o4]) := he
        refine hK.out _ _ ⟨(G0.out _ _ HD29).1, (G0.out _ _ HD29).2, kD29⟩ (fun hHeld => ?_)
        clear hK K
        try simp only [act_all]
        refine wpAnyH_ready (rs := [18]) (by kernel_rfl) (by simp) ?_
        refine AllReadyH.cons (o := _) rfl (fun K hK => ?_) AllReadyH.nil
        go_simp
        refine (rDivW_any o1 o2 o3 o4 n1 n2 n3 n4 ke4 GB _ HO29.out.1 HO29.out.2 HOD.out.1 HOD.out.2 HD29.cell HD29.free).mono ?_
        rintro e y30_ ⟨he, hb⟩
        obtain ⟨r, hr⟩ : ∃ r, (divW ke4 ⟨⟨o1, o2⟩, ⟨o3, o4⟩⟩ ⟨⟨n1, n2⟩, ⟨n3, n4⟩⟩) = r := ⟨_, rfl⟩
        rw [hr] at he hb
        obtain ⟨⟨⟨r1, r2⟩, ⟨r3, r4⟩⟩, ke5⟩ := r
        have HR30 := Lib.hid hr
        have HO30 := Lib.hid (divW_okR hr)
        have HD30 : Wk GB ke5 OB V y30_ := HD29.trans (hb.mono (Nat.le_trans (Nat.le_of_lt lO) HD29.size))
        have kO30 : y30_.heap[OB]? = some (.cells #[.int .i64 0, .int .i64 0, .int .i64 0, .int .i64 0, .int .i64 0, .int .i64 0, .int .i64 0, .int .i64 0, .int .i64 0, .int .i64 0, .int .i64 0, .int .i64 0, .int .i64 0, .int .i64 0, .int .i64 0, .int .i64 0] 49 (0, 0)) := (hb.block _ (by first | omega | (simp; done) | (simp; omega)) (by omega)).trans kO29
        have kD30 : y30_.heap[DB]? = some (.cells #[.int .i64 n1, .int .i64 n2, .int .i64 n3, .int .i64 n4] 25 (0, 0)) := (hb.block _ (by first | omega | (simp; done) | (simp; omega)) (by omega)).trans kD29
        have kN30 : y30_.heap[y20_.heap.size]? = some (.cells #[.int .i64 0, .int .i64 0, .int .i64 0, .int .i64 0] 25 (0, 0)) := (hb.block _ (by first | omega | (simp; done) | (simp; omega)) (by omega)).trans kN29
        have hz30 := hb.size
        (try simp at hz30)
        clear hb hr
        clear hHeld
        obtain rfl : e = .returned (.agg #[.int .i64 r1, .int .i64 r2, .int .i64 r3, .int .i64 r4]) := he
        refine hK.out _ _ ⟨(G0.out _ _ HD30).1, (G0.out _ _ HD30).2, kD30⟩ (fun hHeld => ?_)
        clear hK K
        try simp only [act_all]
        refine wpAnyH_ready (rs := [20]) (by kernel_rfl) (by simp) ?_
        refine AllReadyH.cons (o := _) rfl (fun K hK => ?_) AllReadyH.nil
        have kx31 : y30_.heap[y20_.heap.size]? = some (.cells #[.int .i64 0, .int .i64 0, .int .i64 0, .int .i64 0] 25 (0, 0)) := kN30
        have HTH := Lib.hid (there_mid kx31 0 4 (show 0 + 4 ≤ 4 by decide))
        have HB31 : Below OB y30_ (y30_.setCells (y20_.heap.size) 0 [.int .i64 r1, .int .i64 r2, .int .i64 r3, .int .i64 r4]) := below_mids (by have := HD30.size; first | omega | (simp; done) | (simp; omega)) _ _ (Below.refl _ _)
        have HD31 : Wk GB ke5 OB V (y30_.setCells (y20_.heap.size) 0 [.int .i64 r1, .int .i64 r2, .int .i64 r3, .int .i64 r4]) := HD30.then HB31 lGO
        have kN31 : (y30_.setCells (y20_.heap.size) 0 [.int .i64 r1, .int .i64 r2, .int .i64 r3, .int .i64 r4]).heap[y20_.heap.size]? = some (.cells #[.int .i64 r1, .int .i64 r2, .int .i64 r3, .int .i64 r4] 25 (0, 0)) := block_setCells [.int .i64 r1, .int .i64 r2, .int .i64 r3, .int .i64 r4] 0 _ _ kx31
        have kO31 : (y30_.setCells (y20_.heap.size) 0 [.int .i64 r1, .int .i64 r2, .int .i64 r3, .int .i64 r4]).heap[OB]? = some (.cells #[.int .i64 0, .int .i64 0, .int .i64 0, .int .i64 0, .int .i64 0, .int .i64 0, .int .i64 0, .int .i64 0, .int .i64 0, .int .i64 0, .int .i64 0, .int .i64 0, .int .i64 0, .int .i64 0, .int .i64 0, .int .i64 0] 49 (0, 0)) := (World.heap_setCells_other _ _ _ _ (by first | omega | (simp; done) | (simp; omega)) (by have := HD30.size; first | omega | (simp; done) | (simp; omega))).trans kO30
        have kD31 : (y30_.setCells (y20_.heap.size) 0 [.int .i64 r1, .int .i64 r2, .int .i64 r3, .int .i64 r4]).heap[DB]? = some (.cells #[.int .i64 n1, .int .i64 n2, .int .i64 n3, .int .i64 n4] 25 (0, 0)) := (World.heap_setCells_other _ _ _ _ (by first | omega | (simp; done) | (simp; omega)) (by have := HD30.size; first | omega | (simp; done) | (simp; omega))).trans kD30
        rw [if_pos (show Region.wanted _ _ = true from rfl)]
        refine wp_store_mid 25 (.tmp 9) (.tmp 52) rfl (y20_.heap.size) 0 #[.int .i64 r1, .int .i64 r2, .int .i64 r3, .int .i64 r4] rfl rfl HTH.out (by kernel_rfl) (by simp [Value.oneCell']) ?_
        (try rw [show (#[.int .i64 r1, .int .i64 r2, .int .i64 r3, .int .i64 r4] : Array Value).toList = [.int .i64 r1, .int .i64 r2, .int .i64 r3, .int .i64 r4] from rfl])
        refine hK.out _ _ ⟨(G0.out _ _ HD31).1, (G0.out _ _ HD31).2, kD31⟩ (fun hHeld => ?_)
        clear hK K
        try simp only [act_all]
        refine wpAnyH_done (by kernel_rfl) ?_ _
        go_wp2_with fail
        go_meet
        exact ⟨_, _, _, _, _, _, _, _, _, _, _, _, _, _, _, _, rfl, by have := HD31.size; first | omega | (simp; done) | (simp; omega), HR20.out, HR29.out, HR30.out, kO31, kD31, kN31, HD31⟩
      refine AllReadyH.cons (o := _) rfl (fun K hK => ?_) AllReadyH.nil
      have HD32 : Wk GB ke2 OB V (V5.drew.alloc (Obj.cells #[.int .i64 0, .int .i64 0, .int .i64 0, .int .i64 0] 25)) := HD19.then ((bal (Below.refl _ _) _).mono (Nat.le_trans (Nat.le_of_lt lO) HD19.size)) lGO
      have kO32 : (V5.drew.alloc (Obj.cells #[.int .i64 0, .int .i64 0, .int .i64 0, .int .i64 0] 25)).heap[OB]? = some (.cells #[.int .i64 0, .int .i64 0, .int .i64 0, .int .i64 0, .int .i64 0, .int .i64 0, .int .i64 0, .int .i64 0, .int .i64 0, .int .i64 0, .int .i64 0, .int .i64 0, .int .i64 0, .int .i64 0, .int .i64 0, .int .i64 0] 49 (0, 0)) := (Below.heap_alloc _ _ _ (by first | omega | (simp; done) | (simp; omega))).trans cO5
      have kD32 : (V5.drew.alloc (Obj.cells #[.int .i64 0, .int .i64 0, .int .i64 0, .int .i64 0] 25)).heap[DB]? = some (.cells #[.int .i64 n1, .int .i64 n2, .int .i64 n3, .int .i64 n4] 25 (0, 0)) := (Below.heap_alloc _ _ _ (by first | omega | (simp; done) | (simp; omega))).trans cD5
      go_simp
      refine hK.out _ _ ⟨(G0.out _ _ HD32).1, (G0.out _ _ HD32).2, kD32⟩ (fun hHeld => ?_)
      clear hK K
      try simp only [act_all]
      refine wpAnyH_ready (rs := [11]) (by kernel_rfl) (by simp) ?_
      refine AllReadyH.cons (o := _) rfl (fun K hK => ?_) AllReadyH.nil
      go_simp
      refine (rMulW_any a1 b1 c1 d1 e0 f0 g0 h0 ke2 GB _ HP1.out.1 HP1.out.2 HQ0.out.1 HQ0.out.2 HD32.cell HD32.free).mono ?_
      rintro e y33_ ⟨he, hb⟩
      obtain ⟨r, hr⟩ : ∃ r, (mulW ke2 ⟨⟨a1, b1⟩, ⟨c1, d1⟩⟩ ⟨⟨e0, f0⟩, ⟨g0, h0⟩⟩) = r := ⟨_, rfl⟩
      rw [hr] at he hb
      obtain ⟨⟨⟨p1, p2⟩, ⟨p3, p4⟩⟩, ke3⟩ := r
      have HR33 := Lib.hid hr
      have HO33 := Lib.hid (mulW_okR hr)
      have HD33 : Wk GB ke3 OB V y33_ := HD32.trans (hb.mono (Nat.le_trans (Nat.le_of_lt lO) HD32.size))
      have kO33 : y33_.heap[OB]? = some (.cells #[.int .i64 0, .int .i64 0, .int .i64 0, .int .i64 0, .int .i64 0, .int .i64 0, .int .i64 0, .int .i64 0, .int .i64 0, .int .i64 0, .int .i64 0, .int .i64 0, .int .i64 0, .int .i64 0, .int .i64 0, .int .i64 0] 49 (0, 0)) := (hb.block _ (by first | omega | (simp; done) | (simp; omega)) (by omega)).trans kO32
      have kD33 : y33_.heap[DB]? = some (.cells #[.int .i64 n1, .int .i64 n2, .int .i64 n3, .int .i64 n4] 25 (0, 0)) := (hb.block _ (by first | omega | (simp; done) | (simp; omega)) (by omega)).trans kD32
      have kN33 : y33_.heap[V5.heap.size]? = some (.cells #[.int .i64 0, .int .i64 0, .int .i64 0, .int .i64 0] 25 (0, 0)) := (hb.block _ (by first | omega | (simp; done) | (simp; omega)) (by omega)).trans (heap_alloc_new V5.drew _)
      have hz33 := hb.size
      (try simp at hz33)
      clear hb hr
      clear hHeld
      obtain rfl : e = .returned (.agg #[.int .i64 p1, .int .i64 p2, .int .i64 p3, .int .i64 p4]) := he
      refine hK.out _ _ ⟨(G0.out _ _ HD33).1, (G0.out _ _ HD33).2, kD33⟩ (fun hHeld => ?_)
      clear hK K
      try simp only [act_all]
      refine wpAnyH_ready (rs := [16]) (by kernel_rfl) (by simp) ?_
      refine AllReadyH.cons (o := _) rfl (fun K hK => ?_) AllReadyH.nil
      go_simp
      refine (rMulW_any p1 p2 p3 p4 a2 b2 c2 d2 ke3 GB _ HO33.out.1 HO33.out.2 HP2.out.1 HP2.out.2 HD33.cell HD33.free).mono ?_
      rintro e y34_ ⟨he, hb⟩
      obtain ⟨r, hr⟩ : ∃ r, (mulW ke3 ⟨⟨p1, p2⟩, ⟨p3, p4⟩⟩ ⟨⟨a2, b2⟩, ⟨c2, d2⟩⟩) = r := ⟨_, rfl⟩
      rw [hr] at he hb
      obtain ⟨⟨⟨o1, o2⟩, ⟨o3, o4⟩⟩, ke4⟩ := r
      have HR34 := Lib.hid hr
      have HO34 := Lib.hid (mulW_okR hr)
      have HD34 : Wk GB ke4 OB V y34_ := HD33.trans (hb.mono (Nat.le_trans (Nat.le_of_lt lO) HD33.size))
      have kO34 : y34_.heap[OB]? = some (.cells #[.int .i64 0, .int .i64 0, .int .i64 0, .int .i64 0, .int .i64 0, .int .i64 0, .int .i64 0, .int .i64 0, .int .i64 0, .int .i64 0, .int .i64 0, .int .i64 0, .int .i64 0, .int .i64 0, .int .i64 0, .int .i64 0] 49 (0, 0)) := (hb.block _ (by first | omega | (simp; done) | (simp; omega)) (by omega)).trans kO33
      have kD34 : y34_.heap[DB]? = some (.cells #[.int .i64 n1, .int .i64 n2, .int .i64 n3, .int .i64 n4] 25 (0, 0)) := (hb.block _ (by first | omega | (simp; done) | (simp; omega)) (by omega)).trans kD33
      have kN34 : y34_.heap[V5.heap.size]? = some (.cells #[.int .i64 0, .int .i64 0, .int .i64 0, .int .i64 0] 25 (0, 0)) := (hb.block _ (by first | omega | (simp; done) | (simp; omega)) (by omega)).trans kN33
      have hz34 := hb.size
      (try simp at hz34)
      clear hb hr
      clear hHeld
      obtain rfl : e = .returned (.agg #[.int .i64 o1, .int .i64 o2, .int .i64 o3, .int .i64 o4]) := he
      refine hK.out _ _ ⟨(G0.out _ _ HD34).1, (G0.out _ _ HD34).2, kD34⟩ (fun hHeld => ?_)
      clear hK K
      try simp only [act_all]
      refine wpAnyH_ready (rs := [18]) (by kernel_rfl) (by simp) ?_
      refine AllReadyH.cons (o := _) rfl (fun K hK => ?_) AllReadyH.nil
      go_simp
      refine (rDivW_any o1 o2 o3 o4 n1 n2 n3 n4 ke4 GB _ HO34.out.1 HO34.out.2 HOD.out.1 HOD.out.2 HD34.cell HD34.free).mono ?_
      rintro e y35_ ⟨he, hb⟩
      obtain ⟨r, hr⟩ : ∃ r, (divW ke4 ⟨⟨o1, o2⟩, ⟨o3, o4⟩⟩ ⟨⟨n1, n2⟩, ⟨n3, n4⟩⟩) = r := ⟨_, rfl⟩
      rw [hr] at he hb
      obtain ⟨⟨⟨r1, r2⟩, ⟨r3, r4⟩⟩, ke5⟩ := r
      have HR35 := Lib.hid hr
      have HO35 := Lib.hid (divW_okR hr)
      have HD35 : Wk GB ke5 OB V y35_ := HD34.trans (hb.mono (Nat.le_trans (Nat.le_of_lt lO) HD34.size))
      have kO35 : y35_.heap[OB]? = some (.cells #[.int .i64 0, .int .i64 0, .int .i64 0, .int .i64 0, .int .i64 0, .int .i64 0, .int .i64 0, .int .i64 0, .int .i64 0, .int .i64 0, .int .i64 0, .int .i64 0, .int .i64 0, .int .i64 0, .int .i64 0, .int .i64 0] 49 (0, 0)) := (hb.block _ (by first | omega | (simp; done) | (simp; omega)) (by omega)).trans kO34
      have kD35 : y35_.heap[DB]? = some (.cells #[.int .i64 n1, .int .i64 n2, .int .i64 n3, .int .i64 n4] 25 (0, 0)) := (hb.block _ (by first | omega | (simp; done) | (simp; omega)) (by omega)).trans kD34
      have kN35 : y35_.heap[V5.heap.size]? = some (.cells #[.int .i64 0, .int .i64 0, .int .i64 0, .int .i64 0] 25 (0, 0)) := (hb.block _ (by first | omega | (simp; done) | (simp; omega)) (by omega)).trans kN34
      have hz35 := hb.size
      (try simp at hz35)
      clear hb hr
      clear hHeld
      obtain rfl : e = .returned (.agg #[.int .i64 r1, .int .i64 r2, .int .i64 r3, .int .i64 r4]) := he
      refine hK.out _ _ ⟨(G0.out _ _ HD35).1, (G0.out _ _ HD35).2, kD35⟩ (fun hHeld => ?_)
      clear hK K
      try simp only [act_all]
      refine wpAnyH_ready (rs := [20]) (by kernel_rfl) (by simp) ?_
      refine AllReadyH.cons (o := _) rfl (fun K hK => ?_) AllReadyH.nil
      have kx36 : y35_.heap[V5.heap.size]? = some (.cells #[.int .i64 0, .int .i64 0, .int .i64 0, .int .i64 0] 25 (0, 0)) := kN35
      have HTH := Lib.hid (there_mid kx36 0 4 (show 0 + 4 ≤ 4 by decide))
      have HB36 : Below OB y35_ (y35_.setCells (V5.heap.size) 0 [.int .i64 r1, .int .i64 r2, .int .i64 r3, .int .i64 r4]) := below_mids (by have := HD35.size; first | omega | (simp; done) | (simp; omega)) _ _ (Below.refl _ _)
      have HD36 : Wk GB ke5 OB V (y35_.setCells (V5.heap.size) 0 [.int .i64 r1, .int .i64 r2, .int .i64 r3, .int .i64 r4]) := HD35.then HB36 lGO
      have kN36 : (y35_.setCells (V5.heap.size) 0 [.int .i64 r1, .int .i64 r2, .int .i64 r3, .int .i64 r4]).heap[V5.heap.size]? = some (.cells #[.int .i64 r1, .int .i64 r2, .int .i64 r3, .int .i64 r4] 25 (0, 0)) := block_setCells [.int .i64 r1, .int .i64 r2, .int .i64 r3, .int .i64 r4] 0 _ _ kx36
      have kO36 : (y35_.setCells (V5.heap.size) 0 [.int .i64 r1, .int .i64 r2, .int .i64 r3, .int .i64 r4]).heap[OB]? = some (.cells #[.int .i64 0, .int .i64 0, .int .i64 0, .int .i64 0, .int .i64 0, .int .i64 0, .int .i64 0, .int .i64 0, .int .i64 0, .int .i64 0, .int .i64 0, .int .i64 0, .int .i64 0, .int .i64 0, .int .i64 0, .int .i64 0] 49 (0, 0)) := (World.heap_setCells_other _ _ _ _ (by first | omega | (simp; done) | (simp; omega)) (by have := HD35.size; first | omega | (simp; done) | (simp; omega))).trans kO35
      have kD36 : (y35_.setCells (V5.heap.size) 0 [.int .i64 r1, .int .i64 r2, .int .i64 r3, .int .i64 r4]).heap[DB]? = some (.cells #[.int .i64 n1, .int .i64 n2, .int .i64 n3, .int .i64 n4] 25 (0, 0)) := (World.heap_setCells_other _ _ _ _ (by first | omega | (simp; done) | (simp; omega)) (by have := HD35.size; first | omega | (simp; done) | (simp; omega))).trans kD35
      rw [if_pos (show Region.wanted _ _ = true from rfl)]
      refine wp_store_mid 25 (.tmp 9) (.tmp 52) rfl (V5.heap.size) 0 #[.int .i64 r1, .int .i64 r2, .int .i64 r3, .int .i64 r4] rfl rfl HTH.out (by kernel_rfl) (by simp [Value.oneCell']) ?_
      (try rw [show (#[.int .i64 r1, .int .i64 r2, .int .i64 r3, .int .i64 r4] : Array Value).toList = [.int .i64 r1, .int .i64 r2, .int .i64 r3, .int .i64 r4] from rfl])
      refine hK.out _ _ ⟨(G0.out _ _ HD36).1, (G0.out _ _ HD36).2, kD36⟩ (fun hHeld => ?_)
      clear hK K
      try simp only [act_all]
      refine wpAnyH_done (by kernel_rfl) ?_ _
      go_wp2_with fail
      go_meet
      exact ⟨_, _, _, _, _, _, _, _, _, _, _, _, _, _, _, _, rfl, by have := HD36.size; first | omega | (simp; done) | (simp; omega), HR33.out, HR34.out, HR35.out, kO36, kD36, kN36, HD36⟩
  case rest =>
  obtain ⟨BB, p1, p2, p3, p4, ke3, o1, o2, o3, o4, ke4, r1, r2, r3, r4, ke5, rfl, lX6, hx6_0, hx6_1, hx6_2, cO6, cD6, cB6, HK6⟩ := hcut
  have HOB := Lib.hid (divW_okR hx6_2)
  clear cO5 cD5  HK5
  have HX6_0 := Lib.hid hx6_0
  have HX6_1 := Lib.hid hx6_1
  have HX6_2 := Lib.hid hx6_2
  clear hx6_0 hx6_1 hx6_2
  obtain ⟨V6, hV⟩ : ∃ z, z = wc := ⟨wc, rfl⟩
  subst hV
  have lO6 : OB < V6.heap.size := by have := HK6.size; omega
  have lD6 : DB < V6.heap.size := (Array.getElem?_eq_some_iff.1 cD6).1
  have lB6 : BB < V6.heap.size := (Array.getElem?_eq_some_iff.1 cB6).1
  go_upto_region 7 with fail
  go_cut [] (fun wx => ∃ (s1 s2 s3 s4 ke6 : Int), addW ke5 ⟨⟨a0, b0⟩, ⟨c0, d0⟩⟩ ⟨⟨r1, r2⟩, ⟨r3, r4⟩⟩ = (⟨⟨s1, s2⟩, ⟨s3, s4⟩⟩, ke6) ∧ wx.heap[OB]? = some (.cells #[.int .i64 s1, .int .i64 s2, .int .i64 s3, .int .i64 s4, .int .i64 0, .int .i64 0, .int .i64 0, .int .i64 0, .int .i64 0, .int .i64 0, .int .i64 0, .int .i64 0, .int .i64 0, .int .i64 0, .int .i64 0, .int .i64 0] 49 (0, 0)) ∧ wx.heap[DB]? = some (.cells #[.int .i64 n1, .int .i64 n2, .int .i64 n3, .int .i64 n4] 25 (0, 0)) ∧ wx.heap[BB]? = some (.cells #[.int .i64 r1, .int .i64 r2, .int .i64 r3, .int .i64 r4] 25 (0, 0)) ∧ Wk GB ke6 OB V wx)
  case first =>
    as_aux_lemma =>
      refine wp_region_lit ?_
      refine wpList_step (fun K hK => ?_); go_simp; refine hK _ _ ?_; clear hK K
      refine wpList_step (fun K hK => ?_); go_simp; refine hK _ _ ?_; clear hK K
      refine wpList_step (fun K hK => ?_); go_simp; refine hK _ _ ?_; clear hK K
      refine wpList_step (fun K hK => ?_); go_simp; refine hK _ _ ?_; clear hK K
      refine wpList_load_mid rfl 25 (.tmp 56) rfl (w.heap.size) 0 rfl [.int .i64 a0, .int .i64 b0, .int .i64 c0, .int .i64 d0] _ (RBP0.out _ (G0.out _ _ HK6)) Try.underlying25 rfl (by kernel_rfl) ?_
      refine wpList_load_mid rfl 25 (.tmp 9) rfl BB 0 rfl [.int .i64 r1, .int .i64 r2, .int .i64 r3, .int .i64 r4] _ (range_row cB6 0 [.int .i64 r1, .int .i64 r2, .int .i64 r3, .int .i64 r4] (fun j hj => by rcases four_at (by simpa using hj) with rfl | rfl | rfl | rfl <;> rfl)) Try.underlying25 rfl (by kernel_rfl) ?_
      refine wpList_step (fun K hK => ?_)
      go_simp
      refine (rAddW_any a0 b0 c0 d0 r1 r2 r3 r4 ke5 GB _ HP0.out.1 HP0.out.2 HOB.out.1 HOB.out.2 HK6.cell HK6.free).mono ?_
      rintro e y37_ ⟨he, hb⟩
      obtain ⟨r, hr⟩ : ∃ r, (addW ke5 ⟨⟨a0, b0⟩, ⟨c0, d0⟩⟩ ⟨⟨r1, r2⟩, ⟨r3, r4⟩⟩) = r := ⟨_, rfl⟩
      rw [hr] at he hb
      obtain ⟨⟨⟨s1, s2⟩, ⟨s3, s4⟩⟩, ke6⟩ := r
      have HR37 := Lib.hid hr
      have HO37 := Lib.hid (addW_okR hr)
      have HD37 : Wk GB ke6 OB V y37_ := HK6.trans (hb.mono (Nat.le_trans (Nat.le_of_lt lO) HK6.size))
      have kO37 : y37_.heap[OB]? = some (.cells #[.int .i64 0, .int .i64 0, .int .i64 0, .int .i64 0, .int .i64 0, .int .i64 0, .int .i64 0, .int .i64 0, .int .i64 0, .int .i64 0, .int .i64 0, .int .i64 0, .int .i64 0, .int .i64 0, .int .i64 0, .int .i64 0] 49 (0, 0)) := (hb.block _ (by first | omega | (simp; done) | (simp; omega)) (by omega)).trans cO6
      have kD37 : y37_.heap[DB]? = some (.cells #[.int .i64 n1, .int .i64 n2, .int .i64 n3, .int .i64 n4] 25 (0, 0)) := (hb.block _ (by first | omega | (simp; done) | (simp; omega)) (by omega)).trans cD6
      have kB37 : y37_.heap[BB]? = some (.cells #[.int .i64 r1, .int .i64 r2, .int .i64 r3, .int .i64 r4] 25 (0, 0)) := (hb.block _ (by first | omega | (simp; done) | (simp; omega)) (by omega)).trans cB6
      have hz37 := hb.size
      (try simp at hz37)
      clear hb hr
      obtain rfl : e = .returned (.agg #[.int .i64 s1, .int .i64 s2, .int .i64 s3, .int .i64 s4]) := he
      refine hK _ _ ?_
      clear hK K
      refine wpList_step (fun K hK => ?_); go_simp; refine hK _ _ ?_; clear hK K
      refine wpList_step (fun K hK => ?_); go_simp; refine hK _ _ ?_; clear hK K
      refine wpList_step (fun K hK => ?_); go_simp; refine hK _ _ ?_; clear hK K
      have kx38 : y37_.heap[OB]? = some (.cells #[.int .i64 0, .int .i64 0, .int .i64 0, .int .i64 0, .int .i64 0, .int .i64 0, .int .i64 0, .int .i64 0, .int .i64 0, .int .i64 0, .int .i64 0, .int .i64 0, .int .i64 0, .int .i64 0, .int .i64 0, .int .i64 0] 49 (0, 0)) := kO37
      have HTH := Lib.hid (there_mid kx38 0 4 (show 0 + 4 ≤ 16 by decide))
      have HB38 : Below OB y37_ (y37_.setCells (OB) 0 [.int .i64 s1, .int .i64 s2, .int .i64 s3, .int .i64 s4]) := below_mids (by have := HD37.size; first | omega | (simp; done) | (simp; omega)) _ _ (Below.refl _ _)
      have HD38 : Wk GB ke6 OB V (y37_.setCells (OB) 0 [.int .i64 s1, .int .i64 s2, .int .i64 s3, .int .i64 s4]) := HD37.then HB38 lGO
      have kO38 : (y37_.setCells (OB) 0 [.int .i64 s1, .int .i64 s2, .int .i64 s3, .int .i64 s4]).heap[OB]? = some (.cells #[.int .i64 s1, .int .i64 s2, .int .i64 s3, .int .i64 s4, .int .i64 0, .int .i64 0, .int .i64 0, .int .i64 0, .int .i64 0, .int .i64 0, .int .i64 0, .int .i64 0, .int .i64 0, .int .i64 0, .int .i64 0, .int .i64 0] 49 (0, 0)) := block_setCells [.int .i64 s1, .int .i64 s2, .int .i64 s3, .int .i64 s4] 0 _ _ kx38
      have kD38 : (y37_.setCells (OB) 0 [.int .i64 s1, .int .i64 s2, .int .i64 s3, .int .i64 s4]).heap[DB]? = some (.cells #[.int .i64 n1, .int .i64 n2, .int .i64 n3, .int .i64 n4] 25 (0, 0)) := (World.heap_setCells_other _ _ _ _ (by first | omega | (simp; done) | (simp; omega)) (by have := HD37.size; first | omega | (simp; done) | (simp; omega))).trans kD37
      have kB38 : (y37_.setCells (OB) 0 [.int .i64 s1, .int .i64 s2, .int .i64 s3, .int .i64 s4]).heap[BB]? = some (.cells #[.int .i64 r1, .int .i64 r2, .int .i64 r3, .int .i64 r4] 25 (0, 0)) := (World.heap_setCells_other _ _ _ _ (by first | omega | (simp; done) | (simp; omega)) (by have := HD37.size; first | omega | (simp; done) | (simp; omega))).trans kB37
      refine wpList_store_mid rfl 25 (.tmp 62) (.tmp 59) rfl (OB) 0 #[.int .i64 s1, .int .i64 s2, .int .i64 s3, .int .i64 s4] rfl rfl HTH.out (by kernel_rfl) (by simp [Value.oneCell']) ?_
      (try rw [show (#[.int .i64 s1, .int .i64 s2, .int .i64 s3, .int .i64 s4] : Array Value).toList = [.int .i64 s1, .int .i64 s2, .int .i64 s3, .int .i64 s4] from rfl])
      refine wpList_nil ?_
      go_wp2_with fail
      go_meet
      exact ⟨_, _, _, _, _, HR37.out, kO38, kD38, kB38, HD38⟩
  case rest =>
  obtain ⟨s1, s2, s3, s4, ke6, hx7_0, cO7, cD7, cB7, HK7⟩ := hcut
  clear cO6 cD6 cB6 HK6
  have HX7_0 := Lib.hid hx7_0
  clear hx7_0
  obtain ⟨V7, hV⟩ : ∃ z, z = wc := ⟨wc, rfl⟩
  subst hV
  have lO7 : OB < V7.heap.size := by have := HK7.size; omega
  have lD7 : DB < V7.heap.size := (Array.getElem?_eq_some_iff.1 cD7).1
  have lB7 : BB < V7.heap.size := (Array.getElem?_eq_some_iff.1 cB7).1
  go_upto_region 8 with fail
  go_cut [] (fun wx => ∃ (t1 t2 t3 t4 ke7 u1 u2 u3 u4 ke8 : Int), mulW ke6 ⟨⟨a1, b1⟩, ⟨c1, d1⟩⟩ ⟨⟨e1, f1⟩, ⟨g1, h1⟩⟩ = (⟨⟨t1, t2⟩, ⟨t3, t4⟩⟩, ke7) ∧ divW ke7 ⟨⟨t1, t2⟩, ⟨t3, t4⟩⟩ ⟨⟨n1, n2⟩, ⟨n3, n4⟩⟩ = (⟨⟨u1, u2⟩, ⟨u3, u4⟩⟩, ke8) ∧ wx.heap[OB]? = some (.cells #[.int .i64 s1, .int .i64 s2, .int .i64 s3, .int .i64 s4, .int .i64 u1, .int .i64 u2, .int .i64 u3, .int .i64 u4, .int .i64 0, .int .i64 0, .int .i64 0, .int .i64 0, .int .i64 0, .int .i64 0, .int .i64 0, .int .i64 0] 49 (0, 0)) ∧ wx.heap[DB]? = some (.cells #[.int .i64 n1, .int .i64 n2, .int .i64 n3, .int .i64 n4] 25 (0, 0)) ∧ wx.heap[BB]? = some (.cells #[.int .i64 r1, .int .i64 r2, .int .i64 r3, .int .i64 r4] 25 (0, 0)) ∧ Wk GB ke8 OB V wx)
  case first =>
    as_aux_lemma =>
      have HD39 : Wk GB ke6 OB V V7.drew := HK7.then (((Below.refl _ _).drew).mono (Nat.le_trans (Nat.le_of_lt lO) HK7.size)) lGO
      refine wp_region_held_drew (S := fun w' => w'.heap[w.heap.size]? = some (.cells #[.int .i64 a0, .int .i64 b0, .int .i64 c0, .int .i64 d0, .int .i64 a1, .int .i64 b1, .int .i64 c1, .int .i64 d1, .int .i64 a2, .int .i64 b2, .int .i64 c2, .int .i64 d2, .int .i64 a3, .int .i64 b3, .int .i64 c3, .int .i64 d3] 49 (0, 0)) ∧ w'.heap[w.heap.size + 1]? = some (.cells #[.int .i64 e0, .int .i64 f0, .int .i64 g0, .int .i64 h0, .int .i64 e1, .int .i64 f1, .int .i64 g1, .int .i64 h1, .int .i64 e2, .int .i64 f2, .int .i64 g2, .int .i64 h2, .int .i64 e3, .int .i64 f3, .int .i64 g3, .int .i64 h3] 49 (0, 0)) ∧ w'.heap[DB]? = some (.cells #[.int .i64 n1, .int .i64 n2, .int .i64 n3, .int .i64 n4] 25 (0, 0))) (by kernel_rfl) ⟨(G0.out _ _ HD39).1, (G0.out _ _ HD39).2, cD7⟩ (fun hHeld => ?_)
      refine wpAnyH_take (i := 0) (oi := _) (v := ?_) rfl (by kernel_rfl) (by kernel_rfl) (by kernel_rfl) (fun _ _ _ h => h) (Or.inl ⟨by rfl, ?_⟩) (by assumption) ?_
      rotate_left
      · intro w _; go_simp; (try with_reducible rfl)
      try change wpAnyH _ _ _ _ _ _ _ (Act.put _ (some 63) _) _
      try simp only [act_all]
      refine wpAnyH_take (i := 1) (oi := _) (v := ?_) rfl (by kernel_rfl) (by kernel_rfl) (by kernel_rfl) (fun _ _ _ h => h) (Or.inl ⟨by rfl, ?_⟩) (by assumption) ?_
      rotate_left
      · intro w _; go_simp; (try with_reducible rfl)
      try change wpAnyH _ _ _ _ _ _ _ (Act.put _ (some 64) _) _
      try simp only [act_all]
      refine wpAnyH_take (i := 2) (oi := _) (v := ?_) rfl (by kernel_rfl) (by kernel_rfl) (by kernel_rfl) (fun _ _ _ h => h) (Or.inl ⟨by rfl, ?_⟩) (by assumption) ?_
      rotate_left
      · intro w _; go_simp; (try with_reducible rfl)
      try change wpAnyH _ _ _ _ _ _ _ (Act.put _ (some 65) _) _
      try simp only [act_all]
      refine wpAnyH_take (i := 3) (oi := _) (v := ?_) rfl (by kernel_rfl) (by kernel_rfl) (by kernel_rfl) (fun _ _ _ h => h) (Or.inl ⟨by rfl, ?_⟩) (by assumption) ?_
      rotate_left
      · intro w _; go_simp; (try with_reducible rfl)
      try change wpAnyH _ _ _ _ _ _ _ (Act.put _ (some 66) _) _
      try simp only [act_all]
      refine wpAnyH_take (i := 4) (oi := _) (v := ?_) rfl (by kernel_rfl) (by kernel_rfl) (by kernel_rfl) (fun _ _ _ h => h) (Or.inl ⟨by rfl, ?_⟩) (by assumption) ?_
      rotate_left
      · intro w _; go_simp; (try with_reducible rfl)
      try change wpAnyH _ _ _ _ _ _ _ (Act.put _ (some 67) _) _
      try simp only [act_all]
      refine wpAnyH_take (i := 5) (oi := _) (v := _) rfl (by kernel_rfl) (by kernel_rfl) (by kernel_rfl) (fun _ _ _ h => h) (yieldsIf_load_mid (by rfl) 25 _ rfl (w.heap.size) 4 rfl [.int .i64 a1, .int .i64 b1, .int .i64 c1, .int .i64 d1] _ (fun w' h => RBP1.out w' ⟨h.1, h.2.1⟩) Try.underlying25 rfl (by kernel_rfl)) (by assumption) ?_
      try change wpAnyH _ _ _ _ _ _ _ (Act.put _ (some 68) _) _
      try simp only [act_all]
      refine wpAnyH_take (i := 6) (oi := _) (v := ?_) rfl (by kernel_rfl) (by kernel_rfl) (by kernel_rfl) (fun _ _ _ h => h) (Or.inl ⟨by rfl, ?_⟩) (by assumption) ?_
      rotate_left
      · intro w _; go_simp; (try with_reducible rfl)
      try change wpAnyH _ _ _ _ _ _ _ (Act.put _ (some 69) _) _
      try simp only [act_all]
      refine wpAnyH_take (i := 7) (oi := _) (v := ?_) rfl (by kernel_rfl) (by kernel_rfl) (by kernel_rfl) (fun _ _ _ h => h) (Or.inl ⟨by rfl, ?_⟩) (by assumption) ?_
      rotate_left
      · intro w _; go_simp; (try with_reducible rfl)
      try change wpAnyH _ _ _ _ _ _ _ (Act.put _ (some 70) _) _
      try simp only [act_all]
      refine wpAnyH_take (i := 8) (oi := _) (v := ?_) rfl (by kernel_rfl) (by kernel_rfl) (by kernel_rfl) (fun _ _ _ h => h) (Or.inl ⟨by rfl, ?_⟩) (by assumption) ?_
      rotate_left
      · intro w _; go_simp; (try with_reducible rfl)
      try change wpAnyH _ _ _ _ _ _ _ (Act.put _ (some 71) _) _
      try simp only [act_all]
      refine wpAnyH_take (i := 9) (oi := _) (v := _) rfl (by kernel_rfl) (by kernel_rfl) (by kernel_rfl) (fun _ _ _ h => h) (yieldsIf_load_mid (by rfl) 25 _ rfl (w.heap.size + 1) 4 rfl [.int .i64 e1, .int .i64 f1, .int .i64 g1, .int .i64 h1] _ (fun w' h => RBQ1.out w' ⟨h.1, h.2.1⟩) Try.underlying25 rfl (by kernel_rfl)) (by assumption) ?_
      try change wpAnyH _ _ _ _ _ _ _ (Act.put _ (some 72) _) _
      try simp only [act_all]
      refine wpAnyH_take (i := 11) (oi := _) (v := _) rfl (by kernel_rfl) (by kernel_rfl) (by kernel_rfl) (fun _ _ _ h => h) (yieldsIf_load_mid (by rfl) 25 _ rfl (DB) 0 rfl [.int .i64 n1, .int .i64 n2, .int .i64 n3, .int .i64 n4] _ (fun w' h => range_row h.2.2 0 [.int .i64 n1, .int .i64 n2, .int .i64 n3, .int .i64 n4] (fun j hj => by rcases four_at (by simpa using hj) with rfl | rfl | rfl | rfl <;> rfl)) Try.underlying25 rfl (by kernel_rfl)) (by assumption) ?_
      try change wpAnyH _ _ _ _ _ _ _ (Act.put _ (some 74) _) _
      try simp only [act_all]
      refine wpAnyH_take (i := 13) (oi := _) (v := ?_) rfl (by kernel_rfl) (by kernel_rfl) (by kernel_rfl) (fun _ _ _ h => h) (Or.inl ⟨by rfl, ?_⟩) (by assumption) ?_
      rotate_left
      · intro w _; go_simp; (try with_reducible rfl)
      try change wpAnyH _ _ _ _ _ _ _ (Act.put _ (some 76) _) _
      try simp only [act_all]
      refine wpAnyH_take (i := 14) (oi := _) (v := ?_) rfl (by kernel_rfl) (by kernel_rfl) (by kernel_rfl) (fun _ _ _ h => h) (Or.inl ⟨by rfl, ?_⟩) (by assumption) ?_
      rotate_left
      · intro w _; go_simp; (try with_reducible rfl)
      try change wpAnyH _ _ _ _ _ _ _ (Act.put _ (some 77) _) _
      try simp only [act_all]
      refine wpAnyH_ready (rs := [10]) (by kernel_rfl) (by simp) ?_
      refine AllReadyH.cons (o := _) rfl (fun K hK => ?_) AllReadyH.nil
      go_simp
      refine (rMulW_any a1 b1 c1 d1 e1 f1 g1 h1 ke6 GB _ HP1.out.1 HP1.out.2 HQ1.out.1 HQ1.out.2 HD39.cell HD39.free).mono ?_
      rintro e y40_ ⟨he, hb⟩
      obtain ⟨r, hr⟩ : ∃ r, (mulW ke6 ⟨⟨a1, b1⟩, ⟨c1, d1⟩⟩ ⟨⟨e1, f1⟩, ⟨g1, h1⟩⟩) = r := ⟨_, rfl⟩
      rw [hr] at he hb
      obtain ⟨⟨⟨t1, t2⟩, ⟨t3, t4⟩⟩, ke7⟩ := r
      have HR40 := Lib.hid hr
      have HO40 := Lib.hid (mulW_okR hr)
      have HD40 : Wk GB ke7 OB V y40_ := HD39.trans (hb.mono (Nat.le_trans (Nat.le_of_lt lO) HD39.size))
      have kO40 : y40_.heap[OB]? = some (.cells #[.int .i64 s1, .int .i64 s2, .int .i64 s3, .int .i64 s4, .int .i64 0, .int .i64 0, .int .i64 0, .int .i64 0, .int .i64 0, .int .i64 0, .int .i64 0, .int .i64 0, .int .i64 0, .int .i64 0, .int .i64 0, .int .i64 0] 49 (0, 0)) := (hb.block _ (by first | omega | (simp; done) | (simp; omega)) (by omega)).trans cO7
      have kD40 : y40_.heap[DB]? = some (.cells #[.int .i64 n1, .int .i64 n2, .int .i64 n3, .int .i64 n4] 25 (0, 0)) := (hb.block _ (by first | omega | (simp; done) | (simp; omega)) (by omega)).trans cD7
      have kB40 : y40_.heap[BB]? = some (.cells #[.int .i64 r1, .int .i64 r2, .int .i64 r3, .int .i64 r4] 25 (0, 0)) := (hb.block _ (by first | omega | (simp; done) | (simp; omega)) (by omega)).trans cB7
      have hz40 := hb.size
      (try simp at hz40)
      clear hb hr
      clear hHeld
      obtain rfl : e = .returned (.agg #[.int .i64 t1, .int .i64 t2, .int .i64 t3, .int .i64 t4]) := he
      refine hK.out _ _ ⟨(G0.out _ _ HD40).1, (G0.out _ _ HD40).2, kD40⟩ (fun hHeld => ?_)
      clear hK K
      try simp only [act_all]
      refine wpAnyH_ready (rs := [12]) (by kernel_rfl) (by simp) ?_
      refine AllReadyH.cons (o := _) rfl (fun K hK => ?_) AllReadyH.nil
      go_simp
      refine (rDivW_any t1 t2 t3 t4 n1 n2 n3 n4 ke7 GB _ HO40.out.1 HO40.out.2 HOD.out.1 HOD.out.2 HD40.cell HD40.free).mono ?_
      rintro e y41_ ⟨he, hb⟩
      obtain ⟨r, hr⟩ : ∃ r, (divW ke7 ⟨⟨t1, t2⟩, ⟨t3, t4⟩⟩ ⟨⟨n1, n2⟩, ⟨n3, n4⟩⟩) = r := ⟨_, rfl⟩
      rw [hr] at he hb
      obtain ⟨⟨⟨u1, u2⟩, ⟨u3, u4⟩⟩, ke8⟩ := r
      have HR41 := Lib.hid hr
      have HO41 := Lib.hid (divW_okR hr)
      have HD41 : Wk GB ke8 OB V y41_ := HD40.trans (hb.mono (Nat.le_trans (Nat.le_of_lt lO) HD40.size))
      have kO41 : y41_.heap[OB]? = some (.cells #[.int .i64 s1, .int .i64 s2, .int .i64 s3, .int .i64 s4, .int .i64 0, .int .i64 0, .int .i64 0, .int .i64 0, .int .i64 0, .int .i64 0, .int .i64 0, .int .i64 0, .int .i64 0, .int .i64 0, .int .i64 0, .int .i64 0] 49 (0, 0)) := (hb.block _ (by first | omega | (simp; done) | (simp; omega)) (by omega)).trans kO40
      have kD41 : y41_.heap[DB]? = some (.cells #[.int .i64 n1, .int .i64 n2, .int .i64 n3, .int .i64 n4] 25 (0, 0)) := (hb.block _ (by first | omega | (simp; done) | (simp; omega)) (by omega)).trans kD40
      have kB41 : y41_.heap[BB]? = some (.cells #[.int .i64 r1, .int .i64 r2, .int .i64 r3, .int .i64 r4] 25 (0, 0)) := (hb.block _ (by first | omega | (simp; done) | (simp; omega)) (by omega)).trans kB40
      have hz41 := hb.size
      (try simp at hz41)
      clear hb hr
      clear hHeld
      obtain rfl : e = .returned (.agg #[.int .i64 u1, .int .i64 u2, .int .i64 u3, .int .i64 u4]) := he
      refine hK.out _ _ ⟨(G0.out _ _ HD41).1, (G0.out _ _ HD41).2, kD41⟩ (fun hHeld => ?_)
      clear hK K
      try simp only [act_all]
      refine wpAnyH_take (i := 15) (oi := _) (v := ?_) rfl (by kernel_rfl) (by kernel_rfl) (by kernel_rfl) (fun _ _ _ h => h) (Or.inl ⟨by rfl, ?_⟩) (by assumption) ?_
      rotate_left
      · intro w _; go_simp; (try with_reducible rfl)
      try change wpAnyH _ _ _ _ _ _ _ (Act.put _ (some 78) _) _
      try simp only [act_all]
      refine wpAnyH_ready (rs := [16]) (by kernel_rfl) (by simp) ?_
      refine AllReadyH.cons (o := _) rfl (fun K hK => ?_) AllReadyH.nil
      have kx42 : y41_.heap[OB]? = some (.cells #[.int .i64 s1, .int .i64 s2, .int .i64 s3, .int .i64 s4, .int .i64 0, .int .i64 0, .int .i64 0, .int .i64 0, .int .i64 0, .int .i64 0, .int .i64 0, .int .i64 0, .int .i64 0, .int .i64 0, .int .i64 0, .int .i64 0] 49 (0, 0)) := kO41
      have HTH := Lib.hid (there_mid kx42 4 4 (show 4 + 4 ≤ 16 by decide))
      have HB42 : Below OB y41_ (y41_.setCells (OB) 4 [.int .i64 u1, .int .i64 u2, .int .i64 u3, .int .i64 u4]) := below_mids (by have := HD41.size; first | omega | (simp; done) | (simp; omega)) _ _ (Below.refl _ _)
      have HD42 : Wk GB ke8 OB V (y41_.setCells (OB) 4 [.int .i64 u1, .int .i64 u2, .int .i64 u3, .int .i64 u4]) := HD41.then HB42 lGO
      have kO42 : (y41_.setCells (OB) 4 [.int .i64 u1, .int .i64 u2, .int .i64 u3, .int .i64 u4]).heap[OB]? = some (.cells #[.int .i64 s1, .int .i64 s2, .int .i64 s3, .int .i64 s4, .int .i64 u1, .int .i64 u2, .int .i64 u3, .int .i64 u4, .int .i64 0, .int .i64 0, .int .i64 0, .int .i64 0, .int .i64 0, .int .i64 0, .int .i64 0, .int .i64 0] 49 (0, 0)) := block_setCells [.int .i64 u1, .int .i64 u2, .int .i64 u3, .int .i64 u4] 4 _ _ kx42
      have kD42 : (y41_.setCells (OB) 4 [.int .i64 u1, .int .i64 u2, .int .i64 u3, .int .i64 u4]).heap[DB]? = some (.cells #[.int .i64 n1, .int .i64 n2, .int .i64 n3, .int .i64 n4] 25 (0, 0)) := (World.heap_setCells_other _ _ _ _ (by first | omega | (simp; done) | (simp; omega)) (by have := HD41.size; first | omega | (simp; done) | (simp; omega))).trans kD41
      have kB42 : (y41_.setCells (OB) 4 [.int .i64 u1, .int .i64 u2, .int .i64 u3, .int .i64 u4]).heap[BB]? = some (.cells #[.int .i64 r1, .int .i64 r2, .int .i64 r3, .int .i64 r4] 25 (0, 0)) := (World.heap_setCells_other _ _ _ _ (by first | omega | (simp; done) | (simp; omega)) (by have := HD41.size; first | omega | (simp; done) | (simp; omega))).trans kB41
      rw [if_pos (show Region.wanted _ _ = true from rfl)]
      refine wp_store_mid 25 (.tmp 78) (.tmp 75) rfl (OB) 4 #[.int .i64 u1, .int .i64 u2, .int .i64 u3, .int .i64 u4] rfl rfl HTH.out (by kernel_rfl) (by simp [Value.oneCell']) ?_
      (try rw [show (#[.int .i64 u1, .int .i64 u2, .int .i64 u3, .int .i64 u4] : Array Value).toList = [.int .i64 u1, .int .i64 u2, .int .i64 u3, .int .i64 u4] from rfl])
      refine hK.out _ _ ⟨(G0.out _ _ HD42).1, (G0.out _ _ HD42).2, kD42⟩ (fun hHeld => ?_)
      clear hK K
      try simp only [act_all]
      refine wpAnyH_done (by kernel_rfl) ?_ _
      go_wp2_with fail
      go_meet
      exact ⟨_, _, _, _, _, _, _, _, _, _, HR40.out, HR41.out, kO42, kD42, kB42, HD42⟩
  case rest =>
  obtain ⟨t1, t2, t3, t4, ke7, u1, u2, u3, u4, ke8, hx8_0, hx8_1, cO8, cD8, cB8, HK8⟩ := hcut
  clear cO7 cD7 cB7 HK7
  have HX8_0 := Lib.hid hx8_0
  have HX8_1 := Lib.hid hx8_1
  clear hx8_0 hx8_1
  obtain ⟨V8, hV⟩ : ∃ z, z = wc := ⟨wc, rfl⟩
  subst hV
  have lO8 : OB < V8.heap.size := by have := HK8.size; omega
  have lD8 : DB < V8.heap.size := (Array.getElem?_eq_some_iff.1 cD8).1
  have lB8 : BB < V8.heap.size := (Array.getElem?_eq_some_iff.1 cB8).1
  go_upto_region 9 with fail
  go_cut [] (fun wx => ∃ (v1 v2 v3 v4 ke9 x1 x2 x3 x4 ke10 : Int), mulW ke8 ⟨⟨e2, f2⟩, ⟨g2, h2⟩⟩ ⟨⟨a2, b2⟩, ⟨c2, d2⟩⟩ = (⟨⟨v1, v2⟩, ⟨v3, v4⟩⟩, ke9) ∧ divW ke9 ⟨⟨v1, v2⟩, ⟨v3, v4⟩⟩ ⟨⟨n1, n2⟩, ⟨n3, n4⟩⟩ = (⟨⟨x1, x2⟩, ⟨x3, x4⟩⟩, ke10) ∧ wx.heap[OB]? = some (.cells #[.int .i64 s1, .int .i64 s2, .int .i64 s3, .int .i64 s4, .int .i64 u1, .int .i64 u2, .int .i64 u3, .int .i64 u4, .int .i64 x1, .int .i64 x2, .int .i64 x3, .int .i64 x4, .int .i64 0, .int .i64 0, .int .i64 0, .int .i64 0] 49 (0, 0)) ∧ wx.heap[DB]? = some (.cells #[.int .i64 n1, .int .i64 n2, .int .i64 n3, .int .i64 n4] 25 (0, 0)) ∧ wx.heap[BB]? = some (.cells #[.int .i64 r1, .int .i64 r2, .int .i64 r3, .int .i64 r4] 25 (0, 0)) ∧ Wk GB ke10 OB V wx)
  case first =>
    as_aux_lemma =>
      have HD43 : Wk GB ke8 OB V V8.drew := HK8.then (((Below.refl _ _).drew).mono (Nat.le_trans (Nat.le_of_lt lO) HK8.size)) lGO
      refine wp_region_held_drew (S := fun w' => w'.heap[w.heap.size]? = some (.cells #[.int .i64 a0, .int .i64 b0, .int .i64 c0, .int .i64 d0, .int .i64 a1, .int .i64 b1, .int .i64 c1, .int .i64 d1, .int .i64 a2, .int .i64 b2, .int .i64 c2, .int .i64 d2, .int .i64 a3, .int .i64 b3, .int .i64 c3, .int .i64 d3] 49 (0, 0)) ∧ w'.heap[w.heap.size + 1]? = some (.cells #[.int .i64 e0, .int .i64 f0, .int .i64 g0, .int .i64 h0, .int .i64 e1, .int .i64 f1, .int .i64 g1, .int .i64 h1, .int .i64 e2, .int .i64 f2, .int .i64 g2, .int .i64 h2, .int .i64 e3, .int .i64 f3, .int .i64 g3, .int .i64 h3] 49 (0, 0)) ∧ w'.heap[DB]? = some (.cells #[.int .i64 n1, .int .i64 n2, .int .i64 n3, .int .i64 n4] 25 (0, 0))) (by kernel_rfl) ⟨(G0.out _ _ HD43).1, (G0.out _ _ HD43).2, cD8⟩ (fun hHeld => ?_)
      refine wpAnyH_take (i := 0) (oi := _) (v := ?_) rfl (by kernel_rfl) (by kernel_rfl) (by kernel_rfl) (fun _ _ _ h => h) (Or.inl ⟨by rfl, ?_⟩) (by assumption) ?_
      rotate_left
      · intro w _; go_simp; (try with_reducible rfl)
      try change wpAnyH _ _ _ _ _ _ _ (Act.put _ (some 79) _) _
      try simp only [act_all]
      refine wpAnyH_take (i := 1) (oi := _) (v := ?_) rfl (by kernel_rfl) (by kernel_rfl) (by kernel_rfl) (fun _ _ _ h => h) (Or.inl ⟨by rfl, ?_⟩) (by assumption) ?_
      rotate_left
      · intro w _; go_simp; (try with_reducible rfl)
      try change wpAnyH _ _ _ _ _ _ _ (Act.put _ (some 80) _) _
      try simp only [act_all]
      refine wpAnyH_take (i := 2) (oi := _) (v := ?_) rfl (by kernel_rfl) (by kernel_rfl) (by kernel_rfl) (fun _ _ _ h => h) (Or.inl ⟨by rfl, ?_⟩) (by assumption) ?_
      rotate_left
      · intro w _; go_simp; (try with_reducible rfl)
      try change wpAnyH _ _ _ _ _ _ _ (Act.put _ (some 81) _) _
      try simp only [act_all]
      refine wpAnyH_take (i := 3) (oi := _) (v := ?_) rfl (by kernel_rfl) (by kernel_rfl) (by kernel_rfl) (fun _ _ _ h => h) (Or.inl ⟨by rfl, ?_⟩) (by assumption) ?_
      rotate_left
      · intro w _; go_simp; (try with_reducible rfl)
      try change wpAnyH _ _ _ _ _ _ _ (Act.put _ (some 82) _) _
      try simp only [act_all]
      refine wpAnyH_take (i := 4) (oi := _) (v := ?_) rfl (by kernel_rfl) (by kernel_rfl) (by kernel_rfl) (fun _ _ _ h => h) (Or.inl ⟨by rfl, ?_⟩) (by assumption) ?_
      rotate_left
      · intro w _; go_simp; (try with_reducible rfl)
      try change wpAnyH _ _ _ _ _ _ _ (Act.put _ (some 83) _) _
      try simp only [act_all]
      refine wpAnyH_take (i := 5) (oi := _) (v := _) rfl (by kernel_rfl) (by kernel_rfl) (by kernel_rfl) (fun _ _ _ h => h) (yieldsIf_load_mid (by rfl) 25 _ rfl (w.heap.size + 1) 8 rfl [.int .i64 e2, .int .i64 f2, .int .i64 g2, .int .i64 h2] _ (fun w' h => RBQ2.out w' ⟨h.1, h.2.1⟩) Try.underlying25 rfl (by kernel_rfl)) (by assumption) ?_
      try change wpAnyH _ _ _ _ _ _ _ (Act.put _ (some 84) _) _
      try simp only [act_all]
      refine wpAnyH_take (i := 6) (oi := _) (v := ?_) rfl (by kernel_rfl) (by kernel_rfl) (by kernel_rfl) (fun _ _ _ h => h) (Or.inl ⟨by rfl, ?_⟩) (by assumption) ?_
      rotate_left
      · intro w _; go_simp; (try with_reducible rfl)
      try change wpAnyH _ _ _ _ _ _ _ (Act.put _ (some 85) _) _
      try simp only [act_all]
      refine wpAnyH_take (i := 7) (oi := _) (v := ?_) rfl (by kernel_rfl) (by kernel_rfl) (by kernel_rfl) (fun _ _ _ h => h) (Or.inl ⟨by rfl, ?_⟩) (by assumption) ?_
      rotate_left
      · intro w _; go_simp; (try with_reducible rfl)
      try change wpAnyH _ _ _ _ _ _ _ (Act.put _ (some 86) _) _
      try simp only [act_all]
      refine wpAnyH_take (i := 8) (oi := _) (v := ?_) rfl (by kernel_rfl) (by kernel_rfl) (by kernel_rfl) (fun _ _ _ h => h) (Or.inl ⟨by rfl, ?_⟩) (by assumption) ?_
      rotate_left
      · intro w _; go_simp; (try with_reducible rfl)
      try change wpAnyH _ _ _ _ _ _ _ (Act.put _ (some 87) _) _
      try simp only [act_all]
      refine wpAnyH_take (i := 9) (oi := _) (v := _) rfl (by kernel_rfl) (by kernel_rfl) (by kernel_rfl) (fun _ _ _ h => h) (yieldsIf_load_mid (by rfl) 25 _ rfl (w.heap.size) 8 rfl [.int .i64 a2, .int .i64 b2, .int .i64 c2, .int .i64 d2] _ (fun w' h => RBP2.out w' ⟨h.1, h.2.1⟩) Try.underlying25 rfl (by kernel_rfl)) (by assumption) ?_
      try change wpAnyH _ _ _ _ _ _ _ (Act.put _ (some 88) _) _
      try simp only [act_all]
      refine wpAnyH_take (i := 11) (oi := _) (v := _) rfl (by kernel_rfl) (by kernel_rfl) (by kernel_rfl) (fun _ _ _ h => h) (yieldsIf_load_mid (by rfl) 25 _ rfl (DB) 0 rfl [.int .i64 n1, .int .i64 n2, .int .i64 n3, .int .i64 n4] _ (fun w' h => range_row h.2.2 0 [.int .i64 n1, .int .i64 n2, .int .i64 n3, .int .i64 n4] (fun j hj => by rcases four_at (by simpa using hj) with rfl | rfl | rfl | rfl <;> rfl)) Try.underlying25 rfl (by kernel_rfl)) (by assumption) ?_
      try change wpAnyH _ _ _ _ _ _ _ (Act.put _ (some 90) _) _
      try simp only [act_all]
      refine wpAnyH_take (i := 13) (oi := _) (v := ?_) rfl (by kernel_rfl) (by kernel_rfl) (by kernel_rfl) (fun _ _ _ h => h) (Or.inl ⟨by rfl, ?_⟩) (by assumption) ?_
      rotate_left
      · intro w _; go_simp; (try with_reducible rfl)
      try change wpAnyH _ _ _ _ _ _ _ (Act.put _ (some 92) _) _
      try simp only [act_all]
      refine wpAnyH_take (i := 14) (oi := _) (v := ?_) rfl (by kernel_rfl) (by kernel_rfl) (by kernel_rfl) (fun _ _ _ h => h) (Or.inl ⟨by rfl, ?_⟩) (by assumption) ?_
      rotate_left
      · intro w _; go_simp; (try with_reducible rfl)
      try change wpAnyH _ _ _ _ _ _ _ (Act.put _ (some 93) _) _
      try simp only [act_all]
      refine wpAnyH_ready (rs := [10]) (by kernel_rfl) (by simp) ?_
      refine AllReadyH.cons (o := _) rfl (fun K hK => ?_) AllReadyH.nil
      go_simp
      refine (rMulW_any e2 f2 g2 h2 a2 b2 c2 d2 ke8 GB _ HQ2.out.1 HQ2.out.2 HP2.out.1 HP2.out.2 HD43.cell HD43.free).mono ?_
      rintro e y44_ ⟨he, hb⟩
      obtain ⟨r, hr⟩ : ∃ r, (mulW ke8 ⟨⟨e2, f2⟩, ⟨g2, h2⟩⟩ ⟨⟨a2, b2⟩, ⟨c2, d2⟩⟩) = r := ⟨_, rfl⟩
      rw [hr] at he hb
      obtain ⟨⟨⟨v1, v2⟩, ⟨v3, v4⟩⟩, ke9⟩ := r
      have HR44 := Lib.hid hr
      have HO44 := Lib.hid (mulW_okR hr)
      have HD44 : Wk GB ke9 OB V y44_ := HD43.trans (hb.mono (Nat.le_trans (Nat.le_of_lt lO) HD43.size))
      have kO44 : y44_.heap[OB]? = some (.cells #[.int .i64 s1, .int .i64 s2, .int .i64 s3, .int .i64 s4, .int .i64 u1, .int .i64 u2, .int .i64 u3, .int .i64 u4, .int .i64 0, .int .i64 0, .int .i64 0, .int .i64 0, .int .i64 0, .int .i64 0, .int .i64 0, .int .i64 0] 49 (0, 0)) := (hb.block _ (by first | omega | (simp; done) | (simp; omega)) (by omega)).trans cO8
      have kD44 : y44_.heap[DB]? = some (.cells #[.int .i64 n1, .int .i64 n2, .int .i64 n3, .int .i64 n4] 25 (0, 0)) := (hb.block _ (by first | omega | (simp; done) | (simp; omega)) (by omega)).trans cD8
      have kB44 : y44_.heap[BB]? = some (.cells #[.int .i64 r1, .int .i64 r2, .int .i64 r3, .int .i64 r4] 25 (0, 0)) := (hb.block _ (by first | omega | (simp; done) | (simp; omega)) (by omega)).trans cB8
      have hz44 := hb.size
      (try simp at hz44)
      clear hb hr
      clear hHeld
      obtain rfl : e = .returned (.agg #[.int .i64 v1, .int .i64 v2, .int .i64 v3, .int .i64 v4]) := he
      refine hK.out _ _ ⟨(G0.out _ _ HD44).1, (G0.out _ _ HD44).2, kD44⟩ (fun hHeld => ?_)
      clear hK K
      try simp only [act_all]
      refine wpAnyH_ready (rs := [12]) (by kernel_rfl) (by simp) ?_
      refine AllReadyH.cons (o := _) rfl (fun K hK => ?_) AllReadyH.nil
      go_simp
      refine (rDivW_any v1 v2 v3 v4 n1 n2 n3 n4 ke9 GB _ HO44.out.1 HO44.out.2 HOD.out.1 HOD.out.2 HD44.cell HD44.free).mono ?_
      rintro e y45_ ⟨he, hb⟩
      obtain ⟨r, hr⟩ : ∃ r, (divW ke9 ⟨⟨v1, v2⟩, ⟨v3, v4⟩⟩ ⟨⟨n1, n2⟩, ⟨n3, n4⟩⟩) = r := ⟨_, rfl⟩
      rw [hr] at he hb
      obtain ⟨⟨⟨x1, x2⟩, ⟨x3, x4⟩⟩, ke10⟩ := r
      have HR45 := Lib.hid hr
      have HO45 := Lib.hid (divW_okR hr)
      have HD45 : Wk GB ke10 OB V y45_ := HD44.trans (hb.mono (Nat.le_trans (Nat.le_of_lt lO) HD44.size))
      have kO45 : y45_.heap[OB]? = some (.cells #[.int .i64 s1, .int .i64 s2, .int .i64 s3, .int .i64 s4, .int .i64 u1, .int .i64 u2, .int .i64 u3, .int .i64 u4, .int .i64 0, .int .i64 0, .int .i64 0, .int .i64 0, .int .i64 0, .int .i64 0, .int .i64 0, .int .i64 0] 49 (0, 0)) := (hb.block _ (by first | omega | (simp; done) | (simp; omega)) (by omega)).trans kO44
      have kD45 : y45_.heap[DB]? = some (.cells #[.int .i64 n1, .int .i64 n2, .int .i64 n3, .int .i64 n4] 25 (0, 0)) := (hb.block _ (by first | omega | (simp; done) | (simp; omega)) (by omega)).trans kD44
      have kB45 : y45_.heap[BB]? = some (.cells #[.int .i64 r1, .int .i64 r2, .int .i64 r3, .int .i64 r4] 25 (0, 0)) := (hb.block _ (by first | omega | (simp; done) | (simp; omega)) (by omega)).trans kB44
      have hz45 := hb.size
      (try simp at hz45)
      clear hb hr
      clear hHeld
      obtain rfl : e = .returned (.agg #[.int .i64 x1, .int .i64 x2, .int .i64 x3, .int .i64 x4]) := he
      refine hK.out _ _ ⟨(G0.out _ _ HD45).1, (G0.out _ _ HD45).2, kD45⟩ (fun hHeld => ?_)
      clear hK K
      try simp only [act_all]
      refine wpAnyH_take (i := 15) (oi := _) (v := ?_) rfl (by kernel_rfl) (by kernel_rfl) (by kernel_rfl) (fun _ _ _ h => h) (Or.inl ⟨by rfl, ?_⟩) (by assumption) ?_
      rotate_left
      · intro w _; go_simp; (try with_reducible rfl)
      try change wpAnyH _ _ _ _ _ _ _ (Act.put _ (some 94) _) _
      try simp only [act_all]
      refine wpAnyH_ready (rs := [16]) (by kernel_rfl) (by simp) ?_
      refine AllReadyH.cons (o := _) rfl (fun K hK => ?_) AllReadyH.nil
      have kx46 : y45_.heap[OB]? = some (.cells #[.int .i64 s1, .int .i64 s2, .int .i64 s3, .int .i64 s4, .int .i64 u1, .int .i64 u2, .int .i64 u3, .int .i64 u4, .int .i64 0, .int .i64 0, .int .i64 0, .int .i64 0, .int .i64 0, .int .i64 0, .int .i64 0, .int .i64 0] 49 (0, 0)) := kO45
      have HTH := Lib.hid (there_mid kx46 8 4 (show 8 + 4 ≤ 16 by decide))
      have HB46 : Below OB y45_ (y45_.setCells (OB) 8 [.int .i64 x1, .int .i64 x2, .int .i64 x3, .int .i64 x4]) := below_mids (by have := HD45.size; first | omega | (simp; done) | (simp; omega)) _ _ (Below.refl _ _)
      have HD46 : Wk GB ke10 OB V (y45_.setCells (OB) 8 [.int .i64 x1, .int .i64 x2, .int .i64 x3, .int .i64 x4]) := HD45.then HB46 lGO
      have kO46 : (y45_.setCells (OB) 8 [.int .i64 x1, .int .i64 x2, .int .i64 x3, .int .i64 x4]).heap[OB]? = some (.cells #[.int .i64 s1, .int .i64 s2, .int .i64 s3, .int .i64 s4, .int .i64 u1, .int .i64 u2, .int .i64 u3, .int .i64 u4, .int .i64 x1, .int .i64 x2, .int .i64 x3, .int .i64 x4, .int .i64 0, .int .i64 0, .int .i64 0, .int .i64 0] 49 (0, 0)) := block_setCells [.int .i64 x1, .int .i64 x2, .int .i64 x3, .int .i64 x4] 8 _ _ kx46
      have kD46 : (y45_.setCells (OB) 8 [.int .i64 x1, .int .i64 x2, .int .i64 x3, .int .i64 x4]).heap[DB]? = some (.cells #[.int .i64 n1, .int .i64 n2, .int .i64 n3, .int .i64 n4] 25 (0, 0)) := (World.heap_setCells_other _ _ _ _ (by first | omega | (simp; done) | (simp; omega)) (by have := HD45.size; first | omega | (simp; done) | (simp; omega))).trans kD45
      have kB46 : (y45_.setCells (OB) 8 [.int .i64 x1, .int .i64 x2, .int .i64 x3, .int .i64 x4]).heap[BB]? = some (.cells #[.int .i64 r1, .int .i64 r2, .int .i64 r3, .int .i64 r4] 25 (0, 0)) := (World.heap_setCells_other _ _ _ _ (by first | omega | (simp; done) | (simp; omega)) (by have := HD45.size; first | omega | (simp; done) | (simp; omega))).trans kB45
      rw [if_pos (show Region.wanted _ _ = true from rfl)]
      refine wp_store_mid 25 (.tmp 94) (.tmp 91) rfl (OB) 8 #[.int .i64 x1, .int .i64 x2, .int .i64 x3, .int .i64 x4] rfl rfl HTH.out (by kernel_rfl) (by simp [Value.oneCell']) ?_
      (try rw [show (#[.int .i64 x1, .int .i64 x2, .int .i64 x3, .int .i64 x4] : Array Value).toList = [.int .i64 x1, .int .i64 x2, .int .i64 x3, .int .i64 x4] from rfl])
      refine hK.out _ _ ⟨(G0.out _ _ HD46).1, (G0.out _ _ HD46).2, kD46⟩ (fun hHeld => ?_)
      clear hK K
      try simp only [act_all]
      refine wpAnyH_done (by kernel_rfl) ?_ _
      go_wp2_with fail
      go_meet
      exact ⟨_, _, _, _, _, _, _, _, _, _, HR44.out, HR45.out, kO46, kD46, kB46, HD46⟩
  case rest =>
  obtain ⟨v1, v2, v3, v4, ke9, x1, x2, x3, x4, ke10, hx9_0, hx9_1, cO9, cD9, cB9, HK9⟩ := hcut
  clear cO8 cD8 cB8 HK8
  have HX9_0 := Lib.hid hx9_0
  have HX9_1 := Lib.hid hx9_1
  clear hx9_0 hx9_1
  obtain ⟨V9, hV⟩ : ∃ z, z = wc := ⟨wc, rfl⟩
  subst hV
  have lO9 : OB < V9.heap.size := by have := HK9.size; omega
  have lD9 : DB < V9.heap.size := (Array.getElem?_eq_some_iff.1 cD9).1
  have lB9 : BB < V9.heap.size := (Array.getElem?_eq_some_iff.1 cB9).1
  go_upto_region 10 with fail
  go_cut [] (fun wx => ∃ (y1 y2 y3 y4 ke11 z1 z2 z3 z4 ke12 i1 i2 i3 i4 ke13 : Int), mulW ke10 ⟨⟨e2, f2⟩, ⟨g2, h2⟩⟩ ⟨⟨a3, b3⟩, ⟨c3, d3⟩⟩ = (⟨⟨y1, y2⟩, ⟨y3, y4⟩⟩, ke11) ∧ mulW ke11 ⟨⟨y1, y2⟩, ⟨y3, y4⟩⟩ ⟨⟨e1, f1⟩, ⟨g1, h1⟩⟩ = (⟨⟨z1, z2⟩, ⟨z3, z4⟩⟩, ke12) ∧ divW ke12 ⟨⟨z1, z2⟩, ⟨z3, z4⟩⟩ ⟨⟨n1, n2⟩, ⟨n3, n4⟩⟩ = (⟨⟨i1, i2⟩, ⟨i3, i4⟩⟩, ke13) ∧ wx.heap[OB]? = some (.cells #[.int .i64 s1, .int .i64 s2, .int .i64 s3, .int .i64 s4, .int .i64 u1, .int .i64 u2, .int .i64 u3, .int .i64 u4, .int .i64 x1, .int .i64 x2, .int .i64 x3, .int .i64 x4, .int .i64 0, .int .i64 0, .int .i64 0, .int .i64 0] 49 (0, 0)) ∧ wx.heap[DB]? = some (.cells #[.int .i64 n1, .int .i64 n2, .int .i64 n3, .int .i64 n4] 25 (0, 0)) ∧ wx.heap[BB]? = some (.cells #[.int .i64 i1, .int .i64 i2, .int .i64 i3, .int .i64 i4] 25 (0, 0)) ∧ Wk GB ke13 OB V wx)
  case first =>
    as_aux_lemma =>
      have HD47 : Wk GB ke10 OB V V9.drew := HK9.then (((Below.refl _ _).drew).mono (Nat.le_trans (Nat.le_of_lt lO) HK9.size)) lGO
      refine wp_region_held_drew (S := fun w' => w'.heap[w.heap.size]? = some (.cells #[.int .i64 a0, .int .i64 b0, .int .i64 c0, .int .i64 d0, .int .i64 a1, .int .i64 b1, .int .i64 c1, .int .i64 d1, .int .i64 a2, .int .i64 b2, .int .i64 c2, .int .i64 d2, .int .i64 a3, .int .i64 b3, .int .i64 c3, .int .i64 d3] 49 (0, 0)) ∧ w'.heap[w.heap.size + 1]? = some (.cells #[.int .i64 e0, .int .i64 f0, .int .i64 g0, .int .i64 h0, .int .i64 e1, .int .i64 f1, .int .i64 g1, .int .i64 h1, .int .i64 e2, .int .i64 f2, .int .i64 g2, .int .i64 h2, .int .i64 e3, .int .i64 f3, .int .i64 g3, .int .i64 h3] 49 (0, 0)) ∧ w'.heap[DB]? = some (.cells #[.int .i64 n1, .int .i64 n2, .int .i64 n3, .int .i64 n4] 25 (0, 0))) (by kernel_rfl) ⟨(G0.out _ _ HD47).1, (G0.out _ _ HD47).2, cD9⟩ (fun hHeld => ?_)
      refine wpAnyH_take (i := 0) (oi := _) (v := ?_) rfl (by kernel_rfl) (by kernel_rfl) (by kernel_rfl) (fun _ _ _ h => h) (Or.inl ⟨by rfl, ?_⟩) (by assumption) ?_
      rotate_left
      · intro w _; go_simp; (try with_reducible rfl)
      try change wpAnyH _ _ _ _ _ _ _ (Act.put _ (some 95) _) _
      try simp only [act_all]
      refine wpAnyH_take (i := 1) (oi := _) (v := ?_) rfl (by kernel_rfl) (by kernel_rfl) (by kernel_rfl) (fun _ _ _ h => h) (Or.inl ⟨by rfl, ?_⟩) (by assumption) ?_
      rotate_left
      · intro w _; go_simp; (try with_reducible rfl)
      try change wpAnyH _ _ _ _ _ _ _ (Act.put _ (some 96) _) _
      try simp only [act_all]
      refine wpAnyH_take (i := 2) (oi := _) (v := ?_) rfl (by kernel_rfl) (by kernel_rfl) (by kernel_rfl) (fun _ _ _ h => h) (Or.inl ⟨by rfl, ?_⟩) (by assumption) ?_
      rotate_left
      · intro w _; go_simp; (try with_reducible rfl)
      try change wpAnyH _ _ _ _ _ _ _ (Act.put _ (some 97) _) _
      try simp only [act_all]
      refine wpAnyH_take (i := 3) (oi := _) (v := ?_) rfl (by kernel_rfl) (by kernel_rfl) (by kernel_rfl) (fun _ _ _ h => h) (Or.inl ⟨by rfl, ?_⟩) (by assumption) ?_
      rotate_left
      · intro w _; go_simp; (try with_reducible rfl)
      try change wpAnyH _ _ _ _ _ _ _ (Act.put _ (some 98) _) _
      try simp only [act_all]
      refine wpAnyH_take (i := 4) (oi := _) (v := ?_) rfl (by kernel_rfl) (by kernel_rfl) (by kernel_rfl) (fun _ _ _ h => h) (Or.inl ⟨by rfl, ?_⟩) (by assumption) ?_
      rotate_left
      · intro w _; go_simp; (try with_reducible rfl)
      try change wpAnyH _ _ _ _ _ _ _ (Act.put _ (some 99) _) _
      try simp only [act_all]
      refine wpAnyH_take (i := 5) (oi := _) (v := ?_) rfl (by kernel_rfl) (by kernel_rfl) (by kernel_rfl) (fun _ _ _ h => h) (Or.inl ⟨by rfl, ?_⟩) (by assumption) ?_
      rotate_left
      · intro w _; go_simp; (try with_reducible rfl)
      try change wpAnyH _ _ _ _ _ _ _ (Act.put _ (some 100) _) _
      try simp only [act_all]
      refine wpAnyH_take (i := 6) (oi := _) (v := _) rfl (by kernel_rfl) (by kernel_rfl) (by kernel_rfl) (fun _ _ _ h => h) (yieldsIf_load_mid (by rfl) 25 _ rfl (w.heap.size + 1) 8 rfl [.int .i64 e2, .int .i64 f2, .int .i64 g2, .int .i64 h2] _ (fun w' h => RBQ2.out w' ⟨h.1, h.2.1⟩) Try.underlying25 rfl (by kernel_rfl)) (by assumption) ?_
      try change wpAnyH _ _ _ _ _ _ _ (Act.put _ (some 101) _) _
      try simp only [act_all]
      refine wpAnyH_take (i := 7) (oi := _) (v := ?_) rfl (by kernel_rfl) (by kernel_rfl) (by kernel_rfl) (fun _ _ _ h => h) (Or.inl ⟨by rfl, ?_⟩) (by assumption) ?_
      rotate_left
      · intro w _; go_simp; (try with_reducible rfl)
      try change wpAnyH _ _ _ _ _ _ _ (Act.put _ (some 102) _) _
      try simp only [act_all]
      refine wpAnyH_take (i := 8) (oi := _) (v := ?_) rfl (by kernel_rfl) (by kernel_rfl) (by kernel_rfl) (fun _ _ _ h => h) (Or.inl ⟨by rfl, ?_⟩) (by assumption) ?_
      rotate_left
      · intro w _; go_simp; (try with_reducible rfl)
      try change wpAnyH _ _ _ _ _ _ _ (Act.put _ (some 103) _) _
      try simp only [act_all]
      refine wpAnyH_take (i := 9) (oi := _) (v := ?_) rfl (by kernel_rfl) (by kernel_rfl) (by kernel_rfl) (fun _ _ _ h => h) (Or.inl ⟨by rfl, ?_⟩) (by assumption) ?_
      rotate_left
      · intro w _; go_simp; (try with_reducible rfl)
      try change wpAnyH _ _ _ _ _ _ _ (Act.put _ (some 104) _) _
      try simp only [act_all]
      refine wpAnyH_take (i := 10) (oi := _) (v := _) rfl (by kernel_rfl) (by kernel_rfl) (by kernel_rfl) (fun _ _ _ h => h) (yieldsIf_load_mid (by rfl) 25 _ rfl (w.heap.size) 12 rfl [.int .i64 a3, .int .i64 b3, .int .i64 c3, .int .i64 d3] _ (fun w' h => RBP3.out w' ⟨h.1, h.2.1⟩) Try.underlying25 rfl (by kernel_rfl)) (by assumption) ?_
      try change wpAnyH _ _ _ _ _ _ _ (Act.put _ (some 105) _) _
      try simp only [act_all]
      refine wpAnyH_take (i := 12) (oi := _) (v := ?_) rfl (by kernel_rfl) (by kernel_rfl) (by kernel_rfl) (fun _ _ _ h => h) (Or.inl ⟨by rfl, ?_⟩) (by assumption) ?_
      rotate_left
      · intro w _; go_simp; (try with_reducible rfl)
      try change wpAnyH _ _ _ _ _ _ _ (Act.put _ (some 107) _) _
      try simp only [act_all]
      refine wpAnyH_take (i := 13) (oi := _) (v := ?_) rfl (by kernel_rfl) (by kernel_rfl) (by kernel_rfl) (fun _ _ _ h => h) (Or.inl ⟨by rfl, ?_⟩) (by assumption) ?_
      rotate_left
      · intro w _; go_simp; (try with_reducible rfl)
      try change wpAnyH _ _ _ _ _ _ _ (Act.put _ (some 108) _) _
      try simp only [act_all]
      refine wpAnyH_take (i := 14) (oi := _) (v := ?_) rfl (by kernel_rfl) (by kernel_rfl) (by kernel_rfl) (fun _ _ _ h => h) (Or.inl ⟨by rfl, ?_⟩) (by assumption) ?_
      rotate_left
      · intro w _; go_simp; (try with_reducible rfl)
      try change wpAnyH _ _ _ _ _ _ _ (Act.put _ (some 109) _) _
      try simp only [act_all]
      refine wpAnyH_take (i := 15) (oi := _) (v := _) rfl (by kernel_rfl) (by kernel_rfl) (by kernel_rfl) (fun _ _ _ h => h) (yieldsIf_load_mid (by rfl) 25 _ rfl (w.heap.size + 1) 4 rfl [.int .i64 e1, .int .i64 f1, .int .i64 g1, .int .i64 h1] _ (fun w' h => RBQ1.out w' ⟨h.1, h.2.1⟩) Try.underlying25 rfl (by kernel_rfl)) (by assumption) ?_
      try change wpAnyH _ _ _ _ _ _ _ (Act.put _ (some 110) _) _
      try simp only [act_all]
      refine wpAnyH_take (i := 17) (oi := _) (v := _) rfl (by kernel_rfl) (by kernel_rfl) (by kernel_rfl) (fun _ _ _ h => h) (yieldsIf_load_mid (by rfl) 25 _ rfl (DB) 0 rfl [.int .i64 n1, .int .i64 n2, .int .i64 n3, .int .i64 n4] _ (fun w' h => range_row h.2.2 0 [.int .i64 n1, .int .i64 n2, .int .i64 n3, .int .i64 n4] (fun j hj => by rcases four_at (by simpa using hj) with rfl | rfl | rfl | rfl <;> rfl)) Try.underlying25 rfl (by kernel_rfl)) (by assumption) ?_
      try change wpAnyH _ _ _ _ _ _ _ (Act.put _ (some 112) _) _
      try simp only [act_all]
      refine wpAnyH_ready (rs := [11]) (by kernel_rfl) (by simp) ?_
      refine AllReadyH.cons (o := _) rfl (fun K hK => ?_) AllReadyH.nil
      go_simp
      refine (rMulW_any e2 f2 g2 h2 a3 b3 c3 d3 ke10 GB _ HQ2.out.1 HQ2.out.2 HP3.out.1 HP3.out.2 HD47.cell HD47.free).mono ?_
      rintro e y48_ ⟨he, hb⟩
      obtain ⟨r, hr⟩ : ∃ r, (mulW ke10 ⟨⟨e2, f2⟩, ⟨g2, h2⟩⟩ ⟨⟨a3, b3⟩, ⟨c3, d3⟩⟩) = r := ⟨_, rfl⟩
      rw [hr] at he hb
      obtain ⟨⟨⟨y1, y2⟩, ⟨y3, y4⟩⟩, ke11⟩ := r
      have HR48 := Lib.hid hr
      have HO48 := Lib.hid (mulW_okR hr)
      have HD48 : Wk GB ke11 OB V y48_ := HD47.trans (hb.mono (Nat.le_trans (Nat.le_of_lt lO) HD47.size))
      have kO48 : y48_.heap[OB]? = some (.cells #[.int .i64 s1, .int .i64 s2, .int .i64 s3, .int .i64 s4, .int .i64 u1, .int .i64 u2, .int .i64 u3, .int .i64 u4, .int .i64 x1, .int .i64 x2, .int .i64 x3, .int .i64 x4, .int .i64 0, .int .i64 0, .int .i64 0, .int .i64 0] 49 (0, 0)) := (hb.block _ (by first | omega | (simp; done) | (simp; omega)) (by omega)).trans cO9
      have kD48 : y48_.heap[DB]? = some (.cells #[.int .i64 n1, .int .i64 n2, .int .i64 n3, .int .i64 n4] 25 (0, 0)) := (hb.block _ (by first | omega | (simp; done) | (simp; omega)) (by omega)).trans cD9
      have kB48 : y48_.heap[BB]? = some (.cells #[.int .i64 r1, .int .i64 r2, .int .i64 r3, .int .i64 r4] 25 (0, 0)) := (hb.block _ (by first | omega | (simp; done) | (simp; omega)) (by omega)).trans cB9
      have hz48 := hb.size
      (try simp at hz48)
      clear hb hr
      clear hHeld
      obtain rfl : e = .returned (.agg #[.int .i64 y1, .int .i64 y2, .int .i64 y3, .int .i64 y4]) := he
      refine hK.out _ _ ⟨(G0.out _ _ HD48).1, (G0.out _ _ HD48).2, kD48⟩ (fun hHeld => ?_)
      clear hK K
      try simp only [act_all]
      refine wpAnyH_ready (rs := [16]) (by kernel_rfl) (by simp) ?_
      refine AllReadyH.cons (o := _) rfl (fun K hK => ?_) AllReadyH.nil
      go_simp
      refine (rMulW_any y1 y2 y3 y4 e1 f1 g1 h1 ke11 GB _ HO48.out.1 HO48.out.2 HQ1.out.1 HQ1.out.2 HD48.cell HD48.free).mono ?_
      rintro e y49_ ⟨he, hb⟩
      obtain ⟨r, hr⟩ : ∃ r, (mulW ke11 ⟨⟨y1, y2⟩, ⟨y3, y4⟩⟩ ⟨⟨e1, f1⟩, ⟨g1, h1⟩⟩) = r := ⟨_, rfl⟩
      rw [hr] at he hb
      obtain ⟨⟨⟨z1, z2⟩, ⟨z3, z4⟩⟩, ke12⟩ := r
      have HR49 := Lib.hid hr
      have HO49 := Lib.hid (mulW_okR hr)
      have HD49 : Wk GB ke12 OB V y49_ := HD48.trans (hb.mono (Nat.le_trans (Nat.le_of_lt lO) HD48.size))
      have kO49 : y49_.heap[OB]? = some (.cells #[.int .i64 s1, .int .i64 s2, .int .i64 s3, .int .i64 s4, .int .i64 u1, .int .i64 u2, .int .i64 u3, .int .i64 u4, .int .i64 x1, .int .i64 x2, .int .i64 x3, .int .i64 x4, .int .i64 0, .int .i64 0, .int .i64 0, .int .i64 0] 49 (0, 0)) := (hb.block _ (by first | omega | (simp; done) | (simp; omega)) (by omega)).trans kO48
      have kD49 : y49_.heap[DB]? = some (.cells #[.int .i64 n1, .int .i64 n2, .int .i64 n3, .int .i64 n4] 25 (0, 0)) := (hb.block _ (by first | omega | (simp; done) | (simp; omega)) (by omega)).trans kD48
      have kB49 : y49_.heap[BB]? = some (.cells #[.int .i64 r1, .int .i64 r2, .int .i64 r3, .int .i64 r4] 25 (0, 0)) := (hb.block _ (by first | omega | (simp; done) | (simp; omega)) (by omega)).trans kB48
      have hz49 := hb.size
      (try simp at hz49)
      clear hb hr
      clear hHeld
      obtain rfl : e = .returned (.agg #[.int .i64 z1, .int .i64 z2, .int .i64 z3, .int .i64 z4]) := he
      refine hK.out _ _ ⟨(G0.out _ _ HD49).1, (G0.out _ _ HD49).2, kD49⟩ (fun hHeld => ?_)
      clear hK K
      try simp only [act_all]
      refine wpAnyH_ready (rs := [18]) (by kernel_rfl) (by simp) ?_
      refine AllReadyH.cons (o := _) rfl (fun K hK => ?_) AllReadyH.nil
      go_simp
      refine (rDivW_any z1 z2 z3 z4 n1 n2 n3 n4 ke12 GB _ HO49.out.1 HO49.out.2 HOD.out.1 HOD.out.2 HD49.cell HD49.free).mono ?_
      rintro e y50_ ⟨he, hb⟩
      obtain ⟨r, hr⟩ : ∃ r, (divW ke12 ⟨⟨z1, z2⟩, ⟨z3, z4⟩⟩ ⟨⟨n1, n2⟩, ⟨n3, n4⟩⟩) = r := ⟨_, rfl⟩
      rw [hr] at he hb
      obtain ⟨⟨⟨i1, i2⟩, ⟨i3, i4⟩⟩, ke13⟩ := r
      have HR50 := Lib.hid hr
      have HO50 := Lib.hid (divW_okR hr)
      have HD50 : Wk GB ke13 OB V y50_ := HD49.trans (hb.mono (Nat.le_trans (Nat.le_of_lt lO) HD49.size))
      have kO50 : y50_.heap[OB]? = some (.cells #[.int .i64 s1, .int .i64 s2, .int .i64 s3, .int .i64 s4, .int .i64 u1, .int .i64 u2, .int .i64 u3, .int .i64 u4, .int .i64 x1, .int .i64 x2, .int .i64 x3, .int .i64 x4, .int .i64 0, .int .i64 0, .int .i64 0, .int .i64 0] 49 (0, 0)) := (hb.block _ (by first | omega | (simp; done) | (simp; omega)) (by omega)).trans kO49
      have kD50 : y50_.heap[DB]? = some (.cells #[.int .i64 n1, .int .i64 n2, .int .i64 n3, .int .i64 n4] 25 (0, 0)) := (hb.block _ (by first | omega | (simp; done) | (simp; omega)) (by omega)).trans kD49
      have kB50 : y50_.heap[BB]? = some (.cells #[.int .i64 r1, .int .i64 r2, .int .i64 r3, .int .i64 r4] 25 (0, 0)) := (hb.block _ (by first | omega | (simp; done) | (simp; omega)) (by omega)).trans kB49
      have hz50 := hb.size
      (try simp at hz50)
      clear hb hr
      clear hHeld
      obtain rfl : e = .returned (.agg #[.int .i64 i1, .int .i64 i2, .int .i64 i3, .int .i64 i4]) := he
      refine hK.out _ _ ⟨(G0.out _ _ HD50).1, (G0.out _ _ HD50).2, kD50⟩ (fun hHeld => ?_)
      clear hK K
      try simp only [act_all]
      refine wpAnyH_ready (rs := [19]) (by kernel_rfl) (by simp) ?_
      refine AllReadyH.cons (o := _) rfl (fun K hK => ?_) AllReadyH.nil
      have kx51 : y50_.heap[BB]? = some (.cells #[.int .i64 r1, .int .i64 r2, .int .i64 r3, .int .i64 r4] 25 (0, 0)) := kB50
      have HTH := Lib.hid (there_mid kx51 0 4 (show 0 + 4 ≤ 4 by decide))
      have HB51 : Below OB y50_ (y50_.setCells (BB) 0 [.int .i64 i1, .int .i64 i2, .int .i64 i3, .int .i64 i4]) := below_mids (by have := HD50.size; first | omega | (simp; done) | (simp; omega)) _ _ (Below.refl _ _)
      have HD51 : Wk GB ke13 OB V (y50_.setCells (BB) 0 [.int .i64 i1, .int .i64 i2, .int .i64 i3, .int .i64 i4]) := HD50.then HB51 lGO
      have kB51 : (y50_.setCells (BB) 0 [.int .i64 i1, .int .i64 i2, .int .i64 i3, .int .i64 i4]).heap[BB]? = some (.cells #[.int .i64 i1, .int .i64 i2, .int .i64 i3, .int .i64 i4] 25 (0, 0)) := block_setCells [.int .i64 i1, .int .i64 i2, .int .i64 i3, .int .i64 i4] 0 _ _ kx51
      have kO51 : (y50_.setCells (BB) 0 [.int .i64 i1, .int .i64 i2, .int .i64 i3, .int .i64 i4]).heap[OB]? = some (.cells #[.int .i64 s1, .int .i64 s2, .int .i64 s3, .int .i64 s4, .int .i64 u1, .int .i64 u2, .int .i64 u3, .int .i64 u4, .int .i64 x1, .int .i64 x2, .int .i64 x3, .int .i64 x4, .int .i64 0, .int .i64 0, .int .i64 0, .int .i64 0] 49 (0, 0)) := (World.heap_setCells_other _ _ _ _ (by first | omega | (simp; done) | (simp; omega)) (by have := HD50.size; first | omega | (simp; done) | (simp; omega))).trans kO50
      have kD51 : (y50_.setCells (BB) 0 [.int .i64 i1, .int .i64 i2, .int .i64 i3, .int .i64 i4]).heap[DB]? = some (.cells #[.int .i64 n1, .int .i64 n2, .int .i64 n3, .int .i64 n4] 25 (0, 0)) := (World.heap_setCells_other _ _ _ _ (by first | omega | (simp; done) | (simp; omega)) (by have := HD50.size; first | omega | (simp; done) | (simp; omega))).trans kD50
      rw [if_pos (show Region.wanted _ _ = true from rfl)]
      refine wp_store_mid 25 (.tmp 9) (.tmp 113) rfl (BB) 0 #[.int .i64 i1, .int .i64 i2, .int .i64 i3, .int .i64 i4] rfl rfl HTH.out (by kernel_rfl) (by simp [Value.oneCell']) ?_
      (try rw [show (#[.int .i64 i1, .int .i64 i2, .int .i64 i3, .int .i64 i4] : Array Value).toList = [.int .i64 i1, .int .i64 i2, .int .i64 i3, .int .i64 i4] from rfl])
      refine hK.out _ _ ⟨(G0.out _ _ HD51).1, (G0.out _ _ HD51).2, kD51⟩ (fun hHeld => ?_)
      clear hK K
      try simp only [act_all]
      refine wpAnyH_done (by kernel_rfl) ?_ _
      go_wp2_with fail
      go_meet
      exact ⟨_, _, _, _, _, _, _, _, _, _, _, _, _, _, _, HR48.out, HR49.out, HR50.out, kO51, kD51, kB51, HD51⟩
  case rest =>
  obtain ⟨y1, y2, y3, y4, ke11, z1, z2, z3, z4, ke12, i1, i2, i3, i4, ke13, hx10_0, hx10_1, hx10_2, cO10, cD10, cB10, HK10⟩ := hcut
  have HOC := Lib.hid (divW_okR hx10_2)
  clear cO9 cD9 cB9 HK9
  have HX10_0 := Lib.hid hx10_0
  have HX10_1 := Lib.hid hx10_1
  have HX10_2 := Lib.hid hx10_2
  clear hx10_0 hx10_1 hx10_2
  obtain ⟨V10, hV⟩ : ∃ z, z = wc := ⟨wc, rfl⟩
  subst hV
  have lO10 : OB < V10.heap.size := by have := HK10.size; omega
  have lD10 : DB < V10.heap.size := (Array.getElem?_eq_some_iff.1 cD10).1
  have lB10 : BB < V10.heap.size := (Array.getElem?_eq_some_iff.1 cB10).1
  go_upto_region 11 with fail
  go_cut [] (fun wx => ∃ (j1 j2 j3 j4 ke14 : Int), addW ke13 ⟨⟨e3, f3⟩, ⟨g3, h3⟩⟩ ⟨⟨i1, i2⟩, ⟨i3, i4⟩⟩ = (⟨⟨j1, j2⟩, ⟨j3, j4⟩⟩, ke14) ∧ wx.heap[OB]? = some (.cells #[.int .i64 s1, .int .i64 s2, .int .i64 s3, .int .i64 s4, .int .i64 u1, .int .i64 u2, .int .i64 u3, .int .i64 u4, .int .i64 x1, .int .i64 x2, .int .i64 x3, .int .i64 x4, .int .i64 j1, .int .i64 j2, .int .i64 j3, .int .i64 j4] 49 (0, 0)) ∧ wx.heap[DB]? = some (.cells #[.int .i64 n1, .int .i64 n2, .int .i64 n3, .int .i64 n4] 25 (0, 0)) ∧ wx.heap[BB]? = some (.cells #[.int .i64 i1, .int .i64 i2, .int .i64 i3, .int .i64 i4] 25 (0, 0)) ∧ Wk GB ke14 OB V wx)
  case first =>
    as_aux_lemma =>
      refine wp_region_lit ?_
      refine wpList_step (fun K hK => ?_); go_simp; refine hK _ _ ?_; clear hK K
      refine wpList_step (fun K hK => ?_); go_simp; refine hK _ _ ?_; clear hK K
      refine wpList_step (fun K hK => ?_); go_simp; refine hK _ _ ?_; clear hK K
      refine wpList_step (fun K hK => ?_); go_simp; refine hK _ _ ?_; clear hK K
      refine wpList_load_mid rfl 25 (.tmp 117) rfl (w.heap.size + 1) 12 rfl [.int .i64 e3, .int .i64 f3, .int .i64 g3, .int .i64 h3] _ (RBQ3.out _ (G0.out _ _ HK10)) Try.underlying25 rfl (by kernel_rfl) ?_
      refine wpList_load_mid rfl 25 (.tmp 9) rfl BB 0 rfl [.int .i64 i1, .int .i64 i2, .int .i64 i3, .int .i64 i4] _ (range_row cB10 0 [.int .i64 i1, .int .i64 i2, .int .i64 i3, .int .i64 i4] (fun j hj => by rcases four_at (by simpa using hj) with rfl | rfl | rfl | rfl <;> rfl)) Try.underlying25 rfl (by kernel_rfl) ?_
      refine wpList_step (fun K hK => ?_)
      go_simp
      refine (rAddW_any e3 f3 g3 h3 i1 i2 i3 i4 ke13 GB _ HQ3.out.1 HQ3.out.2 HOC.out.1 HOC.out.2 HK10.cell HK10.free).mono ?_
      rintro e y52_ ⟨he, hb⟩
      obtain ⟨r, hr⟩ : ∃ r, (addW ke13 ⟨⟨e3, f3⟩, ⟨g3, h3⟩⟩ ⟨⟨i1, i2⟩, ⟨i3, i4⟩⟩) = r := ⟨_, rfl⟩
      rw [hr] at he hb
      obtain ⟨⟨⟨j1, j2⟩, ⟨j3, j4⟩⟩, ke14⟩ := r
      have HR52 := Lib.hid hr
      have HO52 := Lib.hid (addW_okR hr)
      have HD52 : Wk GB ke14 OB V y52_ := HK10.trans (hb.mono (Nat.le_trans (Nat.le_of_lt lO) HK10.size))
      have kO52 : y52_.heap[OB]? = some (.cells #[.int .i64 s1, .int .i64 s2, .int .i64 s3, .int .i64 s4, .int .i64 u1, .int .i64 u2, .int .i64 u3, .int .i64 u4, .int .i64 x1, .int .i64 x2, .int .i64 x3, .int .i64 x4, .int .i64 0, .int .i64 0, .int .i64 0, .int .i64 0] 49 (0, 0)) := (hb.block _ (by first | omega | (simp; done) | (simp; omega)) (by omega)).trans cO10
      have kD52 : y52_.heap[DB]? = some (.cells #[.int .i64 n1, .int .i64 n2, .int .i64 n3, .int .i64 n4] 25 (0, 0)) := (hb.block _ (by first | omega | (simp; done) | (simp; omega)) (by omega)).trans cD10
      have kB52 : y52_.heap[BB]? = some (.cells #[.int .i64 i1, .int .i64 i2, .int .i64 i3, .int .i64 i4] 25 (0, 0)) := (hb.block _ (by first | omega | (simp; done) | (simp; omega)) (by omega)).trans cB10
      have hz52 := hb.size
      (try simp at hz52)
      clear hb hr
      obtain rfl : e = .returned (.agg #[.int .i64 j1, .int .i64 j2, .int .i64 j3, .int .i64 j4]) := he
      refine hK _ _ ?_
      clear hK K
      refine wpList_step (fun K hK => ?_); go_simp; refine hK _ _ ?_; clear hK K
      refine wpList_step (fun K hK => ?_); go_simp; refine hK _ _ ?_; clear hK K
      refine wpList_step (fun K hK => ?_); go_simp; refine hK _ _ ?_; clear hK K
      have kx53 : y52_.heap[OB]? = some (.cells #[.int .i64 s1, .int .i64 s2, .int .i64 s3, .int .i64 s4, .int .i64 u1, .int .i64 u2, .int .i64 u3, .int .i64 u4, .int .i64 x1, .int .i64 x2, .int .i64 x3, .int .i64 x4, .int .i64 0, .int .i64 0, .int .i64 0, .int .i64 0] 49 (0, 0)) := kO52
      have HTH := Lib.hid (there_mid kx53 12 4 (show 12 + 4 ≤ 16 by decide))
      have HB53 : Below OB y52_ (y52_.setCells (OB) 12 [.int .i64 j1, .int .i64 j2, .int .i64 j3, .int .i64 j4]) := below_mids (by have := HD52.size; first | omega | (simp; done) | (simp; omega)) _ _ (Below.refl _ _)
      have HD53 : Wk GB ke14 OB V (y52_.setCells (OB) 12 [.int .i64 j1, .int .i64 j2, .int .i64 j3, .int .i64 j4]) := HD52.then HB53 lGO
      have kO53 : (y52_.setCells (OB) 12 [.int .i64 j1, .int .i64 j2, .int .i64 j3, .int .i64 j4]).heap[OB]? = some (.cells #[.int .i64 s1, .int .i64 s2, .int .i64 s3, .int .i64 s4, .int .i64 u1, .int .i64 u2, .int .i64 u3, .int .i64 u4, .int .i64 x1, .int .i64 x2, .int .i64 x3, .int .i64 x4, .int .i64 j1, .int .i64 j2, .int .i64 j3, .int .i64 j4] 49 (0, 0)) := block_setCells [.int .i64 j1, .int .i64 j2, .int .i64 j3, .int .i64 j4] 12 _ _ kx53
      have kD53 : (y52_.setCells (OB) 12 [.int .i64 j1, .int .i64 j2, .int .i64 j3, .int .i64 j4]).heap[DB]? = some (.cells #[.int .i64 n1, .int .i64 n2, .int .i64 n3, .int .i64 n4] 25 (0, 0)) := (World.heap_setCells_other _ _ _ _ (by first | omega | (simp; done) | (simp; omega)) (by have := HD52.size; first | omega | (simp; done) | (simp; omega))).trans kD52
      have kB53 : (y52_.setCells (OB) 12 [.int .i64 j1, .int .i64 j2, .int .i64 j3, .int .i64 j4]).heap[BB]? = some (.cells #[.int .i64 i1, .int .i64 i2, .int .i64 i3, .int .i64 i4] 25 (0, 0)) := (World.heap_setCells_other _ _ _ _ (by first | omega | (simp; done) | (simp; omega)) (by have := HD52.size; first | omega | (simp; done) | (simp; omega))).trans kB52
      refine wpList_store_mid rfl 25 (.tmp 123) (.tmp 120) rfl (OB) 12 #[.int .i64 j1, .int .i64 j2, .int .i64 j3, .int .i64 j4] rfl rfl HTH.out (by kernel_rfl) (by simp [Value.oneCell']) ?_
      (try rw [show (#[.int .i64 j1, .int .i64 j2, .int .i64 j3, .int .i64 j4] : Array Value).toList = [.int .i64 j1, .int .i64 j2, .int .i64 j3, .int .i64 j4] from rfl])
      refine wpList_nil ?_
      go_wp2_with fail
      go_meet
      exact ⟨_, _, _, _, _, HR52.out, kO53, kD53, kB53, HD53⟩
  case rest =>
  obtain ⟨j1, j2, j3, j4, ke14, hx11_0, cO11, cD11, cB11, HK11⟩ := hcut
  clear cO10 cD10 cB10 HK10
  have HX11_0 := Lib.hid hx11_0
  clear hx11_0
  obtain ⟨V11, hV⟩ : ∃ z, z = wc := ⟨wc, rfl⟩
  subst hV
  have lO11 : OB < V11.heap.size := by have := HK11.size; omega
  have lD11 : DB < V11.heap.size := (Array.getElem?_eq_some_iff.1 cD11).1
  have lB11 : BB < V11.heap.size := (Array.getElem?_eq_some_iff.1 cB11).1
  have HFIN : Hid (SP = if ke14 = 0 then .ok ⟨⟨⟨s1, s2⟩, ⟨s3, s4⟩⟩, ⟨⟨u1, u2⟩, ⟨u3, u4⟩⟩, ⟨⟨x1, x2⟩, ⟨x3, x4⟩⟩, ⟨⟨j1, j2⟩, ⟨j3, j4⟩⟩⟩ else .bad ke14) := Lib.hid (by rw [← HSP.out]; exact star_seg HX5_0.out HX5_1.out HX6_0.out HX6_1.out HX6_2.out HX7_0.out HX8_0.out HX8_1.out HX9_0.out HX9_1.out HX10_0.out HX10_1.out HX10_2.out HX11_0.out)
  have gc := HK11.cell
  have gf := HK11.free
  have HDF := Lib.hid (HBB0.out.trans (HK11.below (by omega) (by omega)))
  have HTB := Lib.hid (G1.out _ _ HK11)
  have HTH := Lib.hid (there_row HTB.out 16 (Nat.le_refl _))
  have HRO := Lib.hid (range_row cO11 0 [.int .i64 s1, .int .i64 s2, .int .i64 s3, .int .i64 s4, .int .i64 u1, .int .i64 u2, .int .i64 u3, .int .i64 u4, .int .i64 x1, .int .i64 x2, .int .i64 x3, .int .i64 x4, .int .i64 j1, .int .i64 j2, .int .i64 j3, .int .i64 j4] (fun j hj => by simp only [Nat.zero_add, List.getElem?_toArray]))
  have lG : GB < V11.heap.size := by omega
  clear cO11 cD11 cB11 HK11 G0 G1 HBB0 RBP0 RBQ0 RBP1 RBQ1 RBP2 RBQ2 RBP3 RBQ3 HX5_0 HX5_1 HX6_0 HX6_1 HX6_2 HX7_0 HX8_0 HX8_1 HX9_0 HX9_1 HX10_0 HX10_1 HX10_2 HX11_0
  by_cases hy : ke14 = 0
  · subst hy
    have HFR : Hid (OutO SP = .returned (.tuple #[.agg #[.int .i64 s1, .int .i64 s2, .int .i64 s3, .int .i64 s4, .int .i64 u1, .int .i64 u2, .int .i64 u3, .int .i64 u4, .int .i64 x1, .int .i64 x2, .int .i64 x3, .int .i64 x4, .int .i64 j1, .int .i64 j2, .int .i64 j3, .int .i64 j4], .int .i64 0])) := Lib.hid (by rw [HFIN.out, if_pos rfl]; rfl)
    go_upto_region 14 with fail
    refine wp_region_lit ?_
    refine wpList_load_mid rfl 49 (.tmp 7) rfl OB 0 rfl [.int .i64 s1, .int .i64 s2, .int .i64 s3, .int .i64 s4, .int .i64 u1, .int .i64 u2, .int .i64 u3, .int .i64 u4, .int .i64 x1, .int .i64 x2, .int .i64 x3, .int .i64 x4, .int .i64 j1, .int .i64 j2, .int .i64 j3, .int .i64 j4] _ HRO.out Try.underlying49 rfl (by kernel_rfl) ?_
    refine wpList_store_mid rfl 49 (.tmp 4) (.tmp 134) rfl (w.heap.size + 1 + 1) 0 #[.int .i64 s1, .int .i64 s2, .int .i64 s3, .int .i64 s4, .int .i64 u1, .int .i64 u2, .int .i64 u3, .int .i64 u4, .int .i64 x1, .int .i64 x2, .int .i64 x3, .int .i64 x4, .int .i64 j1, .int .i64 j2, .int .i64 j3, .int .i64 j4] rfl rfl HTH.out (by kernel_rfl) (by simp [Value.oneCell']) ?_
    have hload : (V11.setCells (w.heap.size + 1 + 1) 0 [.int .i64 s1, .int .i64 s2, .int .i64 s3, .int .i64 s4, .int .i64 u1, .int .i64 u2, .int .i64 u3, .int .i64 u4, .int .i64 x1, .int .i64 x2, .int .i64 x3, .int .i64 x4, .int .i64 j1, .int .i64 j2, .int .i64 j3, .int .i64 j4]).rangeAt (w.heap.size + 1 + 1) 0 [.int .i64 s1, .int .i64 s2, .int .i64 s3, .int .i64 s4, .int .i64 u1, .int .i64 u2, .int .i64 u3, .int .i64 u4, .int .i64 x1, .int .i64 x2, .int .i64 x3, .int .i64 x4, .int .i64 j1, .int .i64 j2, .int .i64 j3, .int .i64 j4] := World.rangeAt_setCells_same V11 _ _ _ HTH.out
    have DZ : Below w.heap.size w (V11.setCells (w.heap.size + 1 + 1) 0 [.int .i64 s1, .int .i64 s2, .int .i64 s3, .int .i64 s4, .int .i64 u1, .int .i64 u2, .int .i64 u3, .int .i64 u4, .int .i64 x1, .int .i64 x2, .int .i64 x3, .int .i64 x4, .int .i64 j1, .int .i64 j2, .int .i64 j3, .int .i64 j4]) := below_mids (by omega) _ _ HDF.out
    (try rw [show (#[.int .i64 s1, .int .i64 s2, .int .i64 s3, .int .i64 s4, .int .i64 u1, .int .i64 u2, .int .i64 u3, .int .i64 u4, .int .i64 x1, .int .i64 x2, .int .i64 x3, .int .i64 x4, .int .i64 j1, .int .i64 j2, .int .i64 j3, .int .i64 j4] : Array Value).toList = [.int .i64 s1, .int .i64 s2, .int .i64 s3, .int .i64 s4, .int .i64 u1, .int .i64 u2, .int .i64 u3, .int .i64 u4, .int .i64 x1, .int .i64 x2, .int .i64 x3, .int .i64 x4, .int .i64 j1, .int .i64 j2, .int .i64 j3, .int .i64 j4] from rfl])
    generalize V11.setCells (w.heap.size + 1 + 1) 0 [.int .i64 s1, .int .i64 s2, .int .i64 s3, .int .i64 s4, .int .i64 u1, .int .i64 u2, .int .i64 u3, .int .i64 u4, .int .i64 x1, .int .i64 x2, .int .i64 x3, .int .i64 x4, .int .i64 j1, .int .i64 j2, .int .i64 j3, .int .i64 j4] = W3 at *
    have HL := Lib.hid hload
    clear hload HTH HTB HDF
    refine wpList_step (fun K hK => ?_); go_simp; refine hK _ _ ?_; clear hK K
    refine wpList_nil ?_
    refine (‹∀ (a : Act) (w : World), Code.wp Try.prog Code.ret _ a w → _› _ _ ?_)
    apply wp_ret
    obtain ⟨q0, q1, q2, q3, q4, q5, q6, q7, q8, q9, q10, q11, q12, q13, q14, q15⟩ : (W3.cell? ⟨w.heap.size + 1 + 1, 0, none⟩ = some (.int .i64 s1) ∧ W3.cell? ⟨w.heap.size + 1 + 1, 1, none⟩ = some (.int .i64 s2) ∧ W3.cell? ⟨w.heap.size + 1 + 1, 2, none⟩ = some (.int .i64 s3) ∧ W3.cell? ⟨w.heap.size + 1 + 1, 3, none⟩ = some (.int .i64 s4) ∧ W3.cell? ⟨w.heap.size + 1 + 1, 4, none⟩ = some (.int .i64 u1) ∧ W3.cell? ⟨w.heap.size + 1 + 1, 5, none⟩ = some (.int .i64 u2) ∧ W3.cell? ⟨w.heap.size + 1 + 1, 6, none⟩ = some (.int .i64 u3) ∧ W3.cell? ⟨w.heap.size + 1 + 1, 7, none⟩ = some (.int .i64 u4) ∧ W3.cell? ⟨w.heap.size + 1 + 1, 8, none⟩ = some (.int .i64 x1) ∧ W3.cell? ⟨w.heap.size + 1 + 1, 9, none⟩ = some (.int .i64 x2) ∧ W3.cell? ⟨w.heap.size + 1 + 1, 10, none⟩ = some (.int .i64 x3) ∧ W3.cell? ⟨w.heap.size + 1 + 1, 11, none⟩ = some (.int .i64 x4) ∧ W3.cell? ⟨w.heap.size + 1 + 1, 12, none⟩ = some (.int .i64 j1) ∧ W3.cell? ⟨w.heap.size + 1 + 1, 13, none⟩ = some (.int .i64 j2) ∧ W3.cell? ⟨w.heap.size + 1 + 1, 14, none⟩ = some (.int .i64 j3) ∧ W3.cell? ⟨w.heap.size + 1 + 1, 15, none⟩ = some (.int .i64 j4)) := by
      have h := HL.out
      refine ⟨by have h1 := h 0 _ rfl; rwa [Nat.zero_add] at h1, by have h1 := h 1 _ rfl; rwa [Nat.zero_add] at h1, by have h1 := h 2 _ rfl; rwa [Nat.zero_add] at h1, by have h1 := h 3 _ rfl; rwa [Nat.zero_add] at h1, by have h1 := h 4 _ rfl; rwa [Nat.zero_add] at h1, by have h1 := h 5 _ rfl; rwa [Nat.zero_add] at h1, by have h1 := h 6 _ rfl; rwa [Nat.zero_add] at h1, by have h1 := h 7 _ rfl; rwa [Nat.zero_add] at h1, by have h1 := h 8 _ rfl; rwa [Nat.zero_add] at h1, by have h1 := h 9 _ rfl; rwa [Nat.zero_add] at h1, by have h1 := h 10 _ rfl; rwa [Nat.zero_add] at h1, by have h1 := h 11 _ rfl; rwa [Nat.zero_add] at h1, by have h1 := h 12 _ rfl; rwa [Nat.zero_add] at h1, by have h1 := h 13 _ rfl; rwa [Nat.zero_add] at h1, by have h1 := h 14 _ rfl; rwa [Nat.zero_add] at h1, by have h1 := h 15 _ rfl; rwa [Nat.zero_add] at h1⟩
    refine bodyPost_ret (v := .tuple #[.agg #[.int .i64 s1, .int .i64 s2, .int .i64 s3, .int .i64 s4, .int .i64 u1, .int .i64 u2, .int .i64 u3, .int .i64 u4, .int .i64 x1, .int .i64 x2, .int .i64 x3, .int .i64 x4, .int .i64 j1, .int .i64 j2, .int .i64 j3, .int .i64 j4], .int .i64 0]) (by simp [results, Try.results44, go_sem, q0, q1, q2, q3, q4, q5, q6, q7, q8, q9, q10, q11, q12, q13, q14, q15]) rfl ⟨HFR.out.symm, DZ⟩
  · have hb1 : (ke14 == 0) = false := beq_eq_false_iff_ne.2 hy
    have hb2 : (ke14 != 0) = true := bne_iff_ne.2 hy
    have HFR : Hid (OutO SP = .returned (.tuple #[.agg #[.int .i64 0, .int .i64 0, .int .i64 0, .int .i64 0, .int .i64 0, .int .i64 0, .int .i64 0, .int .i64 0, .int .i64 0, .int .i64 0, .int .i64 0, .int .i64 0, .int .i64 0, .int .i64 0, .int .i64 0, .int .i64 0], .int .i64 ke14])) := Lib.hid (by rw [HFIN.out, if_neg hy]; rfl)
    clear hy
    go_upto_region 13 with fail
    refine wp_region_held_drew (S := fun w' => w'.cell? ⟨GB, 0, none⟩ = some (.int .i64 ke14)) (by kernel_rfl) gc (fun hHeld => ?_)
    refine wpAnyH_take (i := 0) (oi := _) (v := ?_) rfl (by kernel_rfl) (by kernel_rfl) (by kernel_rfl) (fun _ _ _ h => h) (Or.inl ⟨by rfl, ?_⟩) (by assumption) ?_
    rotate_left
    · intro w hSw; go_simp; (try with_reducible rfl)
    try change wpAnyH _ _ _ _ _ _ _ (Act.put _ (some 129) _) _
    try simp only [act_all]
    refine wpAnyH_take (i := 1) (oi := _) (v := ?_) rfl (by kernel_rfl) (by kernel_rfl) (by kernel_rfl) (fun _ _ _ h => h) (Or.inl ⟨by rfl, ?_⟩) (by assumption) ?_
    rotate_left
    · intro w hSw; go_simp; (try with_reducible rfl)
    try change wpAnyH _ _ _ _ _ _ _ (Act.put _ (some 130) _) _
    try simp only [act_all]
    refine wpAnyH_take (i := 2) (oi := _) (v := ?_) rfl (by kernel_rfl) (by kernel_rfl) (by kernel_rfl) (fun _ _ _ h => h) (Or.inl ⟨by rfl, ?_⟩) (by assumption) ?_
    rotate_left
    · intro w hSw; go_simp; (try with_reducible rfl)
    try change wpAnyH _ _ _ _ _ _ _ (Act.put _ (some 131) _) _
    try simp only [act_all]
    refine wpAnyH_take (i := 3) (oi := _) (v := ?_) rfl (by kernel_rfl) (by kernel_rfl) (by kernel_rfl) (fun _ _ _ h => h) (Or.inl ⟨by rfl, ?_⟩) (by assumption) ?_
    rotate_left
    · intro w hSw; go_simp; (try with_reducible rfl)
    try change wpAnyH _ _ _ _ _ _ _ (Act.put _ (some 132) _) _
    try simp only [act_all]
    refine wpAnyH_take (i := 4) (oi := _) (v := ?_) rfl (by kernel_rfl) (by kernel_rfl) (by kernel_rfl) (fun _ _ _ h => h) (Or.inl ⟨by rfl, ?_⟩) (by assumption) ?_
    rotate_left
    · intro w hSw; go_simp; (try with_reducible rfl)
    try change wpAnyH _ _ _ _ _ _ _ (Act.put _ (some 133) _) _
    try simp only [act_all]
    refine wpAnyH_ready (rs := [5]) (by kernel_rfl) (by simp) ?_
    refine AllReadyH.cons (o := _) rfl (fun K hK => ?_) AllReadyH.nil
    rw [if_pos (show Region.wanted _ _ = true from rfl)]
    have HT2 : Hid (V11.drew.there (w.heap.size + 1 + 1) 0 16) := HTH
    refine wp_store_mid 49 (.tmp 4) (.tmp 129) rfl (w.heap.size + 1 + 1) 0 #[.int .i64 0, .int .i64 0, .int .i64 0, .int .i64 0, .int .i64 0, .int .i64 0, .int .i64 0, .int .i64 0, .int .i64 0, .int .i64 0, .int .i64 0, .int .i64 0, .int .i64 0, .int .i64 0, .int .i64 0, .int .i64 0] rfl rfl HTH.out (by kernel_rfl) (by simp [Value.oneCell']) ?_
    refine hK.out _ _ ((World.cell?_setCells_out _ _ _ _ _ (fun h => absurd h (by simp only; omega))).trans gc) (fun hHeld => ?_)
    clear hK K
    refine wpAnyH_take (i := 6) (oi := _) (v := ?_) rfl (by kernel_rfl) (by kernel_rfl) (by kernel_rfl) (fun _ _ _ h => h) (Or.inl ⟨by rfl, ?_⟩) (by assumption) ?_
    rotate_left
    · intro w hSw; go_simp; (try with_reducible rfl)
    try change wpAnyH _ _ _ _ _ _ _ (Act.put _ (some 5) _) _
    try simp only [act_all]
    refine wpAnyH_done (by kernel_rfl) ?_ _
    have HDF' := HDF
    clear HDF
    have HDF := Lib.hid HDF'.out.drew
    clear HDF'
    have hload : (V11.drew.setCells (w.heap.size + 1 + 1) 0 [.int .i64 0, .int .i64 0, .int .i64 0, .int .i64 0, .int .i64 0, .int .i64 0, .int .i64 0, .int .i64 0, .int .i64 0, .int .i64 0, .int .i64 0, .int .i64 0, .int .i64 0, .int .i64 0, .int .i64 0, .int .i64 0]).rangeAt (w.heap.size + 1 + 1) 0 [.int .i64 0, .int .i64 0, .int .i64 0, .int .i64 0, .int .i64 0, .int .i64 0, .int .i64 0, .int .i64 0, .int .i64 0, .int .i64 0, .int .i64 0, .int .i64 0, .int .i64 0, .int .i64 0, .int .i64 0, .int .i64 0] := World.rangeAt_setCells_same V11.drew _ _ _ HTH.out
    have DZ : Below w.heap.size w (V11.drew.setCells (w.heap.size + 1 + 1) 0 [.int .i64 0, .int .i64 0, .int .i64 0, .int .i64 0, .int .i64 0, .int .i64 0, .int .i64 0, .int .i64 0, .int .i64 0, .int .i64 0, .int .i64 0, .int .i64 0, .int .i64 0, .int .i64 0, .int .i64 0, .int .i64 0]) := below_mids (by omega) _ _ HDF.out
    (try rw [show (#[.int .i64 0, .int .i64 0, .int .i64 0, .int .i64 0, .int .i64 0, .int .i64 0, .int .i64 0, .int .i64 0, .int .i64 0, .int .i64 0, .int .i64 0, .int .i64 0, .int .i64 0, .int .i64 0, .int .i64 0, .int .i64 0] : Array Value).toList = [.int .i64 0, .int .i64 0, .int .i64 0, .int .i64 0, .int .i64 0, .int .i64 0, .int .i64 0, .int .i64 0, .int .i64 0, .int .i64 0, .int .i64 0, .int .i64 0, .int .i64 0, .int .i64 0, .int .i64 0, .int .i64 0] from rfl])
    generalize V11.drew.setCells (w.heap.size + 1 + 1) 0 [.int .i64 0, .int .i64 0, .int .i64 0, .int .i64 0, .int .i64 0, .int .i64 0, .int .i64 0, .int .i64 0, .int .i64 0, .int .i64 0, .int .i64 0, .int .i64 0, .int .i64 0, .int .i64 0, .int .i64 0, .int .i64 0] = W3 at *
    have HL := Lib.hid hload
    clear hload HTH HTB HDF hHeld gc gf
    refine (‹∀ (a : Act) (w : World), Code.wp Try.prog Code.ret _ a w → _› _ _ ?_)
    apply wp_ret
    unfold Exit.then
    (try dsimp only)
    (try simp only [act_all])
    obtain ⟨q0, q1, q2, q3, q4, q5, q6, q7, q8, q9, q10, q11, q12, q13, q14, q15⟩ : (W3.cell? ⟨w.heap.size + 1 + 1, 0, none⟩ = some (.int .i64 0) ∧ W3.cell? ⟨w.heap.size + 1 + 1, 1, none⟩ = some (.int .i64 0) ∧ W3.cell? ⟨w.heap.size + 1 + 1, 2, none⟩ = some (.int .i64 0) ∧ W3.cell? ⟨w.heap.size + 1 + 1, 3, none⟩ = some (.int .i64 0) ∧ W3.cell? ⟨w.heap.size + 1 + 1, 4, none⟩ = some (.int .i64 0) ∧ W3.cell? ⟨w.heap.size + 1 + 1, 5, none⟩ = some (.int .i64 0) ∧ W3.cell? ⟨w.heap.size + 1 + 1, 6, none⟩ = some (.int .i64 0) ∧ W3.cell? ⟨w.heap.size + 1 + 1, 7, none⟩ = some (.int .i64 0) ∧ W3.cell? ⟨w.heap.size + 1 + 1, 8, none⟩ = some (.int .i64 0) ∧ W3.cell? ⟨w.heap.size + 1 + 1, 9, none⟩ = some (.int .i64 0) ∧ W3.cell? ⟨w.heap.size + 1 + 1, 10, none⟩ = some (.int .i64 0) ∧ W3.cell? ⟨w.heap.size + 1 + 1, 11, none⟩ = some (.int .i64 0) ∧ W3.cell? ⟨w.heap.size + 1 + 1, 12, none⟩ = some (.int .i64 0) ∧ W3.cell? ⟨w.heap.size + 1 + 1, 13, none⟩ = some (.int .i64 0) ∧ W3.cell? ⟨w.heap.size + 1 + 1, 14, none⟩ = some (.int .i64 0) ∧ W3.cell? ⟨w.heap.size + 1 + 1, 15, none⟩ = some (.int .i64 0)) := by
      have h := HL.out
      refine ⟨by have h1 := h 0 _ rfl; rwa [Nat.zero_add] at h1, by have h1 := h 1 _ rfl; rwa [Nat.zero_add] at h1, by have h1 := h 2 _ rfl; rwa [Nat.zero_add] at h1, by have h1 := h 3 _ rfl; rwa [Nat.zero_add] at h1, by have h1 := h 4 _ rfl; rwa [Nat.zero_add] at h1, by have h1 := h 5 _ rfl; rwa [Nat.zero_add] at h1, by have h1 := h 6 _ rfl; rwa [Nat.zero_add] at h1, by have h1 := h 7 _ rfl; rwa [Nat.zero_add] at h1, by have h1 := h 8 _ rfl; rwa [Nat.zero_add] at h1, by have h1 := h 9 _ rfl; rwa [Nat.zero_add] at h1, by have h1 := h 10 _ rfl; rwa [Nat.zero_add] at h1, by have h1 := h 11 _ rfl; rwa [Nat.zero_add] at h1, by have h1 := h 12 _ rfl; rwa [Nat.zero_add] at h1, by have h1 := h 13 _ rfl; rwa [Nat.zero_add] at h1, by have h1 := h 14 _ rfl; rwa [Nat.zero_add] at h1, by have h1 := h 15 _ rfl; rwa [Nat.zero_add] at h1⟩
    refine bodyPost_ret (v := .tuple #[.agg #[.int .i64 0, .int .i64 0, .int .i64 0, .int .i64 0, .int .i64 0, .int .i64 0, .int .i64 0, .int .i64 0, .int .i64 0, .int .i64 0, .int .i64 0, .int .i64 0, .int .i64 0, .int .i64 0, .int .i64 0, .int .i64 0], .int .i64 ke14]) (by simp [results, Try.results44, go_sem, q0, q1, q2, q3, q4, q5, q6, q7, q8, q9, q10, q11, q12, q13, q14, q15]) rfl ⟨HFR.out.symm, DZ⟩
end Go.Proofs.Ytgbnpnenejgnnaa

namespace Go.Proofs.Ytgbnpnenejgnnaa
open Go.RowKit Encl
theorem rStar_any (a0 b0 c0 d0 a1 b1 c1 d1 a2 b2 c2 d2 a3 b3 c3 d3 e0 f0 g0 h0 e1 f1 g1 h1 e2 f2 g2 h2 e3 f3 g3 h3 : Int) (w : World) :
    Calls Try.prog 44 #[.agg #[.int .i64 a0, .int .i64 b0, .int .i64 c0, .int .i64 d0, .int .i64 a1, .int .i64 b1, .int .i64 c1, .int .i64 d1, .int .i64 a2, .int .i64 b2, .int .i64 c2, .int .i64 d2, .int .i64 a3, .int .i64 b3, .int .i64 c3, .int .i64 d3], .agg #[.int .i64 e0, .int .i64 f0, .int .i64 g0, .int .i64 h0, .int .i64 e1, .int .i64 f1, .int .i64 g1, .int .i64 h1, .int .i64 e2, .int .i64 f2, .int .i64 g2, .int .i64 h2, .int .i64 e3, .int .i64 f3, .int .i64 g3, .int .i64 h3]] w fun e w' => e = OutO (staO ⟨⟨⟨a0, b0⟩, ⟨c0, d0⟩⟩, ⟨⟨a1, b1⟩, ⟨c1, d1⟩⟩, ⟨⟨a2, b2⟩, ⟨c2, d2⟩⟩, ⟨⟨a3, b3⟩, ⟨c3, d3⟩⟩⟩ ⟨⟨⟨e0, f0⟩, ⟨g0, h0⟩⟩, ⟨⟨e1, f1⟩, ⟨g1, h1⟩⟩, ⟨⟨e2, f2⟩, ⟨g2, h2⟩⟩, ⟨⟨e3, f3⟩, ⟨g3, h3⟩⟩⟩) ∧ Below w.heap.size w w' := by
  cases hp : okP ⟨⟨a0, b0⟩, ⟨c0, d0⟩⟩ ⟨⟨a1, b1⟩, ⟨c1, d1⟩⟩ ⟨⟨a2, b2⟩, ⟨c2, d2⟩⟩ ⟨⟨a3, b3⟩, ⟨c3, d3⟩⟩ with
  | false =>
    rw [show staO ⟨⟨⟨a0, b0⟩, ⟨c0, d0⟩⟩, ⟨⟨a1, b1⟩, ⟨c1, d1⟩⟩, ⟨⟨a2, b2⟩, ⟨c2, d2⟩⟩, ⟨⟨a3, b3⟩, ⟨c3, d3⟩⟩⟩ ⟨⟨⟨e0, f0⟩, ⟨g0, h0⟩⟩, ⟨⟨e1, f1⟩, ⟨g1, h1⟩⟩, ⟨⟨e2, f2⟩, ⟨g2, h2⟩⟩, ⟨⟨e3, f3⟩, ⟨g3, h3⟩⟩⟩ = .bad 50 by unfold staO; exact if_neg (by rw [hp]; decide)]
    exact rStar_nop a0 b0 c0 d0 a1 b1 c1 d1 a2 b2 c2 d2 a3 b3 c3 d3 e0 f0 g0 h0 e1 f1 g1 h1 e2 f2 g2 h2 e3 f3 g3 h3 w hp
  | true =>
    cases hq : okP ⟨⟨e0, f0⟩, ⟨g0, h0⟩⟩ ⟨⟨e1, f1⟩, ⟨g1, h1⟩⟩ ⟨⟨e2, f2⟩, ⟨g2, h2⟩⟩ ⟨⟨e3, f3⟩, ⟨g3, h3⟩⟩ with
    | false =>
      rw [show staO ⟨⟨⟨a0, b0⟩, ⟨c0, d0⟩⟩, ⟨⟨a1, b1⟩, ⟨c1, d1⟩⟩, ⟨⟨a2, b2⟩, ⟨c2, d2⟩⟩, ⟨⟨a3, b3⟩, ⟨c3, d3⟩⟩⟩ ⟨⟨⟨e0, f0⟩, ⟨g0, h0⟩⟩, ⟨⟨e1, f1⟩, ⟨g1, h1⟩⟩, ⟨⟨e2, f2⟩, ⟨g2, h2⟩⟩, ⟨⟨e3, f3⟩, ⟨g3, h3⟩⟩⟩ = .bad 50 by unfold staO; rw [if_pos hp]; exact if_neg (by rw [hq]; decide)]
      exact rStar_noq a0 b0 c0 d0 a1 b1 c1 d1 a2 b2 c2 d2 a3 b3 c3 d3 e0 f0 g0 h0 e1 f1 g1 h1 e2 f2 g2 h2 e3 f3 g3 h3 w hp hq
    | true =>
      rw [show staO ⟨⟨⟨a0, b0⟩, ⟨c0, d0⟩⟩, ⟨⟨a1, b1⟩, ⟨c1, d1⟩⟩, ⟨⟨a2, b2⟩, ⟨c2, d2⟩⟩, ⟨⟨a3, b3⟩, ⟨c3, d3⟩⟩⟩ ⟨⟨⟨e0, f0⟩, ⟨g0, h0⟩⟩, ⟨⟨e1, f1⟩, ⟨g1, h1⟩⟩, ⟨⟨e2, f2⟩, ⟨g2, h2⟩⟩, ⟨⟨e3, f3⟩, ⟨g3, h3⟩⟩⟩ = starR ⟨⟨⟨a0, b0⟩, ⟨c0, d0⟩⟩, ⟨⟨a1, b1⟩, ⟨c1, d1⟩⟩, ⟨⟨a2, b2⟩, ⟨c2, d2⟩⟩, ⟨⟨a3, b3⟩, ⟨c3, d3⟩⟩⟩ ⟨⟨⟨e0, f0⟩, ⟨g0, h0⟩⟩, ⟨⟨e1, f1⟩, ⟨g1, h1⟩⟩, ⟨⟨e2, f2⟩, ⟨g2, h2⟩⟩, ⟨⟨e3, f3⟩, ⟨g3, h3⟩⟩⟩ by unfold staO; rw [if_pos hp]; exact if_pos hq]
      exact rStar_ok a0 b0 c0 d0 a1 b1 c1 d1 a2 b2 c2 d2 a3 b3 c3 d3 e0 f0 g0 h0 e1 f1 g1 h1 e2 f2 g2 h2 e3 f3 g3 h3 w hp hq
end Go.Proofs.Ytgbnpnenejgnnaa
