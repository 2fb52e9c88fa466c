import Derived.Test.YtgbnpnenejgnnaaSt5
import Derived.Test.YtgbnpnenejgnnaaRy5
import Derived.Test.YtgbnpnenejgnnaaMq5
import Derived.Test.YtgbnpnenejgnnaaPu5
import Derived.Test.YtgbnpnenejgnnaaAw5
namespace Go.Proofs.Ytgbnpnenejgnnaa
open Go.RowKit Encl
attribute [local go_sem high] run_eqPort_same run_nePort_same
set_option maxRecDepth 100000 in
set_option maxHeartbeats 8000000 in
theorem EncloseStars_any (a0 b0 c0 d0 a1 b1 c1 d1 a2 b2 c2 d2 a3 b3 c3 d3 e0 f0 g0 h0 e1 f1 g1 h1 e2 f2 g2 h2 e3 f3 g3 h3 : Int) (w : World) :
    Calls Try.prog 9 #[.agg #[.int .i64 a0, .int .i64 b0, .int .i64 c0, .int .i64 d0, .int .i64 a1, .int .i64 b1, .int .i64 c1, .int .i64 d1, .int .i64 a2, .int .i64 b2, .int .i64 c2, .int .i64 d2, .int .i64 a3, .int .i64 b3, .int .i64 c3, .int .i64 d3], .agg #[.int .i64 e0, .int .i64 f0, .int .i64 g0, .int .i64 h0, .int .i64 e1, .int .i64 f1, .int .i64 g1, .int .i64 h1, .int .i64 e2, .int .i64 f2, .int .i64 g2, .int .i64 h2, .int .i64 e3, .int .i64 f3, .int .i64 g3, .int .i64 h3]] w fun e w' => e = .returned (.bool true) ∧ Below w.heap.size w w' := by
  obtain ⟨z0, z1, z2, z3, z4, z5, z6, z7, z8, z9, z10, z11, z12, z13, z14, z15, er, he⟩ := OutO_form (staO ⟨⟨⟨a0, b0⟩, ⟨c0, d0⟩⟩, ⟨⟨a1, b1⟩, ⟨c1, d1⟩⟩, ⟨⟨a2, b2⟩, ⟨c2, d2⟩⟩, ⟨⟨a3, b3⟩, ⟨c3, d3⟩⟩⟩ ⟨⟨⟨e0, f0⟩, ⟨g0, h0⟩⟩, ⟨⟨e1, f1⟩, ⟨g1, h1⟩⟩, ⟨⟨e2, f2⟩, ⟨g2, h2⟩⟩, ⟨⟨e3, f3⟩, ⟨g3, h3⟩⟩⟩)
  obtain ⟨m0, m1, m2, m3, m4, m5, m6, m7, m8, m9, m10, m11, m12, m13, m14, m15, mr, hm⟩ := OutO_form (mirO ⟨⟨a0, b0⟩, ⟨c0, d0⟩⟩ ⟨⟨a1, b1⟩, ⟨c1, d1⟩⟩ ⟨⟨a2, b2⟩, ⟨c2, d2⟩⟩ ⟨⟨a3, b3⟩, ⟨c3, d3⟩⟩)
  have HE := Lib.hid he
  have HM := Lib.hid hm
  clear he hm
  go_enter Try.func9, Try.ntmps9
  go_upto_region 1 with fail
  have hb0 : Below w.heap.size w ((w.alloc (.cells #[.int .i64 a0, .int .i64 b0, .int .i64 c0, .int .i64 d0, .int .i64 a1, .int .i64 b1, .int .i64 c1, .int .i64 d1, .int .i64 a2, .int .i64 b2, .int .i64 c2, .int .i64 d2, .int .i64 a3, .int .i64 b3, .int .i64 c3, .int .i64 d3] 49)).alloc (.cells #[.int .i64 e0, .int .i64 f0, .int .i64 g0, .int .i64 h0, .int .i64 e1, .int .i64 f1, .int .i64 g1, .int .i64 h1, .int .i64 e2, .int .i64 f2, .int .i64 g2, .int .i64 h2, .int .i64 e3, .int .i64 f3, .int .i64 g3, .int .i64 h3] 49)) := by go_grown
  have hc2 : ((w.alloc (.cells #[.int .i64 a0, .int .i64 b0, .int .i64 c0, .int .i64 d0, .int .i64 a1, .int .i64 b1, .int .i64 c1, .int .i64 d1, .int .i64 a2, .int .i64 b2, .int .i64 c2, .int .i64 d2, .int .i64 a3, .int .i64 b3, .int .i64 c3, .int .i64 d3] 49)).alloc (.cells #[.int .i64 e0, .int .i64 f0, .int .i64 g0, .int .i64 h0, .int .i64 e1, .int .i64 f1, .int .i64 g1, .int .i64 h1, .int .i64 e2, .int .i64 f2, .int .i64 g2, .int .i64 h2, .int .i64 e3, .int .i64 f3, .int .i64 g3, .int .i64 h3] 49)).heap[w.heap.size]? = some (.cells #[.int .i64 a0, .int .i64 b0, .int .i64 c0, .int .i64 d0, .int .i64 a1, .int .i64 b1, .int .i64 c1, .int .i64 d1, .int .i64 a2, .int .i64 b2, .int .i64 c2, .int .i64 d2, .int .i64 a3, .int .i64 b3, .int .i64 c3, .int .i64 d3] 49 (0, 0)) := (Below.heap_alloc _ _ _ (by first | omega | (simp; done) | (simp; omega))).trans ((heap_alloc_new w _))
  have hc3 : ((w.alloc (.cells #[.int .i64 a0, .int .i64 b0, .int .i64 c0, .int .i64 d0, .int .i64 a1, .int .i64 b1, .int .i64 c1, .int .i64 d1, .int .i64 a2, .int .i64 b2, .int .i64 c2, .int .i64 d2, .int .i64 a3, .int .i64 b3, .int .i64 c3, .int .i64 d3] 49)).alloc (.cells #[.int .i64 e0, .int .i64 f0, .int .i64 g0, .int .i64 h0, .int .i64 e1, .int .i64 f1, .int .i64 g1, .int .i64 h1, .int .i64 e2, .int .i64 f2, .int .i64 g2, .int .i64 h2, .int .i64 e3, .int .i64 f3, .int .i64 g3, .int .i64 h3] 49)).heap[w.heap.size + 1]? = some (.cells #[.int .i64 e0, .int .i64 f0, .int .i64 g0, .int .i64 h0, .int .i64 e1, .int .i64 f1, .int .i64 g1, .int .i64 h1, .int .i64 e2, .int .i64 f2, .int .i64 g2, .int .i64 h2, .int .i64 e3, .int .i64 f3, .int .i64 g3, .int .i64 h3] 49 (0, 0)) := (by
      have h := heap_alloc_new (w.alloc (.cells #[.int .i64 a0, .int .i64 b0, .int .i64 c0, .int .i64 d0, .int .i64 a1, .int .i64 b1, .int .i64 c1, .int .i64 d1, .int .i64 a2, .int .i64 b2, .int .i64 c2, .int .i64 d2, .int .i64 a3, .int .i64 b3, .int .i64 c3, .int .i64 d3] 49)) (.cells #[.int .i64 e0, .int .i64 f0, .int .i64 g0, .int .i64 h0, .int .i64 e1, .int .i64 f1, .int .i64 g1, .int .i64 h1, .int .i64 e2, .int .i64 f2, .int .i64 g2, .int .i64 h2, .int .i64 e3, .int .i64 f3, .int .i64 g3, .int .i64 h3] 49)
      rwa [World.size_alloc] at h)
  have hsz : w.heap.size + 2 ≤ ((w.alloc (.cells #[.int .i64 a0, .int .i64 b0, .int .i64 c0, .int .i64 d0, .int .i64 a1, .int .i64 b1, .int .i64 c1, .int .i64 d1, .int .i64 a2, .int .i64 b2, .int .i64 c2, .int .i64 d2, .int .i64 a3, .int .i64 b3, .int .i64 c3, .int .i64 d3] 49)).alloc (.cells #[.int .i64 e0, .int .i64 f0, .int .i64 g0, .int .i64 h0, .int .i64 e1, .int .i64 f1, .int .i64 g1, .int .i64 h1, .int .i64 e2, .int .i64 f2, .int .i64 g2, .int .i64 h2, .int .i64 e3, .int .i64 f3, .int .i64 g3, .int .i64 h3] 49)).heap.size := by simp
  generalize ((w.alloc (.cells #[.int .i64 a0, .int .i64 b0, .int .i64 c0, .int .i64 d0, .int .i64 a1, .int .i64 b1, .int .i64 c1, .int .i64 d1, .int .i64 a2, .int .i64 b2, .int .i64 c2, .int .i64 d2, .int .i64 a3, .int .i64 b3, .int .i64 c3, .int .i64 d3] 49)).alloc (.cells #[.int .i64 e0, .int .i64 f0, .int .i64 g0, .int .i64 h0, .int .i64 e1, .int .i64 f1, .int .i64 g1, .int .i64 h1, .int .i64 e2, .int .i64 f2, .int .i64 g2, .int .i64 h2, .int .i64 e3, .int .i64 f3, .int .i64 g3, .int .i64 h3] 49)) = W0 at *
  have HD0 := Lib.hid hb0
  have Hb2_0 := Lib.hid hc2
  have lb2_0 : w.heap.size < W0.heap.size := by omega
  have Hb3_0 := Lib.hid hc3
  have lb3_0 : w.heap.size + 1 < W0.heap.size := by omega
  have lw0 : w.heap.size ≤ W0.heap.size := by omega
  clear hb0 hsz hc2 hc3
  refine wp_region_lit ?_
  refine wpList_load_mid rfl 49 (.tmp 2) rfl (w.heap.size) 0 rfl [.int .i64 a0, .int .i64 b0, .int .i64 c0, .int .i64 d0, .int .i64 a1, .int .i64 b1, .int .i64 c1, .int .i64 d1, .int .i64 a2, .int .i64 b2, .int .i64 c2, .int .i64 d2, .int .i64 a3, .int .i64 b3, .int .i64 c3, .int .i64 d3] _ (range_row Hb2_0.out 0 [.int .i64 a0, .int .i64 b0, .int .i64 c0, .int .i64 d0, .int .i64 a1, .int .i64 b1, .int .i64 c1, .int .i64 d1, .int .i64 a2, .int .i64 b2, .int .i64 c2, .int .i64 d2, .int .i64 a3, .int .i64 b3, .int .i64 c3, .int .i64 d3] (fun j hj => by simp only [Nat.zero_add, List.getElem?_toArray])) Try.underlying49 rfl (by kernel_rfl) ?_
  refine wpList_load_mid rfl 49 (.tmp 3) rfl (w.heap.size + 1) 0 rfl [.int .i64 e0, .int .i64 f0, .int .i64 g0, .int .i64 h0, .int .i64 e1, .int .i64 f1, .int .i64 g1, .int .i64 h1, .int .i64 e2, .int .i64 f2, .int .i64 g2, .int .i64 h2, .int .i64 e3, .int .i64 f3, .int .i64 g3, .int .i64 h3] _ (range_row Hb3_0.out 0 [.int .i64 e0, .int .i64 f0, .int .i64 g0, .int .i64 h0, .int .i64 e1, .int .i64 f1, .int .i64 g1, .int .i64 h1, .int .i64 e2, .int .i64 f2, .int .i64 g2, .int .i64 h2, .int .i64 e3, .int .i64 f3, .int .i64 g3, .int .i64 h3] (fun j hj => by simp only [Nat.zero_add, List.getElem?_toArray])) Try.underlying49 rfl (by kernel_rfl) ?_
  refine wpList_step (fun K hK => ?_)
  go_simp
  refine (eStar_any a0 b0 c0 d0 a1 b1 c1 d1 a2 b2 c2 d2 a3 b3 c3 d3 e0 f0 g0 h0 e1 f1 g1 h1 e2 f2 g2 h2 e3 f3 g3 h3 _).mono ?_
  rw [HE.out]
  rintro e u1_ ⟨rfl, hb⟩
  have HD1 := Lib.hid (HD0.out.trans (hb.mono lw0))
  have lw1 : w.heap.size ≤ u1_.heap.size := Nat.le_trans lw0 hb.size
  have Hb2_1 := Lib.hid ((hb.block _ lb2_0).trans Hb2_0.out)
  have lb2_1 : w.heap.size < u1_.heap.size := Nat.lt_of_lt_of_le lb2_0 hb.size
  have Hb3_1 := Lib.hid ((hb.block _ lb3_0).trans Hb3_0.out)
  have lb3_1 : w.heap.size + 1 < u1_.heap.size := Nat.lt_of_lt_of_le lb3_0 hb.size
  clear hb HD0 lw0 Hb2_0 lb2_0 Hb3_0 lb3_0
  refine hK _ _ ?_
  clear hK K
  refine wpList_step (fun K hK => ?_); go_simp; refine hK _ _ ?_; clear hK K
  refine wpList_step (fun K hK => ?_); go_simp; refine hK _ _ ?_; clear hK K
  refine wpList_step (fun K hK => ?_); go_simp; refine hK _ _ ?_; clear hK K
  refine wpList_step (fun K hK => ?_); go_simp; refine hK _ _ ?_; clear hK K
  have HTH := Lib.hid (there_mid (heap_alloc_new u1_ (.cells #[.int .i64 0, .int .i64 0, .int .i64 0, .int .i64 0, .int .i64 0, .int .i64 0, .int .i64 0, .int .i64 0, .int .i64 0, .int .i64 0, .int .i64 0, .int .i64 0, .int .i64 0, .int .i64 0, .int .i64 0, .int .i64 0] 49)) 0 16 (show 0 + 16 ≤ 16 by decide))
  refine wpList_store_mid rfl 49 (.tmp 5) (.tmp 17) rfl u1_.heap.size 0 #[.int .i64 z0, .int .i64 z1, .int .i64 z2, .int .i64 z3, .int .i64 z4, .int .i64 z5, .int .i64 z6, .int .i64 z7, .int .i64 z8, .int .i64 z9, .int .i64 z10, .int .i64 z11, .int .i64 z12, .int .i64 z13, .int .i64 z14, .int .i64 z15] rfl rfl HTH.out (by kernel_rfl) (by simp [Value.oneCell']) ?_
  (try rw [show (#[.int .i64 z0, .int .i64 z1, .int .i64 z2, .int .i64 z3, .int .i64 z4, .int .i64 z5, .int .i64 z6, .int .i64 z7, .int .i64 z8, .int .i64 z9, .int .i64 z10, .int .i64 z11, .int .i64 z12, .int .i64 z13, .int .i64 z14, .int .i64 z15] : Array Value).toList = [.int .i64 z0, .int .i64 z1, .int .i64 z2, .int .i64 z3, .int .i64 z4, .int .i64 z5, .int .i64 z6, .int .i64 z7, .int .i64 z8, .int .i64 z9, .int .i64 z10, .int .i64 z11, .int .i64 z12, .int .i64 z13, .int .i64 z14, .int .i64 z15] from rfl])
  have hba : Below u1_.heap.size u1_ (u1_.alloc (.cells #[.int .i64 0, .int .i64 0, .int .i64 0, .int .i64 0, .int .i64 0, .int .i64 0, .int .i64 0, .int .i64 0, .int .i64 0, .int .i64 0, .int .i64 0, .int .i64 0, .int .i64 0, .int .i64 0, .int .i64 0, .int .i64 0] 49)) := bal (Below.refl _ _) _
  have hb : Below u1_.heap.size u1_ ((u1_.alloc (.cells #[.int .i64 0, .int .i64 0, .int .i64 0, .int .i64 0, .int .i64 0, .int .i64 0, .int .i64 0, .int .i64 0, .int .i64 0, .int .i64 0, .int .i64 0, .int .i64 0, .int .i64 0, .int .i64 0, .int .i64 0, .int .i64 0] 49)).setCells u1_.heap.size 0 [.int .i64 z0, .int .i64 z1, .int .i64 z2, .int .i64 z3, .int .i64 z4, .int .i64 z5, .int .i64 z6, .int .i64 z7, .int .i64 z8, .int .i64 z9, .int .i64 z10, .int .i64 z11, .int .i64 z12, .int .i64 z13, .int .i64 z14, .int .i64 z15]) := below_mids (Nat.le_refl _) _ _ hba
  have hnb : ((u1_.alloc (.cells #[.int .i64 0, .int .i64 0, .int .i64 0, .int .i64 0, .int .i64 0, .int .i64 0, .int .i64 0, .int .i64 0, .int .i64 0, .int .i64 0, .int .i64 0, .int .i64 0, .int .i64 0, .int .i64 0, .int .i64 0, .int .i64 0] 49)).setCells u1_.heap.size 0 [.int .i64 z0, .int .i64 z1, .int .i64 z2, .int .i64 z3, .int .i64 z4, .int .i64 z5, .int .i64 z6, .int .i64 z7, .int .i64 z8, .int .i64 z9, .int .i64 z10, .int .i64 z11, .int .i64 z12, .int .i64 z13, .int .i64 z14, .int .i64 z15]).heap[u1_.heap.size]? = some (.cells #[.int .i64 z0, .int .i64 z1, .int .i64 z2, .int .i64 z3, .int .i64 z4, .int .i64 z5, .int .i64 z6, .int .i64 z7, .int .i64 z8, .int .i64 z9, .int .i64 z10, .int .i64 z11, .int .i64 z12, .int .i64 z13, .int .i64 z14, .int .i64 z15] 49 (0, 0)) := block_whole [.int .i64 z0, .int .i64 z1, .int .i64 z2, .int .i64 z3, .int .i64 z4, .int .i64 z5, .int .i64 z6, .int .i64 z7, .int .i64 z8, .int .i64 z9, .int .i64 z10, .int .i64 z11, .int .i64 z12, .int .i64 z13, .int .i64 z14, .int .i64 z15] (heap_alloc_new u1_ (.cells #[.int .i64 0, .int .i64 0, .int .i64 0, .int .i64 0, .int .i64 0, .int .i64 0, .int .i64 0, .int .i64 0, .int .i64 0, .int .i64 0, .int .i64 0, .int .i64 0, .int .i64 0, .int .i64 0, .int .i64 0, .int .i64 0] 49)) rfl
  have hlb : u1_.heap.size < ((u1_.alloc (.cells #[.int .i64 0, .int .i64 0, .int .i64 0, .int .i64 0, .int .i64 0, .int .i64 0, .int .i64 0, .int .i64 0, .int .i64 0, .int .i64 0, .int .i64 0, .int .i64 0, .int .i64 0, .int .i64 0, .int .i64 0, .int .i64 0] 49)).setCells u1_.heap.size 0 [.int .i64 z0, .int .i64 z1, .int .i64 z2, .int .i64 z3, .int .i64 z4, .int .i64 z5, .int .i64 z6, .int .i64 z7, .int .i64 z8, .int .i64 z9, .int .i64 z10, .int .i64 z11, .int .i64 z12, .int .i64 z13, .int .i64 z14, .int .i64 z15]).heap.size := (Array.getElem?_eq_some_iff.1 hnb).1
  have HD2 := Lib.hid (HD1.out.trans (hb.mono lw1))
  have lw2 : w.heap.size ≤ ((u1_.alloc (.cells #[.int .i64 0, .int .i64 0, .int .i64 0, .int .i64 0, .int .i64 0, .int .i64 0, .int .i64 0, .int .i64 0, .int .i64 0, .int .i64 0, .int .i64 0, .int .i64 0, .int .i64 0, .int .i64 0, .int .i64 0, .int .i64 0] 49)).setCells u1_.heap.size 0 [.int .i64 z0, .int .i64 z1, .int .i64 z2, .int .i64 z3, .int .i64 z4, .int .i64 z5, .int .i64 z6, .int .i64 z7, .int .i64 z8, .int .i64 z9, .int .i64 z10, .int .i64 z11, .int .i64 z12, .int .i64 z13, .int .i64 z14, .int .i64 z15]).heap.size := Nat.le_trans lw1 hb.size
  have Hb2_2 := Lib.hid ((hb.block _ lb2_1).trans Hb2_1.out)
  have lb2_2 : w.heap.size < ((u1_.alloc (.cells #[.int .i64 0, .int .i64 0, .int .i64 0, .int .i64 0, .int .i64 0, .int .i64 0, .int .i64 0, .int .i64 0, .int .i64 0, .int .i64 0, .int .i64 0, .int .i64 0, .int .i64 0, .int .i64 0, .int .i64 0, .int .i64 0] 49)).setCells u1_.heap.size 0 [.int .i64 z0, .int .i64 z1, .int .i64 z2, .int .i64 z3, .int .i64 z4, .int .i64 z5, .int .i64 z6, .int .i64 z7, .int .i64 z8, .int .i64 z9, .int .i64 z10, .int .i64 z11, .int .i64 z12, .int .i64 z13, .int .i64 z14, .int .i64 z15]).heap.size := Nat.lt_of_lt_of_le lb2_1 hb.size
  have Hb3_2 := Lib.hid ((hb.block _ lb3_1).trans Hb3_1.out)
  have lb3_2 : w.heap.size + 1 < ((u1_.alloc (.cells #[.int .i64 0, .int .i64 0, .int .i64 0, .int .i64 0, .int .i64 0, .int .i64 0, .int .i64 0, .int .i64 0, .int .i64 0, .int .i64 0, .int .i64 0, .int .i64 0, .int .i64 0, .int .i64 0, .int .i64 0, .int .i64 0] 49)).setCells u1_.heap.size 0 [.int .i64 z0, .int .i64 z1, .int .i64 z2, .int .i64 z3, .int .i64 z4, .int .i64 z5, .int .i64 z6, .int .i64 z7, .int .i64 z8, .int .i64 z9, .int .i64 z10, .int .i64 z11, .int .i64 z12, .int .i64 z13, .int .i64 z14, .int .i64 z15]).heap.size := Nat.lt_of_lt_of_le lb3_1 hb.size
  have Hb5_2 := Lib.hid hnb
  have lb5_2 := hlb
  clear hb hba hnb hlb HTH HD1 lw1 Hb2_1 lb2_1 Hb3_1 lb3_1
  generalize ((u1_.alloc (.cells #[.int .i64 0, .int .i64 0, .int .i64 0, .int .i64 0, .int .i64 0, .int .i64 0, .int .i64 0, .int .i64 0, .int .i64 0, .int .i64 0, .int .i64 0, .int .i64 0, .int .i64 0, .int .i64 0, .int .i64 0, .int .i64 0] 49)).setCells u1_.heap.size 0 [.int .i64 z0, .int .i64 z1, .int .i64 z2, .int .i64 z3, .int .i64 z4, .int .i64 z5, .int .i64 z6, .int .i64 z7, .int .i64 z8, .int .i64 z9, .int .i64 z10, .int .i64 z11, .int .i64 z12, .int .i64 z13, .int .i64 z14, .int .i64 z15]) = U2 at *
  generalize u1_.heap.size = BB2 at *
  refine wpList_step (fun K hK => ?_); go_simp; refine hK _ _ ?_; clear hK K
  refine wpList_nil ?_
  go_upto_region 2 with fail
  refine wp_region_lit ?_
  refine wpList_load_mid rfl 49 (.tmp 2) rfl (w.heap.size) 0 rfl [.int .i64 a0, .int .i64 b0, .int .i64 c0, .int .i64 d0, .int .i64 a1, .int .i64 b1, .int .i64 c1, .int .i64 d1, .int .i64 a2, .int .i64 b2, .int .i64 c2, .int .i64 d2, .int .i64 a3, .int .i64 b3, .int .i64 c3, .int .i64 d3] _ (range_row Hb2_2.out 0 [.int .i64 a0, .int .i64 b0, .int .i64 c0, .int .i64 d0, .int .i64 a1, .int .i64 b1, .int .i64 c1, .int .i64 d1, .int .i64 a2, .int .i64 b2, .int .i64 c2, .int .i64 d2, .int .i64 a3, .int .i64 b3, .int .i64 c3, .int .i64 d3] (fun j hj => by simp only [Nat.zero_add, List.getElem?_toArray])) Try.underlying49 rfl (by kernel_rfl) ?_
  refine wpList_load_mid rfl 49 (.tmp 3) rfl (w.heap.size + 1) 0 rfl [.int .i64 e0, .int .i64 f0, .int .i64 g0, .int .i64 h0, .int .i64 e1, .int .i64 f1, .int .i64 g1, .int .i64 h1, .int .i64 e2, .int .i64 f2, .int .i64 g2, .int .i64 h2, .int .i64 e3, .int .i64 f3, .int .i64 g3, .int .i64 h3] _ (range_row Hb3_2.out 0 [.int .i64 e0, .int .i64 f0, .int .i64 g0, .int .i64 h0, .int .i64 e1, .int .i64 f1, .int .i64 g1, .int .i64 h1, .int .i64 e2, .int .i64 f2, .int .i64 g2, .int .i64 h2, .int .i64 e3, .int .i64 f3, .int .i64 g3, .int .i64 h3] (fun j hj => by simp only [Nat.zero_add, List.getElem?_toArray])) Try.underlying49 rfl (by kernel_rfl) ?_
  refine wpList_step (fun K hK => ?_)
  go_simp
  refine (rStar_any a0 b0 c0 d0 a1 b1 c1 d1 a2 b2 c2 d2 a3 b3 c3 d3 e0 f0 g0 h0 e1 f1 g1 h1 e2 f2 g2 h2 e3 f3 g3 h3 _).mono ?_
  rw [HE.out]
  rintro e u3_ ⟨rfl, hb⟩
  have HD3 := Lib.hid (HD2.out.trans (hb.mono lw2))
  have lw3 : w.heap.size ≤ u3_.heap.size := Nat.le_trans lw2 hb.size
  have Hb2_3 := Lib.hid ((hb.block _ lb2_2).trans Hb2_2.out)
  have lb2_3 : w.heap.size < u3_.heap.size := Nat.lt_of_lt_of_le lb2_2 hb.size
  have Hb3_3 := Lib.hid ((hb.block _ lb3_2).trans Hb3_2.out)
  have lb3_3 : w.heap.size + 1 < u3_.heap.size := Nat.lt_of_lt_of_le lb3_2 hb.size
  have Hb5_3 := Lib.hid ((hb.block _ lb5_2).trans Hb5_2.out)
  have lb5_3 : BB2 < u3_.heap.size := Nat.lt_of_lt_of_le lb5_2 hb.size
  clear hb HD2 lw2 Hb2_2 lb2_2 Hb3_2 lb3_2 Hb5_2 lb5_2
  refine hK _ _ ?_
  clear hK K
  refine wpList_step (fun K hK => ?_); go_simp; refine hK _ _ ?_; clear hK K
  refine wpList_step (fun K hK => ?_); go_simp; refine hK _ _ ?_; clear hK K
  refine wpList_step (fun K hK => ?_); go_simp; refine hK _ _ ?_; clear hK K
  refine wpList_step (fun K hK => ?_); go_simp; refine hK _ _ ?_; clear hK K
  have HTH := Lib.hid (there_mid (heap_alloc_new u3_ (.cells #[.int .i64 0, .int .i64 0, .int .i64 0, .int .i64 0, .int .i64 0, .int .i64 0, .int .i64 0, .int .i64 0, .int .i64 0, .int .i64 0, .int .i64 0, .int .i64 0, .int .i64 0, .int .i64 0, .int .i64 0, .int .i64 0] 49)) 0 16 (show 0 + 16 ≤ 16 by decide))
  refine wpList_store_mid rfl 49 (.tmp 7) (.tmp 23) rfl u3_.heap.size 0 #[.int .i64 z0, .int .i64 z1, .int .i64 z2, .int .i64 z3, .int .i64 z4, .int .i64 z5, .int .i64 z6, .int .i64 z7, .int .i64 z8, .int .i64 z9, .int .i64 z10, .int .i64 z11, .int .i64 z12, .int .i64 z13, .int .i64 z14, .int .i64 z15] rfl rfl HTH.out (by kernel_rfl) (by simp [Value.oneCell']) ?_
  (try rw [show (#[.int .i64 z0, .int .i64 z1, .int .i64 z2, .int .i64 z3, .int .i64 z4, .int .i64 z5, .int .i64 z6, .int .i64 z7, .int .i64 z8, .int .i64 z9, .int .i64 z10, .int .i64 z11, .int .i64 z12, .int .i64 z13, .int .i64 z14, .int .i64 z15] : Array Value).toList = [.int .i64 z0, .int .i64 z1, .int .i64 z2, .int .i64 z3, .int .i64 z4, .int .i64 z5, .int .i64 z6, .int .i64 z7, .int .i64 z8, .int .i64 z9, .int .i64 z10, .int .i64 z11, .int .i64 z12, .int .i64 z13, .int .i64 z14, .int .i64 z15] from rfl])
  have hba : Below u3_.heap.size u3_ (u3_.alloc (.cells #[.int .i64 0, .int .i64 0, .int .i64 0, .int .i64 0, .int .i64 0, .int .i64 0, .int .i64 0, .int .i64 0, .int .i64 0, .int .i64 0, .int .i64 0, .int .i64 0, .int .i64 0, .int .i64 0, .int .i64 0, .int .i64 0] 49)) := bal (Below.refl _ _) _
  have hb : Below u3_.heap.size u3_ ((u3_.alloc (.cells #[.int .i64 0, .int .i64 0, .int .i64 0, .int .i64 0, .int .i64 0, .int .i64 0, .int .i64 0, .int .i64 0, .int .i64 0, .int .i64 0, .int .i64 0, .int .i64 0, .int .i64 0, .int .i64 0, .int .i64 0, .int .i64 0] 49)).setCells u3_.heap.size 0 [.int .i64 z0, .int .i64 z1, .int .i64 z2, .int .i64 z3, .int .i64 z4, .int .i64 z5, .int .i64 z6, .int .i64 z7, .int .i64 z8, .int .i64 z9, .int .i64 z10, .int .i64 z11, .int .i64 z12, .int .i64 z13, .int .i64 z14, .int .i64 z15]) := below_mids (Nat.le_refl _) _ _ hba
  have hnb : ((u3_.alloc (.cells #[.int .i64 0, .int .i64 0, .int .i64 0, .int .i64 0, .int .i64 0, .int .i64 0, .int .i64 0, .int .i64 0, .int .i64 0, .int .i64 0, .int .i64 0, .int .i64 0, .int .i64 0, .int .i64 0, .int .i64 0, .int .i64 0] 49)).setCells u3_.heap.size 0 [.int .i64 z0, .int .i64 z1, .int .i64 z2, .int .i64 z3, .int .i64 z4, .int .i64 z5, .int .i64 z6, .int .i64 z7, .int .i64 z8, .int .i64 z9, .int .i64 z10, .int .i64 z11, .int .i64 z12, .int .i64 z13, .int .i64 z14, .int .i64 z15]).heap[u3_.heap.size]? = some (.cells #[.int .i64 z0, .int .i64 z1, .int .i64 z2, .int .i64 z3, .int .i64 z4, .int .i64 z5, .int .i64 z6, .int .i64 z7, .int .i64 z8, .int .i64 z9, .int .i64 z10, .int .i64 z11, .int .i64 z12, .int .i64 z13, .int .i64 z14, .int .i64 z15] 49 (0, 0)) := block_whole [.int .i64 z0, .int .i64 z1, .int .i64 z2, .int .i64 z3, .int .i64 z4, .int .i64 z5, .int .i64 z6, .int .i64 z7, .int .i64 z8, .int .i64 z9, .int .i64 z10, .int .i64 z11, .int .i64 z12, .int .i64 z13, .int .i64 z14, .int .i64 z15] (heap_alloc_new u3_ (.cells #[.int .i64 0, .int .i64 0, .int .i64 0, .int .i64 0, .int .i64 0, .int .i64 0, .int .i64 0, .int .i64 0, .int .i64 0, .int .i64 0, .int .i64 0, .int .i64 0, .int .i64 0, .int .i64 0, .int .i64 0, .int .i64 0] 49)) rfl
  have hlb : u3_.heap.size < ((u3_.alloc (.cells #[.int .i64 0, .int .i64 0, .int .i64 0, .int .i64 0, .int .i64 0, .int .i64 0, .int .i64 0, .int .i64 0, .int .i64 0, .int .i64 0, .int .i64 0, .int .i64 0, .int .i64 0, .int .i64 0, .int .i64 0, .int .i64 0] 49)).setCells u3_.heap.size 0 [.int .i64 z0, .int .i64 z1, .int .i64 z2, .int .i64 z3, .int .i64 z4, .int .i64 z5, .int .i64 z6, .int .i64 z7, .int .i64 z8, .int .i64 z9, .int .i64 z10, .int .i64 z11, .int .i64 z12, .int .i64 z13, .int .i64 z14, .int .i64 z15]).heap.size := (Array.getElem?_eq_some_iff.1 hnb).1
  have HD4 := Lib.hid (HD3.out.trans (hb.mono lw3))
  have lw4 : w.heap.size ≤ ((u3_.alloc (.cells #[.int .i64 0, .int .i64 0, .int .i64 0, .int .i64 0, .int .i64 0, .int .i64 0, .int .i64 0, .int .i64 0, .int .i64 0, .int .i64 0, .int .i64 0, .int .i64 0, .int .i64 0, .int .i64 0, .int .i64 0, .int .i64 0] 49)).setCells u3_.heap.size 0 [.int .i64 z0, .int .i64 z1, .int .i64 z2, .int .i64 z3, .int .i64 z4, .int .i64 z5, .int .i64 z6, .int .i64 z7, .int .i64 z8, .int .i64 z9, .int .i64 z10, .int .i64 z11, .int .i64 z12, .int .i64 z13, .int .i64 z14, .int .i64 z15]).heap.size := Nat.le_trans lw3 hb.size
  have Hb2_4 := Lib.hid ((hb.block _ lb2_3).trans Hb2_3.out)
  have lb2_4 : w.heap.size < ((u3_.alloc (.cells #[.int .i64 0, .int .i64 0, .int .i64 0, .int .i64 0, .int .i64 0, .int .i64 0, .int .i64 0, .int .i64 0, .int .i64 0, .int .i64 0, .int .i64 0, .int .i64 0, .int .i64 0, .int .i64 0, .int .i64 0, .int .i64 0] 49)).setCells u3_.heap.size 0 [.int .i64 z0, .int .i64 z1, .int .i64 z2, .int .i64 z3, .int .i64 z4, .int .i64 z5, .int .i64 z6, .int .i64 z7, .int .i64 z8, .int .i64 z9, .int .i64 z10, .int .i64 z11, .int .i64 z12, .int .i64 z13, .int .i64 z14, .int .i64 z15]).heap.size := Nat.lt_of_lt_of_le lb2_3 hb.size
  have Hb3_4 := Lib.hid ((hb.block _ lb3_3).trans Hb3_3.out)
  have lb3_4 : w.heap.size + 1 < ((u3_.alloc (.cells #[.int .i64 0, .int .i64 0, .int .i64 0, .int .i64 0, .int .i64 0, .int .i64 0, .int .i64 0, .int .i64 0, .int .i64 0, .int .i64 0, .int .i64 0, .int .i64 0, .int .i64 0, .int .i64 0, .int .i64 0, .int .i64 0] 49)).setCells u3_.heap.size 0 [.int .i64 z0, .int .i64 z1, .int .i64 z2, .int .i64 z3, .int .i64 z4, .int .i64 z5, .int .i64 z6, .int .i64 z7, .int .i64 z8, .int .i64 z9, .int .i64 z10, .int .i64 z11, .int .i64 z12, .int .i64 z13, .int .i64 z14, .int .i64 z15]).heap.size := Nat.lt_of_lt_of_le lb3_3 hb.size
  have Hb5_4 := Lib.hid ((hb.block _ lb5_3).trans Hb5_3.out)
  have lb5_4 : BB2 < ((u3_.alloc (.cells #[.int .i64 0, .int .i64 0, .int .i64 0, .int .i64 0, .int .i64 0, .int .i64 0, .int .i64 0, .int .i64 0, .int .i64 0, .int .i64 0, .int .i64 0, .int .i64 0, .int .i64 0, .int .i64 0, .int .i64 0, .int .i64 0] 49)).setCells u3_.heap.size 0 [.int .i64 z0, .int .i64 z1, .int .i64 z2, .int .i64 z3, .int .i64 z4, .int .i64 z5, .int .i64 z6, .int .i64 z7, .int .i64 z8, .int .i64 z9, .int .i64 z10, .int .i64 z11, .int .i64 z12, .int .i64 z13, .int .i64 z14, .int .i64 z15]).heap.size := Nat.lt_of_lt_of_le lb5_3 hb.size
  have Hb7_4 := Lib.hid hnb
  have lb7_4 := hlb
  clear hb hba hnb hlb HTH HD3 lw3 Hb2_3 lb2_3 Hb3_3 lb3_3 Hb5_3 lb5_3
  generalize ((u3_.alloc (.cells #[.int .i64 0, .int .i64 0, .int .i64 0, .int .i64 0, .int .i64 0, .int .i64 0, .int .i64 0, .int .i64 0, .int .i64 0, .int .i64 0, .int .i64 0, .int .i64 0, .int .i64 0, .int .i64 0, .int .i64 0, .int .i64 0] 49)).setCells u3_.heap.size 0 [.int .i64 z0, .int .i64 z1, .int .i64 z2, .int .i64 z3, .int .i64 z4, .int .i64 z5, .int .i64 z6, .int .i64 z7, .int .i64 z8, .int .i64 z9, .int .i64 z10, .int .i64 z11, .int .i64 z12, .int .i64 z13, .int .i64 z14, .int .i64 z15]) = U4 at *
  generalize u3_.heap.size = BB4 at *
  refine wpList_step (fun K hK => ?_); go_simp; refine hK _ _ ?_; clear hK K
  refine wpList_nil ?_
  go_upto_region 3 with fail
  refine wp_region_lit ?_
  refine wpList_load_mid rfl 49 (.tmp 2) rfl (w.heap.size) 0 rfl [.int .i64 a0, .int .i64 b0, .int .i64 c0, .int .i64 d0, .int .i64 a1, .int .i64 b1, .int .i64 c1, .int .i64 d1, .int .i64 a2, .int .i64 b2, .int .i64 c2, .int .i64 d2, .int .i64 a3, .int .i64 b3, .int .i64 c3, .int .i64 d3] _ (range_row Hb2_4.out 0 [.int .i64 a0, .int .i64 b0, .int .i64 c0, .int .i64 d0, .int .i64 a1, .int .i64 b1, .int .i64 c1, .int .i64 d1, .int .i64 a2, .int .i64 b2, .int .i64 c2, .int .i64 d2, .int .i64 a3, .int .i64 b3, .int .i64 c3, .int .i64 d3] (fun j hj => by simp only [Nat.zero_add, List.getElem?_toArray])) Try.underlying49 rfl (by kernel_rfl) ?_
  refine wpList_step (fun K hK => ?_)
  go_simp
  refine (eMirror_any a0 b0 c0 d0 a1 b1 c1 d1 a2 b2 c2 d2 a3 b3 c3 d3 _).mono ?_
  rw [HM.out]
  rintro e u5_ ⟨rfl, hb⟩
  have HD5 := Lib.hid (HD4.out.trans (hb.mono lw4))
  have lw5 : w.heap.size ≤ u5_.heap.size := Nat.le_trans lw4 hb.size
  have Hb2_5 := Lib.hid ((hb.block _ lb2_4).trans Hb2_4.out)
  have lb2_5 : w.heap.size < u5_.heap.size := Nat.lt_of_lt_of_le lb2_4 hb.size
  have Hb3_5 := Lib.hid ((hb.block _ lb3_4).trans Hb3_4.out)
  have lb3_5 : w.heap.size + 1 < u5_.heap.size := Nat.lt_of_lt_of_le lb3_4 hb.size
  have Hb5_5 := Lib.hid ((hb.block _ lb5_4).trans Hb5_4.out)
  have lb5_5 : BB2 < u5_.heap.size := Nat.lt_of_lt_of_le lb5_4 hb.size
  have Hb7_5 := Lib.hid ((hb.block _ lb7_4).trans Hb7_4.out)
  have lb7_5 : BB4 < u5_.heap.size := Nat.lt_of_lt_of_le lb7_4 hb.size
  clear hb HD4 lw4 Hb2_4 lb2_4 Hb3_4 lb3_4 Hb5_4 lb5_4 Hb7_4 lb7_4
  refine hK _ _ ?_
  clear hK K
  refine wpList_step (fun K hK => ?_); go_simp; refine hK _ _ ?_; clear hK K
  refine wpList_step (fun K hK => ?_); go_simp; refine hK _ _ ?_; clear hK K
  refine wpList_step (fun K hK => ?_); go_simp; refine hK _ _ ?_; clear hK K
  refine wpList_step (fun K hK => ?_); go_simp; refine hK _ _ ?_; clear hK K
  have HTH := Lib.hid (there_mid (heap_alloc_new u5_ (.cells #[.int .i64 0, .int .i64 0, .int .i64 0, .int .i64 0, .int .i64 0, .int .i64 0, .int .i64 0, .int .i64 0, .int .i64 0, .int .i64 0, .int .i64 0, .int .i64 0, .int .i64 0, .int .i64 0, .int .i64 0, .int .i64 0] 49)) 0 16 (show 0 + 16 ≤ 16 by decide))
  refine wpList_store_mid rfl 49 (.tmp 9) (.tmp 28) rfl u5_.heap.size 0 #[.int .i64 m0, .int .i64 m1, .int .i64 m2, .int .i64 m3, .int .i64 m4, .int .i64 m5, .int .i64 m6, .int .i64 m7, .int .i64 m8, .int .i64 m9, .int .i64 m10, .int .i64 m11, .int .i64 m12, .int .i64 m13, .int .i64 m14, .int .i64 m15] rfl rfl HTH.out (by kernel_rfl) (by simp [Value.oneCell']) ?_
  (try rw [show (#[.int .i64 m0, .int .i64 m1, .int .i64 m2, .int .i64 m3, .int .i64 m4, .int .i64 m5, .int .i64 m6, .int .i64 m7, .int .i64 m8, .int .i64 m9, .int .i64 m10, .int .i64 m11, .int .i64 m12, .int .i64 m13, .int .i64 m14, .int .i64 m15] : Array Value).toList = [.int .i64 m0, .int .i64 m1, .int .i64 m2, .int .i64 m3, .int .i64 m4, .int .i64 m5, .int .i64 m6, .int .i64 m7, .int .i64 m8, .int .i64 m9, .int .i64 m10, .int .i64 m11, .int .i64 m12, .int .i64 m13, .int .i64 m14, .int .i64 m15] from rfl])
  have hba : Below u5_.heap.size u5_ (u5_.alloc (.cells #[.int .i64 0, .int .i64 0, .int .i64 0, .int .i64 0, .int .i64 0, .int .i64 0, .int .i64 0, .int .i64 0, .int .i64 0, .int .i64 0, .int .i64 0, .int .i64 0, .int .i64 0, .int .i64 0, .int .i64 0, .int .i64 0] 49)) := bal (Below.refl _ _) _
  have hb : Below u5_.heap.size u5_ ((u5_.alloc (.cells #[.int .i64 0, .int .i64 0, .int .i64 0, .int .i64 0, .int .i64 0, .int .i64 0, .int .i64 0, .int .i64 0, .int .i64 0, .int .i64 0, .int .i64 0, .int .i64 0, .int .i64 0, .int .i64 0, .int .i64 0, .int .i64 0] 49)).setCells u5_.heap.size 0 [.int .i64 m0, .int .i64 m1, .int .i64 m2, .int .i64 m3, .int .i64 m4, .int .i64 m5, .int .i64 m6, .int .i64 m7, .int .i64 m8, .int .i64 m9, .int .i64 m10, .int .i64 m11, .int .i64 m12, .int .i64 m13, .int .i64 m14, .int .i64 m15]) := below_mids (Nat.le_refl _) _ _ hba
  have hnb : ((u5_.alloc (.cells #[.int .i64 0, .int .i64 0, .int .i64 0, .int .i64 0, .int .i64 0, .int .i64 0, .int .i64 0, .int .i64 0, .int .i64 0, .int .i64 0, .int .i64 0, .int .i64 0, .int .i64 0, .int .i64 0, .int .i64 0, .int .i64 0] 49)).setCells u5_.heap.size 0 [.int .i64 m0, .int .i64 m1, .int .i64 m2, .int .i64 m3, .int .i64 m4, .int .i64 m5, .int .i64 m6, .int .i64 m7, .int .i64 m8, .int .i64 m9, .int .i64 m10, .int .i64 m11, .int .i64 m12, .int .i64 m13, .int .i64 m14, .int .i64 m15]).heap[u5_.heap.size]? = some (.cells #[.int .i64 m0, .int .i64 m1, .int .i64 m2, .int .i64 m3, .int .i64 m4, .int .i64 m5, .int .i64 m6, .int .i64 m7, .int .i64 m8, .int .i64 m9, .int .i64 m10, .int .i64 m11, .int .i64 m12, .int .i64 m13, .int .i64 m14, .int .i64 m15] 49 (0, 0)) := block_whole [.int .i64 m0, .int .i64 m1, .int .i64 m2, .int .i64 m3, .int .i64 m4, .int .i64 m5, .int .i64 m6, .int .i64 m7, .int .i64 m8, .int .i64 m9, .int .i64 m10, .int .i64 m11, .int .i64 m12, .int .i64 m13, .int .i64 m14, .int .i64 m15] (heap_alloc_new u5_ (.cells #[.int .i64 0, .int .i64 0, .int .i64 0, .int .i64 0, .int .i64 0, .int .i64 0, .int .i64 0, .int .i64 0, .int .i64 0, .int .i64 0, .int .i64 0, .int .i64 0, .int .i64 0, .int .i64 0, .int .i64 0, .int .i64 0] 49)) rfl
  have hlb : u5_.heap.size < ((u5_.alloc (.cells #[.int .i64 0, .int .i64 0, .int .i64 0, .int .i64 0, .int .i64 0, .int .i64 0, .int .i64 0, .int .i64 0, .int .i64 0, .int .i64 0, .int .i64 0, .int .i64 0, .int .i64 0, .int .i64 0, .int .i64 0, .int .i64 0] 49)).setCells u5_.heap.size 0 [.int .i64 m0, .int .i64 m1, .int .i64 m2, .int .i64 m3, .int .i64 m4, .int .i64 m5, .int .i64 m6, .int .i64 m7, .int .i64 m8, .int .i64 m9, .int .i64 m10, .int .i64 m11, .int .i64 m12, .int .i64 m13, .int .i64 m14, .int .i64 m15]).heap.size := (Array.getElem?_eq_some_iff.1 hnb).1
  have HD6 := Lib.hid (HD5.out.trans (hb.mono lw5))
  have lw6 : w.heap.size ≤ ((u5_.alloc (.cells #[.int .i64 0, .int .i64 0, .int .i64 0, .int .i64 0, .int .i64 0, .int .i64 0, .int .i64 0, .int .i64 0, .int .i64 0, .int .i64 0, .int .i64 0, .int .i64 0, .int .i64 0, .int .i64 0, .int .i64 0, .int .i64 0] 49)).setCells u5_.heap.size 0 [.int .i64 m0, .int .i64 m1, .int .i64 m2, .int .i64 m3, .int .i64 m4, .int .i64 m5, .int .i64 m6, .int .i64 m7, .int .i64 m8, .int .i64 m9, .int .i64 m10, .int .i64 m11, .int .i64 m12, .int .i64 m13, .int .i64 m14, .int .i64 m15]).heap.size := Nat.le_trans lw5 hb.size
  have Hb2_6 := Lib.hid ((hb.block _ lb2_5).trans Hb2_5.out)
  have lb2_6 : w.heap.size < ((u5_.alloc (.cells #[.int .i64 0, .int .i64 0, .int .i64 0, .int .i64 0, .int .i64 0, .int .i64 0, .int .i64 0, .int .i64 0, .int .i64 0, .int .i64 0, .int .i64 0, .int .i64 0, .int .i64 0, .int .i64 0, .int .i64 0, .int .i64 0] 49)).setCells u5_.heap.size 0 [.int .i64 m0, .int .i64 m1, .int .i64 m2, .int .i64 m3, .int .i64 m4, .int .i64 m5, .int .i64 m6, .int .i64 m7, .int .i64 m8, .int .i64 m9, .int .i64 m10, .int .i64 m11, .int .i64 m12, .int .i64 m13, .int .i64 m14, .int .i64 m15]).heap.size := Nat.lt_of_lt_of_le lb2_5 hb.size
  have Hb3_6 := Lib.hid ((hb.block _ lb3_5).trans Hb3_5.out)
  have lb3_6 : w.heap.size + 1 < ((u5_.alloc (.cells #[.int .i64 0, .int .i64 0, .int .i64 0, .int .i64 0, .int .i64 0, .int .i64 0, .int .i64 0, .int .i64 0, .int .i64 0, .int .i64 0, .int .i64 0, .int .i64 0, .int .i64 0, .int .i64 0, .int .i64 0, .int .i64 0] 49)).setCells u5_.heap.size 0 [.int .i64 m0, .int .i64 m1, .int .i64 m2, .int .i64 m3, .int .i64 m4, .int .i64 m5, .int .i64 m6, .int .i64 m7, .int .i64 m8, .int .i64 m9, .int .i64 m10, .int .i64 m11, .int .i64 m12, .int .i64 m13, .int .i64 m14, .int .i64 m15]).heap.size := Nat.lt_of_lt_of_le lb3_5 hb.size
  have Hb5_6 := Lib.hid ((hb.block _ lb5_5).trans Hb5_5.out)
  have lb5_6 : BB2 < ((u5_.alloc (.cells #[.int .i64 0, .int .i64 0, .int .i64 0, .int .i64 0, .int .i64 0, .int .i64 0, .int .i64 0, .int .i64 0, .int .i64 0, .int .i64 0, .int .i64 0, .int .i64 0, .int .i64 0, .int .i64 0, .int .i64 0, .int .i64 0] 49)).setCells u5_.heap.size 0 [.int .i64 m0, .int .i64 m1, .int .i64 m2, .int .i64 m3, .int .i64 m4, .int .i64 m5, .int .i64 m6, .int .i64 m7, .int .i64 m8, .int .i64 m9, .int .i64 m10, .int .i64 m11, .int .i64 m12, .int .i64 m13, .int .i64 m14, .int .i64 m15]).heap.size := Nat.lt_of_lt_of_le lb5_5 hb.size
  have Hb7_6 := Lib.hid ((hb.block _ lb7_5).trans Hb7_5.out)
  have lb7_6 : BB4 < ((u5_.alloc (.cells #[.int .i64 0, .int .i64 0, .int .i64 0, .int .i64 0, .int .i64 0, .int .i64 0, .int .i64 0, .int .i64 0, .int .i64 0, .int .i64 0, .int .i64 0, .int .i64 0, .int .i64 0, .int .i64 0, .int .i64 0, .int .i64 0] 49)).setCells u5_.heap.size 0 [.int .i64 m0, .int .i64 m1, .int .i64 m2, .int .i64 m3, .int .i64 m4, .int .i64 m5, .int .i64 m6, .int .i64 m7, .int .i64 m8, .int .i64 m9, .int .i64 m10, .int .i64 m11, .int .i64 m12, .int .i64 m13, .int .i64 m14, .int .i64 m15]).heap.size := Nat.lt_of_lt_of_le lb7_5 hb.size
  have Hb9_6 := Lib.hid hnb
  have lb9_6 := hlb
  clear hb hba hnb hlb HTH HD5 lw5 Hb2_5 lb2_5 Hb3_5 lb3_5 Hb5_5 lb5_5 Hb7_5 lb7_5
  generalize ((u5_.alloc (.cells #[.int .i64 0, .int .i64 0, .int .i64 0, .int .i64 0, .int .i64 0, .int .i64 0, .int .i64 0, .int .i64 0, .int .i64 0, .int .i64 0, .int .i64 0, .int .i64 0, .int .i64 0, .int .i64 0, .int .i64 0, .int .i64 0] 49)).setCells u5_.heap.size 0 [.int .i64 m0, .int .i64 m1, .int .i64 m2, .int .i64 m3, .int .i64 m4, .int .i64 m5, .int .i64 m6, .int .i64 m7, .int .i64 m8, .int .i64 m9, .int .i64 m10, .int .i64 m11, .int .i64 m12, .int .i64 m13, .int .i64 m14, .int .i64 m15]) = U6 at *
  generalize u5_.heap.size = BB6 at *
  refine wpList_step (fun K hK => ?_); go_simp; refine hK _ _ ?_; clear hK K
  refine wpList_nil ?_
  go_upto_region 4 with fail
  refine wp_region_lit ?_
  refine wpList_load_mid rfl 49 (.tmp 2) rfl (w.heap.size) 0 rfl [.int .i64 a0, .int .i64 b0, .int .i64 c0, .int .i64 d0, .int .i64 a1, .int .i64 b1, .int .i64 c1, .int .i64 d1, .int .i64 a2, .int .i64 b2, .int .i64 c2, .int .i64 d2, .int .i64 a3, .int .i64 b3, .int .i64 c3, .int .i64 d3] _ (range_row Hb2_6.out 0 [.int .i64 a0, .int .i64 b0, .int .i64 c0, .int .i64 d0, .int .i64 a1, .int .i64 b1, .int .i64 c1, .int .i64 d1, .int .i64 a2, .int .i64 b2, .int .i64 c2, .int .i64 d2, .int .i64 a3, .int .i64 b3, .int .i64 c3, .int .i64 d3] (fun j hj => by simp only [Nat.zero_add, List.getElem?_toArray])) Try.underlying49 rfl (by kernel_rfl) ?_
  refine wpList_step (fun K hK => ?_)
  go_simp
  refine (rMirror_any a0 b0 c0 d0 a1 b1 c1 d1 a2 b2 c2 d2 a3 b3 c3 d3 _).mono ?_
  rw [HM.out]
  rintro e u7_ ⟨rfl, hb⟩
  have HD7 := Lib.hid (HD6.out.trans (hb.mono lw6))
  have lw7 : w.heap.size ≤ u7_.heap.size := Nat.le_trans lw6 hb.size
  have Hb2_7 := Lib.hid ((hb.block _ lb2_6).trans Hb2_6.out)
  have lb2_7 : w.heap.size < u7_.heap.size := Nat.lt_of_lt_of_le lb2_6 hb.size
  have Hb3_7 := Lib.hid ((hb.block _ lb3_6).trans Hb3_6.out)
  have lb3_7 : w.heap.size + 1 < u7_.heap.size := Nat.lt_of_lt_of_le lb3_6 hb.size
  have Hb5_7 := Lib.hid ((hb.block _ lb5_6).trans Hb5_6.out)
  have lb5_7 : BB2 < u7_.heap.size := Nat.lt_of_lt_of_le lb5_6 hb.size
  have Hb7_7 := Lib.hid ((hb.block _ lb7_6).trans Hb7_6.out)
  have lb7_7 : BB4 < u7_.heap.size := Nat.lt_of_lt_of_le lb7_6 hb.size
  have Hb9_7 := Lib.hid ((hb.block _ lb9_6).trans Hb9_6.out)
  have lb9_7 : BB6 < u7_.heap.size := Nat.lt_of_lt_of_le lb9_6 hb.size
  clear hb HD6 lw6 Hb2_6 lb2_6 Hb3_6 lb3_6 Hb5_6 lb5_6 Hb7_6 lb7_6 Hb9_6 lb9_6
  refine hK _ _ ?_
  clear hK K
  refine wpList_step (fun K hK => ?_); go_simp; refine hK _ _ ?_; clear hK K
  refine wpList_step (fun K hK => ?_); go_simp; refine hK _ _ ?_; clear hK K
  refine wpList_step (fun K hK => ?_); go_simp; refine hK _ _ ?_; clear hK K
  refine wpList_step (fun K hK => ?_); go_simp; refine hK _ _ ?_; clear hK K
  have HTH := Lib.hid (there_mid (heap_alloc_new u7_ (.cells #[.int .i64 0, .int .i64 0, .int .i64 0, .int .i64 0, .int .i64 0, .int .i64 0, .int .i64 0, .int .i64 0, .int .i64 0, .int .i64 0, .int .i64 0, .int .i64 0, .int .i64 0, .int .i64 0, .int .i64 0, .int .i64 0] 49)) 0 16 (show 0 + 16 ≤ 16 by decide))
  refine wpList_store_mid rfl 49 (.tmp 11) (.tmp 33) rfl u7_.heap.size 0 #[.int .i64 m0, .int .i64 m1, .int .i64 m2, .int .i64 m3, .int .i64 m4, .int .i64 m5, .int .i64 m6, .int .i64 m7, .int .i64 m8, .int .i64 m9, .int .i64 m10, .int .i64 m11, .int .i64 m12, .int .i64 m13, .int .i64 m14, .int .i64 m15] rfl rfl HTH.out (by kernel_rfl) (by simp [Value.oneCell']) ?_
  (try rw [show (#[.int .i64 m0, .int .i64 m1, .int .i64 m2, .int .i64 m3, .int .i64 m4, .int .i64 m5, .int .i64 m6, .int .i64 m7, .int .i64 m8, .int .i64 m9, .int .i64 m10, .int .i64 m11, .int .i64 m12, .int .i64 m13, .int .i64 m14, .int .i64 m15] : Array Value).toList = [.int .i64 m0, .int .i64 m1, .int .i64 m2, .int .i64 m3, .int .i64 m4, .int .i64 m5, .int .i64 m6, .int .i64 m7, .int .i64 m8, .int .i64 m9, .int .i64 m10, .int .i64 m11, .int .i64 m12, .int .i64 m13, .int .i64 m14, .int .i64 m15] from rfl])
  have hba : Below u7_.heap.size u7_ (u7_.alloc (.cells #[.int .i64 0, .int .i64 0, .int .i64 0, .int .i64 0, .int .i64 0, .int .i64 0, .int .i64 0, .int .i64 0, .int .i64 0, .int .i64 0, .int .i64 0, .int .i64 0, .int .i64 0, .int .i64 0, .int .i64 0, .int .i64 0] 49)) := bal (Below.refl _ _) _
  have hb : Below u7_.heap.size u7_ ((u7_.alloc (.cells #[.int .i64 0, .int .i64 0, .int .i64 0, .int .i64 0, .int .i64 0, .int .i64 0, .int .i64 0, .int .i64 0, .int .i64 0, .int .i64 0, .int .i64 0, .int .i64 0, .int .i64 0, .int .i64 0, .int .i64 0, .int .i64 0] 49)).setCells u7_.heap.size 0 [.int .i64 m0, .int .i64 m1, .int .i64 m2, .int .i64 m3, .int .i64 m4, .int .i64 m5, .int .i64 m6, .int .i64 m7, .int .i64 m8, .int .i64 m9, .int .i64 m10, .int .i64 m11, .int .i64 m12, .int .i64 m13, .int .i64 m14, .int .i64 m15]) := below_mids (Nat.le_refl _) _ _ hba
  have hnb : ((u7_.alloc (.cells #[.int .i64 0, .int .i64 0, .int .i64 0, .int .i64 0, .int .i64 0, .int .i64 0, .int .i64 0, .int .i64 0, .int .i64 0, .int .i64 0, .int .i64 0, .int .i64 0, .int .i64 0, .int .i64 0, .int .i64 0, .int .i64 0] 49)).setCells u7_.heap.size 0 [.int .i64 m0, .int .i64 m1, .int .i64 m2, .int .i64 m3, .int .i64 m4, .int .i64 m5, .int .i64 m6, .int .i64 m7, .int .i64 m8, .int .i64 m9, .int .i64 m10, .int .i64 m11, .int .i64 m12, .int .i64 m13, .int .i64 m14, .int .i64 m15]).heap[u7_.heap.size]? = some (.cells #[.int .i64 m0, .int .i64 m1, .int .i64 m2, .int .i64 m3, .int .i64 m4, .int .i64 m5, .int .i64 m6, .int .i64 m7, .int .i64 m8, .int .i64 m9, .int .i64 m10, .int .i64 m11, .int .i64 m12, .int .i64 m13, .int .i64 m14, .int .i64 m15] 49 (0, 0)) := block_whole [.int .i64 m0, .int .i64 m1, .int .i64 m2, .int .i64 m3, .int .i64 m4, .int .i64 m5, .int .i64 m6, .int .i64 m7, .int .i64 m8, .int .i64 m9, .int .i64 m10, .int .i64 m11, .int .i64 m12, .int .i64 m13, .int .i64 m14, .int .i64 m15] (heap_alloc_new u7_ (.cells #[.int .i64 0, .int .i64 0, .int .i64 0, .int .i64 0, .int .i64 0, .int .i64 0, .int .i64 0, .int .i64 0, .int .i64 0, .int .i64 0, .int .i64 0, .int .i64 0, .int .i64 0, .int .i64 0, .int .i64 0, .int .i64 0] 49)) rfl
  have hlb : u7_.heap.size < ((u7_.alloc (.cells #[.int .i64 0, .int .i64 0, .int .i64 0, .int .i64 0, .int .i64 0, .int .i64 0, .int .i64 0, .int .i64 0, .int .i64 0, .int .i64 0, .int .i64 0, .int .i64 0, .int .i64 0, .int .i64 0, .int .i64 0, .int .i64 0] 49)).setCells u7_.heap.size 0 [.int .i64 m0, .int .i64 m1, .int .i64 m2, .int .i64 m3, .int .i64 m4, .int .i64 m5, .int .i64 m6, .int .i64 m7, .int .i64 m8, .int .i64 m9, .int .i64 m10, .int .i64 m11, .int .i64 m12, .int .i64 m13, .int .i64 m14, .int .i64 m15]).heap.size := (Array.getElem?_eq_some_iff.1 hnb).1
  have HD8 := Lib.hid (HD7.out.trans (hb.mono lw7))
  have lw8 : w.heap.size ≤ ((u7_.alloc (.cells #[.int .i64 0, .int .i64 0, .int .i64 0, .int .i64 0, .int .i64 0, .int .i64 0, .int .i64 0, .int .i64 0, .int .i64 0, .int .i64 0, .int .i64 0, .int .i64 0, .int .i64 0, .int .i64 0, .int .i64 0, .int .i64 0] 49)).setCells u7_.heap.size 0 [.int .i64 m0, .int .i64 m1, .int .i64 m2, .int .i64 m3, .int .i64 m4, .int .i64 m5, .int .i64 m6, .int .i64 m7, .int .i64 m8, .int .i64 m9, .int .i64 m10, .int .i64 m11, .int .i64 m12, .int .i64 m13, .int .i64 m14, .int .i64 m15]).heap.size := Nat.le_trans lw7 hb.size
  have Hb2_8 := Lib.hid ((hb.block _ lb2_7).trans Hb2_7.out)
  have lb2_8 : w.heap.size < ((u7_.alloc (.cells #[.int .i64 0, .int .i64 0, .int .i64 0, .int .i64 0, .int .i64 0, .int .i64 0, .int .i64 0, .int .i64 0, .int .i64 0, .int .i64 0, .int .i64 0, .int .i64 0, .int .i64 0, .int .i64 0, .int .i64 0, .int .i64 0] 49)).setCells u7_.heap.size 0 [.int .i64 m0, .int .i64 m1, .int .i64 m2, .int .i64 m3, .int .i64 m4, .int .i64 m5, .int .i64 m6, .int .i64 m7, .int .i64 m8, .int .i64 m9, .int .i64 m10, .int .i64 m11, .int .i64 m12, .int .i64 m13, .int .i64 m14, .int .i64 m15]).heap.size := Nat.lt_of_lt_of_le lb2_7 hb.size
  have Hb3_8 := Lib.hid ((hb.block _ lb3_7).trans Hb3_7.out)
  have lb3_8 : w.heap.size + 1 < ((u7_.alloc (.cells #[.int .i64 0, .int .i64 0, .int .i64 0, .int .i64 0, .int .i64 0, .int .i64 0, .int .i64 0, .int .i64 0, .int .i64 0, .int .i64 0, .int .i64 0, .int .i64 0, .int .i64 0, .int .i64 0, .int .i64 0, .int .i64 0] 49)).setCells u7_.heap.size 0 [.int .i64 m0, .int .i64 m1, .int .i64 m2, .int .i64 m3, .int .i64 m4, .int .i64 m5, .int .i64 m6, .int .i64 m7, .int .i64 m8, .int .i64 m9, .int .i64 m10, .int .i64 m11, .int .i64 m12, .int .i64 m13, .int .i64 m14, .int .i64 m15]).heap.size := Nat.lt_of_lt_of_le lb3_7 hb.size
  have Hb5_8 := Lib.hid ((hb.block _ lb5_7).trans Hb5_7.out)
  have lb5_8 : BB2 < ((u7_.alloc (.cells #[.int .i64 0, .int .i64 0, .int .i64 0, .int .i64 0, .int .i64 0, .int .i64 0, .int .i64 0, .int .i64 0, .int .i64 0, .int .i64 0, .int .i64 0, .int .i64 0, .int .i64 0, .int .i64 0, .int .i64 0, .int .i64 0] 49)).setCells u7_.heap.size 0 [.int .i64 m0, .int .i64 m1, .int .i64 m2, .int .i64 m3, .int .i64 m4, .int .i64 m5, .int .i64 m6, .int .i64 m7, .int .i64 m8, .int .i64 m9, .int .i64 m10, .int .i64 m11, .int .i64 m12, .int .i64 m13, .int .i64 m14, .int .i64 m15]).heap.size := Nat.lt_of_lt_of_le lb5_7 hb.size
  have Hb7_8 := Lib.hid ((hb.block _ lb7_7).trans Hb7_7.out)
  have lb7_8 : BB4 < ((u7_.alloc (.cells #[.int .i64 0, .int .i64 0, .int .i64 0, .int .i64 0, .int .i64 0, .int .i64 0, .int .i64 0, .int .i64 0, .int .i64 0, .int .i64 0, .int .i64 0, .int .i64 0, .int .i64 0, .int .i64 0, .int .i64 0, .int .i64 0] 49)).setCells u7_.heap.size 0 [.int .i64 m0, .int .i64 m1, .int .i64 m2, .int .i64 m3, .int .i64 m4, .int .i64 m5, .int .i64 m6, .int .i64 m7, .int .i64 m8, .int .i64 m9, .int .i64 m10, .int .i64 m11, .int .i64 m12, .int .i64 m13, .int .i64 m14, .int .i64 m15]).heap.size := Nat.lt_of_lt_of_le lb7_7 hb.size
  have Hb9_8 := Lib.hid ((hb.block _ lb9_7).trans Hb9_7.out)
  have lb9_8 : BB6 < ((u7_.alloc (.cells #[.int .i64 0, .int .i64 0, .int .i64 0, .int .i64 0, .int .i64 0, .int .i64 0, .int .i64 0, .int .i64 0, .int .i64 0, .int .i64 0, .int .i64 0, .int .i64 0, .int .i64 0, .int .i64 0, .int .i64 0, .int .i64 0] 49)).setCells u7_.heap.size 0 [.int .i64 m0, .int .i64 m1, .int .i64 m2, .int .i64 m3, .int .i64 m4, .int .i64 m5, .int .i64 m6, .int .i64 m7, .int .i64 m8, .int .i64 m9, .int .i64 m10, .int .i64 m11, .int .i64 m12, .int .i64 m13, .int .i64 m14, .int .i64 m15]).heap.size := Nat.lt_of_lt_of_le lb9_7 hb.size
  have Hb11_8 := Lib.hid hnb
  have lb11_8 := hlb
  clear hb hba hnb hlb HTH HD7 lw7 Hb2_7 lb2_7 Hb3_7 lb3_7 Hb5_7 lb5_7 Hb7_7 lb7_7 Hb9_7 lb9_7
  generalize ((u7_.alloc (.cells #[.int .i64 0, .int .i64 0, .int .i64 0, .int .i64 0, .int .i64 0, .int .i64 0, .int .i64 0, .int .i64 0, .int .i64 0, .int .i64 0, .int .i64 0, .int .i64 0, .int .i64 0, .int .i64 0, .int .i64 0, .int .i64 0] 49)).setCells u7_.heap.size 0 [.int .i64 m0, .int .i64 m1, .int .i64 m2, .int .i64 m3, .int .i64 m4, .int .i64 m5, .int .i64 m6, .int .i64 m7, .int .i64 m8, .int .i64 m9, .int .i64 m10, .int .i64 m11, .int .i64 m12, .int .i64 m13, .int .i64 m14, .int .i64 m15]) = U8 at *
  generalize u7_.heap.size = BB8 at *
  refine wpList_step (fun K hK => ?_); go_simp; refine hK _ _ ?_; clear hK K
  refine wpList_nil ?_
  go_upto_region 5 with fail
  refine wp_region_lit ?_
  refine wpList_load_mid rfl 49 (.tmp 5) rfl (BB2) 0 rfl [.int .i64 z0, .int .i64 z1, .int .i64 z2, .int .i64 z3, .int .i64 z4, .int .i64 z5, .int .i64 z6, .int .i64 z7, .int .i64 z8, .int .i64 z9, .int .i64 z10, .int .i64 z11, .int .i64 z12, .int .i64 z13, .int .i64 z14, .int .i64 z15] _ (range_row Hb5_8.out 0 [.int .i64 z0, .int .i64 z1, .int .i64 z2, .int .i64 z3, .int .i64 z4, .int .i64 z5, .int .i64 z6, .int .i64 z7, .int .i64 z8, .int .i64 z9, .int .i64 z10, .int .i64 z11, .int .i64 z12, .int .i64 z13, .int .i64 z14, .int .i64 z15] (fun j hj => by simp only [Nat.zero_add, List.getElem?_toArray])) Try.underlying49 rfl (by kernel_rfl) ?_
  refine wpList_load_mid rfl 49 (.tmp 7) rfl (BB4) 0 rfl [.int .i64 z0, .int .i64 z1, .int .i64 z2, .int .i64 z3, .int .i64 z4, .int .i64 z5, .int .i64 z6, .int .i64 z7, .int .i64 z8, .int .i64 z9, .int .i64 z10, .int .i64 z11, .int .i64 z12, .int .i64 z13, .int .i64 z14, .int .i64 z15] _ (range_row Hb7_8.out 0 [.int .i64 z0, .int .i64 z1, .int .i64 z2, .int .i64 z3, .int .i64 z4, .int .i64 z5, .int .i64 z6, .int .i64 z7, .int .i64 z8, .int .i64 z9, .int .i64 z10, .int .i64 z11, .int .i64 z12, .int .i64 z13, .int .i64 z14, .int .i64 z15] (fun j hj => by simp only [Nat.zero_add, List.getElem?_toArray])) Try.underlying49 rfl (by kernel_rfl) ?_
  refine wpList_step (fun K hK => ?_); go_simp; refine hK _ _ ?_; clear hK K
  refine wpList_step (fun K hK => ?_); go_simp; refine hK _ _ ?_; clear hK K
  refine wpList_step (fun K hK => ?_); go_simp; refine hK _ _ ?_; clear hK K
  refine wpList_step (fun K hK => ?_); go_simp; refine hK _ _ ?_; clear hK K
  refine wpList_step (fun K hK => ?_); go_simp; refine hK _ _ ?_; clear hK K
  refine wpList_step (fun K hK => ?_); go_simp; refine hK _ _ ?_; clear hK K
  refine wpList_step (fun K hK => ?_); go_simp; refine hK _ _ ?_; clear hK K
  refine wpList_step (fun K hK => ?_)
  rw [if_pos (show Region.wanted _ _ = true from rfl)]
  refine wp_load_mid 49 (.tmp 9) rfl (BB6) 0 rfl [.int .i64 m0, .int .i64 m1, .int .i64 m2, .int .i64 m3, .int .i64 m4, .int .i64 m5, .int .i64 m6, .int .i64 m7, .int .i64 m8, .int .i64 m9, .int .i64 m10, .int .i64 m11, .int .i64 m12, .int .i64 m13, .int .i64 m14, .int .i64 m15] _ (range_row Hb9_8.out 0 [.int .i64 m0, .int .i64 m1, .int .i64 m2, .int .i64 m3, .int .i64 m4, .int .i64 m5, .int .i64 m6, .int .i64 m7, .int .i64 m8, .int .i64 m9, .int .i64 m10, .int .i64 m11, .int .i64 m12, .int .i64 m13, .int .i64 m14, .int .i64 m15] (fun j hj => by simp only [Nat.zero_add, List.getElem?_toArray])) Try.underlying49 rfl (by kernel_rfl) ?_
  refine hK _ _ ?_
  clear hK K
  refine wpList_step (fun K hK => ?_)
  rw [if_pos (show Region.wanted _ _ = true from rfl)]
  refine wp_load_mid 49 (.tmp 11) rfl (BB8) 0 rfl [.int .i64 m0, .int .i64 m1, .int .i64 m2, .int .i64 m3, .int .i64 m4, .int .i64 m5, .int .i64 m6, .int .i64 m7, .int .i64 m8, .int .i64 m9, .int .i64 m10, .int .i64 m11, .int .i64 m12, .int .i64 m13, .int .i64 m14, .int .i64 m15] _ (range_row Hb11_8.out 0 [.int .i64 m0, .int .i64 m1, .int .i64 m2, .int .i64 m3, .int .i64 m4, .int .i64 m5, .int .i64 m6, .int .i64 m7, .int .i64 m8, .int .i64 m9, .int .i64 m10, .int .i64 m11, .int .i64 m12, .int .i64 m13, .int .i64 m14, .int .i64 m15] (fun j hj => by simp only [Nat.zero_add, List.getElem?_toArray])) Try.underlying49 rfl (by kernel_rfl) ?_
  refine hK _ _ ?_
  clear hK K
  refine wpList_step (fun K hK => ?_); go_simp; refine hK _ _ ?_; clear hK K
  refine wpList_step (fun K hK => ?_); go_simp; refine hK _ _ ?_; clear hK K
  refine wpList_step (fun K hK => ?_); go_simp; refine hK _ _ ?_; clear hK K
  refine wpList_step (fun K hK => ?_); go_simp; refine hK _ _ ?_; clear hK K
  refine wpList_step (fun K hK => ?_); go_simp; refine hK _ _ ?_; clear hK K
  refine wpList_step (fun K hK => ?_); go_simp; refine hK _ _ ?_; clear hK K
  refine wpList_step (fun K hK => ?_); go_simp; refine hK _ _ ?_; clear hK K
  refine wpList_step (fun K hK => ?_); go_simp; refine hK _ _ ?_; clear hK K
  refine wpList_step (fun K hK => ?_)
  go_simp
  refine (eawake_any _).mono ?_
  rintro e u9_ ⟨rfl, hb⟩
  have HD9 := Lib.hid (HD8.out.trans (hb.mono lw8))
  have lw9 : w.heap.size ≤ u9_.heap.size := Nat.le_trans lw8 hb.size
  have Hb2_9 := Lib.hid ((hb.block _ lb2_8).trans Hb2_8.out)
  have lb2_9 : w.heap.size < u9_.heap.size := Nat.lt_of_lt_of_le lb2_8 hb.size
  have Hb3_9 := Lib.hid ((hb.block _ lb3_8).trans Hb3_8.out)
  have lb3_9 : w.heap.size + 1 < u9_.heap.size := Nat.lt_of_lt_of_le lb3_8 hb.size
  have Hb5_9 := Lib.hid ((hb.block _ lb5_8).trans Hb5_8.out)
  have lb5_9 : BB2 < u9_.heap.size := Nat.lt_of_lt_of_le lb5_8 hb.size
  have Hb7_9 := Lib.hid ((hb.block _ lb7_8).trans Hb7_8.out)
  have lb7_9 : BB4 < u9_.heap.size := Nat.lt_of_lt_of_le lb7_8 hb.size
  have Hb9_9 := Lib.hid ((hb.block _ lb9_8).trans Hb9_8.out)
  have lb9_9 : BB6 < u9_.heap.size := Nat.lt_of_lt_of_le lb9_8 hb.size
  have Hb11_9 := Lib.hid ((hb.block _ lb11_8).trans Hb11_8.out)
  have lb11_9 : BB8 < u9_.heap.size := Nat.lt_of_lt_of_le lb11_8 hb.size
  clear hb HD8 lw8 Hb2_8 lb2_8 Hb3_8 lb3_8 Hb5_8 lb5_8 Hb7_8 lb7_8 Hb9_8 lb9_8 Hb11_8 lb11_8
  refine hK _ _ ?_
  clear hK K
  refine wpList_step (fun K hK => ?_); go_simp; refine hK _ _ ?_; clear hK K
  refine wpList_step (fun K hK => ?_); go_simp; refine hK _ _ ?_; clear hK K
  refine wpList_nil ?_
  refine (‹∀ (a : Act) (w : World), Code.wp Try.prog Code.ret _ a w → _› _ _ ?_)
  apply wp_ret
  refine bodyPost_ret (v := .bool true) (by simp [results, Try.results9, go_sem]) rfl ⟨rfl, HD9.out⟩
end Go.Proofs.Ytgbnpnenejgnnaa
