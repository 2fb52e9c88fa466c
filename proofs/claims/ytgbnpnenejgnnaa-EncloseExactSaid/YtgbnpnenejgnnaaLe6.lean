import Derived.Test.YtgbnpnenejgnnaaEx7
import Derived.Test.YtgbnpnenejgnnaaFo5
import Derived.Test.YtgbnpnenejgnnaaAw5
import Derived.Test.YtgbnpnenejgnnaaR
import Derived.Test.YtgbnpnenejgnnaaX
import Derived.Test.YtgbnpnenejgnnaaCbA
import Derived.Test.YtgbnpnenejgnnaaCbS
import Derived.Test.YtgbnpnenejgnnaaCbM
namespace Go.Proofs.Ytgbnpnenejgnnaa
open Go.RowKit Encl
set_option maxRecDepth 100000 in
set_option maxHeartbeats 8000000 in
theorem EncloseExact_any (a b c d k e f g h l : Int) (w : World) :
    Calls Try.prog 16 #[.agg #[.int .i64 a, .int .i64 b, .int .i64 c, .int .i64 d, .int .i64 k], .agg #[.int .i64 e, .int .i64 f, .int .i64 g, .int .i64 h, .int .i64 l]] w fun e w' => e = .returned (.bool true) ∧ Below w.heap.size w w' := by
  obtain ⟨rl, rh, il, ih, er, H⟩ := bnd_ex ⟨⟨a, b, c, d⟩, k⟩ 30
  obtain ⟨sl, sh, jl, jh, es, J⟩ := bnd_ex ⟨⟨e, f, g, h⟩, l⟩ 30
  obtain ⟨x1, x2, x3, x4, xe, hx⟩ := OutR_form4 (numO er ⟨rl, rh⟩ ⟨il, ih⟩)
  obtain ⟨y1, y2, y3, y4, ye, hy⟩ := OutR_form4 (numO es ⟨sl, sh⟩ ⟨jl, jh⟩)
  have HX := Lib.hid hx
  have HY := Lib.hid hy
  clear hx hy
  go_enter Try.func16, Try.ntmps16
  go_upto_region 1 with fail
  have hb0 : Below w.heap.size w ((w.alloc (.cells #[.int .i64 a, .int .i64 b, .int .i64 c, .int .i64 d, .int .i64 k] 69)).alloc (.cells #[.int .i64 e, .int .i64 f, .int .i64 g, .int .i64 h, .int .i64 l] 69)) := by go_grown
  have hc2 : ((w.alloc (.cells #[.int .i64 a, .int .i64 b, .int .i64 c, .int .i64 d, .int .i64 k] 69)).alloc (.cells #[.int .i64 e, .int .i64 f, .int .i64 g, .int .i64 h, .int .i64 l] 69)).heap[w.heap.size]? = some (.cells #[.int .i64 a, .int .i64 b, .int .i64 c, .int .i64 d, .int .i64 k] 69 (0, 0)) := (Below.heap_alloc _ _ _ (by first | omega | (simp; done) | (simp; omega))).trans ((heap_alloc_new w _))
  have hc3 : ((w.alloc (.cells #[.int .i64 a, .int .i64 b, .int .i64 c, .int .i64 d, .int .i64 k] 69)).alloc (.cells #[.int .i64 e, .int .i64 f, .int .i64 g, .int .i64 h, .int .i64 l] 69)).heap[w.heap.size + 1]? = some (.cells #[.int .i64 e, .int .i64 f, .int .i64 g, .int .i64 h, .int .i64 l] 69 (0, 0)) := (by
      have h := heap_alloc_new (w.alloc (.cells #[.int .i64 a, .int .i64 b, .int .i64 c, .int .i64 d, .int .i64 k] 69)) (.cells #[.int .i64 e, .int .i64 f, .int .i64 g, .int .i64 h, .int .i64 l] 69)
      rwa [World.size_alloc] at h)
  have hsz : w.heap.size + 2 ≤ ((w.alloc (.cells #[.int .i64 a, .int .i64 b, .int .i64 c, .int .i64 d, .int .i64 k] 69)).alloc (.cells #[.int .i64 e, .int .i64 f, .int .i64 g, .int .i64 h, .int .i64 l] 69)).heap.size := by simp
  generalize ((w.alloc (.cells #[.int .i64 a, .int .i64 b, .int .i64 c, .int .i64 d, .int .i64 k] 69)).alloc (.cells #[.int .i64 e, .int .i64 f, .int .i64 g, .int .i64 h, .int .i64 l] 69)) = W0 at *
  have HD0 := Lib.hid hb0
  have Hb2_0 := Lib.hid hc2
  have lb2_0 : w.heap.size < W0.heap.size := by omega
  have Hb3_0 := Lib.hid hc3
  have lb3_0 : w.heap.size + 1 < W0.heap.size := by omega
  have lw0 : w.heap.size ≤ W0.heap.size := by omega
  clear hb0 hsz hc2 hc3
  refine wp_region_lit ?_
  refine wpList_load_mid rfl 69 (.tmp 2) rfl (w.heap.size) 0 rfl [.int .i64 a, .int .i64 b, .int .i64 c, .int .i64 d, .int .i64 k] _ (range_row Hb2_0.out 0 [.int .i64 a, .int .i64 b, .int .i64 c, .int .i64 d, .int .i64 k] (fun j hj => by simp only [Nat.zero_add, List.getElem?_toArray])) Try.underlying69 rfl (by kernel_rfl) ?_
  refine wpList_step (fun K hK => ?_)
  go_simp
  refine (eFromNum_any a b c d k rl rh il ih er _ H).mono ?_
  rw [HX.out]
  rintro e u1_ ⟨rfl, hb⟩
  have HD1 := Lib.hid (HD0.out.trans (hb.mono lw0))
  have lw1 : w.heap.size ≤ u1_.heap.size := Nat.le_trans lw0 hb.size
  have Hb2_1 := Lib.hid ((hb.block _ lb2_0).trans Hb2_0.out)
  have lb2_1 : w.heap.size < u1_.heap.size := Nat.lt_of_lt_of_le lb2_0 hb.size
  have Hb3_1 := Lib.hid ((hb.block _ lb3_0).trans Hb3_0.out)
  have lb3_1 : w.heap.size + 1 < u1_.heap.size := Nat.lt_of_lt_of_le lb3_0 hb.size
  clear hb HD0 lw0 Hb2_0 lb2_0 Hb3_0 lb3_0
  refine hK _ _ ?_
  clear hK K
  refine wpList_step (fun K hK => ?_); go_simp; refine hK _ _ ?_; clear hK K
  refine wpList_step (fun K hK => ?_); go_simp; refine hK _ _ ?_; clear hK K
  refine wpList_step (fun K hK => ?_); go_simp; refine hK _ _ ?_; clear hK K
  refine wpList_step (fun K hK => ?_); go_simp; refine hK _ _ ?_; clear hK K
  have HTH := Lib.hid (there_mid (heap_alloc_new u1_ (.cells #[.int .i64 0, .int .i64 0, .int .i64 0, .int .i64 0] 25)) 0 4 (show 0 + 4 ≤ 4 by decide))
  refine wpList_store_mid rfl 25 (.tmp 5) (.tmp 25) rfl u1_.heap.size 0 #[.int .i64 x1, .int .i64 x2, .int .i64 x3, .int .i64 x4] rfl rfl HTH.out (by kernel_rfl) (by simp [Value.oneCell']) ?_
  (try rw [show (#[.int .i64 x1, .int .i64 x2, .int .i64 x3, .int .i64 x4] : Array Value).toList = [.int .i64 x1, .int .i64 x2, .int .i64 x3, .int .i64 x4] from rfl])
  have hba : Below u1_.heap.size u1_ (u1_.alloc (.cells #[.int .i64 0, .int .i64 0, .int .i64 0, .int .i64 0] 25)) := bal (Below.refl _ _) _
  have hb : Below u1_.heap.size u1_ ((u1_.alloc (.cells #[.int .i64 0, .int .i64 0, .int .i64 0, .int .i64 0] 25)).setCells u1_.heap.size 0 [.int .i64 x1, .int .i64 x2, .int .i64 x3, .int .i64 x4]) := below_mids (Nat.le_refl _) _ _ hba
  have hnb : ((u1_.alloc (.cells #[.int .i64 0, .int .i64 0, .int .i64 0, .int .i64 0] 25)).setCells u1_.heap.size 0 [.int .i64 x1, .int .i64 x2, .int .i64 x3, .int .i64 x4]).heap[u1_.heap.size]? = some (.cells #[.int .i64 x1, .int .i64 x2, .int .i64 x3, .int .i64 x4] 25 (0, 0)) := block_whole [.int .i64 x1, .int .i64 x2, .int .i64 x3, .int .i64 x4] (heap_alloc_new u1_ (.cells #[.int .i64 0, .int .i64 0, .int .i64 0, .int .i64 0] 25)) rfl
  have hlb : u1_.heap.size < ((u1_.alloc (.cells #[.int .i64 0, .int .i64 0, .int .i64 0, .int .i64 0] 25)).setCells u1_.heap.size 0 [.int .i64 x1, .int .i64 x2, .int .i64 x3, .int .i64 x4]).heap.size := (Array.getElem?_eq_some_iff.1 hnb).1
  have HD2 := Lib.hid (HD1.out.trans (hb.mono lw1))
  have lw2 : w.heap.size ≤ ((u1_.alloc (.cells #[.int .i64 0, .int .i64 0, .int .i64 0, .int .i64 0] 25)).setCells u1_.heap.size 0 [.int .i64 x1, .int .i64 x2, .int .i64 x3, .int .i64 x4]).heap.size := Nat.le_trans lw1 hb.size
  have Hb2_2 := Lib.hid ((hb.block _ lb2_1).trans Hb2_1.out)
  have lb2_2 : w.heap.size < ((u1_.alloc (.cells #[.int .i64 0, .int .i64 0, .int .i64 0, .int .i64 0] 25)).setCells u1_.heap.size 0 [.int .i64 x1, .int .i64 x2, .int .i64 x3, .int .i64 x4]).heap.size := Nat.lt_of_lt_of_le lb2_1 hb.size
  have Hb3_2 := Lib.hid ((hb.block _ lb3_1).trans Hb3_1.out)
  have lb3_2 : w.heap.size + 1 < ((u1_.alloc (.cells #[.int .i64 0, .int .i64 0, .int .i64 0, .int .i64 0] 25)).setCells u1_.heap.size 0 [.int .i64 x1, .int .i64 x2, .int .i64 x3, .int .i64 x4]).heap.size := Nat.lt_of_lt_of_le lb3_1 hb.size
  have Hb5_2 := Lib.hid hnb
  have lb5_2 := hlb
  clear hb hba hnb hlb HTH HD1 lw1 Hb2_1 lb2_1 Hb3_1 lb3_1
  generalize ((u1_.alloc (.cells #[.int .i64 0, .int .i64 0, .int .i64 0, .int .i64 0] 25)).setCells u1_.heap.size 0 [.int .i64 x1, .int .i64 x2, .int .i64 x3, .int .i64 x4]) = U2 at *
  generalize u1_.heap.size = BB2 at *
  refine wpList_step (fun K hK => ?_); go_simp; refine hK _ _ ?_; clear hK K
  refine wpList_nil ?_
  go_upto_region 2 with fail
  refine wp_region_lit ?_
  refine wpList_load_mid rfl 69 (.tmp 3) rfl (w.heap.size + 1) 0 rfl [.int .i64 e, .int .i64 f, .int .i64 g, .int .i64 h, .int .i64 l] _ (range_row Hb3_2.out 0 [.int .i64 e, .int .i64 f, .int .i64 g, .int .i64 h, .int .i64 l] (fun j hj => by simp only [Nat.zero_add, List.getElem?_toArray])) Try.underlying69 rfl (by kernel_rfl) ?_
  refine wpList_step (fun K hK => ?_)
  go_simp
  refine (eFromNum_any e f g h l sl sh jl jh es _ J).mono ?_
  rw [HY.out]
  rintro e u3_ ⟨rfl, hb⟩
  have HD3 := Lib.hid (HD2.out.trans (hb.mono lw2))
  have lw3 : w.heap.size ≤ u3_.heap.size := Nat.le_trans lw2 hb.size
  have Hb2_3 := Lib.hid ((hb.block _ lb2_2).trans Hb2_2.out)
  have lb2_3 : w.heap.size < u3_.heap.size := Nat.lt_of_lt_of_le lb2_2 hb.size
  have Hb3_3 := Lib.hid ((hb.block _ lb3_2).trans Hb3_2.out)
  have lb3_3 : w.heap.size + 1 < u3_.heap.size := Nat.lt_of_lt_of_le lb3_2 hb.size
  have Hb5_3 := Lib.hid ((hb.block _ lb5_2).trans Hb5_2.out)
  have lb5_3 : BB2 < u3_.heap.size := Nat.lt_of_lt_of_le lb5_2 hb.size
  clear hb HD2 lw2 Hb2_2 lb2_2 Hb3_2 lb3_2 Hb5_2 lb5_2
  refine hK _ _ ?_
  clear hK K
  refine wpList_step (fun K hK => ?_); go_simp; refine hK _ _ ?_; clear hK K
  refine wpList_step (fun K hK => ?_); go_simp; refine hK _ _ ?_; clear hK K
  refine wpList_step (fun K hK => ?_); go_simp; refine hK _ _ ?_; clear hK K
  refine wpList_step (fun K hK => ?_); go_simp; refine hK _ _ ?_; clear hK K
  have HTH := Lib.hid (there_mid (heap_alloc_new u3_ (.cells #[.int .i64 0, .int .i64 0, .int .i64 0, .int .i64 0] 25)) 0 4 (show 0 + 4 ≤ 4 by decide))
  refine wpList_store_mid rfl 25 (.tmp 7) (.tmp 30) rfl u3_.heap.size 0 #[.int .i64 y1, .int .i64 y2, .int .i64 y3, .int .i64 y4] rfl rfl HTH.out (by kernel_rfl) (by simp [Value.oneCell']) ?_
  (try rw [show (#[.int .i64 y1, .int .i64 y2, .int .i64 y3, .int .i64 y4] : Array Value).toList = [.int .i64 y1, .int .i64 y2, .int .i64 y3, .int .i64 y4] from rfl])
  have hba : Below u3_.heap.size u3_ (u3_.alloc (.cells #[.int .i64 0, .int .i64 0, .int .i64 0, .int .i64 0] 25)) := bal (Below.refl _ _) _
  have hb : Below u3_.heap.size u3_ ((u3_.alloc (.cells #[.int .i64 0, .int .i64 0, .int .i64 0, .int .i64 0] 25)).setCells u3_.heap.size 0 [.int .i64 y1, .int .i64 y2, .int .i64 y3, .int .i64 y4]) := below_mids (Nat.le_refl _) _ _ hba
  have hnb : ((u3_.alloc (.cells #[.int .i64 0, .int .i64 0, .int .i64 0, .int .i64 0] 25)).setCells u3_.heap.size 0 [.int .i64 y1, .int .i64 y2, .int .i64 y3, .int .i64 y4]).heap[u3_.heap.size]? = some (.cells #[.int .i64 y1, .int .i64 y2, .int .i64 y3, .int .i64 y4] 25 (0, 0)) := block_whole [.int .i64 y1, .int .i64 y2, .int .i64 y3, .int .i64 y4] (heap_alloc_new u3_ (.cells #[.int .i64 0, .int .i64 0, .int .i64 0, .int .i64 0] 25)) rfl
  have hlb : u3_.heap.size < ((u3_.alloc (.cells #[.int .i64 0, .int .i64 0, .int .i64 0, .int .i64 0] 25)).setCells u3_.heap.size 0 [.int .i64 y1, .int .i64 y2, .int .i64 y3, .int .i64 y4]).heap.size := (Array.getElem?_eq_some_iff.1 hnb).1
  have HD4 := Lib.hid (HD3.out.trans (hb.mono lw3))
  have lw4 : w.heap.size ≤ ((u3_.alloc (.cells #[.int .i64 0, .int .i64 0, .int .i64 0, .int .i64 0] 25)).setCells u3_.heap.size 0 [.int .i64 y1, .int .i64 y2, .int .i64 y3, .int .i64 y4]).heap.size := Nat.le_trans lw3 hb.size
  have Hb2_4 := Lib.hid ((hb.block _ lb2_3).trans Hb2_3.out)
  have lb2_4 : w.heap.size < ((u3_.alloc (.cells #[.int .i64 0, .int .i64 0, .int .i64 0, .int .i64 0] 25)).setCells u3_.heap.size 0 [.int .i64 y1, .int .i64 y2, .int .i64 y3, .int .i64 y4]).heap.size := Nat.lt_of_lt_of_le lb2_3 hb.size
  have Hb3_4 := Lib.hid ((hb.block _ lb3_3).trans Hb3_3.out)
  have lb3_4 : w.heap.size + 1 < ((u3_.alloc (.cells #[.int .i64 0, .int .i64 0, .int .i64 0, .int .i64 0] 25)).setCells u3_.heap.size 0 [.int .i64 y1, .int .i64 y2, .int .i64 y3, .int .i64 y4]).heap.size := Nat.lt_of_lt_of_le lb3_3 hb.size
  have Hb5_4 := Lib.hid ((hb.block _ lb5_3).trans Hb5_3.out)
  have lb5_4 : BB2 < ((u3_.alloc (.cells #[.int .i64 0, .int .i64 0, .int .i64 0, .int .i64 0] 25)).setCells u3_.heap.size 0 [.int .i64 y1, .int .i64 y2, .int .i64 y3, .int .i64 y4]).heap.size := Nat.lt_of_lt_of_le lb5_3 hb.size
  have Hb7_4 := Lib.hid hnb
  have lb7_4 := hlb
  clear hb hba hnb hlb HTH HD3 lw3 Hb2_3 lb2_3 Hb3_3 lb3_3 Hb5_3 lb5_3
  generalize ((u3_.alloc (.cells #[.int .i64 0, .int .i64 0, .int .i64 0, .int .i64 0] 25)).setCells u3_.heap.size 0 [.int .i64 y1, .int .i64 y2, .int .i64 y3, .int .i64 y4]) = U4 at *
  generalize u3_.heap.size = BB4 at *
  refine wpList_step (fun K hK => ?_); go_simp; refine hK _ _ ?_; clear hK K
  refine wpList_nil ?_
  by_cases h1 : xe = 0
  case neg =>
    have hb1 : (xe != 0) = true := bne_iff_ne.2 h1
    clear h1
    go_upto_region 3 with fail
    refine wp_region_lit ?_
    refine wpList_step (fun K hK => ?_); go_simp; refine hK _ _ ?_; clear hK K
    refine wpList_step (fun K hK => ?_); go_simp; refine hK _ _ ?_; clear hK K
    refine wpList_step (fun K hK => ?_); go_simp; refine hK _ _ ?_; clear hK K
    refine wpList_skip (by rfl) ?_
    refine wpList_skip (by rfl) ?_
    refine wpList_step (fun K hK => ?_); go_simp; refine hK _ _ ?_; clear hK K
    refine wpList_nil ?_
    go_upto_region 4 with fail
    refine wp_region_lit ?_
    refine wpList_step (fun K hK => ?_)
    go_simp
    refine (eawake_any _).mono ?_
    rintro e u5_ ⟨rfl, hb⟩
    have HD5 := Lib.hid (HD4.out.trans (hb.mono lw4))
    have lw5 : w.heap.size ≤ u5_.heap.size := Nat.le_trans lw4 hb.size
    have Hb2_5 := Lib.hid ((hb.block _ lb2_4).trans Hb2_4.out)
    have lb2_5 : w.heap.size < u5_.heap.size := Nat.lt_of_lt_of_le lb2_4 hb.size
    have Hb3_5 := Lib.hid ((hb.block _ lb3_4).trans Hb3_4.out)
    have lb3_5 : w.heap.size + 1 < u5_.heap.size := Nat.lt_of_lt_of_le lb3_4 hb.size
    have Hb5_5 := Lib.hid ((hb.block _ lb5_4).trans Hb5_4.out)
    have lb5_5 : BB2 < u5_.heap.size := Nat.lt_of_lt_of_le lb5_4 hb.size
    have Hb7_5 := Lib.hid ((hb.block _ lb7_4).trans Hb7_4.out)
    have lb7_5 : BB4 < u5_.heap.size := Nat.lt_of_lt_of_le lb7_4 hb.size
    clear hb HD4 lw4 Hb2_4 lb2_4 Hb3_4 lb3_4 Hb5_4 lb5_4 Hb7_4 lb7_4
    refine hK _ _ ?_
    clear hK K
    refine wpList_step (fun K hK => ?_); go_simp; refine hK _ _ ?_; clear hK K
    refine wpList_nil ?_
    refine (‹∀ (a : Act) (w : World), Code.wp Try.prog Code.ret _ a w → _› _ _ ?_)
    apply wp_ret
    (try unfold Exit.then)
    (try dsimp only)
    (try simp only [act_all])
    refine bodyPost_ret (v := .bool true) (by simp [results, Try.results16, go_sem]) rfl ⟨rfl, HD5.out⟩
  subst h1
  by_cases h2 : ye = 0
  case neg =>
    have hb1 : (ye != 0) = true := bne_iff_ne.2 h2
    clear h2
    go_upto_region 3 with fail
    refine wp_region_lit ?_
    refine wpList_step (fun K hK => ?_); go_simp; refine hK _ _ ?_; clear hK K
    refine wpList_step (fun K hK => ?_); go_simp; refine hK _ _ ?_; clear hK K
    refine wpList_step (fun K hK => ?_); go_simp; refine hK _ _ ?_; clear hK K
    refine wpList_step (fun K hK => ?_); go_simp; refine hK _ _ ?_; clear hK K
    refine wpList_step (fun K hK => ?_); go_simp; refine hK _ _ ?_; clear hK K
    refine wpList_step (fun K hK => ?_); go_simp; refine hK _ _ ?_; clear hK K
    refine wpList_nil ?_
    go_upto_region 4 with fail
    refine wp_region_lit ?_
    refine wpList_step (fun K hK => ?_)
    go_simp
    refine (eawake_any _).mono ?_
    rintro e u6_ ⟨rfl, hb⟩
    have HD6 := Lib.hid (HD4.out.trans (hb.mono lw4))
    have lw6 : w.heap.size ≤ u6_.heap.size := Nat.le_trans lw4 hb.size
    have Hb2_6 := Lib.hid ((hb.block _ lb2_4).trans Hb2_4.out)
    have lb2_6 : w.heap.size < u6_.heap.size := Nat.lt_of_lt_of_le lb2_4 hb.size
    have Hb3_6 := Lib.hid ((hb.block _ lb3_4).trans Hb3_4.out)
    have lb3_6 : w.heap.size + 1 < u6_.heap.size := Nat.lt_of_lt_of_le lb3_4 hb.size
    have Hb5_6 := Lib.hid ((hb.block _ lb5_4).trans Hb5_4.out)
    have lb5_6 : BB2 < u6_.heap.size := Nat.lt_of_lt_of_le lb5_4 hb.size
    have Hb7_6 := Lib.hid ((hb.block _ lb7_4).trans Hb7_4.out)
    have lb7_6 : BB4 < u6_.heap.size := Nat.lt_of_lt_of_le lb7_4 hb.size
    clear hb HD4 lw4 Hb2_4 lb2_4 Hb3_4 lb3_4 Hb5_4 lb5_4 Hb7_4 lb7_4
    refine hK _ _ ?_
    clear hK K
    refine wpList_step (fun K hK => ?_); go_simp; refine hK _ _ ?_; clear hK K
    refine wpList_nil ?_
    refine (‹∀ (a : Act) (w : World), Code.wp Try.prog Code.ret _ a w → _› _ _ ?_)
    apply wp_ret
    (try unfold Exit.then)
    (try dsimp only)
    (try simp only [act_all])
    refine bodyPost_ret (v := .bool true) (by simp [results, Try.results16, go_sem]) rfl ⟨rfl, HD6.out⟩
  subst h2
  go_upto_region 3 with fail
  refine wp_region_lit ?_
  refine wpList_step (fun K hK => ?_); go_simp; refine hK _ _ ?_; clear hK K
  refine wpList_step (fun K hK => ?_); go_simp; refine hK _ _ ?_; clear hK K
  refine wpList_step (fun K hK => ?_); go_simp; refine hK _ _ ?_; clear hK K
  refine wpList_step (fun K hK => ?_); go_simp; refine hK _ _ ?_; clear hK K
  refine wpList_step (fun K hK => ?_); go_simp; refine hK _ _ ?_; clear hK K
  refine wpList_step (fun K hK => ?_); go_simp; refine hK _ _ ?_; clear hK K
  refine wpList_nil ?_
  go_upto_region 5 with fail
  refine wp_region_lit ?_
  refine wpList_step (fun K hK => ?_); go_simp; refine hK _ _ ?_; clear hK K
  refine wpList_step (fun K hK => ?_); go_simp; refine hK _ _ ?_; clear hK K
  refine wpList_nil ?_
  go_upto_region 6 with fail
  refine wp_region_lit ?_
  refine wpList_step (fun K hK => ?_); go_simp; refine hK _ _ ?_; clear hK K
  refine wpList_step (fun K hK => ?_); go_simp; refine hK _ _ ?_; clear hK K
  refine wpList_step (fun K hK => ?_); go_simp; refine hK _ _ ?_; clear hK K
  refine wpList_nil ?_
  have hba : Below U4.heap.size U4 ((U4.alloc (.cells #[.func (Fn.func 57) #[] #[], .func (Fn.func 58) #[] #[], .func (Fn.func 59) #[] #[]] 72)).alloc (.cells #[.func (Fn.func 18) #[] #[], .func (Fn.func 20) #[] #[], .func (Fn.func 31) #[] #[]] 28)) := bal (bal (Below.refl _ _) _) _
  have e1 : ((U4.alloc (.cells #[.func (Fn.func 57) #[] #[], .func (Fn.func 58) #[] #[], .func (Fn.func 59) #[] #[]] 72)).alloc (.cells #[.func (Fn.func 18) #[] #[], .func (Fn.func 20) #[] #[], .func (Fn.func 31) #[] #[]] 28)).heap[U4.heap.size]? = some (.cells #[.func (Fn.func 57) #[] #[], .func (Fn.func 58) #[] #[], .func (Fn.func 59) #[] #[]] 72 (0, 0)) := (Below.heap_alloc _ _ _ (by first | omega | (simp; done) | (simp; omega))).trans (heap_alloc_new U4 _)
  have e2 : ((U4.alloc (.cells #[.func (Fn.func 57) #[] #[], .func (Fn.func 58) #[] #[], .func (Fn.func 59) #[] #[]] 72)).alloc (.cells #[.func (Fn.func 18) #[] #[], .func (Fn.func 20) #[] #[], .func (Fn.func 31) #[] #[]] 28)).heap[U4.heap.size + 1]? = some (.cells #[.func (Fn.func 18) #[] #[], .func (Fn.func 20) #[] #[], .func (Fn.func 31) #[] #[]] 28 (0, 0)) := by
    have h := heap_alloc_new (U4.alloc (.cells #[.func (Fn.func 57) #[] #[], .func (Fn.func 58) #[] #[], .func (Fn.func 59) #[] #[]] 72)) (.cells #[.func (Fn.func 18) #[] #[], .func (Fn.func 20) #[] #[], .func (Fn.func 31) #[] #[]] 28)
    rwa [World.size_alloc] at h
  have l1 : U4.heap.size < ((U4.alloc (.cells #[.func (Fn.func 57) #[] #[], .func (Fn.func 58) #[] #[], .func (Fn.func 59) #[] #[]] 72)).alloc (.cells #[.func (Fn.func 18) #[] #[], .func (Fn.func 20) #[] #[], .func (Fn.func 31) #[] #[]] 28)).heap.size := (Array.getElem?_eq_some_iff.1 e1).1
  have l2 : U4.heap.size + 1 < ((U4.alloc (.cells #[.func (Fn.func 57) #[] #[], .func (Fn.func 58) #[] #[], .func (Fn.func 59) #[] #[]] 72)).alloc (.cells #[.func (Fn.func 18) #[] #[], .func (Fn.func 20) #[] #[], .func (Fn.func 31) #[] #[]] 28)).heap.size := (Array.getElem?_eq_some_iff.1 e2).1
  have HD7 := Lib.hid (HD4.out.trans (hba.mono lw4))
  have lw7 : w.heap.size ≤ ((U4.alloc (.cells #[.func (Fn.func 57) #[] #[], .func (Fn.func 58) #[] #[], .func (Fn.func 59) #[] #[]] 72)).alloc (.cells #[.func (Fn.func 18) #[] #[], .func (Fn.func 20) #[] #[], .func (Fn.func 31) #[] #[]] 28)).heap.size := Nat.le_trans lw4 hba.size
  have Hb2_7 := Lib.hid ((hba.block _ lb2_4).trans Hb2_4.out)
  have lb2_7 : w.heap.size < ((U4.alloc (.cells #[.func (Fn.func 57) #[] #[], .func (Fn.func 58) #[] #[], .func (Fn.func 59) #[] #[]] 72)).alloc (.cells #[.func (Fn.func 18) #[] #[], .func (Fn.func 20) #[] #[], .func (Fn.func 31) #[] #[]] 28)).heap.size := Nat.lt_of_lt_of_le lb2_4 hba.size
  have Hb3_7 := Lib.hid ((hba.block _ lb3_4).trans Hb3_4.out)
  have lb3_7 : w.heap.size + 1 < ((U4.alloc (.cells #[.func (Fn.func 57) #[] #[], .func (Fn.func 58) #[] #[], .func (Fn.func 59) #[] #[]] 72)).alloc (.cells #[.func (Fn.func 18) #[] #[], .func (Fn.func 20) #[] #[], .func (Fn.func 31) #[] #[]] 28)).heap.size := Nat.lt_of_lt_of_le lb3_4 hba.size
  have Hb5_7 := Lib.hid ((hba.block _ lb5_4).trans Hb5_4.out)
  have lb5_7 : BB2 < ((U4.alloc (.cells #[.func (Fn.func 57) #[] #[], .func (Fn.func 58) #[] #[], .func (Fn.func 59) #[] #[]] 72)).alloc (.cells #[.func (Fn.func 18) #[] #[], .func (Fn.func 20) #[] #[], .func (Fn.func 31) #[] #[]] 28)).heap.size := Nat.lt_of_lt_of_le lb5_4 hba.size
  have Hb7_7 := Lib.hid ((hba.block _ lb7_4).trans Hb7_4.out)
  have lb7_7 : BB4 < ((U4.alloc (.cells #[.func (Fn.func 57) #[] #[], .func (Fn.func 58) #[] #[], .func (Fn.func 59) #[] #[]] 72)).alloc (.cells #[.func (Fn.func 18) #[] #[], .func (Fn.func 20) #[] #[], .func (Fn.func 31) #[] #[]] 28)).heap.size := Nat.lt_of_lt_of_le lb7_4 hba.size
  have Hb9_7 := Lib.hid e1
  have lb9_7 := l1
  have Hb40_7 := Lib.hid e2
  have lb40_7 := l2
  clear hba e1 e2 l1 l2 HD4 lw4 Hb2_4 lb2_4 Hb3_4 lb3_4 Hb5_4 lb5_4 Hb7_4 lb7_4
  generalize ((U4.alloc (.cells #[.func (Fn.func 57) #[] #[], .func (Fn.func 58) #[] #[], .func (Fn.func 59) #[] #[]] 72)).alloc (.cells #[.func (Fn.func 18) #[] #[], .func (Fn.func 20) #[] #[], .func (Fn.func 31) #[] #[]] 28)) = W1 at *
  generalize U4.heap.size + 1 = SB at *
  generalize U4.heap.size = SA at *
  go_wp2_with fail
  refine wp_loop_rounds 4 ?_
  rw [rounds_succ]
  go_upto_region 8 with fail
  refine wp_region_lit ?_
  have yc : W1.cell? ⟨SB, 0, none⟩ = some (Value.func (Fn.func 18) #[] #[]) := (cell_of_row _ _ _ _ _ (0, 0) Hb40_7.out).trans rfl
  refine wpList_step (fun K hK => ?_); go_simp; refine hK _ _ ?_; clear hK K
  refine wpList_step (fun K hK => ?_); go_simp; refine hK _ _ ?_; clear hK K
  refine wpList_step (fun K hK => ?_); go_simp; refine hK _ _ ?_; clear hK K
  refine wpList_step (fun K hK => ?_); go_simp; refine hK _ _ ?_; clear hK K
  refine wpList_step (fun K hK => ?_); go_simp; refine hK _ _ ?_; clear hK K
  refine wpList_nil ?_
  clear yc
  go_upto_region 9 with fail
  obtain ⟨z0_1, z0_2, z0_3, z0_4, z0_5, ze0, HZ0⟩ := res5 (Amp.addS ⟨⟨a, b, c, d⟩, k⟩ ⟨⟨e, f, g, h⟩, l⟩)
  go_cut [12, 13] (fun v12 v13 wx => ∃ N0 : Nat, v12 = .pointer (some ⟨N0, 0, none⟩) ∧ v13 = .int .i64 ze0 ∧ wx.heap[N0]? = some (.cells #[.int .i64 (z0_1), .int .i64 (z0_2), .int .i64 (z0_3), .int .i64 (z0_4), .int .i64 (z0_5)] 69 (0, 0)) ∧ Below W1.heap.size W1 wx)
  case first =>
    have G0 : Hid (∀ w' : World, Below W1.heap.size W1 w' → w'.heap[w.heap.size]? = some (.cells #[.int .i64 a, .int .i64 b, .int .i64 c, .int .i64 d, .int .i64 k] 69 (0, 0)) ∧ w'.heap[w.heap.size + 1]? = some (.cells #[.int .i64 e, .int .i64 f, .int .i64 g, .int .i64 h, .int .i64 l] 69 (0, 0)) ∧ w'.heap[SA]? = some (.cells #[.func (Fn.func 57) #[] #[], .func (Fn.func 58) #[] #[], .func (Fn.func 59) #[] #[]] 72 (0, 0))) := Lib.hid (fun w' hb => ⟨(hb.block _ lb2_7).trans Hb2_7.out, (hb.block _ lb3_7).trans Hb3_7.out, (hb.block _ lb9_7).trans Hb9_7.out⟩)
    have HQ0 : Below W1.heap.size W1 W1.drew := (Below.refl _ _).drew
    refine wp_region_held_drew (S := fun w' => w'.heap[w.heap.size]? = some (.cells #[.int .i64 a, .int .i64 b, .int .i64 c, .int .i64 d, .int .i64 k] 69 (0, 0)) ∧ w'.heap[w.heap.size + 1]? = some (.cells #[.int .i64 e, .int .i64 f, .int .i64 g, .int .i64 h, .int .i64 l] 69 (0, 0)) ∧ w'.heap[SA]? = some (.cells #[.func (Fn.func 57) #[] #[], .func (Fn.func 58) #[] #[], .func (Fn.func 59) #[] #[]] 72 (0, 0))) (by kernel_rfl) (G0.out _ HQ0) (fun hHeld => ?_)
    refine wpAnyH_take (i := 0) (oi := _) (v := ?_) rfl (by kernel_rfl) (by kernel_rfl) (by kernel_rfl) (fun _ _ _ h => h) (Or.inl ⟨by rfl, ?_⟩) (by assumption) ?_
    rotate_left
    · intro w _; go_simp; (try with_reducible rfl)
    try change wpAnyH _ _ _ _ _ _ _ (Act.put _ (some 48) _) _
    try simp only [act_all]
    refine wpAnyH_take (i := 1) (oi := _) (v := ?_) rfl (by kernel_rfl) (by kernel_rfl) (by kernel_rfl) (fun _ _ _ h => h) (Or.inl ⟨by rfl, ?_⟩) (by assumption) ?_
    rotate_left
    · intro w _; go_simp; (try with_reducible rfl)
    try change wpAnyH _ _ _ _ _ _ _ (Act.put _ (some 49) _) _
    try simp only [act_all]
    refine wpAnyH_take (i := 2) (oi := _) (v := ?_) rfl (by kernel_rfl) (by kernel_rfl) (by kernel_rfl) (fun _ _ _ h => h) (Or.inl ⟨by rfl, ?_⟩) (by assumption) ?_
    rotate_left
    · intro w _; go_simp; (try with_reducible rfl)
    try change wpAnyH _ _ _ _ _ _ _ (Act.put _ (some 50) _) _
    try simp only [act_all]
    refine wpAnyH_take (i := 3) (oi := _) (v := ?_) rfl (by kernel_rfl) (by kernel_rfl) (by kernel_rfl) (fun _ _ _ h => h) (Or.inl ⟨by rfl, ?_⟩) (by assumption) ?_
    rotate_left
    · intro w hSw; have yc : w.cell? ⟨SA, 0, none⟩ = some (Value.func (Fn.func 57) #[] #[]) := (cell_of_row _ _ _ _ _ (0, 0) hSw.2.2).trans rfl; clear hSw; go_simp; (try with_reducible rfl)
    try change wpAnyH _ _ _ _ _ _ _ (Act.put _ (some 51) _) _
    try simp only [act_all]
    refine wpAnyH_take (i := 4) (oi := _) (v := _) rfl (by kernel_rfl) (by kernel_rfl) (by kernel_rfl) (fun _ _ _ h => h) (yieldsIf_load_mid (by rfl) 69 _ rfl (w.heap.size) 0 rfl [.int .i64 a, .int .i64 b, .int .i64 c, .int .i64 d, .int .i64 k] _ (fun w' hh => range_row hh.1 0 [.int .i64 a, .int .i64 b, .int .i64 c, .int .i64 d, .int .i64 k] (fun j hj => by simp only [Nat.zero_add, List.getElem?_toArray])) Try.underlying69 rfl (by kernel_rfl)) (by assumption) ?_
    try change wpAnyH _ _ _ _ _ _ _ (Act.put _ (some 52) _) _
    try simp only [act_all]
    refine wpAnyH_take (i := 5) (oi := _) (v := _) rfl (by kernel_rfl) (by kernel_rfl) (by kernel_rfl) (fun _ _ _ h => h) (yieldsIf_load_mid (by rfl) 69 _ rfl (w.heap.size + 1) 0 rfl [.int .i64 e, .int .i64 f, .int .i64 g, .int .i64 h, .int .i64 l] _ (fun w' hh => range_row hh.2.1 0 [.int .i64 e, .int .i64 f, .int .i64 g, .int .i64 h, .int .i64 l] (fun j hj => by simp only [Nat.zero_add, List.getElem?_toArray])) Try.underlying69 rfl (by kernel_rfl)) (by assumption) ?_
    try change wpAnyH _ _ _ _ _ _ _ (Act.put _ (some 53) _) _
    try simp only [act_all]
    refine wpAnyH_ready (rs := [6, 10]) (by kernel_rfl) (by simp) ?_
    refine AllReadyH.cons (o := _) rfl (fun K hK => ?_) ?_
    ·
      go_simp
      refine (Add_any a b c d k e f g h l _).mono ?_
      rw [HZ0.out]
      rintro e_ t1 ⟨rfl, hb⟩
      have HQ0_1 : Below W1.heap.size W1 t1 := HQ0.trans (hb.mono HQ0.size)
      clear hb hHeld
      unfold Ret5
      (try simp only)
      refine hK.out _ _ (G0.out _ HQ0_1) (fun hHeld => ?_)
      clear hK K
      try simp only [act_all]
      refine wpAnyH_take (i := 7) (oi := _) (v := ?_) rfl (by kernel_rfl) (by kernel_rfl) (by kernel_rfl) (fun _ _ _ h => h) (Or.inl ⟨by rfl, ?_⟩) (by assumption) ?_
      rotate_left
      · intro w _; go_simp; (try with_reducible rfl)
      try change wpAnyH _ _ _ _ _ _ _ (Act.put _ (some 47) _) _
      try simp only [act_all]
      refine wpAnyH_take (i := 8) (oi := _) (v := ?_) rfl (by kernel_rfl) (by kernel_rfl) (by kernel_rfl) (fun _ _ _ h => h) (Or.inl ⟨by rfl, ?_⟩) (by assumption) ?_
      rotate_left
      · intro w _; go_simp; (try with_reducible rfl)
      try change wpAnyH _ _ _ _ _ _ _ (Act.put _ (some 55) _) _
      try simp only [act_all]
      refine wpAnyH_take (i := 9) (oi := _) (v := ?_) rfl (by kernel_rfl) (by kernel_rfl) (by kernel_rfl) (fun _ _ _ h => h) (Or.inl ⟨by rfl, ?_⟩) (by assumption) ?_
      rotate_left
      · intro w _; go_simp; (try with_reducible rfl)
      try change wpAnyH _ _ _ _ _ _ _ (Act.put _ (some 56) _) _
      try simp only [act_all]
      refine wpAnyH_ready (rs := [10]) (by kernel_rfl) (by simp) ?_
      refine AllReadyH.cons (o := _) rfl (fun K hK => ?_) AllReadyH.nil
      have HQ0_2 : Below W1.heap.size W1 (t1.alloc (Obj.cells #[.int .i64 0, .int .i64 0, .int .i64 0, .int .i64 0, .int .i64 0] 69)) := bal HQ0_1 _
      have la2 : W1.heap.size ≤ t1.heap.size := HQ0_1.size
      go_simp
      refine hK.out _ _ (G0.out _ HQ0_2) (fun hHeld => ?_)
      clear hK K
      try simp only [act_all]
      refine wpAnyH_ready (rs := [11]) (by kernel_rfl) (by simp) ?_
      refine AllReadyH.cons (o := _) rfl (fun K hK => ?_) AllReadyH.nil
      have kx3 : (t1.alloc (Obj.cells #[.int .i64 0, .int .i64 0, .int .i64 0, .int .i64 0, .int .i64 0] 69)).heap[t1.heap.size]? = some (.cells #[.int .i64 0, .int .i64 0, .int .i64 0, .int .i64 0, .int .i64 0] 69 (0, 0)) := (heap_alloc_new t1 _)
      have HTH := Lib.hid (there_mid kx3 0 5 (show 0 + 5 ≤ 5 by decide))
      have HQ0_3 : Below W1.heap.size W1 ((t1.alloc (Obj.cells #[.int .i64 0, .int .i64 0, .int .i64 0, .int .i64 0, .int .i64 0] 69)).setCells (t1.heap.size) 0 [.int .i64 (z0_1), .int .i64 (z0_2), .int .i64 (z0_3), .int .i64 (z0_4), .int .i64 (z0_5)]) := below_mids la2 _ _ HQ0_2
      have kz3 : ((t1.alloc (Obj.cells #[.int .i64 0, .int .i64 0, .int .i64 0, .int .i64 0, .int .i64 0] 69)).setCells (t1.heap.size) 0 [.int .i64 (z0_1), .int .i64 (z0_2), .int .i64 (z0_3), .int .i64 (z0_4), .int .i64 (z0_5)]).heap[t1.heap.size]? = some (.cells #[.int .i64 (z0_1), .int .i64 (z0_2), .int .i64 (z0_3), .int .i64 (z0_4), .int .i64 (z0_5)] 69 (0, 0)) := block_whole [.int .i64 (z0_1), .int .i64 (z0_2), .int .i64 (z0_3), .int .i64 (z0_4), .int .i64 (z0_5)] kx3 rfl
      rw [if_pos (show Region.wanted _ _ = true from rfl)]
      refine wp_store_mid 69 (.tmp 12) (.tmp 55) rfl (t1.heap.size) 0 #[.int .i64 (z0_1), .int .i64 (z0_2), .int .i64 (z0_3), .int .i64 (z0_4), .int .i64 (z0_5)] rfl rfl HTH.out (by kernel_rfl) (by simp [Value.oneCell']) ?_
      (try rw [show (#[.int .i64 (z0_1), .int .i64 (z0_2), .int .i64 (z0_3), .int .i64 (z0_4), .int .i64 (z0_5)] : Array Value).toList = [.int .i64 (z0_1), .int .i64 (z0_2), .int .i64 (z0_3), .int .i64 (z0_4), .int .i64 (z0_5)] from rfl])
      refine hK.out _ _ (G0.out _ HQ0_3) (fun hHeld => ?_)
      clear hK K
      try simp only [act_all]
      refine wpAnyH_take (i := 12) (oi := _) (v := ?_) rfl (by kernel_rfl) (by kernel_rfl) (by kernel_rfl) (fun _ _ _ h => h) (Or.inl ⟨by rfl, ?_⟩) (by assumption) ?_
      rotate_left
      · intro w _; go_simp; (try with_reducible rfl)
      try change wpAnyH _ _ _ _ _ _ _ (Act.put _ (some 13) _) _
      try simp only [act_all]
      refine wpAnyH_done (by kernel_rfl) ?_ _
      go_wp2_with fail
      go_meet
      exact ⟨_, rfl, rfl, kz3, HQ0_3⟩
    refine AllReadyH.cons (o := _) rfl (fun K hK => ?_) AllReadyH.nil
    have HQ0_4 : Below W1.heap.size W1 (W1.drew.alloc (Obj.cells #[.int .i64 0, .int .i64 0, .int .i64 0, .int .i64 0, .int .i64 0] 69)) := bal HQ0 _
    have la4 : W1.heap.size ≤ W1.heap.size := HQ0.size
    go_simp
    refine hK.out _ _ (G0.out _ HQ0_4) (fun hHeld => ?_)
    clear hK K
    try simp only [act_all]
    refine wpAnyH_ready (rs := [6]) (by kernel_rfl) (by simp) ?_
    refine AllReadyH.cons (o := _) rfl (fun K hK => ?_) AllReadyH.nil
    go_simp
    refine (Add_any a b c d k e f g h l _).mono ?_
    rw [HZ0.out]
    rintro e_ t5 ⟨rfl, hb⟩
    have HQ0_5 : Below W1.heap.size W1 t5 := HQ0_4.trans (hb.mono HQ0_4.size)
    have kx5 : t5.heap[W1.heap.size]? = some (.cells #[.int .i64 0, .int .i64 0, .int .i64 0, .int .i64 0, .int .i64 0] 69 (0, 0)) := (hb.block _ (by first | omega | (simp; done) | (simp; omega))).trans (heap_alloc_new W1.drew _)
    have lx5 : W1.heap.size < t5.heap.size := (Array.getElem?_eq_some_iff.1 kx5).1
    clear hb hHeld
    unfold Ret5
    (try simp only)
    refine hK.out _ _ (G0.out _ HQ0_5) (fun hHeld => ?_)
    clear hK K
    try simp only [act_all]
    refine wpAnyH_take (i := 7) (oi := _) (v := ?_) rfl (by kernel_rfl) (by kernel_rfl) (by kernel_rfl) (fun _ _ _ h => h) (Or.inl ⟨by rfl, ?_⟩) (by assumption) ?_
    rotate_left
    · intro w _; go_simp; (try with_reducible rfl)
    try change wpAnyH _ _ _ _ _ _ _ (Act.put _ (some 47) _) _
    try simp only [act_all]
    refine wpAnyH_take (i := 8) (oi := _) (v := ?_) rfl (by kernel_rfl) (by kernel_rfl) (by kernel_rfl) (fun _ _ _ h => h) (Or.inl ⟨by rfl, ?_⟩) (by assumption) ?_
    rotate_left
    · intro w _; go_simp; (try with_reducible rfl)
    try change wpAnyH _ _ _ _ _ _ _ (Act.put _ (some 55) _) _
    try simp only [act_all]
    refine wpAnyH_take (i := 9) (oi := _) (v := ?_) rfl (by kernel_rfl) (by kernel_rfl) (by kernel_rfl) (fun _ _ _ h => h) (Or.inl ⟨by rfl, ?_⟩) (by assumption) ?_
    rotate_left
    · intro w _; go_simp; (try with_reducible rfl)
    try change wpAnyH _ _ _ _ _ _ _ (Act.put _ (some 56) _) _
    try simp only [act_all]
    refine wpAnyH_ready (rs := [11]) (by kernel_rfl) (by simp) ?_
    refine AllReadyH.cons (o := _) rfl (fun K hK => ?_) AllReadyH.nil
    have kx6 : t5.heap[W1.heap.size]? = some (.cells #[.int .i64 0, .int .i64 0, .int .i64 0, .int .i64 0, .int .i64 0] 69 (0, 0)) := kx5
    have HTH := Lib.hid (there_mid kx6 0 5 (show 0 + 5 ≤ 5 by decide))
    have HQ0_6 : Below W1.heap.size W1 (t5.setCells (W1.heap.size) 0 [.int .i64 (z0_1), .int .i64 (z0_2), .int .i64 (z0_3), .int .i64 (z0_4), .int .i64 (z0_5)]) := below_mids la4 _ _ HQ0_5
    have kz6 : (t5.setCells (W1.heap.size) 0 [.int .i64 (z0_1), .int .i64 (z0_2), .int .i64 (z0_3), .int .i64 (z0_4), .int .i64 (z0_5)]).heap[W1.heap.size]? = some (.cells #[.int .i64 (z0_1), .int .i64 (z0_2), .int .i64 (z0_3), .int .i64 (z0_4), .int .i64 (z0_5)] 69 (0, 0)) := block_whole [.int .i64 (z0_1), .int .i64 (z0_2), .int .i64 (z0_3), .int .i64 (z0_4), .int .i64 (z0_5)] kx6 rfl
    rw [if_pos (show Region.wanted _ _ = true from rfl)]
    refine wp_store_mid 69 (.tmp 12) (.tmp 55) rfl (W1.heap.size) 0 #[.int .i64 (z0_1), .int .i64 (z0_2), .int .i64 (z0_3), .int .i64 (z0_4), .int .i64 (z0_5)] rfl rfl HTH.out (by kernel_rfl) (by simp [Value.oneCell']) ?_
    (try rw [show (#[.int .i64 (z0_1), .int .i64 (z0_2), .int .i64 (z0_3), .int .i64 (z0_4), .int .i64 (z0_5)] : Array Value).toList = [.int .i64 (z0_1), .int .i64 (z0_2), .int .i64 (z0_3), .int .i64 (z0_4), .int .i64 (z0_5)] from rfl])
    refine hK.out _ _ (G0.out _ HQ0_6) (fun hHeld => ?_)
    clear hK K
    try simp only [act_all]
    refine wpAnyH_take (i := 12) (oi := _) (v := ?_) rfl (by kernel_rfl) (by kernel_rfl) (by kernel_rfl) (fun _ _ _ h => h) (Or.inl ⟨by rfl, ?_⟩) (by assumption) ?_
    rotate_left
    · intro w _; go_simp; (try with_reducible rfl)
    try change wpAnyH _ _ _ _ _ _ _ (Act.put _ (some 13) _) _
    try simp only [act_all]
    refine wpAnyH_done (by kernel_rfl) ?_ _
    go_wp2_with fail
    go_meet
    exact ⟨_, rfl, rfl, kz6, HQ0_6⟩
  case rest =>
  obtain ⟨N0, rfl, rfl, hN0, hK0⟩ := hcut
  have lN0 : N0 < wc.heap.size := (Array.getElem?_eq_some_iff.1 hN0).1
  have HD8 := Lib.hid (HD7.out.trans (hK0.mono lw7))
  have lw8 : w.heap.size ≤ wc.heap.size := Nat.le_trans lw7 hK0.size
  have Hb2_8 := Lib.hid ((hK0.block _ lb2_7).trans Hb2_7.out)
  have lb2_8 : w.heap.size < wc.heap.size := Nat.lt_of_lt_of_le lb2_7 hK0.size
  have Hb3_8 := Lib.hid ((hK0.block _ lb3_7).trans Hb3_7.out)
  have lb3_8 : w.heap.size + 1 < wc.heap.size := Nat.lt_of_lt_of_le lb3_7 hK0.size
  have Hb5_8 := Lib.hid ((hK0.block _ lb5_7).trans Hb5_7.out)
  have lb5_8 : BB2 < wc.heap.size := Nat.lt_of_lt_of_le lb5_7 hK0.size
  have Hb7_8 := Lib.hid ((hK0.block _ lb7_7).trans Hb7_7.out)
  have lb7_8 : BB4 < wc.heap.size := Nat.lt_of_lt_of_le lb7_7 hK0.size
  have Hb9_8 := Lib.hid ((hK0.block _ lb9_7).trans Hb9_7.out)
  have lb9_8 : SA < wc.heap.size := Nat.lt_of_lt_of_le lb9_7 hK0.size
  have Hb40_8 := Lib.hid ((hK0.block _ lb40_7).trans Hb40_7.out)
  have lb40_8 : SB < wc.heap.size := Nat.lt_of_lt_of_le lb40_7 hK0.size
  have Hb12_8 := Lib.hid hN0
  have lb12_8 := lN0
  clear hN0 lN0 hK0 HD7 lw7 Hb2_7 lb2_7 Hb3_7 lb3_7 Hb5_7 lb5_7 Hb7_7 lb7_7 Hb9_7 lb9_7 Hb40_7 lb40_7
  obtain ⟨C0, hC⟩ : ∃ z, z = wc := ⟨wc, rfl⟩
  subst hC
  obtain ⟨c0_0, c0_1, c0_2, c0_3, ce0, hc_⟩ := OutR_form4 (onR2 addR ⟨⟨x1, x2⟩, ⟨x3, x4⟩⟩ ⟨⟨y1, y2⟩, ⟨y3, y4⟩⟩)
  have HC0 := Lib.hid hc_
  clear hc_
  obtain ⟨ol0, oh0, pl0, ph0, oe0, HO0⟩ := bnd_ex ⟨⟨z0_1, z0_2, z0_3, z0_4⟩, z0_5⟩ 30
  obtain ⟨d0_0, d0_1, d0_2, d0_3, de0, hd_⟩ := OutR_form4 (numO oe0 ⟨ol0, oh0⟩ ⟨pl0, ph0⟩)
  have HE0 := Lib.hid hd_
  clear hd_
  go_upto_region 10 with fail
  refine wp_region_lit ?_
  refine wpList_step (fun K hK => ?_); go_simp; refine hK _ _ ?_; clear hK K
  refine wpList_load_mid rfl 25 (.tmp 5) rfl (BB2) 0 rfl [.int .i64 x1, .int .i64 x2, .int .i64 x3, .int .i64 x4] _ (range_row Hb5_8.out 0 [.int .i64 x1, .int .i64 x2, .int .i64 x3, .int .i64 x4] (fun j hj => by simp only [Nat.zero_add, List.getElem?_toArray])) Try.underlying25 rfl (by kernel_rfl) ?_
  refine wpList_load_mid rfl 25 (.tmp 7) rfl (BB4) 0 rfl [.int .i64 y1, .int .i64 y2, .int .i64 y3, .int .i64 y4] _ (range_row Hb7_8.out 0 [.int .i64 y1, .int .i64 y2, .int .i64 y3, .int .i64 y4] (fun j hj => by simp only [Nat.zero_add, List.getElem?_toArray])) Try.underlying25 rfl (by kernel_rfl) ?_
  refine wpList_step (fun K hK => ?_)
  go_simp
  refine (eAdd_any x1 x2 x3 x4 y1 y2 y3 y4 _).mono ?_
  rw [HC0.out]
  rintro e u9_ ⟨rfl, hb⟩
  have HD9 := Lib.hid (HD8.out.trans (hb.mono lw8))
  have lw9 : w.heap.size ≤ u9_.heap.size := Nat.le_trans lw8 hb.size
  have Hb2_9 := Lib.hid ((hb.block _ lb2_8).trans Hb2_8.out)
  have lb2_9 : w.heap.size < u9_.heap.size := Nat.lt_of_lt_of_le lb2_8 hb.size
  have Hb3_9 := Lib.hid ((hb.block _ lb3_8).trans Hb3_8.out)
  have lb3_9 : w.heap.size + 1 < u9_.heap.size := Nat.lt_of_lt_of_le lb3_8 hb.size
  have Hb5_9 := Lib.hid ((hb.block _ lb5_8).trans Hb5_8.out)
  have lb5_9 : BB2 < u9_.heap.size := Nat.lt_of_lt_of_le lb5_8 hb.size
  have Hb7_9 := Lib.hid ((hb.block _ lb7_8).trans Hb7_8.out)
  have lb7_9 : BB4 < u9_.heap.size := Nat.lt_of_lt_of_le lb7_8 hb.size
  have Hb9_9 := Lib.hid ((hb.block _ lb9_8).trans Hb9_8.out)
  have lb9_9 : SA < u9_.heap.size := Nat.lt_of_lt_of_le lb9_8 hb.size
  have Hb40_9 := Lib.hid ((hb.block _ lb40_8).trans Hb40_8.out)
  have lb40_9 : SB < u9_.heap.size := Nat.lt_of_lt_of_le lb40_8 hb.size
  have Hb12_9 := Lib.hid ((hb.block _ lb12_8).trans Hb12_8.out)
  have lb12_9 : N0 < u9_.heap.size := Nat.lt_of_lt_of_le lb12_8 hb.size
  clear hb HD8 lw8 Hb2_8 lb2_8 Hb3_8 lb3_8 Hb5_8 lb5_8 Hb7_8 lb7_8 Hb9_8 lb9_8 Hb40_8 lb40_8 Hb12_8 lb12_8
  refine hK _ _ ?_
  clear hK K
  refine wpList_step (fun K hK => ?_); go_simp; refine hK _ _ ?_; clear hK K
  refine wpList_step (fun K hK => ?_); go_simp; refine hK _ _ ?_; clear hK K
  refine wpList_step (fun K hK => ?_); go_simp; refine hK _ _ ?_; clear hK K
  refine wpList_step (fun K hK => ?_); go_simp; refine hK _ _ ?_; clear hK K
  have HTH := Lib.hid (there_mid (heap_alloc_new u9_ (.cells #[.int .i64 0, .int .i64 0, .int .i64 0, .int .i64 0] 25)) 0 4 (show 0 + 4 ≤ 4 by decide))
  refine wpList_store_mid rfl 25 (.tmp 14) (.tmp 62) rfl u9_.heap.size 0 #[.int .i64 (c0_0), .int .i64 (c0_1), .int .i64 (c0_2), .int .i64 (c0_3)] rfl rfl HTH.out (by kernel_rfl) (by simp [Value.oneCell']) ?_
  (try rw [show (#[.int .i64 (c0_0), .int .i64 (c0_1), .int .i64 (c0_2), .int .i64 (c0_3)] : Array Value).toList = [.int .i64 (c0_0), .int .i64 (c0_1), .int .i64 (c0_2), .int .i64 (c0_3)] from rfl])
  have hba : Below u9_.heap.size u9_ (u9_.alloc (.cells #[.int .i64 0, .int .i64 0, .int .i64 0, .int .i64 0] 25)) := bal (Below.refl _ _) _
  have hb : Below u9_.heap.size u9_ ((u9_.alloc (.cells #[.int .i64 0, .int .i64 0, .int .i64 0, .int .i64 0] 25)).setCells u9_.heap.size 0 [.int .i64 (c0_0), .int .i64 (c0_1), .int .i64 (c0_2), .int .i64 (c0_3)]) := below_mids (Nat.le_refl _) _ _ hba
  have hnb : ((u9_.alloc (.cells #[.int .i64 0, .int .i64 0, .int .i64 0, .int .i64 0] 25)).setCells u9_.heap.size 0 [.int .i64 (c0_0), .int .i64 (c0_1), .int .i64 (c0_2), .int .i64 (c0_3)]).heap[u9_.heap.size]? = some (.cells #[.int .i64 (c0_0), .int .i64 (c0_1), .int .i64 (c0_2), .int .i64 (c0_3)] 25 (0, 0)) := block_whole [.int .i64 (c0_0), .int .i64 (c0_1), .int .i64 (c0_2), .int .i64 (c0_3)] (heap_alloc_new u9_ (.cells #[.int .i64 0, .int .i64 0, .int .i64 0, .int .i64 0] 25)) rfl
  have hlb : u9_.heap.size < ((u9_.alloc (.cells #[.int .i64 0, .int .i64 0, .int .i64 0, .int .i64 0] 25)).setCells u9_.heap.size 0 [.int .i64 (c0_0), .int .i64 (c0_1), .int .i64 (c0_2), .int .i64 (c0_3)]).heap.size := (Array.getElem?_eq_some_iff.1 hnb).1
  have HD10 := Lib.hid (HD9.out.trans (hb.mono lw9))
  have lw10 : w.heap.size ≤ ((u9_.alloc (.cells #[.int .i64 0, .int .i64 0, .int .i64 0, .int .i64 0] 25)).setCells u9_.heap.size 0 [.int .i64 (c0_0), .int .i64 (c0_1), .int .i64 (c0_2), .int .i64 (c0_3)]).heap.size := Nat.le_trans lw9 hb.size
  have Hb2_10 := Lib.hid ((hb.block _ lb2_9).trans Hb2_9.out)
  have lb2_10 : w.heap.size < ((u9_.alloc (.cells #[.int .i64 0, .int .i64 0, .int .i64 0, .int .i64 0] 25)).setCells u9_.heap.size 0 [.int .i64 (c0_0), .int .i64 (c0_1), .int .i64 (c0_2), .int .i64 (c0_3)]).heap.size := Nat.lt_of_lt_of_le lb2_9 hb.size
  have Hb3_10 := Lib.hid ((hb.block _ lb3_9).trans Hb3_9.out)
  have lb3_10 : w.heap.size + 1 < ((u9_.alloc (.cells #[.int .i64 0, .int .i64 0, .int .i64 0, .int .i64 0] 25)).setCells u9_.heap.size 0 [.int .i64 (c0_0), .int .i64 (c0_1), .int .i64 (c0_2), .int .i64 (c0_3)]).heap.size := Nat.lt_of_lt_of_le lb3_9 hb.size
  have Hb5_10 := Lib.hid ((hb.block _ lb5_9).trans Hb5_9.out)
  have lb5_10 : BB2 < ((u9_.alloc (.cells #[.int .i64 0, .int .i64 0, .int .i64 0, .int .i64 0] 25)).setCells u9_.heap.size 0 [.int .i64 (c0_0), .int .i64 (c0_1), .int .i64 (c0_2), .int .i64 (c0_3)]).heap.size := Nat.lt_of_lt_of_le lb5_9 hb.size
  have Hb7_10 := Lib.hid ((hb.block _ lb7_9).trans Hb7_9.out)
  have lb7_10 : BB4 < ((u9_.alloc (.cells #[.int .i64 0, .int .i64 0, .int .i64 0, .int .i64 0] 25)).setCells u9_.heap.size 0 [.int .i64 (c0_0), .int .i64 (c0_1), .int .i64 (c0_2), .int .i64 (c0_3)]).heap.size := Nat.lt_of_lt_of_le lb7_9 hb.size
  have Hb9_10 := Lib.hid ((hb.block _ lb9_9).trans Hb9_9.out)
  have lb9_10 : SA < ((u9_.alloc (.cells #[.int .i64 0, .int .i64 0, .int .i64 0, .int .i64 0] 25)).setCells u9_.heap.size 0 [.int .i64 (c0_0), .int .i64 (c0_1), .int .i64 (c0_2), .int .i64 (c0_3)]).heap.size := Nat.lt_of_lt_of_le lb9_9 hb.size
  have Hb40_10 := Lib.hid ((hb.block _ lb40_9).trans Hb40_9.out)
  have lb40_10 : SB < ((u9_.alloc (.cells #[.int .i64 0, .int .i64 0, .int .i64 0, .int .i64 0] 25)).setCells u9_.heap.size 0 [.int .i64 (c0_0), .int .i64 (c0_1), .int .i64 (c0_2), .int .i64 (c0_3)]).heap.size := Nat.lt_of_lt_of_le lb40_9 hb.size
  have Hb12_10 := Lib.hid ((hb.block _ lb12_9).trans Hb12_9.out)
  have lb12_10 : N0 < ((u9_.alloc (.cells #[.int .i64 0, .int .i64 0, .int .i64 0, .int .i64 0] 25)).setCells u9_.heap.size 0 [.int .i64 (c0_0), .int .i64 (c0_1), .int .i64 (c0_2), .int .i64 (c0_3)]).heap.size := Nat.lt_of_lt_of_le lb12_9 hb.size
  have Hb14_10 := Lib.hid hnb
  have lb14_10 := hlb
  clear hb hba hnb hlb HTH HD9 lw9 Hb2_9 lb2_9 Hb3_9 lb3_9 Hb5_9 lb5_9 Hb7_9 lb7_9 Hb9_9 lb9_9 Hb40_9 lb40_9 Hb12_9 lb12_9
  generalize ((u9_.alloc (.cells #[.int .i64 0, .int .i64 0, .int .i64 0, .int .i64 0] 25)).setCells u9_.heap.size 0 [.int .i64 (c0_0), .int .i64 (c0_1), .int .i64 (c0_2), .int .i64 (c0_3)]) = U10 at *
  generalize u9_.heap.size = BB10 at *
  refine wpList_step (fun K hK => ?_); go_simp; refine hK _ _ ?_; clear hK K
  refine wpList_nil ?_
  go_upto_region 11 with fail
  refine wp_region_lit ?_
  refine wpList_load_mid rfl 69 (.tmp 12) rfl (N0) 0 rfl [.int .i64 (z0_1), .int .i64 (z0_2), .int .i64 (z0_3), .int .i64 (z0_4), .int .i64 (z0_5)] _ (range_row Hb12_10.out 0 [.int .i64 (z0_1), .int .i64 (z0_2), .int .i64 (z0_3), .int .i64 (z0_4), .int .i64 (z0_5)] (fun j hj => by simp only [Nat.zero_add, List.getElem?_toArray])) Try.underlying69 rfl (by kernel_rfl) ?_
  refine wpList_step (fun K hK => ?_)
  go_simp
  refine (eFromNum_any z0_1 z0_2 z0_3 z0_4 z0_5 ol0 oh0 pl0 ph0 oe0 _ HO0).mono ?_
  rw [HE0.out]
  rintro e u11_ ⟨rfl, hb⟩
  have HD11 := Lib.hid (HD10.out.trans (hb.mono lw10))
  have lw11 : w.heap.size ≤ u11_.heap.size := Nat.le_trans lw10 hb.size
  have Hb2_11 := Lib.hid ((hb.block _ lb2_10).trans Hb2_10.out)
  have lb2_11 : w.heap.size < u11_.heap.size := Nat.lt_of_lt_of_le lb2_10 hb.size
  have Hb3_11 := Lib.hid ((hb.block _ lb3_10).trans Hb3_10.out)
  have lb3_11 : w.heap.size + 1 < u11_.heap.size := Nat.lt_of_lt_of_le lb3_10 hb.size
  have Hb5_11 := Lib.hid ((hb.block _ lb5_10).trans Hb5_10.out)
  have lb5_11 : BB2 < u11_.heap.size := Nat.lt_of_lt_of_le lb5_10 hb.size
  have Hb7_11 := Lib.hid ((hb.block _ lb7_10).trans Hb7_10.out)
  have lb7_11 : BB4 < u11_.heap.size := Nat.lt_of_lt_of_le lb7_10 hb.size
  have Hb9_11 := Lib.hid ((hb.block _ lb9_10).trans Hb9_10.out)
  have lb9_11 : SA < u11_.heap.size := Nat.lt_of_lt_of_le lb9_10 hb.size
  have Hb40_11 := Lib.hid ((hb.block _ lb40_10).trans Hb40_10.out)
  have lb40_11 : SB < u11_.heap.size := Nat.lt_of_lt_of_le lb40_10 hb.size
  have Hb12_11 := Lib.hid ((hb.block _ lb12_10).trans Hb12_10.out)
  have lb12_11 : N0 < u11_.heap.size := Nat.lt_of_lt_of_le lb12_10 hb.size
  have Hb14_11 := Lib.hid ((hb.block _ lb14_10).trans Hb14_10.out)
  have lb14_11 : BB10 < u11_.heap.size := Nat.lt_of_lt_of_le lb14_10 hb.size
  clear hb HD10 lw10 Hb2_10 lb2_10 Hb3_10 lb3_10 Hb5_10 lb5_10 Hb7_10 lb7_10 Hb9_10 lb9_10 Hb40_10 lb40_10 Hb12_10 lb12_10 Hb14_10 lb14_10
  refine hK _ _ ?_
  clear hK K
  refine wpList_step (fun K hK => ?_); go_simp; refine hK _ _ ?_; clear hK K
  refine wpList_step (fun K hK => ?_); go_simp; refine hK _ _ ?_; clear hK K
  refine wpList_step (fun K hK => ?_); go_simp; refine hK _ _ ?_; clear hK K
  refine wpList_step (fun K hK => ?_); go_simp; refine hK _ _ ?_; clear hK K
  have HTH := Lib.hid (there_mid (heap_alloc_new u11_ (.cells #[.int .i64 0, .int .i64 0, .int .i64 0, .int .i64 0] 25)) 0 4 (show 0 + 4 ≤ 4 by decide))
  refine wpList_store_mid rfl 25 (.tmp 16) (.tmp 67) rfl u11_.heap.size 0 #[.int .i64 (d0_0), .int .i64 (d0_1), .int .i64 (d0_2), .int .i64 (d0_3)] rfl rfl HTH.out (by kernel_rfl) (by simp [Value.oneCell']) ?_
  (try rw [show (#[.int .i64 (d0_0), .int .i64 (d0_1), .int .i64 (d0_2), .int .i64 (d0_3)] : Array Value).toList = [.int .i64 (d0_0), .int .i64 (d0_1), .int .i64 (d0_2), .int .i64 (d0_3)] from rfl])
  have hba : Below u11_.heap.size u11_ (u11_.alloc (.cells #[.int .i64 0, .int .i64 0, .int .i64 0, .int .i64 0] 25)) := bal (Below.refl _ _) _
  have hb : Below u11_.heap.size u11_ ((u11_.alloc (.cells #[.int .i64 0, .int .i64 0, .int .i64 0, .int .i64 0] 25)).setCells u11_.heap.size 0 [.int .i64 (d0_0), .int .i64 (d0_1), .int .i64 (d0_2), .int .i64 (d0_3)]) := below_mids (Nat.le_refl _) _ _ hba
  have hnb : ((u11_.alloc (.cells #[.int .i64 0, .int .i64 0, .int .i64 0, .int .i64 0] 25)).setCells u11_.heap.size 0 [.int .i64 (d0_0), .int .i64 (d0_1), .int .i64 (d0_2), .int .i64 (d0_3)]).heap[u11_.heap.size]? = some (.cells #[.int .i64 (d0_0), .int .i64 (d0_1), .int .i64 (d0_2), .int .i64 (d0_3)] 25 (0, 0)) := block_whole [.int .i64 (d0_0), .int .i64 (d0_1), .int .i64 (d0_2), .int .i64 (d0_3)] (heap_alloc_new u11_ (.cells #[.int .i64 0, .int .i64 0, .int .i64 0, .int .i64 0] 25)) rfl
  have hlb : u11_.heap.size < ((u11_.alloc (.cells #[.int .i64 0, .int .i64 0, .int .i64 0, .int .i64 0] 25)).setCells u11_.heap.size 0 [.int .i64 (d0_0), .int .i64 (d0_1), .int .i64 (d0_2), .int .i64 (d0_3)]).heap.size := (Array.getElem?_eq_some_iff.1 hnb).1
  have HD12 := Lib.hid (HD11.out.trans (hb.mono lw11))
  have lw12 : w.heap.size ≤ ((u11_.alloc (.cells #[.int .i64 0, .int .i64 0, .int .i64 0, .int .i64 0] 25)).setCells u11_.heap.size 0 [.int .i64 (d0_0), .int .i64 (d0_1), .int .i64 (d0_2), .int .i64 (d0_3)]).heap.size := Nat.le_trans lw11 hb.size
  have Hb2_12 := Lib.hid ((hb.block _ lb2_11).trans Hb2_11.out)
  have lb2_12 : w.heap.size < ((u11_.alloc (.cells #[.int .i64 0, .int .i64 0, .int .i64 0, .int .i64 0] 25)).setCells u11_.heap.size 0 [.int .i64 (d0_0), .int .i64 (d0_1), .int .i64 (d0_2), .int .i64 (d0_3)]).heap.size := Nat.lt_of_lt_of_le lb2_11 hb.size
  have Hb3_12 := Lib.hid ((hb.block _ lb3_11).trans Hb3_11.out)
  have lb3_12 : w.heap.size + 1 < ((u11_.alloc (.cells #[.int .i64 0, .int .i64 0, .int .i64 0, .int .i64 0] 25)).setCells u11_.heap.size 0 [.int .i64 (d0_0), .int .i64 (d0_1), .int .i64 (d0_2), .int .i64 (d0_3)]).heap.size := Nat.lt_of_lt_of_le lb3_11 hb.size
  have Hb5_12 := Lib.hid ((hb.block _ lb5_11).trans Hb5_11.out)
  have lb5_12 : BB2 < ((u11_.alloc (.cells #[.int .i64 0, .int .i64 0, .int .i64 0, .int .i64 0] 25)).setCells u11_.heap.size 0 [.int .i64 (d0_0), .int .i64 (d0_1), .int .i64 (d0_2), .int .i64 (d0_3)]).heap.size := Nat.lt_of_lt_of_le lb5_11 hb.size
  have Hb7_12 := Lib.hid ((hb.block _ lb7_11).trans Hb7_11.out)
  have lb7_12 : BB4 < ((u11_.alloc (.cells #[.int .i64 0, .int .i64 0, .int .i64 0, .int .i64 0] 25)).setCells u11_.heap.size 0 [.int .i64 (d0_0), .int .i64 (d0_1), .int .i64 (d0_2), .int .i64 (d0_3)]).heap.size := Nat.lt_of_lt_of_le lb7_11 hb.size
  have Hb9_12 := Lib.hid ((hb.block _ lb9_11).trans Hb9_11.out)
  have lb9_12 : SA < ((u11_.alloc (.cells #[.int .i64 0, .int .i64 0, .int .i64 0, .int .i64 0] 25)).setCells u11_.heap.size 0 [.int .i64 (d0_0), .int .i64 (d0_1), .int .i64 (d0_2), .int .i64 (d0_3)]).heap.size := Nat.lt_of_lt_of_le lb9_11 hb.size
  have Hb40_12 := Lib.hid ((hb.block _ lb40_11).trans Hb40_11.out)
  have lb40_12 : SB < ((u11_.alloc (.cells #[.int .i64 0, .int .i64 0, .int .i64 0, .int .i64 0] 25)).setCells u11_.heap.size 0 [.int .i64 (d0_0), .int .i64 (d0_1), .int .i64 (d0_2), .int .i64 (d0_3)]).heap.size := Nat.lt_of_lt_of_le lb40_11 hb.size
  have Hb12_12 := Lib.hid ((hb.block _ lb12_11).trans Hb12_11.out)
  have lb12_12 : N0 < ((u11_.alloc (.cells #[.int .i64 0, .int .i64 0, .int .i64 0, .int .i64 0] 25)).setCells u11_.heap.size 0 [.int .i64 (d0_0), .int .i64 (d0_1), .int .i64 (d0_2), .int .i64 (d0_3)]).heap.size := Nat.lt_of_lt_of_le lb12_11 hb.size
  have Hb14_12 := Lib.hid ((hb.block _ lb14_11).trans Hb14_11.out)
  have lb14_12 : BB10 < ((u11_.alloc (.cells #[.int .i64 0, .int .i64 0, .int .i64 0, .int .i64 0] 25)).setCells u11_.heap.size 0 [.int .i64 (d0_0), .int .i64 (d0_1), .int .i64 (d0_2), .int .i64 (d0_3)]).heap.size := Nat.lt_of_lt_of_le lb14_11 hb.size
  have Hb16_12 := Lib.hid hnb
  have lb16_12 := hlb
  clear hb hba hnb hlb HTH HD11 lw11 Hb2_11 lb2_11 Hb3_11 lb3_11 Hb5_11 lb5_11 Hb7_11 lb7_11 Hb9_11 lb9_11 Hb40_11 lb40_11 Hb12_11 lb12_11 Hb14_11 lb14_11
  generalize ((u11_.alloc (.cells #[.int .i64 0, .int .i64 0, .int .i64 0, .int .i64 0] 25)).setCells u11_.heap.size 0 [.int .i64 (d0_0), .int .i64 (d0_1), .int .i64 (d0_2), .int .i64 (d0_3)]) = U12 at *
  generalize u11_.heap.size = BB12 at *
  refine wpList_step (fun K hK => ?_); go_simp; refine hK _ _ ?_; clear hK K
  refine wpList_nil ?_
  go_upto_region 12 with fail
  go_cut [84] (fun v wx => v = .bool false ∧ Below U12.heap.size U12 wx)
  case first =>
    by_cases h1 : ze0 = 0
    case neg =>
      have hb1 : (ze0 == 0) = false := beq_eq_false_iff_ne.2 h1
      clear h1
      refine wp_region_lit ?_
      refine wpList_step (fun K hK => ?_); go_simp; refine hK _ _ ?_; clear hK K
      refine wpList_step (fun K hK => ?_); go_simp; refine hK _ _ ?_; clear hK K
      refine wpList_step (fun K hK => ?_); go_simp; refine hK _ _ ?_; clear hK K
      refine wpList_skip (by rfl) ?_
      refine wpList_skip (by rfl) ?_
      refine wpList_step (fun K hK => ?_); go_simp; refine hK _ _ ?_; clear hK K
      refine wpList_step (fun K hK => ?_); go_simp; refine hK _ _ ?_; clear hK K
      refine wpList_skip (by rfl) ?_
      refine wpList_skip (by rfl) ?_
      refine wpList_step (fun K hK => ?_); go_simp; refine hK _ _ ?_; clear hK K
      refine wpList_step (fun K hK => ?_); go_simp; refine hK _ _ ?_; clear hK K
      refine wpList_skip (by rfl) ?_
      refine wpList_skip (by rfl) ?_
      refine wpList_skip (by rfl) ?_
      refine wpList_skip (by rfl) ?_
      refine wpList_step (fun K hK => ?_); go_simp; refine hK _ _ ?_; clear hK K
      refine wpList_nil ?_
      go_wp2_with fail
      go_meet
      exact ⟨rfl, Below.refl _ _⟩
    subst h1
    by_cases h2 : ce0 = 0
    case neg =>
      have hb1 : (ce0 == 0) = false := beq_eq_false_iff_ne.2 h2
      clear h2
      refine wp_region_lit ?_
      refine wpList_step (fun K hK => ?_); go_simp; refine hK _ _ ?_; clear hK K
      refine wpList_step (fun K hK => ?_); go_simp; refine hK _ _ ?_; clear hK K
      refine wpList_step (fun K hK => ?_); go_simp; refine hK _ _ ?_; clear hK K
      refine wpList_step (fun K hK => ?_); go_simp; refine hK _ _ ?_; clear hK K
      refine wpList_step (fun K hK => ?_); go_simp; refine hK _ _ ?_; clear hK K
      refine wpList_step (fun K hK => ?_); go_simp; refine hK _ _ ?_; clear hK K
      refine wpList_step (fun K hK => ?_); go_simp; refine hK _ _ ?_; clear hK K
      refine wpList_skip (by rfl) ?_
      refine wpList_skip (by rfl) ?_
      refine wpList_step (fun K hK => ?_); go_simp; refine hK _ _ ?_; clear hK K
      refine wpList_step (fun K hK => ?_); go_simp; refine hK _ _ ?_; clear hK K
      refine wpList_skip (by rfl) ?_
      refine wpList_skip (by rfl) ?_
      refine wpList_skip (by rfl) ?_
      refine wpList_skip (by rfl) ?_
      refine wpList_step (fun K hK => ?_); go_simp; refine hK _ _ ?_; clear hK K
      refine wpList_nil ?_
      go_wp2_with fail
      go_meet
      exact ⟨rfl, Below.refl _ _⟩
    subst h2
    by_cases h3 : de0 = 0
    case neg =>
      have hb1 : (de0 == 0) = false := beq_eq_false_iff_ne.2 h3
      clear h3
      refine wp_region_lit ?_
      refine wpList_step (fun K hK => ?_); go_simp; refine hK _ _ ?_; clear hK K
      refine wpList_step (fun K hK => ?_); go_simp; refine hK _ _ ?_; clear hK K
      refine wpList_step (fun K hK => ?_); go_simp; refine hK _ _ ?_; clear hK K
      refine wpList_step (fun K hK => ?_); go_simp; refine hK _ _ ?_; clear hK K
      refine wpList_step (fun K hK => ?_); go_simp; refine hK _ _ ?_; clear hK K
      refine wpList_step (fun K hK => ?_); go_simp; refine hK _ _ ?_; clear hK K
      refine wpList_step (fun K hK => ?_); go_simp; refine hK _ _ ?_; clear hK K
      refine wpList_step (fun K hK => ?_); go_simp; refine hK _ _ ?_; clear hK K
      refine wpList_step (fun K hK => ?_); go_simp; refine hK _ _ ?_; clear hK K
      refine wpList_step (fun K hK => ?_); go_simp; refine hK _ _ ?_; clear hK K
      refine wpList_step (fun K hK => ?_); go_simp; refine hK _ _ ?_; clear hK K
      refine wpList_skip (by rfl) ?_
      refine wpList_skip (by rfl) ?_
      refine wpList_skip (by rfl) ?_
      refine wpList_skip (by rfl) ?_
      refine wpList_step (fun K hK => ?_); go_simp; refine hK _ _ ?_; clear hK K
      refine wpList_nil ?_
      go_wp2_with fail
      go_meet
      exact ⟨rfl, Below.refl _ _⟩
    subst h3
    refine wp_region_lit ?_
    refine wpList_step (fun K hK => ?_); go_simp; refine hK _ _ ?_; clear hK K
    refine wpList_step (fun K hK => ?_); go_simp; refine hK _ _ ?_; clear hK K
    refine wpList_step (fun K hK => ?_); go_simp; refine hK _ _ ?_; clear hK K
    refine wpList_step (fun K hK => ?_); go_simp; refine hK _ _ ?_; clear hK K
    refine wpList_step (fun K hK => ?_); go_simp; refine hK _ _ ?_; clear hK K
    refine wpList_step (fun K hK => ?_); go_simp; refine hK _ _ ?_; clear hK K
    refine wpList_step (fun K hK => ?_); go_simp; refine hK _ _ ?_; clear hK K
    refine wpList_step (fun K hK => ?_); go_simp; refine hK _ _ ?_; clear hK K
    refine wpList_step (fun K hK => ?_); go_simp; refine hK _ _ ?_; clear hK K
    refine wpList_step (fun K hK => ?_); go_simp; refine hK _ _ ?_; clear hK K
    refine wpList_step (fun K hK => ?_); go_simp; refine hK _ _ ?_; clear hK K
    refine wpList_step (fun K hK => ?_)
    rw [if_pos (show Region.wanted _ _ = true from rfl)]
    refine wp_load_mid 25 (.tmp 16) rfl (BB12) 0 rfl [.int .i64 (d0_0), .int .i64 (d0_1), .int .i64 (d0_2), .int .i64 (d0_3)] _ (range_row Hb16_12.out 0 [.int .i64 (d0_0), .int .i64 (d0_1), .int .i64 (d0_2), .int .i64 (d0_3)] (fun j hj => by simp only [Nat.zero_add, List.getElem?_toArray])) Try.underlying25 rfl (by kernel_rfl) ?_
    refine hK _ _ ?_
    clear hK K
    refine wpList_step (fun K hK => ?_)
    rw [if_pos (show Region.wanted _ _ = true from rfl)]
    refine wp_load_mid 25 (.tmp 14) rfl (BB10) 0 rfl [.int .i64 (c0_0), .int .i64 (c0_1), .int .i64 (c0_2), .int .i64 (c0_3)] _ (range_row Hb14_12.out 0 [.int .i64 (c0_0), .int .i64 (c0_1), .int .i64 (c0_2), .int .i64 (c0_3)] (fun j hj => by simp only [Nat.zero_add, List.getElem?_toArray])) Try.underlying25 rfl (by kernel_rfl) ?_
    refine hK _ _ ?_
    clear hK K
    refine wpList_step (fun K hK => ?_)
    go_simp
    refine (inL_any d0_0 d0_1 d0_2 d0_3 c0_0  c0_1  c0_2  c0_3 _).mono ?_
    rw [said_add (x := ⟨⟨a, b, c, d⟩, k⟩) (y := ⟨⟨e, f, g, h⟩, l⟩) (z := ⟨⟨z0_1, z0_2, z0_3, z0_4⟩, z0_5⟩) H.out J.out HO0.out HX.out HY.out HE0.out HZ0.out HC0.out]
    rintro e_ u_ ⟨rfl, hb⟩
    refine hK _ _ ?_
    clear hK K
    refine wpList_step (fun K hK => ?_); go_simp; refine hK _ _ ?_; clear hK K
    refine wpList_step (fun K hK => ?_); go_simp; refine hK _ _ ?_; clear hK K
    refine wpList_nil ?_
    go_wp2_with fail
    go_meet
    exact ⟨rfl, hb⟩
  case rest =>
  obtain ⟨rfl, hK_⟩ := hcut
  have HD13 := Lib.hid (HD12.out.trans (hK_.mono lw12))
  have lw13 : w.heap.size ≤ wc.heap.size := Nat.le_trans lw12 hK_.size
  have Hb2_13 := Lib.hid ((hK_.block _ lb2_12).trans Hb2_12.out)
  have lb2_13 : w.heap.size < wc.heap.size := Nat.lt_of_lt_of_le lb2_12 hK_.size
  have Hb3_13 := Lib.hid ((hK_.block _ lb3_12).trans Hb3_12.out)
  have lb3_13 : w.heap.size + 1 < wc.heap.size := Nat.lt_of_lt_of_le lb3_12 hK_.size
  have Hb5_13 := Lib.hid ((hK_.block _ lb5_12).trans Hb5_12.out)
  have lb5_13 : BB2 < wc.heap.size := Nat.lt_of_lt_of_le lb5_12 hK_.size
  have Hb7_13 := Lib.hid ((hK_.block _ lb7_12).trans Hb7_12.out)
  have lb7_13 : BB4 < wc.heap.size := Nat.lt_of_lt_of_le lb7_12 hK_.size
  have Hb9_13 := Lib.hid ((hK_.block _ lb9_12).trans Hb9_12.out)
  have lb9_13 : SA < wc.heap.size := Nat.lt_of_lt_of_le lb9_12 hK_.size
  have Hb40_13 := Lib.hid ((hK_.block _ lb40_12).trans Hb40_12.out)
  have lb40_13 : SB < wc.heap.size := Nat.lt_of_lt_of_le lb40_12 hK_.size
  have Hb12_13 := Lib.hid ((hK_.block _ lb12_12).trans Hb12_12.out)
  have lb12_13 : N0 < wc.heap.size := Nat.lt_of_lt_of_le lb12_12 hK_.size
  have Hb14_13 := Lib.hid ((hK_.block _ lb14_12).trans Hb14_12.out)
  have lb14_13 : BB10 < wc.heap.size := Nat.lt_of_lt_of_le lb14_12 hK_.size
  have Hb16_13 := Lib.hid ((hK_.block _ lb16_12).trans Hb16_12.out)
  have lb16_13 : BB12 < wc.heap.size := Nat.lt_of_lt_of_le lb16_12 hK_.size
  clear hK_ HD12 lw12 Hb2_12 lb2_12 Hb3_12 lb3_12 Hb5_12 lb5_12 Hb7_12 lb7_12 Hb9_12 lb9_12 Hb40_12 lb40_12 Hb12_12 lb12_12 Hb14_12 lb14_12 Hb16_12 lb16_12
  obtain ⟨E0, hC⟩ : ∃ z, z = wc := ⟨wc, rfl⟩
  subst hC
  clear HZ0 HC0 HE0 HO0
  go_upto_region 14 with fail
  refine wp_region_lit ?_
  refine wpList_step (fun K hK => ?_); go_simp; refine hK _ _ ?_; clear hK K
  (try rw [show IntKind.i64.wrap 1 = 1 by decide])
  refine wpList_step (fun K hK => ?_); go_simp; refine hK _ _ ?_; clear hK K
  refine wpList_nil ?_
  go_wp2_with fail
  rw [rounds_succ]
  go_upto_region 8 with fail
  refine wp_region_lit ?_
  have yc : E0.cell? ⟨SB, 1, none⟩ = some (Value.func (Fn.func 20) #[] #[]) := (cell_of_row _ _ _ _ _ (0, 0) Hb40_13.out).trans rfl
  refine wpList_step (fun K hK => ?_); go_simp; refine hK _ _ ?_; clear hK K
  refine wpList_step (fun K hK => ?_); go_simp; refine hK _ _ ?_; clear hK K
  refine wpList_step (fun K hK => ?_); go_simp; refine hK _ _ ?_; clear hK K
  refine wpList_step (fun K hK => ?_); go_simp; refine hK _ _ ?_; clear hK K
  refine wpList_step (fun K hK => ?_); go_simp; refine hK _ _ ?_; clear hK K
  refine wpList_nil ?_
  clear yc
  go_upto_region 9 with fail
  obtain ⟨z1_1, z1_2, z1_3, z1_4, z1_5, ze1, HZ1⟩ := res5 (Amp.subS ⟨⟨a, b, c, d⟩, k⟩ ⟨⟨e, f, g, h⟩, l⟩)
  go_cut [12, 13] (fun v12 v13 wx => ∃ N0 : Nat, v12 = .pointer (some ⟨N0, 0, none⟩) ∧ v13 = .int .i64 ze1 ∧ wx.heap[N0]? = some (.cells #[.int .i64 (z1_1), .int .i64 (z1_2), .int .i64 (z1_3), .int .i64 (z1_4), .int .i64 (z1_5)] 69 (0, 0)) ∧ Below E0.heap.size E0 wx)
  case first =>
    have G0 : Hid (∀ w' : World, Below E0.heap.size E0 w' → w'.heap[w.heap.size]? = some (.cells #[.int .i64 a, .int .i64 b, .int .i64 c, .int .i64 d, .int .i64 k] 69 (0, 0)) ∧ w'.heap[w.heap.size + 1]? = some (.cells #[.int .i64 e, .int .i64 f, .int .i64 g, .int .i64 h, .int .i64 l] 69 (0, 0)) ∧ w'.heap[SA]? = some (.cells #[.func (Fn.func 57) #[] #[], .func (Fn.func 58) #[] #[], .func (Fn.func 59) #[] #[]] 72 (0, 0))) := Lib.hid (fun w' hb => ⟨(hb.block _ lb2_13).trans Hb2_13.out, (hb.block _ lb3_13).trans Hb3_13.out, (hb.block _ lb9_13).trans Hb9_13.out⟩)
    have HQ0 : Below E0.heap.size E0 E0.drew := (Below.refl _ _).drew
    refine wp_region_held_drew (S := fun w' => w'.heap[w.heap.size]? = some (.cells #[.int .i64 a, .int .i64 b, .int .i64 c, .int .i64 d, .int .i64 k] 69 (0, 0)) ∧ w'.heap[w.heap.size + 1]? = some (.cells #[.int .i64 e, .int .i64 f, .int .i64 g, .int .i64 h, .int .i64 l] 69 (0, 0)) ∧ w'.heap[SA]? = some (.cells #[.func (Fn.func 57) #[] #[], .func (Fn.func 58) #[] #[], .func (Fn.func 59) #[] #[]] 72 (0, 0))) (by kernel_rfl) (G0.out _ HQ0) (fun hHeld => ?_)
    refine wpAnyH_take (i := 0) (oi := _) (v := ?_) rfl (by kernel_rfl) (by kernel_rfl) (by kernel_rfl) (fun _ _ _ h => h) (Or.inl ⟨by rfl, ?_⟩) (by assumption) ?_
    rotate_left
    · intro w _; go_simp; (try with_reducible rfl)
    try change wpAnyH _ _ _ _ _ _ _ (Act.put _ (some 48) _) _
    try simp only [act_all]
    refine wpAnyH_take (i := 1) (oi := _) (v := ?_) rfl (by kernel_rfl) (by kernel_rfl) (by kernel_rfl) (fun _ _ _ h => h) (Or.inl ⟨by rfl, ?_⟩) (by assumption) ?_
    rotate_left
    · intro w _; go_simp; (try with_reducible rfl)
    try change wpAnyH _ _ _ _ _ _ _ (Act.put _ (some 49) _) _
    try simp only [act_all]
    refine wpAnyH_take (i := 2) (oi := _) (v := ?_) rfl (by kernel_rfl) (by kernel_rfl) (by kernel_rfl) (fun _ _ _ h => h) (Or.inl ⟨by rfl, ?_⟩) (by assumption) ?_
    rotate_left
    · intro w _; go_simp; (try with_reducible rfl)
    try change wpAnyH _ _ _ _ _ _ _ (Act.put _ (some 50) _) _
    try simp only [act_all]
    refine wpAnyH_take (i := 3) (oi := _) (v := ?_) rfl (by kernel_rfl) (by kernel_rfl) (by kernel_rfl) (fun _ _ _ h => h) (Or.inl ⟨by rfl, ?_⟩) (by assumption) ?_
    rotate_left
    · intro w hSw; have yc : w.cell? ⟨SA, 1, none⟩ = some (Value.func (Fn.func 58) #[] #[]) := (cell_of_row _ _ _ _ _ (0, 0) hSw.2.2).trans rfl; clear hSw; go_simp; (try with_reducible rfl)
    try change wpAnyH _ _ _ _ _ _ _ (Act.put _ (some 51) _) _
    try simp only [act_all]
    refine wpAnyH_take (i := 4) (oi := _) (v := _) rfl (by kernel_rfl) (by kernel_rfl) (by kernel_rfl) (fun _ _ _ h => h) (yieldsIf_load_mid (by rfl) 69 _ rfl (w.heap.size) 0 rfl [.int .i64 a, .int .i64 b, .int .i64 c, .int .i64 d, .int .i64 k] _ (fun w' hh => range_row hh.1 0 [.int .i64 a, .int .i64 b, .int .i64 c, .int .i64 d, .int .i64 k] (fun j hj => by simp only [Nat.zero_add, List.getElem?_toArray])) Try.underlying69 rfl (by kernel_rfl)) (by assumption) ?_
    try change wpAnyH _ _ _ _ _ _ _ (Act.put _ (some 52) _) _
    try simp only [act_all]
    refine wpAnyH_take (i := 5) (oi := _) (v := _) rfl (by kernel_rfl) (by kernel_rfl) (by kernel_rfl) (fun _ _ _ h => h) (yieldsIf_load_mid (by rfl) 69 _ rfl (w.heap.size + 1) 0 rfl [.int .i64 e, .int .i64 f, .int .i64 g, .int .i64 h, .int .i64 l] _ (fun w' hh => range_row hh.2.1 0 [.int .i64 e, .int .i64 f, .int .i64 g, .int .i64 h, .int .i64 l] (fun j hj => by simp only [Nat.zero_add, List.getElem?_toArray])) Try.underlying69 rfl (by kernel_rfl)) (by assumption) ?_
    try change wpAnyH _ _ _ _ _ _ _ (Act.put _ (some 53) _) _
    try simp only [act_all]
    refine wpAnyH_ready (rs := [6, 10]) (by kernel_rfl) (by simp) ?_
    refine AllReadyH.cons (o := _) rfl (fun K hK => ?_) ?_
    ·
      go_simp
      refine (Sub_any a b c d k e f g h l _).mono ?_
      rw [HZ1.out]
      rintro e_ t1 ⟨rfl, hb⟩
      have HQ1_1 : Below E0.heap.size E0 t1 := HQ0.trans (hb.mono HQ0.size)
      clear hb hHeld
      unfold Ret5
      (try simp only)
      refine hK.out _ _ (G0.out _ HQ1_1) (fun hHeld => ?_)
      clear hK K
      try simp only [act_all]
      refine wpAnyH_take (i := 7) (oi := _) (v := ?_) rfl (by kernel_rfl) (by kernel_rfl) (by kernel_rfl) (fun _ _ _ h => h) (Or.inl ⟨by rfl, ?_⟩) (by assumption) ?_
      rotate_left
      · intro w _; go_simp; (try with_reducible rfl)
      try change wpAnyH _ _ _ _ _ _ _ (Act.put _ (some 47) _) _
      try simp only [act_all]
      refine wpAnyH_take (i := 8) (oi := _) (v := ?_) rfl (by kernel_rfl) (by kernel_rfl) (by kernel_rfl) (fun _ _ _ h => h) (Or.inl ⟨by rfl, ?_⟩) (by assumption) ?_
      rotate_left
      · intro w _; go_simp; (try with_reducible rfl)
      try change wpAnyH _ _ _ _ _ _ _ (Act.put _ (some 55) _) _
      try simp only [act_all]
      refine wpAnyH_take (i := 9) (oi := _) (v := ?_) rfl (by kernel_rfl) (by kernel_rfl) (by kernel_rfl) (fun _ _ _ h => h) (Or.inl ⟨by rfl, ?_⟩) (by assumption) ?_
      rotate_left
      · intro w _; go_simp; (try with_reducible rfl)
      try change wpAnyH _ _ _ _ _ _ _ (Act.put _ (some 56) _) _
      try simp only [act_all]
      refine wpAnyH_ready (rs := [10]) (by kernel_rfl) (by simp) ?_
      refine AllReadyH.cons (o := _) rfl (fun K hK => ?_) AllReadyH.nil
      have HQ1_2 : Below E0.heap.size E0 (t1.alloc (Obj.cells #[.int .i64 0, .int .i64 0, .int .i64 0, .int .i64 0, .int .i64 0] 69)) := bal HQ1_1 _
      have la2 : E0.heap.size ≤ t1.heap.size := HQ1_1.size
      go_simp
      refine hK.out _ _ (G0.out _ HQ1_2) (fun hHeld => ?_)
      clear hK K
      try simp only [act_all]
      refine wpAnyH_ready (rs := [11]) (by kernel_rfl) (by simp) ?_
      refine AllReadyH.cons (o := _) rfl (fun K hK => ?_) AllReadyH.nil
      have kx3 : (t1.alloc (Obj.cells #[.int .i64 0, .int .i64 0, .int .i64 0, .int .i64 0, .int .i64 0] 69)).heap[t1.heap.size]? = some (.cells #[.int .i64 0, .int .i64 0, .int .i64 0, .int .i64 0, .int .i64 0] 69 (0, 0)) := (heap_alloc_new t1 _)
      have HTH := Lib.hid (there_mid kx3 0 5 (show 0 + 5 ≤ 5 by decide))
      have HQ1_3 : Below E0.heap.size E0 ((t1.alloc (Obj.cells #[.int .i64 0, .int .i64 0, .int .i64 0, .int .i64 0, .int .i64 0] 69)).setCells (t1.heap.size) 0 [.int .i64 (z1_1), .int .i64 (z1_2), .int .i64 (z1_3), .int .i64 (z1_4), .int .i64 (z1_5)]) := below_mids la2 _ _ HQ1_2
      have kz3 : ((t1.alloc (Obj.cells #[.int .i64 0, .int .i64 0, .int .i64 0, .int .i64 0, .int .i64 0] 69)).setCells (t1.heap.size) 0 [.int .i64 (z1_1), .int .i64 (z1_2), .int .i64 (z1_3), .int .i64 (z1_4), .int .i64 (z1_5)]).heap[t1.heap.size]? = some (.cells #[.int .i64 (z1_1), .int .i64 (z1_2), .int .i64 (z1_3), .int .i64 (z1_4), .int .i64 (z1_5)] 69 (0, 0)) := block_whole [.int .i64 (z1_1), .int .i64 (z1_2), .int .i64 (z1_3), .int .i64 (z1_4), .int .i64 (z1_5)] kx3 rfl
      rw [if_pos (show Region.wanted _ _ = true from rfl)]
      refine wp_store_mid 69 (.tmp 12) (.tmp 55) rfl (t1.heap.size) 0 #[.int .i64 (z1_1), .int .i64 (z1_2), .int .i64 (z1_3), .int .i64 (z1_4), .int .i64 (z1_5)] rfl rfl HTH.out (by kernel_rfl) (by simp [Value.oneCell']) ?_
      (try rw [show (#[.int .i64 (z1_1), .int .i64 (z1_2), .int .i64 (z1_3), .int .i64 (z1_4), .int .i64 (z1_5)] : Array Value).toList = [.int .i64 (z1_1), .int .i64 (z1_2), .int .i64 (z1_3), .int .i64 (z1_4), .int .i64 (z1_5)] from rfl])
      refine hK.out _ _ (G0.out _ HQ1_3) (fun hHeld => ?_)
      clear hK K
      try simp only [act_all]
      refine wpAnyH_take (i := 12) (oi := _) (v := ?_) rfl (by kernel_rfl) (by kernel_rfl) (by kernel_rfl) (fun _ _ _ h => h) (Or.inl ⟨by rfl, ?_⟩) (by assumption) ?_
      rotate_left
      · intro w _; go_simp; (try with_reducible rfl)
      try change wpAnyH _ _ _ _ _ _ _ (Act.put _ (some 13) _) _
      try simp only [act_all]
      refine wpAnyH_done (by kernel_rfl) ?_ _
      go_wp2_with fail
      go_meet
      exact ⟨_, rfl, rfl, kz3, HQ1_3⟩
    refine AllReadyH.cons (o := _) rfl (fun K hK => ?_) AllReadyH.nil
    have HQ1_4 : Below E0.heap.size E0 (E0.drew.alloc (Obj.cells #[.int .i64 0, .int .i64 0, .int .i64 0, .int .i64 0, .int .i64 0] 69)) := bal HQ0 _
    have la4 : E0.heap.size ≤ E0.heap.size := HQ0.size
    go_simp
    refine hK.out _ _ (G0.out _ HQ1_4) (fun hHeld => ?_)
    clear hK K
    try simp only [act_all]
    refine wpAnyH_ready (rs := [6]) (by kernel_rfl) (by simp) ?_
    refine AllReadyH.cons (o := _) rfl (fun K hK => ?_) AllReadyH.nil
    go_simp
    refine (Sub_any a b c d k e f g h l _).mono ?_
    rw [HZ1.out]
    rintro e_ t5 ⟨rfl, hb⟩
    have HQ1_5 : Below E0.heap.size E0 t5 := HQ1_4.trans (hb.mono HQ1_4.size)
    have kx5 : t5.heap[E0.heap.size]? = some (.cells #[.int .i64 0, .int .i64 0, .int .i64 0, .int .i64 0, .int .i64 0] 69 (0, 0)) := (hb.block _ (by first | omega | (simp; done) | (simp; omega))).trans (heap_alloc_new E0.drew _)
    have lx5 : E0.heap.size < t5.heap.size := (Array.getElem?_eq_some_iff.1 kx5).1
    clear hb hHeld
    unfold Ret5
    (try simp only)
    refine hK.out _ _ (G0.out _ HQ1_5) (fun hHeld => ?_)
    clear hK K
    try simp only [act_all]
    refine wpAnyH_take (i := 7) (oi := _) (v := ?_) rfl (by kernel_rfl) (by kernel_rfl) (by kernel_rfl) (fun _ _ _ h => h) (Or.inl ⟨by rfl, ?_⟩) (by assumption) ?_
    rotate_left
    · intro w _; go_simp; (try with_reducible rfl)
    try change wpAnyH _ _ _ _ _ _ _ (Act.put _ (some 47) _) _
    try simp only [act_all]
    refine wpAnyH_take (i := 8) (oi := _) (v := ?_) rfl (by kernel_rfl) (by kernel_rfl) (by kernel_rfl) (fun _ _ _ h => h) (Or.inl ⟨by rfl, ?_⟩) (by assumption) ?_
    rotate_left
    · intro w _; go_simp; (try with_reducible rfl)
    try change wpAnyH _ _ _ _ _ _ _ (Act.put _ (some 55) _) _
    try simp only [act_all]
    refine wpAnyH_take (i := 9) (oi := _) (v := ?_) rfl (by kernel_rfl) (by kernel_rfl) (by kernel_rfl) (fun _ _ _ h => h) (Or.inl ⟨by rfl, ?_⟩) (by assumption) ?_
    rotate_left
    · intro w _; go_simp; (try with_reducible rfl)
    try change wpAnyH _ _ _ _ _ _ _ (Act.put _ (some 56) _) _
    try simp only [act_all]
    refine wpAnyH_ready (rs := [11]) (by kernel_rfl) (by simp) ?_
    refine AllReadyH.cons (o := _) rfl (fun K hK => ?_) AllReadyH.nil
    have kx6 : t5.heap[E0.heap.size]? = some (.cells #[.int .i64 0, .int .i64 0, .int .i64 0, .int .i64 0, .int .i64 0] 69 (0, 0)) := kx5
    have HTH := Lib.hid (there_mid kx6 0 5 (show 0 + 5 ≤ 5 by decide))
    have HQ1_6 : Below E0.heap.size E0 (t5.setCells (E0.heap.size) 0 [.int .i64 (z1_1), .int .i64 (z1_2), .int .i64 (z1_3), .int .i64 (z1_4), .int .i64 (z1_5)]) := below_mids la4 _ _ HQ1_5
    have kz6 : (t5.setCells (E0.heap.size) 0 [.int .i64 (z1_1), .int .i64 (z1_2), .int .i64 (z1_3), .int .i64 (z1_4), .int .i64 (z1_5)]).heap[E0.heap.size]? = some (.cells #[.int .i64 (z1_1), .int .i64 (z1_2), .int .i64 (z1_3), .int .i64 (z1_4), .int .i64 (z1_5)] 69 (0, 0)) := block_whole [.int .i64 (z1_1), .int .i64 (z1_2), .int .i64 (z1_3), .int .i64 (z1_4), .int .i64 (z1_5)] kx6 rfl
    rw [if_pos (show Region.wanted _ _ = true from rfl)]
    refine wp_store_mid 69 (.tmp 12) (.tmp 55) rfl (E0.heap.size) 0 #[.int .i64 (z1_1), .int .i64 (z1_2), .int .i64 (z1_3), .int .i64 (z1_4), .int .i64 (z1_5)] rfl rfl HTH.out (by kernel_rfl) (by simp [Value.oneCell']) ?_
    (try rw [show (#[.int .i64 (z1_1), .int .i64 (z1_2), .int .i64 (z1_3), .int .i64 (z1_4), .int .i64 (z1_5)] : Array Value).toList = [.int .i64 (z1_1), .int .i64 (z1_2), .int .i64 (z1_3), .int .i64 (z1_4), .int .i64 (z1_5)] from rfl])
    refine hK.out _ _ (G0.out _ HQ1_6) (fun hHeld => ?_)
    clear hK K
    try simp only [act_all]
    refine wpAnyH_take (i := 12) (oi := _) (v := ?_) rfl (by kernel_rfl) (by kernel_rfl) (by kernel_rfl) (fun _ _ _ h => h) (Or.inl ⟨by rfl, ?_⟩) (by assumption) ?_
    rotate_left
    · intro w _; go_simp; (try with_reducible rfl)
    try change wpAnyH _ _ _ _ _ _ _ (Act.put _ (some 13) _) _
    try simp only [act_all]
    refine wpAnyH_done (by kernel_rfl) ?_ _
    go_wp2_with fail
    go_meet
    exact ⟨_, rfl, rfl, kz6, HQ1_6⟩
  case rest =>
  obtain ⟨N1, rfl, rfl, hN1, hK1⟩ := hcut
  have lN1 : N1 < wc.heap.size := (Array.getElem?_eq_some_iff.1 hN1).1
  have HD14 := Lib.hid (HD13.out.trans (hK1.mono lw13))
  have lw14 : w.heap.size ≤ wc.heap.size := Nat.le_trans lw13 hK1.size
  have Hb2_14 := Lib.hid ((hK1.block _ lb2_13).trans Hb2_13.out)
  have lb2_14 : w.heap.size < wc.heap.size := Nat.lt_of_lt_of_le lb2_13 hK1.size
  have Hb3_14 := Lib.hid ((hK1.block _ lb3_13).trans Hb3_13.out)
  have lb3_14 : w.heap.size + 1 < wc.heap.size := Nat.lt_of_lt_of_le lb3_13 hK1.size
  have Hb5_14 := Lib.hid ((hK1.block _ lb5_13).trans Hb5_13.out)
  have lb5_14 : BB2 < wc.heap.size := Nat.lt_of_lt_of_le lb5_13 hK1.size
  have Hb7_14 := Lib.hid ((hK1.block _ lb7_13).trans Hb7_13.out)
  have lb7_14 : BB4 < wc.heap.size := Nat.lt_of_lt_of_le lb7_13 hK1.size
  have Hb9_14 := Lib.hid ((hK1.block _ lb9_13).trans Hb9_13.out)
  have lb9_14 : SA < wc.heap.size := Nat.lt_of_lt_of_le lb9_13 hK1.size
  have Hb40_14 := Lib.hid ((hK1.block _ lb40_13).trans Hb40_13.out)
  have lb40_14 : SB < wc.heap.size := Nat.lt_of_lt_of_le lb40_13 hK1.size
  have Hb12_14 := Lib.hid hN1
  have lb12_14 := lN1
  clear hN1 lN1 hK1 HD13 lw13 Hb2_13 lb2_13 Hb3_13 lb3_13 Hb5_13 lb5_13 Hb7_13 lb7_13 Hb9_13 lb9_13 Hb40_13 lb40_13
  obtain ⟨C1, hC⟩ : ∃ z, z = wc := ⟨wc, rfl⟩
  subst hC
  obtain ⟨c1_0, c1_1, c1_2, c1_3, ce1, hc_⟩ := OutR_form4 (onR2 subR ⟨⟨x1, x2⟩, ⟨x3, x4⟩⟩ ⟨⟨y1, y2⟩, ⟨y3, y4⟩⟩)
  have HC1 := Lib.hid hc_
  clear hc_
  obtain ⟨ol1, oh1, pl1, ph1, oe1, HO1⟩ := bnd_ex ⟨⟨z1_1, z1_2, z1_3, z1_4⟩, z1_5⟩ 30
  obtain ⟨d1_0, d1_1, d1_2, d1_3, de1, hd_⟩ := OutR_form4 (numO oe1 ⟨ol1, oh1⟩ ⟨pl1, ph1⟩)
  have HE1 := Lib.hid hd_
  clear hd_
  go_upto_region 10 with fail
  refine wp_region_lit ?_
  refine wpList_step (fun K hK => ?_); go_simp; refine hK _ _ ?_; clear hK K
  refine wpList_load_mid rfl 25 (.tmp 5) rfl (BB2) 0 rfl [.int .i64 x1, .int .i64 x2, .int .i64 x3, .int .i64 x4] _ (range_row Hb5_14.out 0 [.int .i64 x1, .int .i64 x2, .int .i64 x3, .int .i64 x4] (fun j hj => by simp only [Nat.zero_add, List.getElem?_toArray])) Try.underlying25 rfl (by kernel_rfl) ?_
  refine wpList_load_mid rfl 25 (.tmp 7) rfl (BB4) 0 rfl [.int .i64 y1, .int .i64 y2, .int .i64 y3, .int .i64 y4] _ (range_row Hb7_14.out 0 [.int .i64 y1, .int .i64 y2, .int .i64 y3, .int .i64 y4] (fun j hj => by simp only [Nat.zero_add, List.getElem?_toArray])) Try.underlying25 rfl (by kernel_rfl) ?_
  refine wpList_step (fun K hK => ?_)
  go_simp
  refine (eSub_any x1 x2 x3 x4 y1 y2 y3 y4 _).mono ?_
  rw [HC1.out]
  rintro e u15_ ⟨rfl, hb⟩
  have HD15 := Lib.hid (HD14.out.trans (hb.mono lw14))
  have lw15 : w.heap.size ≤ u15_.heap.size := Nat.le_trans lw14 hb.size
  have Hb2_15 := Lib.hid ((hb.block _ lb2_14).trans Hb2_14.out)
  have lb2_15 : w.heap.size < u15_.heap.size := Nat.lt_of_lt_of_le lb2_14 hb.size
  have Hb3_15 := Lib.hid ((hb.block _ lb3_14).trans Hb3_14.out)
  have lb3_15 : w.heap.size + 1 < u15_.heap.size := Nat.lt_of_lt_of_le lb3_14 hb.size
  have Hb5_15 := Lib.hid ((hb.block _ lb5_14).trans Hb5_14.out)
  have lb5_15 : BB2 < u15_.heap.size := Nat.lt_of_lt_of_le lb5_14 hb.size
  have Hb7_15 := Lib.hid ((hb.block _ lb7_14).trans Hb7_14.out)
  have lb7_15 : BB4 < u15_.heap.size := Nat.lt_of_lt_of_le lb7_14 hb.size
  have Hb9_15 := Lib.hid ((hb.block _ lb9_14).trans Hb9_14.out)
  have lb9_15 : SA < u15_.heap.size := Nat.lt_of_lt_of_le lb9_14 hb.size
  have Hb40_15 := Lib.hid ((hb.block _ lb40_14).trans Hb40_14.out)
  have lb40_15 : SB < u15_.heap.size := Nat.lt_of_lt_of_le lb40_14 hb.size
  have Hb12_15 := Lib.hid ((hb.block _ lb12_14).trans Hb12_14.out)
  have lb12_15 : N1 < u15_.heap.size := Nat.lt_of_lt_of_le lb12_14 hb.size
  clear hb HD14 lw14 Hb2_14 lb2_14 Hb3_14 lb3_14 Hb5_14 lb5_14 Hb7_14 lb7_14 Hb9_14 lb9_14 Hb40_14 lb40_14 Hb12_14 lb12_14
  refine hK _ _ ?_
  clear hK K
  refine wpList_step (fun K hK => ?_); go_simp; refine hK _ _ ?_; clear hK K
  refine wpList_step (fun K hK => ?_); go_simp; refine hK _ _ ?_; clear hK K
  refine wpList_step (fun K hK => ?_); go_simp; refine hK _ _ ?_; clear hK K
  refine wpList_step (fun K hK => ?_); go_simp; refine hK _ _ ?_; clear hK K
  have HTH := Lib.hid (there_mid (heap_alloc_new u15_ (.cells #[.int .i64 0, .int .i64 0, .int .i64 0, .int .i64 0] 25)) 0 4 (show 0 + 4 ≤ 4 by decide))
  refine wpList_store_mid rfl 25 (.tmp 14) (.tmp 62) rfl u15_.heap.size 0 #[.int .i64 (c1_0), .int .i64 (c1_1), .int .i64 (c1_2), .int .i64 (c1_3)] rfl rfl HTH.out (by kernel_rfl) (by simp [Value.oneCell']) ?_
  (try rw [show (#[.int .i64 (c1_0), .int .i64 (c1_1), .int .i64 (c1_2), .int .i64 (c1_3)] : Array Value).toList = [.int .i64 (c1_0), .int .i64 (c1_1), .int .i64 (c1_2), .int .i64 (c1_3)] from rfl])
  have hba : Below u15_.heap.size u15_ (u15_.alloc (.cells #[.int .i64 0, .int .i64 0, .int .i64 0, .int .i64 0] 25)) := bal (Below.refl _ _) _
  have hb : Below u15_.heap.size u15_ ((u15_.alloc (.cells #[.int .i64 0, .int .i64 0, .int .i64 0, .int .i64 0] 25)).setCells u15_.heap.size 0 [.int .i64 (c1_0), .int .i64 (c1_1), .int .i64 (c1_2), .int .i64 (c1_3)]) := below_mids (Nat.le_refl _) _ _ hba
  have hnb : ((u15_.alloc (.cells #[.int .i64 0, .int .i64 0, .int .i64 0, .int .i64 0] 25)).setCells u15_.heap.size 0 [.int .i64 (c1_0), .int .i64 (c1_1), .int .i64 (c1_2), .int .i64 (c1_3)]).heap[u15_.heap.size]? = some (.cells #[.int .i64 (c1_0), .int .i64 (c1_1), .int .i64 (c1_2), .int .i64 (c1_3)] 25 (0, 0)) := block_whole [.int .i64 (c1_0), .int .i64 (c1_1), .int .i64 (c1_2), .int .i64 (c1_3)] (heap_alloc_new u15_ (.cells #[.int .i64 0, .int .i64 0, .int .i64 0, .int .i64 0] 25)) rfl
  have hlb : u15_.heap.size < ((u15_.alloc (.cells #[.int .i64 0, .int .i64 0, .int .i64 0, .int .i64 0] 25)).setCells u15_.heap.size 0 [.int .i64 (c1_0), .int .i64 (c1_1), .int .i64 (c1_2), .int .i64 (c1_3)]).heap.size := (Array.getElem?_eq_some_iff.1 hnb).1
  have HD16 := Lib.hid (HD15.out.trans (hb.mono lw15))
  have lw16 : w.heap.size ≤ ((u15_.alloc (.cells #[.int .i64 0, .int .i64 0, .int .i64 0, .int .i64 0] 25)).setCells u15_.heap.size 0 [.int .i64 (c1_0), .int .i64 (c1_1), .int .i64 (c1_2), .int .i64 (c1_3)]).heap.size := Nat.le_trans lw15 hb.size
  have Hb2_16 := Lib.hid ((hb.block _ lb2_15).trans Hb2_15.out)
  have lb2_16 : w.heap.size < ((u15_.alloc (.cells #[.int .i64 0, .int .i64 0, .int .i64 0, .int .i64 0] 25)).setCells u15_.heap.size 0 [.int .i64 (c1_0), .int .i64 (c1_1), .int .i64 (c1_2), .int .i64 (c1_3)]).heap.size := Nat.lt_of_lt_of_le lb2_15 hb.size
  have Hb3_16 := Lib.hid ((hb.block _ lb3_15).trans Hb3_15.out)
  have lb3_16 : w.heap.size + 1 < ((u15_.alloc (.cells #[.int .i64 0, .int .i64 0, .int .i64 0, .int .i64 0] 25)).setCells u15_.heap.size 0 [.int .i64 (c1_0), .int .i64 (c1_1), .int .i64 (c1_2), .int .i64 (c1_3)]).heap.size := Nat.lt_of_lt_of_le lb3_15 hb.size
  have Hb5_16 := Lib.hid ((hb.block _ lb5_15).trans Hb5_15.out)
  have lb5_16 : BB2 < ((u15_.alloc (.cells #[.int .i64 0, .int .i64 0, .int .i64 0, .int .i64 0] 25)).setCells u15_.heap.size 0 [.int .i64 (c1_0), .int .i64 (c1_1), .int .i64 (c1_2), .int .i64 (c1_3)]).heap.size := Nat.lt_of_lt_of_le lb5_15 hb.size
  have Hb7_16 := Lib.hid ((hb.block _ lb7_15).trans Hb7_15.out)
  have lb7_16 : BB4 < ((u15_.alloc (.cells #[.int .i64 0, .int .i64 0, .int .i64 0, .int .i64 0] 25)).setCells u15_.heap.size 0 [.int .i64 (c1_0), .int .i64 (c1_1), .int .i64 (c1_2), .int .i64 (c1_3)]).heap.size := Nat.lt_of_lt_of_le lb7_15 hb.size
  have Hb9_16 := Lib.hid ((hb.block _ lb9_15).trans Hb9_15.out)
  have lb9_16 : SA < ((u15_.alloc (.cells #[.int .i64 0, .int .i64 0, .int .i64 0, .int .i64 0] 25)).setCells u15_.heap.size 0 [.int .i64 (c1_0), .int .i64 (c1_1), .int .i64 (c1_2), .int .i64 (c1_3)]).heap.size := Nat.lt_of_lt_of_le lb9_15 hb.size
  have Hb40_16 := Lib.hid ((hb.block _ lb40_15).trans Hb40_15.out)
  have lb40_16 : SB < ((u15_.alloc (.cells #[.int .i64 0, .int .i64 0, .int .i64 0, .int .i64 0] 25)).setCells u15_.heap.size 0 [.int .i64 (c1_0), .int .i64 (c1_1), .int .i64 (c1_2), .int .i64 (c1_3)]).heap.size := Nat.lt_of_lt_of_le lb40_15 hb.size
  have Hb12_16 := Lib.hid ((hb.block _ lb12_15).trans Hb12_15.out)
  have lb12_16 : N1 < ((u15_.alloc (.cells #[.int .i64 0, .int .i64 0, .int .i64 0, .int .i64 0] 25)).setCells u15_.heap.size 0 [.int .i64 (c1_0), .int .i64 (c1_1), .int .i64 (c1_2), .int .i64 (c1_3)]).heap.size := Nat.lt_of_lt_of_le lb12_15 hb.size
  have Hb14_16 := Lib.hid hnb
  have lb14_16 := hlb
  clear hb hba hnb hlb HTH HD15 lw15 Hb2_15 lb2_15 Hb3_15 lb3_15 Hb5_15 lb5_15 Hb7_15 lb7_15 Hb9_15 lb9_15 Hb40_15 lb40_15 Hb12_15 lb12_15
  generalize ((u15_.alloc (.cells #[.int .i64 0, .int .i64 0, .int .i64 0, .int .i64 0] 25)).setCells u15_.heap.size 0 [.int .i64 (c1_0), .int .i64 (c1_1), .int .i64 (c1_2), .int .i64 (c1_3)]) = U16 at *
  generalize u15_.heap.size = BB16 at *
  refine wpList_step (fun K hK => ?_); go_simp; refine hK _ _ ?_; clear hK K
  refine wpList_nil ?_
  go_upto_region 11 with fail
  refine wp_region_lit ?_
  refine wpList_load_mid rfl 69 (.tmp 12) rfl (N1) 0 rfl [.int .i64 (z1_1), .int .i64 (z1_2), .int .i64 (z1_3), .int .i64 (z1_4), .int .i64 (z1_5)] _ (range_row Hb12_16.out 0 [.int .i64 (z1_1), .int .i64 (z1_2), .int .i64 (z1_3), .int .i64 (z1_4), .int .i64 (z1_5)] (fun j hj => by simp only [Nat.zero_add, List.getElem?_toArray])) Try.underlying69 rfl (by kernel_rfl) ?_
  refine wpList_step (fun K hK => ?_)
  go_simp
  refine (eFromNum_any z1_1 z1_2 z1_3 z1_4 z1_5 ol1 oh1 pl1 ph1 oe1 _ HO1).mono ?_
  rw [HE1.out]
  rintro e u17_ ⟨rfl, hb⟩
  have HD17 := Lib.hid (HD16.out.trans (hb.mono lw16))
  have lw17 : w.heap.size ≤ u17_.heap.size := Nat.le_trans lw16 hb.size
  have Hb2_17 := Lib.hid ((hb.block _ lb2_16).trans Hb2_16.out)
  have lb2_17 : w.heap.size < u17_.heap.size := Nat.lt_of_lt_of_le lb2_16 hb.size
  have Hb3_17 := Lib.hid ((hb.block _ lb3_16).trans Hb3_16.out)
  have lb3_17 : w.heap.size + 1 < u17_.heap.size := Nat.lt_of_lt_of_le lb3_16 hb.size
  have Hb5_17 := Lib.hid ((hb.block _ lb5_16).trans Hb5_16.out)
  have lb5_17 : BB2 < u17_.heap.size := Nat.lt_of_lt_of_le lb5_16 hb.size
  have Hb7_17 := Lib.hid ((hb.block _ lb7_16).trans Hb7_16.out)
  have lb7_17 : BB4 < u17_.heap.size := Nat.lt_of_lt_of_le lb7_16 hb.size
  have Hb9_17 := Lib.hid ((hb.block _ lb9_16).trans Hb9_16.out)
  have lb9_17 : SA < u17_.heap.size := Nat.lt_of_lt_of_le lb9_16 hb.size
  have Hb40_17 := Lib.hid ((hb.block _ lb40_16).trans Hb40_16.out)
  have lb40_17 : SB < u17_.heap.size := Nat.lt_of_lt_of_le lb40_16 hb.size
  have Hb12_17 := Lib.hid ((hb.block _ lb12_16).trans Hb12_16.out)
  have lb12_17 : N1 < u17_.heap.size := Nat.lt_of_lt_of_le lb12_16 hb.size
  have Hb14_17 := Lib.hid ((hb.block _ lb14_16).trans Hb14_16.out)
  have lb14_17 : BB16 < u17_.heap.size := Nat.lt_of_lt_of_le lb14_16 hb.size
  clear hb HD16 lw16 Hb2_16 lb2_16 Hb3_16 lb3_16 Hb5_16 lb5_16 Hb7_16 lb7_16 Hb9_16 lb9_16 Hb40_16 lb40_16 Hb12_16 lb12_16 Hb14_16 lb14_16
  refine hK _ _ ?_
  clear hK K
  refine wpList_step (fun K hK => ?_); go_simp; refine hK _ _ ?_; clear hK K
  refine wpList_step (fun K hK => ?_); go_simp; refine hK _ _ ?_; clear hK K
  refine wpList_step (fun K hK => ?_); go_simp; refine hK _ _ ?_; clear hK K
  refine wpList_step (fun K hK => ?_); go_simp; refine hK _ _ ?_; clear hK K
  have HTH := Lib.hid (there_mid (heap_alloc_new u17_ (.cells #[.int .i64 0, .int .i64 0, .int .i64 0, .int .i64 0] 25)) 0 4 (show 0 + 4 ≤ 4 by decide))
  refine wpList_store_mid rfl 25 (.tmp 16) (.tmp 67) rfl u17_.heap.size 0 #[.int .i64 (d1_0), .int .i64 (d1_1), .int .i64 (d1_2), .int .i64 (d1_3)] rfl rfl HTH.out (by kernel_rfl) (by simp [Value.oneCell']) ?_
  (try rw [show (#[.int .i64 (d1_0), .int .i64 (d1_1), .int .i64 (d1_2), .int .i64 (d1_3)] : Array Value).toList = [.int .i64 (d1_0), .int .i64 (d1_1), .int .i64 (d1_2), .int .i64 (d1_3)] from rfl])
  have hba : Below u17_.heap.size u17_ (u17_.alloc (.cells #[.int .i64 0, .int .i64 0, .int .i64 0, .int .i64 0] 25)) := bal (Below.refl _ _) _
  have hb : Below u17_.heap.size u17_ ((u17_.alloc (.cells #[.int .i64 0, .int .i64 0, .int .i64 0, .int .i64 0] 25)).setCells u17_.heap.size 0 [.int .i64 (d1_0), .int .i64 (d1_1), .int .i64 (d1_2), .int .i64 (d1_3)]) := below_mids (Nat.le_refl _) _ _ hba
  have hnb : ((u17_.alloc (.cells #[.int .i64 0, .int .i64 0, .int .i64 0, .int .i64 0] 25)).setCells u17_.heap.size 0 [.int .i64 (d1_0), .int .i64 (d1_1), .int .i64 (d1_2), .int .i64 (d1_3)]).heap[u17_.heap.size]? = some (.cells #[.int .i64 (d1_0), .int .i64 (d1_1), .int .i64 (d1_2), .int .i64 (d1_3)] 25 (0, 0)) := block_whole [.int .i64 (d1_0), .int .i64 (d1_1), .int .i64 (d1_2), .int .i64 (d1_3)] (heap_alloc_new u17_ (.cells #[.int .i64 0, .int .i64 0, .int .i64 0, .int .i64 0] 25)) rfl
  have hlb : u17_.heap.size < ((u17_.alloc (.cells #[.int .i64 0, .int .i64 0, .int .i64 0, .int .i64 0] 25)).setCells u17_.heap.size 0 [.int .i64 (d1_0), .int .i64 (d1_1), .int .i64 (d1_2), .int .i64 (d1_3)]).heap.size := (Array.getElem?_eq_some_iff.1 hnb).1
  have HD18 := Lib.hid (HD17.out.trans (hb.mono lw17))
  have lw18 : w.heap.size ≤ ((u17_.alloc (.cells #[.int .i64 0, .int .i64 0, .int .i64 0, .int .i64 0] 25)).setCells u17_.heap.size 0 [.int .i64 (d1_0), .int .i64 (d1_1), .int .i64 (d1_2), .int .i64 (d1_3)]).heap.size := Nat.le_trans lw17 hb.size
  have Hb2_18 := Lib.hid ((hb.block _ lb2_17).trans Hb2_17.out)
  have lb2_18 : w.heap.size < ((u17_.alloc (.cells #[.int .i64 0, .int .i64 0, .int .i64 0, .int .i64 0] 25)).setCells u17_.heap.size 0 [.int .i64 (d1_0), .int .i64 (d1_1), .int .i64 (d1_2), .int .i64 (d1_3)]).heap.size := Nat.lt_of_lt_of_le lb2_17 hb.size
  have Hb3_18 := Lib.hid ((hb.block _ lb3_17).trans Hb3_17.out)
  have lb3_18 : w.heap.size + 1 < ((u17_.alloc (.cells #[.int .i64 0, .int .i64 0, .int .i64 0, .int .i64 0] 25)).setCells u17_.heap.size 0 [.int .i64 (d1_0), .int .i64 (d1_1), .int .i64 (d1_2), .int .i64 (d1_3)]).heap.size := Nat.lt_of_lt_of_le lb3_17 hb.size
  have Hb5_18 := Lib.hid ((hb.block _ lb5_17).trans Hb5_17.out)
  have lb5_18 : BB2 < ((u17_.alloc (.cells #[.int .i64 0, .int .i64 0, .int .i64 0, .int .i64 0] 25)).setCells u17_.heap.size 0 [.int .i64 (d1_0), .int .i64 (d1_1), .int .i64 (d1_2), .int .i64 (d1_3)]).heap.size := Nat.lt_of_lt_of_le lb5_17 hb.size
  have Hb7_18 := Lib.hid ((hb.block _ lb7_17).trans Hb7_17.out)
  have lb7_18 : BB4 < ((u17_.alloc (.cells #[.int .i64 0, .int .i64 0, .int .i64 0, .int .i64 0] 25)).setCells u17_.heap.size 0 [.int .i64 (d1_0), .int .i64 (d1_1), .int .i64 (d1_2), .int .i64 (d1_3)]).heap.size := Nat.lt_of_lt_of_le lb7_17 hb.size
  have Hb9_18 := Lib.hid ((hb.block _ lb9_17).trans Hb9_17.out)
  have lb9_18 : SA < ((u17_.alloc (.cells #[.int .i64 0, .int .i64 0, .int .i64 0, .int .i64 0] 25)).setCells u17_.heap.size 0 [.int .i64 (d1_0), .int .i64 (d1_1), .int .i64 (d1_2), .int .i64 (d1_3)]).heap.size := Nat.lt_of_lt_of_le lb9_17 hb.size
  have Hb40_18 := Lib.hid ((hb.block _ lb40_17).trans Hb40_17.out)
  have lb40_18 : SB < ((u17_.alloc (.cells #[.int .i64 0, .int .i64 0, .int .i64 0, .int .i64 0] 25)).setCells u17_.heap.size 0 [.int .i64 (d1_0), .int .i64 (d1_1), .int .i64 (d1_2), .int .i64 (d1_3)]).heap.size := Nat.lt_of_lt_of_le lb40_17 hb.size
  have Hb12_18 := Lib.hid ((hb.block _ lb12_17).trans Hb12_17.out)
  have lb12_18 : N1 < ((u17_.alloc (.cells #[.int .i64 0, .int .i64 0, .int .i64 0, .int .i64 0] 25)).setCells u17_.heap.size 0 [.int .i64 (d1_0), .int .i64 (d1_1), .int .i64 (d1_2), .int .i64 (d1_3)]).heap.size := Nat.lt_of_lt_of_le lb12_17 hb.size
  have Hb14_18 := Lib.hid ((hb.block _ lb14_17).trans Hb14_17.out)
  have lb14_18 : BB16 < ((u17_.alloc (.cells #[.int .i64 0, .int .i64 0, .int .i64 0, .int .i64 0] 25)).setCells u17_.heap.size 0 [.int .i64 (d1_0), .int .i64 (d1_1), .int .i64 (d1_2), .int .i64 (d1_3)]).heap.size := Nat.lt_of_lt_of_le lb14_17 hb.size
  have Hb16_18 := Lib.hid hnb
  have lb16_18 := hlb
  clear hb hba hnb hlb HTH HD17 lw17 Hb2_17 lb2_17 Hb3_17 lb3_17 Hb5_17 lb5_17 Hb7_17 lb7_17 Hb9_17 lb9_17 Hb40_17 lb40_17 Hb12_17 lb12_17 Hb14_17 lb14_17
  generalize ((u17_.alloc (.cells #[.int .i64 0, .int .i64 0, .int .i64 0, .int .i64 0] 25)).setCells u17_.heap.size 0 [.int .i64 (d1_0), .int .i64 (d1_1), .int .i64 (d1_2), .int .i64 (d1_3)]) = U18 at *
  generalize u17_.heap.size = BB18 at *
  refine wpList_step (fun K hK => ?_); go_simp; refine hK _ _ ?_; clear hK K
  refine wpList_nil ?_
  go_upto_region 12 with fail
  go_cut [84] (fun v wx => v = .bool false ∧ Below U18.heap.size U18 wx)
  case first =>
    by_cases h1 : ze1 = 0
    case neg =>
      have hb1 : (ze1 == 0) = false := beq_eq_false_iff_ne.2 h1
      clear h1
      refine wp_region_lit ?_
      refine wpList_step (fun K hK => ?_); go_simp; refine hK _ _ ?_; clear hK K
      refine wpList_step (fun K hK => ?_); go_simp; refine hK _ _ ?_; clear hK K
      refine wpList_step (fun K hK => ?_); go_simp; refine hK _ _ ?_; clear hK K
      refine wpList_skip (by rfl) ?_
      refine wpList_skip (by rfl) ?_
      refine wpList_step (fun K hK => ?_); go_simp; refine hK _ _ ?_; clear hK K
      refine wpList_step (fun K hK => ?_); go_simp; refine hK _ _ ?_; clear hK K
      refine wpList_skip (by rfl) ?_
      refine wpList_skip (by rfl) ?_
      refine wpList_step (fun K hK => ?_); go_simp; refine hK _ _ ?_; clear hK K
      refine wpList_step (fun K hK => ?_); go_simp; refine hK _ _ ?_; clear hK K
      refine wpList_skip (by rfl) ?_
      refine wpList_skip (by rfl) ?_
      refine wpList_skip (by rfl) ?_
      refine wpList_skip (by rfl) ?_
      refine wpList_step (fun K hK => ?_); go_simp; refine hK _ _ ?_; clear hK K
      refine wpList_nil ?_
      go_wp2_with fail
      go_meet
      exact ⟨rfl, Below.refl _ _⟩
    subst h1
    by_cases h2 : ce1 = 0
    case neg =>
      have hb1 : (ce1 == 0) = false := beq_eq_false_iff_ne.2 h2
      clear h2
      refine wp_region_lit ?_
      refine wpList_step (fun K hK => ?_); go_simp; refine hK _ _ ?_; clear hK K
      refine wpList_step (fun K hK => ?_); go_simp; refine hK _ _ ?_; clear hK K
      refine wpList_step (fun K hK => ?_); go_simp; refine hK _ _ ?_; clear hK K
      refine wpList_step (fun K hK => ?_); go_simp; refine hK _ _ ?_; clear hK K
      refine wpList_step (fun K hK => ?_); go_simp; refine hK _ _ ?_; clear hK K
      refine wpList_step (fun K hK => ?_); go_simp; refine hK _ _ ?_; clear hK K
      refine wpList_step (fun K hK => ?_); go_simp; refine hK _ _ ?_; clear hK K
      refine wpList_skip (by rfl) ?_
      refine wpList_skip (by rfl) ?_
      refine wpList_step (fun K hK => ?_); go_simp; refine hK _ _ ?_; clear hK K
      refine wpList_step (fun K hK => ?_); go_simp; refine hK _ _ ?_; clear hK K
      refine wpList_skip (by rfl) ?_
      refine wpList_skip (by rfl) ?_
      refine wpList_skip (by rfl) ?_
      refine wpList_skip (by rfl) ?_
      refine wpList_step (fun K hK => ?_); go_simp; refine hK _ _ ?_; clear hK K
      refine wpList_nil ?_
      go_wp2_with fail
      go_meet
      exact ⟨rfl, Below.refl _ _⟩
    subst h2
    by_cases h3 : de1 = 0
    case neg =>
      have hb1 : (de1 == 0) = false := beq_eq_false_iff_ne.2 h3
      clear h3
      refine wp_region_lit ?_
      refine wpList_step (fun K hK => ?_); go_simp; refine hK _ _ ?_; clear hK K
      refine wpList_step (fun K hK => ?_); go_simp; refine hK _ _ ?_; clear hK K
      refine wpList_step (fun K hK => ?_); go_simp; refine hK _ _ ?_; clear hK K
      refine wpList_step (fun K hK => ?_); go_simp; refine hK _ _ ?_; clear hK K
      refine wpList_step (fun K hK => ?_); go_simp; refine hK _ _ ?_; clear hK K
      refine wpList_step (fun K hK => ?_); go_simp; refine hK _ _ ?_; clear hK K
      refine wpList_step (fun K hK => ?_); go_simp; refine hK _ _ ?_; clear hK K
      refine wpList_step (fun K hK => ?_); go_simp; refine hK _ _ ?_; clear hK K
      refine wpList_step (fun K hK => ?_); go_simp; refine hK _ _ ?_; clear hK K
      refine wpList_step (fun K hK => ?_); go_simp; refine hK _ _ ?_; clear hK K
      refine wpList_step (fun K hK => ?_); go_simp; refine hK _ _ ?_; clear hK K
      refine wpList_skip (by rfl) ?_
      refine wpList_skip (by rfl) ?_
      refine wpList_skip (by rfl) ?_
      refine wpList_skip (by rfl) ?_
      refine wpList_step (fun K hK => ?_); go_simp; refine hK _ _ ?_; clear hK K
      refine wpList_nil ?_
      go_wp2_with fail
      go_meet
      exact ⟨rfl, Below.refl _ _⟩
    subst h3
    refine wp_region_lit ?_
    refine wpList_step (fun K hK => ?_); go_simp; refine hK _ _ ?_; clear hK K
    refine wpList_step (fun K hK => ?_); go_simp; refine hK _ _ ?_; clear hK K
    refine wpList_step (fun K hK => ?_); go_simp; refine hK _ _ ?_; clear hK K
    refine wpList_step (fun K hK => ?_); go_simp; refine hK _ _ ?_; clear hK K
    refine wpList_step (fun K hK => ?_); go_simp; refine hK _ _ ?_; clear hK K
    refine wpList_step (fun K hK => ?_); go_simp; refine hK _ _ ?_; clear hK K
    refine wpList_step (fun K hK => ?_); go_simp; refine hK _ _ ?_; clear hK K
    refine wpList_step (fun K hK => ?_); go_simp; refine hK _ _ ?_; clear hK K
    refine wpList_step (fun K hK => ?_); go_simp; refine hK _ _ ?_; clear hK K
    refine wpList_step (fun K hK => ?_); go_simp; refine hK _ _ ?_; clear hK K
    refine wpList_step (fun K hK => ?_); go_simp; refine hK _ _ ?_; clear hK K
    refine wpList_step (fun K hK => ?_)
    rw [if_pos (show Region.wanted _ _ = true from rfl)]
    refine wp_load_mid 25 (.tmp 16) rfl (BB18) 0 rfl [.int .i64 (d1_0), .int .i64 (d1_1), .int .i64 (d1_2), .int .i64 (d1_3)] _ (range_row Hb16_18.out 0 [.int .i64 (d1_0), .int .i64 (d1_1), .int .i64 (d1_2), .int .i64 (d1_3)] (fun j hj => by simp only [Nat.zero_add, List.getElem?_toArray])) Try.underlying25 rfl (by kernel_rfl) ?_
    refine hK _ _ ?_
    clear hK K
    refine wpList_step (fun K hK => ?_)
    rw [if_pos (show Region.wanted _ _ = true from rfl)]
    refine wp_load_mid 25 (.tmp 14) rfl (BB16) 0 rfl [.int .i64 (c1_0), .int .i64 (c1_1), .int .i64 (c1_2), .int .i64 (c1_3)] _ (range_row Hb14_18.out 0 [.int .i64 (c1_0), .int .i64 (c1_1), .int .i64 (c1_2), .int .i64 (c1_3)] (fun j hj => by simp only [Nat.zero_add, List.getElem?_toArray])) Try.underlying25 rfl (by kernel_rfl) ?_
    refine hK _ _ ?_
    clear hK K
    refine wpList_step (fun K hK => ?_)
    go_simp
    refine (inL_any d1_0 d1_1 d1_2 d1_3 c1_0  c1_1  c1_2  c1_3 _).mono ?_
    rw [said_sub (x := ⟨⟨a, b, c, d⟩, k⟩) (y := ⟨⟨e, f, g, h⟩, l⟩) (z := ⟨⟨z1_1, z1_2, z1_3, z1_4⟩, z1_5⟩) H.out J.out HO1.out HX.out HY.out HE1.out HZ1.out HC1.out]
    rintro e_ u_ ⟨rfl, hb⟩
    refine hK _ _ ?_
    clear hK K
    refine wpList_step (fun K hK => ?_); go_simp; refine hK _ _ ?_; clear hK K
    refine wpList_step (fun K hK => ?_); go_simp; refine hK _ _ ?_; clear hK K
    refine wpList_nil ?_
    go_wp2_with fail
    go_meet
    exact ⟨rfl, hb⟩
  case rest =>
  obtain ⟨rfl, hK_⟩ := hcut
  have HD19 := Lib.hid (HD18.out.trans (hK_.mono lw18))
  have lw19 : w.heap.size ≤ wc.heap.size := Nat.le_trans lw18 hK_.size
  have Hb2_19 := Lib.hid ((hK_.block _ lb2_18).trans Hb2_18.out)
  have lb2_19 : w.heap.size < wc.heap.size := Nat.lt_of_lt_of_le lb2_18 hK_.size
  have Hb3_19 := Lib.hid ((hK_.block _ lb3_18).trans Hb3_18.out)
  have lb3_19 : w.heap.size + 1 < wc.heap.size := Nat.lt_of_lt_of_le lb3_18 hK_.size
  have Hb5_19 := Lib.hid ((hK_.block _ lb5_18).trans Hb5_18.out)
  have lb5_19 : BB2 < wc.heap.size := Nat.lt_of_lt_of_le lb5_18 hK_.size
  have Hb7_19 := Lib.hid ((hK_.block _ lb7_18).trans Hb7_18.out)
  have lb7_19 : BB4 < wc.heap.size := Nat.lt_of_lt_of_le lb7_18 hK_.size
  have Hb9_19 := Lib.hid ((hK_.block _ lb9_18).trans Hb9_18.out)
  have lb9_19 : SA < wc.heap.size := Nat.lt_of_lt_of_le lb9_18 hK_.size
  have Hb40_19 := Lib.hid ((hK_.block _ lb40_18).trans Hb40_18.out)
  have lb40_19 : SB < wc.heap.size := Nat.lt_of_lt_of_le lb40_18 hK_.size
  have Hb12_19 := Lib.hid ((hK_.block _ lb12_18).trans Hb12_18.out)
  have lb12_19 : N1 < wc.heap.size := Nat.lt_of_lt_of_le lb12_18 hK_.size
  have Hb14_19 := Lib.hid ((hK_.block _ lb14_18).trans Hb14_18.out)
  have lb14_19 : BB16 < wc.heap.size := Nat.lt_of_lt_of_le lb14_18 hK_.size
  have Hb16_19 := Lib.hid ((hK_.block _ lb16_18).trans Hb16_18.out)
  have lb16_19 : BB18 < wc.heap.size := Nat.lt_of_lt_of_le lb16_18 hK_.size
  clear hK_ HD18 lw18 Hb2_18 lb2_18 Hb3_18 lb3_18 Hb5_18 lb5_18 Hb7_18 lb7_18 Hb9_18 lb9_18 Hb40_18 lb40_18 Hb12_18 lb12_18 Hb14_18 lb14_18 Hb16_18 lb16_18
  obtain ⟨E1, hC⟩ : ∃ z, z = wc := ⟨wc, rfl⟩
  subst hC
  clear HZ1 HC1 HE1 HO1
  go_upto_region 14 with fail
  refine wp_region_lit ?_
  refine wpList_step (fun K hK => ?_); go_simp; refine hK _ _ ?_; clear hK K
  (try rw [show IntKind.i64.wrap 2 = 2 by decide])
  refine wpList_step (fun K hK => ?_); go_simp; refine hK _ _ ?_; clear hK K
  refine wpList_nil ?_
  go_wp2_with fail
  rw [rounds_succ]
  go_upto_region 8 with fail
  refine wp_region_lit ?_
  have yc : E1.cell? ⟨SB, 2, none⟩ = some (Value.func (Fn.func 31) #[] #[]) := (cell_of_row _ _ _ _ _ (0, 0) Hb40_19.out).trans rfl
  refine wpList_step (fun K hK => ?_); go_simp; refine hK _ _ ?_; clear hK K
  refine wpList_step (fun K hK => ?_); go_simp; refine hK _ _ ?_; clear hK K
  refine wpList_step (fun K hK => ?_); go_simp; refine hK _ _ ?_; clear hK K
  refine wpList_step (fun K hK => ?_); go_simp; refine hK _ _ ?_; clear hK K
  refine wpList_step (fun K hK => ?_); go_simp; refine hK _ _ ?_; clear hK K
  refine wpList_nil ?_
  clear yc
  go_upto_region 9 with fail
  obtain ⟨z2_1, z2_2, z2_3, z2_4, z2_5, ze2, HZ2⟩ := res5 (Amp.mulS ⟨⟨a, b, c, d⟩, k⟩ ⟨⟨e, f, g, h⟩, l⟩)
  go_cut [12, 13] (fun v12 v13 wx => ∃ N0 : Nat, v12 = .pointer (some ⟨N0, 0, none⟩) ∧ v13 = .int .i64 ze2 ∧ wx.heap[N0]? = some (.cells #[.int .i64 (z2_1), .int .i64 (z2_2), .int .i64 (z2_3), .int .i64 (z2_4), .int .i64 (z2_5)] 69 (0, 0)) ∧ Below E1.heap.size E1 wx)
  case first =>
    have G0 : Hid (∀ w' : World, Below E1.heap.size E1 w' → w'.heap[w.heap.size]? = some (.cells #[.int .i64 a, .int .i64 b, .int .i64 c, .int .i64 d, .int .i64 k] 69 (0, 0)) ∧ w'.heap[w.heap.size + 1]? = some (.cells #[.int .i64 e, .int .i64 f, .int .i64 g, .int .i64 h, .int .i64 l] 69 (0, 0)) ∧ w'.heap[SA]? = some (.cells #[.func (Fn.func 57) #[] #[], .func (Fn.func 58) #[] #[], .func (Fn.func 59) #[] #[]] 72 (0, 0))) := Lib.hid (fun w' hb => ⟨(hb.block _ lb2_19).trans Hb2_19.out, (hb.block _ lb3_19).trans Hb3_19.out, (hb.block _ lb9_19).trans Hb9_19.out⟩)
    have HQ0 : Below E1.heap.size E1 E1.drew := (Below.refl _ _).drew
    refine wp_region_held_drew (S := fun w' => w'.heap[w.heap.size]? = some (.cells #[.int .i64 a, .int .i64 b, .int .i64 c, .int .i64 d, .int .i64 k] 69 (0, 0)) ∧ w'.heap[w.heap.size + 1]? = some (.cells #[.int .i64 e, .int .i64 f, .int .i64 g, .int .i64 h, .int .i64 l] 69 (0, 0)) ∧ w'.heap[SA]? = some (.cells #[.func (Fn.func 57) #[] #[], .func (Fn.func 58) #[] #[], .func (Fn.func 59) #[] #[]] 72 (0, 0))) (by kernel_rfl) (G0.out _ HQ0) (fun hHeld => ?_)
    refine wpAnyH_take (i := 0) (oi := _) (v := ?_) rfl (by kernel_rfl) (by kernel_rfl) (by kernel_rfl) (fun _ _ _ h => h) (Or.inl ⟨by rfl, ?_⟩) (by assumption) ?_
    rotate_left
    · intro w _; go_simp; (try with_reducible rfl)
    try change wpAnyH _ _ _ _ _ _ _ (Act.put _ (some 48) _) _
    try simp only [act_all]
    refine wpAnyH_take (i := 1) (oi := _) (v := ?_) rfl (by kernel_rfl) (by kernel_rfl) (by kernel_rfl) (fun _ _ _ h => h) (Or.inl ⟨by rfl, ?_⟩) (by assumption) ?_
    rotate_left
    · intro w _; go_simp; (try with_reducible rfl)
    try change wpAnyH _ _ _ _ _ _ _ (Act.put _ (some 49) _) _
    try simp only [act_all]
    refine wpAnyH_take (i := 2) (oi := _) (v := ?_) rfl (by kernel_rfl) (by kernel_rfl) (by kernel_rfl) (fun _ _ _ h => h) (Or.inl ⟨by rfl, ?_⟩) (by assumption) ?_
    rotate_left
    · intro w _; go_simp; (try with_reducible rfl)
    try change wpAnyH _ _ _ _ _ _ _ (Act.put _ (some 50) _) _
    try simp only [act_all]
    refine wpAnyH_take (i := 3) (oi := _) (v := ?_) rfl (by kernel_rfl) (by kernel_rfl) (by kernel_rfl) (fun _ _ _ h => h) (Or.inl ⟨by rfl, ?_⟩) (by assumption) ?_
    rotate_left
    · intro w hSw; have yc : w.cell? ⟨SA, 2, none⟩ = some (Value.func (Fn.func 59) #[] #[]) := (cell_of_row _ _ _ _ _ (0, 0) hSw.2.2).trans rfl; clear hSw; go_simp; (try with_reducible rfl)
    try change wpAnyH _ _ _ _ _ _ _ (Act.put _ (some 51) _) _
    try simp only [act_all]
    refine wpAnyH_take (i := 4) (oi := _) (v := _) rfl (by kernel_rfl) (by kernel_rfl) (by kernel_rfl) (fun _ _ _ h => h) (yieldsIf_load_mid (by rfl) 69 _ rfl (w.heap.size) 0 rfl [.int .i64 a, .int .i64 b, .int .i64 c, .int .i64 d, .int .i64 k] _ (fun w' hh => range_row hh.1 0 [.int .i64 a, .int .i64 b, .int .i64 c, .int .i64 d, .int .i64 k] (fun j hj => by simp only [Nat.zero_add, List.getElem?_toArray])) Try.underlying69 rfl (by kernel_rfl)) (by assumption) ?_
    try change wpAnyH _ _ _ _ _ _ _ (Act.put _ (some 52) _) _
    try simp only [act_all]
    refine wpAnyH_take (i := 5) (oi := _) (v := _) rfl (by kernel_rfl) (by kernel_rfl) (by kernel_rfl) (fun _ _ _ h => h) (yieldsIf_load_mid (by rfl) 69 _ rfl (w.heap.size + 1) 0 rfl [.int .i64 e, .int .i64 f, .int .i64 g, .int .i64 h, .int .i64 l] _ (fun w' hh => range_row hh.2.1 0 [.int .i64 e, .int .i64 f, .int .i64 g, .int .i64 h, .int .i64 l] (fun j hj => by simp only [Nat.zero_add, List.getElem?_toArray])) Try.underlying69 rfl (by kernel_rfl)) (by assumption) ?_
    try change wpAnyH _ _ _ _ _ _ _ (Act.put _ (some 53) _) _
    try simp only [act_all]
    refine wpAnyH_ready (rs := [6, 10]) (by kernel_rfl) (by simp) ?_
    refine AllReadyH.cons (o := _) rfl (fun K hK => ?_) ?_
    ·
      go_simp
      refine (Mul_any a b c d k e f g h l _).mono ?_
      rw [HZ2.out]
      rintro e_ t1 ⟨rfl, hb⟩
      have HQ2_1 : Below E1.heap.size E1 t1 := HQ0.trans (hb.mono HQ0.size)
      clear hb hHeld
      unfold Ret5
      (try simp only)
      refine hK.out _ _ (G0.out _ HQ2_1) (fun hHeld => ?_)
      clear hK K
      try simp only [act_all]
      refine wpAnyH_take (i := 7) (oi := _) (v := ?_) rfl (by kernel_rfl) (by kernel_rfl) (by kernel_rfl) (fun _ _ _ h => h) (Or.inl ⟨by rfl, ?_⟩) (by assumption) ?_
      rotate_left
      · intro w _; go_simp; (try with_reducible rfl)
      try change wpAnyH _ _ _ _ _ _ _ (Act.put _ (some 47) _) _
      try simp only [act_all]
      refine wpAnyH_take (i := 8) (oi := _) (v := ?_) rfl (by kernel_rfl) (by kernel_rfl) (by kernel_rfl) (fun _ _ _ h => h) (Or.inl ⟨by rfl, ?_⟩) (by assumption) ?_
      rotate_left
      · intro w _; go_simp; (try with_reducible rfl)
      try change wpAnyH _ _ _ _ _ _ _ (Act.put _ (some 55) _) _
      try simp only [act_all]
      refine wpAnyH_take (i := 9) (oi := _) (v := ?_) rfl (by kernel_rfl) (by kernel_rfl) (by kernel_rfl) (fun _ _ _ h => h) (Or.inl ⟨by rfl, ?_⟩) (by assumption) ?_
      rotate_left
      · intro w _; go_simp; (try with_reducible rfl)
      try change wpAnyH _ _ _ _ _ _ _ (Act.put _ (some 56) _) _
      try simp only [act_all]
      refine wpAnyH_ready (rs := [10]) (by kernel_rfl) (by simp) ?_
      refine AllReadyH.cons (o := _) rfl (fun K hK => ?_) AllReadyH.nil
      have HQ2_2 : Below E1.heap.size E1 (t1.alloc (Obj.cells #[.int .i64 0, .int .i64 0, .int .i64 0, .int .i64 0, .int .i64 0] 69)) := bal HQ2_1 _
      have la2 : E1.heap.size ≤ t1.heap.size := HQ2_1.size
      go_simp
      refine hK.out _ _ (G0.out _ HQ2_2) (fun hHeld => ?_)
      clear hK K
      try simp only [act_all]
      refine wpAnyH_ready (rs := [11]) (by kernel_rfl) (by simp) ?_
      refine AllReadyH.cons (o := _) rfl (fun K hK => ?_) AllReadyH.nil
      have kx3 : (t1.alloc (Obj.cells #[.int .i64 0, .int .i64 0, .int .i64 0, .int .i64 0, .int .i64 0] 69)).heap[t1.heap.size]? = some (.cells #[.int .i64 0, .int .i64 0, .int .i64 0, .int .i64 0, .int .i64 0] 69 (0, 0)) := (heap_alloc_new t1 _)
      have HTH := Lib.hid (there_mid kx3 0 5 (show 0 + 5 ≤ 5 by decide))
      have HQ2_3 : Below E1.heap.size E1 ((t1.alloc (Obj.cells #[.int .i64 0, .int .i64 0, .int .i64 0, .int .i64 0, .int .i64 0] 69)).setCells (t1.heap.size) 0 [.int .i64 (z2_1), .int .i64 (z2_2), .int .i64 (z2_3), .int .i64 (z2_4), .int .i64 (z2_5)]) := below_mids la2 _ _ HQ2_2
      have kz3 : ((t1.alloc (Obj.cells #[.int .i64 0, .int .i64 0, .int .i64 0, .int .i64 0, .int .i64 0] 69)).setCells (t1.heap.size) 0 [.int .i64 (z2_1), .int .i64 (z2_2), .int .i64 (z2_3), .int .i64 (z2_4), .int .i64 (z2_5)]).heap[t1.heap.size]? = some (.cells #[.int .i64 (z2_1), .int .i64 (z2_2), .int .i64 (z2_3), .int .i64 (z2_4), .int .i64 (z2_5)] 69 (0, 0)) := block_whole [.int .i64 (z2_1), .int .i64 (z2_2), .int .i64 (z2_3), .int .i64 (z2_4), .int .i64 (z2_5)] kx3 rfl
      rw [if_pos (show Region.wanted _ _ = true from rfl)]
      refine wp_store_mid 69 (.tmp 12) (.tmp 55) rfl (t1.heap.size) 0 #[.int .i64 (z2_1), .int .i64 (z2_2), .int .i64 (z2_3), .int .i64 (z2_4), .int .i64 (z2_5)] rfl rfl HTH.out (by kernel_rfl) (by simp [Value.oneCell']) ?_
      (try rw [show (#[.int .i64 (z2_1), .int .i64 (z2_2), .int .i64 (z2_3), .int .i64 (z2_4), .int .i64 (z2_5)] : Array Value).toList = [.int .i64 (z2_1), .int .i64 (z2_2), .int .i64 (z2_3), .int .i64 (z2_4), .int .i64 (z2_5)] from rfl])
      refine hK.out _ _ (G0.out _ HQ2_3) (fun hHeld => ?_)
      clear hK K
      try simp only [act_all]
      refine wpAnyH_take (i := 12) (oi := _) (v := ?_) rfl (by kernel_rfl) (by kernel_rfl) (by kernel_rfl) (fun _ _ _ h => h) (Or.inl ⟨by rfl, ?_⟩) (by assumption) ?_
      rotate_left
      · intro w _; go_simp; (try with_reducible rfl)
      try change wpAnyH _ _ _ _ _ _ _ (Act.put _ (some 13) _) _
      try simp only [act_all]
      refine wpAnyH_done (by kernel_rfl) ?_ _
      go_wp2_with fail
      go_meet
      exact ⟨_, rfl, rfl, kz3, HQ2_3⟩
    refine AllReadyH.cons (o := _) rfl (fun K hK => ?_) AllReadyH.nil
    have HQ2_4 : Below E1.heap.size E1 (E1.drew.alloc (Obj.cells #[.int .i64 0, .int .i64 0, .int .i64 0, .int .i64 0, .int .i64 0] 69)) := bal HQ0 _
    have la4 : E1.heap.size ≤ E1.heap.size := HQ0.size
    go_simp
    refine hK.out _ _ (G0.out _ HQ2_4) (fun hHeld => ?_)
    clear hK K
    try simp only [act_all]
    refine wpAnyH_ready (rs := [6]) (by kernel_rfl) (by simp) ?_
    refine AllReadyH.cons (o := _) rfl (fun K hK => ?_) AllReadyH.nil
    go_simp
    refine (Mul_any a b c d k e f g h l _).mono ?_
    rw [HZ2.out]
    rintro e_ t5 ⟨rfl, hb⟩
    have HQ2_5 : Below E1.heap.size E1 t5 := HQ2_4.trans (hb.mono HQ2_4.size)
    have kx5 : t5.heap[E1.heap.size]? = some (.cells #[.int .i64 0, .int .i64 0, .int .i64 0, .int .i64 0, .int .i64 0] 69 (0, 0)) := (hb.block _ (by first | omega | (simp; done) | (simp; omega))).trans (heap_alloc_new E1.drew _)
    have lx5 : E1.heap.size < t5.heap.size := (Array.getElem?_eq_some_iff.1 kx5).1
    clear hb hHeld
    unfold Ret5
    (try simp only)
    refine hK.out _ _ (G0.out _ HQ2_5) (fun hHeld => ?_)
    clear hK K
    try simp only [act_all]
    refine wpAnyH_take (i := 7) (oi := _) (v := ?_) rfl (by kernel_rfl) (by kernel_rfl) (by kernel_rfl) (fun _ _ _ h => h) (Or.inl ⟨by rfl, ?_⟩) (by assumption) ?_
    rotate_left
    · intro w _; go_simp; (try with_reducible rfl)
    try change wpAnyH _ _ _ _ _ _ _ (Act.put _ (some 47) _) _
    try simp only [act_all]
    refine wpAnyH_take (i := 8) (oi := _) (v := ?_) rfl (by kernel_rfl) (by kernel_rfl) (by kernel_rfl) (fun _ _ _ h => h) (Or.inl ⟨by rfl, ?_⟩) (by assumption) ?_
    rotate_left
    · intro w _; go_simp; (try with_reducible rfl)
    try change wpAnyH _ _ _ _ _ _ _ (Act.put _ (some 55) _) _
    try simp only [act_all]
    refine wpAnyH_take (i := 9) (oi := _) (v := ?_) rfl (by kernel_rfl) (by kernel_rfl) (by kernel_rfl) (fun _ _ _ h => h) (Or.inl ⟨by rfl, ?_⟩) (by assumption) ?_
    rotate_left
    · intro w _; go_simp; (try with_reducible rfl)
    try change wpAnyH _ _ _ _ _ _ _ (Act.put _ (some 56) _) _
    try simp only [act_all]
    refine wpAnyH_ready (rs := [11]) (by kernel_rfl) (by simp) ?_
    refine AllReadyH.cons (o := _) rfl (fun K hK => ?_) AllReadyH.nil
    have kx6 : t5.heap[E1.heap.size]? = some (.cells #[.int .i64 0, .int .i64 0, .int .i64 0, .int .i64 0, .int .i64 0] 69 (0, 0)) := kx5
    have HTH := Lib.hid (there_mid kx6 0 5 (show 0 + 5 ≤ 5 by decide))
    have HQ2_6 : Below E1.heap.size E1 (t5.setCells (E1.heap.size) 0 [.int .i64 (z2_1), .int .i64 (z2_2), .int .i64 (z2_3), .int .i64 (z2_4), .int .i64 (z2_5)]) := below_mids la4 _ _ HQ2_5
    have kz6 : (t5.setCells (E1.heap.size) 0 [.int .i64 (z2_1), .int .i64 (z2_2), .int .i64 (z2_3), .int .i64 (z2_4), .int .i64 (z2_5)]).heap[E1.heap.size]? = some (.cells #[.int .i64 (z2_1), .int .i64 (z2_2), .int .i64 (z2_3), .int .i64 (z2_4), .int .i64 (z2_5)] 69 (0, 0)) := block_whole [.int .i64 (z2_1), .int .i64 (z2_2), .int .i64 (z2_3), .int .i64 (z2_4), .int .i64 (z2_5)] kx6 rfl
    rw [if_pos (show Region.wanted _ _ = true from rfl)]
    refine wp_store_mid 69 (.tmp 12) (.tmp 55) rfl (E1.heap.size) 0 #[.int .i64 (z2_1), .int .i64 (z2_2), .int .i64 (z2_3), .int .i64 (z2_4), .int .i64 (z2_5)] rfl rfl HTH.out (by kernel_rfl) (by simp [Value.oneCell']) ?_
    (try rw [show (#[.int .i64 (z2_1), .int .i64 (z2_2), .int .i64 (z2_3), .int .i64 (z2_4), .int .i64 (z2_5)] : Array Value).toList = [.int .i64 (z2_1), .int .i64 (z2_2), .int .i64 (z2_3), .int .i64 (z2_4), .int .i64 (z2_5)] from rfl])
    refine hK.out _ _ (G0.out _ HQ2_6) (fun hHeld => ?_)
    clear hK K
    try simp only [act_all]
    refine wpAnyH_take (i := 12) (oi := _) (v := ?_) rfl (by kernel_rfl) (by kernel_rfl) (by kernel_rfl) (fun _ _ _ h => h) (Or.inl ⟨by rfl, ?_⟩) (by assumption) ?_
    rotate_left
    · intro w _; go_simp; (try with_reducible rfl)
    try change wpAnyH _ _ _ _ _ _ _ (Act.put _ (some 13) _) _
    try simp only [act_all]
    refine wpAnyH_done (by kernel_rfl) ?_ _
    go_wp2_with fail
    go_meet
    exact ⟨_, rfl, rfl, kz6, HQ2_6⟩
  case rest =>
  obtain ⟨N2, rfl, rfl, hN2, hK2⟩ := hcut
  have lN2 : N2 < wc.heap.size := (Array.getElem?_eq_some_iff.1 hN2).1
  have HD20 := Lib.hid (HD19.out.trans (hK2.mono lw19))
  have lw20 : w.heap.size ≤ wc.heap.size := Nat.le_trans lw19 hK2.size
  have Hb2_20 := Lib.hid ((hK2.block _ lb2_19).trans Hb2_19.out)
  have lb2_20 : w.heap.size < wc.heap.size := Nat.lt_of_lt_of_le lb2_19 hK2.size
  have Hb3_20 := Lib.hid ((hK2.block _ lb3_19).trans Hb3_19.out)
  have lb3_20 : w.heap.size + 1 < wc.heap.size := Nat.lt_of_lt_of_le lb3_19 hK2.size
  have Hb5_20 := Lib.hid ((hK2.block _ lb5_19).trans Hb5_19.out)
  have lb5_20 : BB2 < wc.heap.size := Nat.lt_of_lt_of_le lb5_19 hK2.size
  have Hb7_20 := Lib.hid ((hK2.block _ lb7_19).trans Hb7_19.out)
  have lb7_20 : BB4 < wc.heap.size := Nat.lt_of_lt_of_le lb7_19 hK2.size
  have Hb9_20 := Lib.hid ((hK2.block _ lb9_19).trans Hb9_19.out)
  have lb9_20 : SA < wc.heap.size := Nat.lt_of_lt_of_le lb9_19 hK2.size
  have Hb40_20 := Lib.hid ((hK2.block _ lb40_19).trans Hb40_19.out)
  have lb40_20 : SB < wc.heap.size := Nat.lt_of_lt_of_le lb40_19 hK2.size
  have Hb12_20 := Lib.hid hN2
  have lb12_20 := lN2
  clear hN2 lN2 hK2 HD19 lw19 Hb2_19 lb2_19 Hb3_19 lb3_19 Hb5_19 lb5_19 Hb7_19 lb7_19 Hb9_19 lb9_19 Hb40_19 lb40_19
  obtain ⟨C2, hC⟩ : ∃ z, z = wc := ⟨wc, rfl⟩
  subst hC
  obtain ⟨c2_0, c2_1, c2_2, c2_3, ce2, hc_⟩ := OutR_form4 (onR2 mulR ⟨⟨x1, x2⟩, ⟨x3, x4⟩⟩ ⟨⟨y1, y2⟩, ⟨y3, y4⟩⟩)
  have HC2 := Lib.hid hc_
  clear hc_
  obtain ⟨ol2, oh2, pl2, ph2, oe2, HO2⟩ := bnd_ex ⟨⟨z2_1, z2_2, z2_3, z2_4⟩, z2_5⟩ 30
  obtain ⟨d2_0, d2_1, d2_2, d2_3, de2, hd_⟩ := OutR_form4 (numO oe2 ⟨ol2, oh2⟩ ⟨pl2, ph2⟩)
  have HE2 := Lib.hid hd_
  clear hd_
  go_upto_region 10 with fail
  refine wp_region_lit ?_
  refine wpList_step (fun K hK => ?_); go_simp; refine hK _ _ ?_; clear hK K
  refine wpList_load_mid rfl 25 (.tmp 5) rfl (BB2) 0 rfl [.int .i64 x1, .int .i64 x2, .int .i64 x3, .int .i64 x4] _ (range_row Hb5_20.out 0 [.int .i64 x1, .int .i64 x2, .int .i64 x3, .int .i64 x4] (fun j hj => by simp only [Nat.zero_add, List.getElem?_toArray])) Try.underlying25 rfl (by kernel_rfl) ?_
  refine wpList_load_mid rfl 25 (.tmp 7) rfl (BB4) 0 rfl [.int .i64 y1, .int .i64 y2, .int .i64 y3, .int .i64 y4] _ (range_row Hb7_20.out 0 [.int .i64 y1, .int .i64 y2, .int .i64 y3, .int .i64 y4] (fun j hj => by simp only [Nat.zero_add, List.getElem?_toArray])) Try.underlying25 rfl (by kernel_rfl) ?_
  refine wpList_step (fun K hK => ?_)
  go_simp
  refine (eMul_any x1 x2 x3 x4 y1 y2 y3 y4 _).mono ?_
  rw [HC2.out]
  rintro e u21_ ⟨rfl, hb⟩
  have HD21 := Lib.hid (HD20.out.trans (hb.mono lw20))
  have lw21 : w.heap.size ≤ u21_.heap.size := Nat.le_trans lw20 hb.size
  have Hb2_21 := Lib.hid ((hb.block _ lb2_20).trans Hb2_20.out)
  have lb2_21 : w.heap.size < u21_.heap.size := Nat.lt_of_lt_of_le lb2_20 hb.size
  have Hb3_21 := Lib.hid ((hb.block _ lb3_20).trans Hb3_20.out)
  have lb3_21 : w.heap.size + 1 < u21_.heap.size := Nat.lt_of_lt_of_le lb3_20 hb.size
  have Hb5_21 := Lib.hid ((hb.block _ lb5_20).trans Hb5_20.out)
  have lb5_21 : BB2 < u21_.heap.size := Nat.lt_of_lt_of_le lb5_20 hb.size
  have Hb7_21 := Lib.hid ((hb.block _ lb7_20).trans Hb7_20.out)
  have lb7_21 : BB4 < u21_.heap.size := Nat.lt_of_lt_of_le lb7_20 hb.size
  have Hb9_21 := Lib.hid ((hb.block _ lb9_20).trans Hb9_20.out)
  have lb9_21 : SA < u21_.heap.size := Nat.lt_of_lt_of_le lb9_20 hb.size
  have Hb40_21 := Lib.hid ((hb.block _ lb40_20).trans Hb40_20.out)
  have lb40_21 : SB < u21_.heap.size := Nat.lt_of_lt_of_le lb40_20 hb.size
  have Hb12_21 := Lib.hid ((hb.block _ lb12_20).trans Hb12_20.out)
  have lb12_21 : N2 < u21_.heap.size := Nat.lt_of_lt_of_le lb12_20 hb.size
  clear hb HD20 lw20 Hb2_20 lb2_20 Hb3_20 lb3_20 Hb5_20 lb5_20 Hb7_20 lb7_20 Hb9_20 lb9_20 Hb40_20 lb40_20 Hb12_20 lb12_20
  refine hK _ _ ?_
  clear hK K
  refine wpList_step (fun K hK => ?_); go_simp; refine hK _ _ ?_; clear hK K
  refine wpList_step (fun K hK => ?_); go_simp; refine hK _ _ ?_; clear hK K
  refine wpList_step (fun K hK => ?_); go_simp; refine hK _ _ ?_; clear hK K
  refine wpList_step (fun K hK => ?_); go_simp; refine hK _ _ ?_; clear hK K
  have HTH := Lib.hid (there_mid (heap_alloc_new u21_ (.cells #[.int .i64 0, .int .i64 0, .int .i64 0, .int .i64 0] 25)) 0 4 (show 0 + 4 ≤ 4 by decide))
  refine wpList_store_mid rfl 25 (.tmp 14) (.tmp 62) rfl u21_.heap.size 0 #[.int .i64 (c2_0), .int .i64 (c2_1), .int .i64 (c2_2), .int .i64 (c2_3)] rfl rfl HTH.out (by kernel_rfl) (by simp [Value.oneCell']) ?_
  (try rw [show (#[.int .i64 (c2_0), .int .i64 (c2_1), .int .i64 (c2_2), .int .i64 (c2_3)] : Array Value).toList = [.int .i64 (c2_0), .int .i64 (c2_1), .int .i64 (c2_2), .int .i64 (c2_3)] from rfl])
  have hba : Below u21_.heap.size u21_ (u21_.alloc (.cells #[.int .i64 0, .int .i64 0, .int .i64 0, .int .i64 0] 25)) := bal (Below.refl _ _) _
  have hb : Below u21_.heap.size u21_ ((u21_.alloc (.cells #[.int .i64 0, .int .i64 0, .int .i64 0, .int .i64 0] 25)).setCells u21_.heap.size 0 [.int .i64 (c2_0), .int .i64 (c2_1), .int .i64 (c2_2), .int .i64 (c2_3)]) := below_mids (Nat.le_refl _) _ _ hba
  have hnb : ((u21_.alloc (.cells #[.int .i64 0, .int .i64 0, .int .i64 0, .int .i64 0] 25)).setCells u21_.heap.size 0 [.int .i64 (c2_0), .int .i64 (c2_1), .int .i64 (c2_2), .int .i64 (c2_3)]).heap[u21_.heap.size]? = some (.cells #[.int .i64 (c2_0), .int .i64 (c2_1), .int .i64 (c2_2), .int .i64 (c2_3)] 25 (0, 0)) := block_whole [.int .i64 (c2_0), .int .i64 (c2_1), .int .i64 (c2_2), .int .i64 (c2_3)] (heap_alloc_new u21_ (.cells #[.int .i64 0, .int .i64 0, .int .i64 0, .int .i64 0] 25)) rfl
  have hlb : u21_.heap.size < ((u21_.alloc (.cells #[.int .i64 0, .int .i64 0, .int .i64 0, .int .i64 0] 25)).setCells u21_.heap.size 0 [.int .i64 (c2_0), .int .i64 (c2_1), .int .i64 (c2_2), .int .i64 (c2_3)]).heap.size := (Array.getElem?_eq_some_iff.1 hnb).1
  have HD22 := Lib.hid (HD21.out.trans (hb.mono lw21))
  have lw22 : w.heap.size ≤ ((u21_.alloc (.cells #[.int .i64 0, .int .i64 0, .int .i64 0, .int .i64 0] 25)).setCells u21_.heap.size 0 [.int .i64 (c2_0), .int .i64 (c2_1), .int .i64 (c2_2), .int .i64 (c2_3)]).heap.size := Nat.le_trans lw21 hb.size
  have Hb2_22 := Lib.hid ((hb.block _ lb2_21).trans Hb2_21.out)
  have lb2_22 : w.heap.size < ((u21_.alloc (.cells #[.int .i64 0, .int .i64 0, .int .i64 0, .int .i64 0] 25)).setCells u21_.heap.size 0 [.int .i64 (c2_0), .int .i64 (c2_1), .int .i64 (c2_2), .int .i64 (c2_3)]).heap.size := Nat.lt_of_lt_of_le lb2_21 hb.size
  have Hb3_22 := Lib.hid ((hb.block _ lb3_21).trans Hb3_21.out)
  have lb3_22 : w.heap.size + 1 < ((u21_.alloc (.cells #[.int .i64 0, .int .i64 0, .int .i64 0, .int .i64 0] 25)).setCells u21_.heap.size 0 [.int .i64 (c2_0), .int .i64 (c2_1), .int .i64 (c2_2), .int .i64 (c2_3)]).heap.size := Nat.lt_of_lt_of_le lb3_21 hb.size
  have Hb5_22 := Lib.hid ((hb.block _ lb5_21).trans Hb5_21.out)
  have lb5_22 : BB2 < ((u21_.alloc (.cells #[.int .i64 0, .int .i64 0, .int .i64 0, .int .i64 0] 25)).setCells u21_.heap.size 0 [.int .i64 (c2_0), .int .i64 (c2_1), .int .i64 (c2_2), .int .i64 (c2_3)]).heap.size := Nat.lt_of_lt_of_le lb5_21 hb.size
  have Hb7_22 := Lib.hid ((hb.block _ lb7_21).trans Hb7_21.out)
  have lb7_22 : BB4 < ((u21_.alloc (.cells #[.int .i64 0, .int .i64 0, .int .i64 0, .int .i64 0] 25)).setCells u21_.heap.size 0 [.int .i64 (c2_0), .int .i64 (c2_1), .int .i64 (c2_2), .int .i64 (c2_3)]).heap.size := Nat.lt_of_lt_of_le lb7_21 hb.size
  have Hb9_22 := Lib.hid ((hb.block _ lb9_21).trans Hb9_21.out)
  have lb9_22 : SA < ((u21_.alloc (.cells #[.int .i64 0, .int .i64 0, .int .i64 0, .int .i64 0] 25)).setCells u21_.heap.size 0 [.int .i64 (c2_0), .int .i64 (c2_1), .int .i64 (c2_2), .int .i64 (c2_3)]).heap.size := Nat.lt_of_lt_of_le lb9_21 hb.size
  have Hb40_22 := Lib.hid ((hb.block _ lb40_21).trans Hb40_21.out)
  have lb40_22 : SB < ((u21_.alloc (.cells #[.int .i64 0, .int .i64 0, .int .i64 0, .int .i64 0] 25)).setCells u21_.heap.size 0 [.int .i64 (c2_0), .int .i64 (c2_1), .int .i64 (c2_2), .int .i64 (c2_3)]).heap.size := Nat.lt_of_lt_of_le lb40_21 hb.size
  have Hb12_22 := Lib.hid ((hb.block _ lb12_21).trans Hb12_21.out)
  have lb12_22 : N2 < ((u21_.alloc (.cells #[.int .i64 0, .int .i64 0, .int .i64 0, .int .i64 0] 25)).setCells u21_.heap.size 0 [.int .i64 (c2_0), .int .i64 (c2_1), .int .i64 (c2_2), .int .i64 (c2_3)]).heap.size := Nat.lt_of_lt_of_le lb12_21 hb.size
  have Hb14_22 := Lib.hid hnb
  have lb14_22 := hlb
  clear hb hba hnb hlb HTH HD21 lw21 Hb2_21 lb2_21 Hb3_21 lb3_21 Hb5_21 lb5_21 Hb7_21 lb7_21 Hb9_21 lb9_21 Hb40_21 lb40_21 Hb12_21 lb12_21
  generalize ((u21_.alloc (.cells #[.int .i64 0, .int .i64 0, .int .i64 0, .int .i64 0] 25)).setCells u21_.heap.size 0 [.int .i64 (c2_0), .int .i64 (c2_1), .int .i64 (c2_2), .int .i64 (c2_3)]) = U22 at *
  generalize u21_.heap.size = BB22 at *
  refine wpList_step (fun K hK => ?_); go_simp; refine hK _ _ ?_; clear hK K
  refine wpList_nil ?_
  go_upto_region 11 with fail
  refine wp_region_lit ?_
  refine wpList_load_mid rfl 69 (.tmp 12) rfl (N2) 0 rfl [.int .i64 (z2_1), .int .i64 (z2_2), .int .i64 (z2_3), .int .i64 (z2_4), .int .i64 (z2_5)] _ (range_row Hb12_22.out 0 [.int .i64 (z2_1), .int .i64 (z2_2), .int .i64 (z2_3), .int .i64 (z2_4), .int .i64 (z2_5)] (fun j hj => by simp only [Nat.zero_add, List.getElem?_toArray])) Try.underlying69 rfl (by kernel_rfl) ?_
  refine wpList_step (fun K hK => ?_)
  go_simp
  refine (eFromNum_any z2_1 z2_2 z2_3 z2_4 z2_5 ol2 oh2 pl2 ph2 oe2 _ HO2).mono ?_
  rw [HE2.out]
  rintro e u23_ ⟨rfl, hb⟩
  have HD23 := Lib.hid (HD22.out.trans (hb.mono lw22))
  have lw23 : w.heap.size ≤ u23_.heap.size := Nat.le_trans lw22 hb.size
  have Hb2_23 := Lib.hid ((hb.block _ lb2_22).trans Hb2_22.out)
  have lb2_23 : w.heap.size < u23_.heap.size := Nat.lt_of_lt_of_le lb2_22 hb.size
  have Hb3_23 := Lib.hid ((hb.block _ lb3_22).trans Hb3_22.out)
  have lb3_23 : w.heap.size + 1 < u23_.heap.size := Nat.lt_of_lt_of_le lb3_22 hb.size
  have Hb5_23 := Lib.hid ((hb.block _ lb5_22).trans Hb5_22.out)
  have lb5_23 : BB2 < u23_.heap.size := Nat.lt_of_lt_of_le lb5_22 hb.size
  have Hb7_23 := Lib.hid ((hb.block _ lb7_22).trans Hb7_22.out)
  have lb7_23 : BB4 < u23_.heap.size := Nat.lt_of_lt_of_le lb7_22 hb.size
  have Hb9_23 := Lib.hid ((hb.block _ lb9_22).trans Hb9_22.out)
  have lb9_23 : SA < u23_.heap.size := Nat.lt_of_lt_of_le lb9_22 hb.size
  have Hb40_23 := Lib.hid ((hb.block _ lb40_22).trans Hb40_22.out)
  have lb40_23 : SB < u23_.heap.size := Nat.lt_of_lt_of_le lb40_22 hb.size
  have Hb12_23 := Lib.hid ((hb.block _ lb12_22).trans Hb12_22.out)
  have lb12_23 : N2 < u23_.heap.size := Nat.lt_of_lt_of_le lb12_22 hb.size
  have Hb14_23 := Lib.hid ((hb.block _ lb14_22).trans Hb14_22.out)
  have lb14_23 : BB22 < u23_.heap.size := Nat.lt_of_lt_of_le lb14_22 hb.size
  clear hb HD22 lw22 Hb2_22 lb2_22 Hb3_22 lb3_22 Hb5_22 lb5_22 Hb7_22 lb7_22 Hb9_22 lb9_22 Hb40_22 lb40_22 Hb12_22 lb12_22 Hb14_22 lb14_22
  refine hK _ _ ?_
  clear hK K
  refine wpList_step (fun K hK => ?_); go_simp; refine hK _ _ ?_; clear hK K
  refine wpList_step (fun K hK => ?_); go_simp; refine hK _ _ ?_; clear hK K
  refine wpList_step (fun K hK => ?_); go_simp; refine hK _ _ ?_; clear hK K
  refine wpList_step (fun K hK => ?_); go_simp; refine hK _ _ ?_; clear hK K
  have HTH := Lib.hid (there_mid (heap_alloc_new u23_ (.cells #[.int .i64 0, .int .i64 0, .int .i64 0, .int .i64 0] 25)) 0 4 (show 0 + 4 ≤ 4 by decide))
  refine wpList_store_mid rfl 25 (.tmp 16) (.tmp 67) rfl u23_.heap.size 0 #[.int .i64 (d2_0), .int .i64 (d2_1), .int .i64 (d2_2), .int .i64 (d2_3)] rfl rfl HTH.out (by kernel_rfl) (by simp [Value.oneCell']) ?_
  (try rw [show (#[.int .i64 (d2_0), .int .i64 (d2_1), .int .i64 (d2_2), .int .i64 (d2_3)] : Array Value).toList = [.int .i64 (d2_0), .int .i64 (d2_1), .int .i64 (d2_2), .int .i64 (d2_3)] from rfl])
  have hba : Below u23_.heap.size u23_ (u23_.alloc (.cells #[.int .i64 0, .int .i64 0, .int .i64 0, .int .i64 0] 25)) := bal (Below.refl _ _) _
  have hb : Below u23_.heap.size u23_ ((u23_.alloc (.cells #[.int .i64 0, .int .i64 0, .int .i64 0, .int .i64 0] 25)).setCells u23_.heap.size 0 [.int .i64 (d2_0), .int .i64 (d2_1), .int .i64 (d2_2), .int .i64 (d2_3)]) := below_mids (Nat.le_refl _) _ _ hba
  have hnb : ((u23_.alloc (.cells #[.int .i64 0, .int .i64 0, .int .i64 0, .int .i64 0] 25)).setCells u23_.heap.size 0 [.int .i64 (d2_0), .int .i64 (d2_1), .int .i64 (d2_2), .int .i64 (d2_3)]).heap[u23_.heap.size]? = some (.cells #[.int .i64 (d2_0), .int .i64 (d2_1), .int .i64 (d2_2), .int .i64 (d2_3)] 25 (0, 0)) := block_whole [.int .i64 (d2_0), .int .i64 (d2_1), .int .i64 (d2_2), .int .i64 (d2_3)] (heap_alloc_new u23_ (.cells #[.int .i64 0, .int .i64 0, .int .i64 0, .int .i64 0] 25)) rfl
  have hlb : u23_.heap.size < ((u23_.alloc (.cells #[.int .i64 0, .int .i64 0, .int .i64 0, .int .i64 0] 25)).setCells u23_.heap.size 0 [.int .i64 (d2_0), .int .i64 (d2_1), .int .i64 (d2_2), .int .i64 (d2_3)]).heap.size := (Array.getElem?_eq_some_iff.1 hnb).1
  have HD24 := Lib.hid (HD23.out.trans (hb.mono lw23))
  have lw24 : w.heap.size ≤ ((u23_.alloc (.cells #[.int .i64 0, .int .i64 0, .int .i64 0, .int .i64 0] 25)).setCells u23_.heap.size 0 [.int .i64 (d2_0), .int .i64 (d2_1), .int .i64 (d2_2), .int .i64 (d2_3)]).heap.size := Nat.le_trans lw23 hb.size
  have Hb2_24 := Lib.hid ((hb.block _ lb2_23).trans Hb2_23.out)
  have lb2_24 : w.heap.size < ((u23_.alloc (.cells #[.int .i64 0, .int .i64 0, .int .i64 0, .int .i64 0] 25)).setCells u23_.heap.size 0 [.int .i64 (d2_0), .int .i64 (d2_1), .int .i64 (d2_2), .int .i64 (d2_3)]).heap.size := Nat.lt_of_lt_of_le lb2_23 hb.size
  have Hb3_24 := Lib.hid ((hb.block _ lb3_23).trans Hb3_23.out)
  have lb3_24 : w.heap.size + 1 < ((u23_.alloc (.cells #[.int .i64 0, .int .i64 0, .int .i64 0, .int .i64 0] 25)).setCells u23_.heap.size 0 [.int .i64 (d2_0), .int .i64 (d2_1), .int .i64 (d2_2), .int .i64 (d2_3)]).heap.size := Nat.lt_of_lt_of_le lb3_23 hb.size
  have Hb5_24 := Lib.hid ((hb.block _ lb5_23).trans Hb5_23.out)
  have lb5_24 : BB2 < ((u23_.alloc (.cells #[.int .i64 0, .int .i64 0, .int .i64 0, .int .i64 0] 25)).setCells u23_.heap.size 0 [.int .i64 (d2_0), .int .i64 (d2_1), .int .i64 (d2_2), .int .i64 (d2_3)]).heap.size := Nat.lt_of_lt_of_le lb5_23 hb.size
  have Hb7_24 := Lib.hid ((hb.block _ lb7_23).trans Hb7_23.out)
  have lb7_24 : BB4 < ((u23_.alloc (.cells #[.int .i64 0, .int .i64 0, .int .i64 0, .int .i64 0] 25)).setCells u23_.heap.size 0 [.int .i64 (d2_0), .int .i64 (d2_1), .int .i64 (d2_2), .int .i64 (d2_3)]).heap.size := Nat.lt_of_lt_of_le lb7_23 hb.size
  have Hb9_24 := Lib.hid ((hb.block _ lb9_23).trans Hb9_23.out)
  have lb9_24 : SA < ((u23_.alloc (.cells #[.int .i64 0, .int .i64 0, .int .i64 0, .int .i64 0] 25)).setCells u23_.heap.size 0 [.int .i64 (d2_0), .int .i64 (d2_1), .int .i64 (d2_2), .int .i64 (d2_3)]).heap.size := Nat.lt_of_lt_of_le lb9_23 hb.size
  have Hb40_24 := Lib.hid ((hb.block _ lb40_23).trans Hb40_23.out)
  have lb40_24 : SB < ((u23_.alloc (.cells #[.int .i64 0, .int .i64 0, .int .i64 0, .int .i64 0] 25)).setCells u23_.heap.size 0 [.int .i64 (d2_0), .int .i64 (d2_1), .int .i64 (d2_2), .int .i64 (d2_3)]).heap.size := Nat.lt_of_lt_of_le lb40_23 hb.size
  have Hb12_24 := Lib.hid ((hb.block _ lb12_23).trans Hb12_23.out)
  have lb12_24 : N2 < ((u23_.alloc (.cells #[.int .i64 0, .int .i64 0, .int .i64 0, .int .i64 0] 25)).setCells u23_.heap.size 0 [.int .i64 (d2_0), .int .i64 (d2_1), .int .i64 (d2_2), .int .i64 (d2_3)]).heap.size := Nat.lt_of_lt_of_le lb12_23 hb.size
  have Hb14_24 := Lib.hid ((hb.block _ lb14_23).trans Hb14_23.out)
  have lb14_24 : BB22 < ((u23_.alloc (.cells #[.int .i64 0, .int .i64 0, .int .i64 0, .int .i64 0] 25)).setCells u23_.heap.size 0 [.int .i64 (d2_0), .int .i64 (d2_1), .int .i64 (d2_2), .int .i64 (d2_3)]).heap.size := Nat.lt_of_lt_of_le lb14_23 hb.size
  have Hb16_24 := Lib.hid hnb
  have lb16_24 := hlb
  clear hb hba hnb hlb HTH HD23 lw23 Hb2_23 lb2_23 Hb3_23 lb3_23 Hb5_23 lb5_23 Hb7_23 lb7_23 Hb9_23 lb9_23 Hb40_23 lb40_23 Hb12_23 lb12_23 Hb14_23 lb14_23
  generalize ((u23_.alloc (.cells #[.int .i64 0, .int .i64 0, .int .i64 0, .int .i64 0] 25)).setCells u23_.heap.size 0 [.int .i64 (d2_0), .int .i64 (d2_1), .int .i64 (d2_2), .int .i64 (d2_3)]) = U24 at *
  generalize u23_.heap.size = BB24 at *
  refine wpList_step (fun K hK => ?_); go_simp; refine hK _ _ ?_; clear hK K
  refine wpList_nil ?_
  go_upto_region 12 with fail
  go_cut [84] (fun v wx => v = .bool false ∧ Below U24.heap.size U24 wx)
  case first =>
    by_cases h1 : ze2 = 0
    case neg =>
      have hb1 : (ze2 == 0) = false := beq_eq_false_iff_ne.2 h1
      clear h1
      refine wp_region_lit ?_
      refine wpList_step (fun K hK => ?_); go_simp; refine hK _ _ ?_; clear hK K
      refine wpList_step (fun K hK => ?_); go_simp; refine hK _ _ ?_; clear hK K
      refine wpList_step (fun K hK => ?_); go_simp; refine hK _ _ ?_; clear hK K
      refine wpList_skip (by rfl) ?_
      refine wpList_skip (by rfl) ?_
      refine wpList_step (fun K hK => ?_); go_simp; refine hK _ _ ?_; clear hK K
      refine wpList_step (fun K hK => ?_); go_simp; refine hK _ _ ?_; clear hK K
      refine wpList_skip (by rfl) ?_
      refine wpList_skip (by rfl) ?_
      refine wpList_step (fun K hK => ?_); go_simp; refine hK _ _ ?_; clear hK K
      refine wpList_step (fun K hK => ?_); go_simp; refine hK _ _ ?_; clear hK K
      refine wpList_skip (by rfl) ?_
      refine wpList_skip (by rfl) ?_
      refine wpList_skip (by rfl) ?_
      refine wpList_skip (by rfl) ?_
      refine wpList_step (fun K hK => ?_); go_simp; refine hK _ _ ?_; clear hK K
      refine wpList_nil ?_
      go_wp2_with fail
      go_meet
      exact ⟨rfl, Below.refl _ _⟩
    subst h1
    by_cases h2 : ce2 = 0
    case neg =>
      have hb1 : (ce2 == 0) = false := beq_eq_false_iff_ne.2 h2
      clear h2
      refine wp_region_lit ?_
      refine wpList_step (fun K hK => ?_); go_simp; refine hK _ _ ?_; clear hK K
      refine wpList_step (fun K hK => ?_); go_simp; refine hK _ _ ?_; clear hK K
      refine wpList_step (fun K hK => ?_); go_simp; refine hK _ _ ?_; clear hK K
      refine wpList_step (fun K hK => ?_); go_simp; refine hK _ _ ?_; clear hK K
      refine wpList_step (fun K hK => ?_); go_simp; refine hK _ _ ?_; clear hK K
      refine wpList_step (fun K hK => ?_); go_simp; refine hK _ _ ?_; clear hK K
      refine wpList_step (fun K hK => ?_); go_simp; refine hK _ _ ?_; clear hK K
      refine wpList_skip (by rfl) ?_
      refine wpList_skip (by rfl) ?_
      refine wpList_step (fun K hK => ?_); go_simp; refine hK _ _ ?_; clear hK K
      refine wpList_step (fun K hK => ?_); go_simp; refine hK _ _ ?_; clear hK K
      refine wpList_skip (by rfl) ?_
      refine wpList_skip (by rfl) ?_
      refine wpList_skip (by rfl) ?_
      refine wpList_skip (by rfl) ?_
      refine wpList_step (fun K hK => ?_); go_simp; refine hK _ _ ?_; clear hK K
      refine wpList_nil ?_
      go_wp2_with fail
      go_meet
      exact ⟨rfl, Below.refl _ _⟩
    subst h2
    by_cases h3 : de2 = 0
    case neg =>
      have hb1 : (de2 == 0) = false := beq_eq_false_iff_ne.2 h3
      clear h3
      refine wp_region_lit ?_
      refine wpList_step (fun K hK => ?_); go_simp; refine hK _ _ ?_; clear hK K
      refine wpList_step (fun K hK => ?_); go_simp; refine hK _ _ ?_; clear hK K
      refine wpList_step (fun K hK => ?_); go_simp; refine hK _ _ ?_; clear hK K
      refine wpList_step (fun K hK => ?_); go_simp; refine hK _ _ ?_; clear hK K
      refine wpList_step (fun K hK => ?_); go_simp; refine hK _ _ ?_; clear hK K
      refine wpList_step (fun K hK => ?_); go_simp; refine hK _ _ ?_; clear hK K
      refine wpList_step (fun K hK => ?_); go_simp; refine hK _ _ ?_; clear hK K
      refine wpList_step (fun K hK => ?_); go_simp; refine hK _ _ ?_; clear hK K
      refine wpList_step (fun K hK => ?_); go_simp; refine hK _ _ ?_; clear hK K
      refine wpList_step (fun K hK => ?_); go_simp; refine hK _ _ ?_; clear hK K
      refine wpList_step (fun K hK => ?_); go_simp; refine hK _ _ ?_; clear hK K
      refine wpList_skip (by rfl) ?_
      refine wpList_skip (by rfl) ?_
      refine wpList_skip (by rfl) ?_
      refine wpList_skip (by rfl) ?_
      refine wpList_step (fun K hK => ?_); go_simp; refine hK _ _ ?_; clear hK K
      refine wpList_nil ?_
      go_wp2_with fail
      go_meet
      exact ⟨rfl, Below.refl _ _⟩
    subst h3
    refine wp_region_lit ?_
    refine wpList_step (fun K hK => ?_); go_simp; refine hK _ _ ?_; clear hK K
    refine wpList_step (fun K hK => ?_); go_simp; refine hK _ _ ?_; clear hK K
    refine wpList_step (fun K hK => ?_); go_simp; refine hK _ _ ?_; clear hK K
    refine wpList_step (fun K hK => ?_); go_simp; refine hK _ _ ?_; clear hK K
    refine wpList_step (fun K hK => ?_); go_simp; refine hK _ _ ?_; clear hK K
    refine wpList_step (fun K hK => ?_); go_simp; refine hK _ _ ?_; clear hK K
    refine wpList_step (fun K hK => ?_); go_simp; refine hK _ _ ?_; clear hK K
    refine wpList_step (fun K hK => ?_); go_simp; refine hK _ _ ?_; clear hK K
    refine wpList_step (fun K hK => ?_); go_simp; refine hK _ _ ?_; clear hK K
    refine wpList_step (fun K hK => ?_); go_simp; refine hK _ _ ?_; clear hK K
    refine wpList_step (fun K hK => ?_); go_simp; refine hK _ _ ?_; clear hK K
    refine wpList_step (fun K hK => ?_)
    rw [if_pos (show Region.wanted _ _ = true from rfl)]
    refine wp_load_mid 25 (.tmp 16) rfl (BB24) 0 rfl [.int .i64 (d2_0), .int .i64 (d2_1), .int .i64 (d2_2), .int .i64 (d2_3)] _ (range_row Hb16_24.out 0 [.int .i64 (d2_0), .int .i64 (d2_1), .int .i64 (d2_2), .int .i64 (d2_3)] (fun j hj => by simp only [Nat.zero_add, List.getElem?_toArray])) Try.underlying25 rfl (by kernel_rfl) ?_
    refine hK _ _ ?_
    clear hK K
    refine wpList_step (fun K hK => ?_)
    rw [if_pos (show Region.wanted _ _ = true from rfl)]
    refine wp_load_mid 25 (.tmp 14) rfl (BB22) 0 rfl [.int .i64 (c2_0), .int .i64 (c2_1), .int .i64 (c2_2), .int .i64 (c2_3)] _ (range_row Hb14_24.out 0 [.int .i64 (c2_0), .int .i64 (c2_1), .int .i64 (c2_2), .int .i64 (c2_3)] (fun j hj => by simp only [Nat.zero_add, List.getElem?_toArray])) Try.underlying25 rfl (by kernel_rfl) ?_
    refine hK _ _ ?_
    clear hK K
    refine wpList_step (fun K hK => ?_)
    go_simp
    refine (inL_any d2_0 d2_1 d2_2 d2_3 c2_0  c2_1  c2_2  c2_3 _).mono ?_
    rw [said_mul (x := ⟨⟨a, b, c, d⟩, k⟩) (y := ⟨⟨e, f, g, h⟩, l⟩) (z := ⟨⟨z2_1, z2_2, z2_3, z2_4⟩, z2_5⟩) H.out J.out HO2.out HX.out HY.out HE2.out HZ2.out HC2.out]
    rintro e_ u_ ⟨rfl, hb⟩
    refine hK _ _ ?_
    clear hK K
    refine wpList_step (fun K hK => ?_); go_simp; refine hK _ _ ?_; clear hK K
    refine wpList_step (fun K hK => ?_); go_simp; refine hK _ _ ?_; clear hK K
    refine wpList_nil ?_
    go_wp2_with fail
    go_meet
    exact ⟨rfl, hb⟩
  case rest =>
  obtain ⟨rfl, hK_⟩ := hcut
  have HD25 := Lib.hid (HD24.out.trans (hK_.mono lw24))
  have lw25 : w.heap.size ≤ wc.heap.size := Nat.le_trans lw24 hK_.size
  have Hb2_25 := Lib.hid ((hK_.block _ lb2_24).trans Hb2_24.out)
  have lb2_25 : w.heap.size < wc.heap.size := Nat.lt_of_lt_of_le lb2_24 hK_.size
  have Hb3_25 := Lib.hid ((hK_.block _ lb3_24).trans Hb3_24.out)
  have lb3_25 : w.heap.size + 1 < wc.heap.size := Nat.lt_of_lt_of_le lb3_24 hK_.size
  have Hb5_25 := Lib.hid ((hK_.block _ lb5_24).trans Hb5_24.out)
  have lb5_25 : BB2 < wc.heap.size := Nat.lt_of_lt_of_le lb5_24 hK_.size
  have Hb7_25 := Lib.hid ((hK_.block _ lb7_24).trans Hb7_24.out)
  have lb7_25 : BB4 < wc.heap.size := Nat.lt_of_lt_of_le lb7_24 hK_.size
  have Hb9_25 := Lib.hid ((hK_.block _ lb9_24).trans Hb9_24.out)
  have lb9_25 : SA < wc.heap.size := Nat.lt_of_lt_of_le lb9_24 hK_.size
  have Hb40_25 := Lib.hid ((hK_.block _ lb40_24).trans Hb40_24.out)
  have lb40_25 : SB < wc.heap.size := Nat.lt_of_lt_of_le lb40_24 hK_.size
  have Hb12_25 := Lib.hid ((hK_.block _ lb12_24).trans Hb12_24.out)
  have lb12_25 : N2 < wc.heap.size := Nat.lt_of_lt_of_le lb12_24 hK_.size
  have Hb14_25 := Lib.hid ((hK_.block _ lb14_24).trans Hb14_24.out)
  have lb14_25 : BB22 < wc.heap.size := Nat.lt_of_lt_of_le lb14_24 hK_.size
  have Hb16_25 := Lib.hid ((hK_.block _ lb16_24).trans Hb16_24.out)
  have lb16_25 : BB24 < wc.heap.size := Nat.lt_of_lt_of_le lb16_24 hK_.size
  clear hK_ HD24 lw24 Hb2_24 lb2_24 Hb3_24 lb3_24 Hb5_24 lb5_24 Hb7_24 lb7_24 Hb9_24 lb9_24 Hb40_24 lb40_24 Hb12_24 lb12_24 Hb14_24 lb14_24 Hb16_24 lb16_24
  obtain ⟨E2, hC⟩ : ∃ z, z = wc := ⟨wc, rfl⟩
  subst hC
  clear HZ2 HC2 HE2 HO2
  go_upto_region 14 with fail
  refine wp_region_lit ?_
  refine wpList_step (fun K hK => ?_); go_simp; refine hK _ _ ?_; clear hK K
  (try rw [show IntKind.i64.wrap 3 = 3 by decide])
  refine wpList_step (fun K hK => ?_); go_simp; refine hK _ _ ?_; clear hK K
  refine wpList_nil ?_
  go_wp2_with fail
  rw [rounds_succ]
  go_upto_region 15 with fail
  refine wp_region_lit ?_
  obtain ⟨p1, p2, p3, p4, p5, pe, HP⟩ := res5 (Amp.powS ⟨⟨a, b, c, d⟩, k⟩)
  refine wpList_load_mid rfl 69 (.tmp 2) rfl (w.heap.size) 0 rfl [.int .i64 a, .int .i64 b, .int .i64 c, .int .i64 d, .int .i64 k] _ (range_row Hb2_25.out 0 [.int .i64 a, .int .i64 b, .int .i64 c, .int .i64 d, .int .i64 k] (fun j hj => by simp only [Nat.zero_add, List.getElem?_toArray])) Try.underlying69 rfl (by kernel_rfl) ?_
  refine wpList_step (fun K hK => ?_)
  go_simp
  refine (Power_any a b c d k _).mono ?_
  rw [HP.out]
  rintro e u26_ ⟨rfl, hb⟩
  have HD26 := Lib.hid (HD25.out.trans (hb.mono lw25))
  have lw26 : w.heap.size ≤ u26_.heap.size := Nat.le_trans lw25 hb.size
  have Hb2_26 := Lib.hid ((hb.block _ lb2_25).trans Hb2_25.out)
  have lb2_26 : w.heap.size < u26_.heap.size := Nat.lt_of_lt_of_le lb2_25 hb.size
  have Hb3_26 := Lib.hid ((hb.block _ lb3_25).trans Hb3_25.out)
  have lb3_26 : w.heap.size + 1 < u26_.heap.size := Nat.lt_of_lt_of_le lb3_25 hb.size
  have Hb5_26 := Lib.hid ((hb.block _ lb5_25).trans Hb5_25.out)
  have lb5_26 : BB2 < u26_.heap.size := Nat.lt_of_lt_of_le lb5_25 hb.size
  have Hb7_26 := Lib.hid ((hb.block _ lb7_25).trans Hb7_25.out)
  have lb7_26 : BB4 < u26_.heap.size := Nat.lt_of_lt_of_le lb7_25 hb.size
  clear hb HD25 lw25 Hb2_25 lb2_25 Hb3_25 lb3_25 Hb5_25 lb5_25 Hb7_25 lb7_25
  refine hK _ _ ?_
  clear hK K
  (try unfold Ret5)
  (try simp only)
  refine wpList_step (fun K hK => ?_); go_simp; refine hK _ _ ?_; clear hK K
  refine wpList_step (fun K hK => ?_); go_simp; refine hK _ _ ?_; clear hK K
  refine wpList_step (fun K hK => ?_); go_simp; refine hK _ _ ?_; clear hK K
  refine wpList_step (fun K hK => ?_); go_simp; refine hK _ _ ?_; clear hK K
  have HTH := Lib.hid (there_mid (heap_alloc_new u26_ (.cells #[.int .i64 0, .int .i64 0, .int .i64 0, .int .i64 0, .int .i64 0] 69)) 0 5 (show 0 + 5 ≤ 5 by decide))
  refine wpList_store_mid rfl 69 (.tmp 18) (.tmp 89) rfl u26_.heap.size 0 #[.int .i64 p1, .int .i64 p2, .int .i64 p3, .int .i64 p4, .int .i64 p5] rfl rfl HTH.out (by kernel_rfl) (by simp [Value.oneCell']) ?_
  (try rw [show (#[.int .i64 p1, .int .i64 p2, .int .i64 p3, .int .i64 p4, .int .i64 p5] : Array Value).toList = [.int .i64 p1, .int .i64 p2, .int .i64 p3, .int .i64 p4, .int .i64 p5] from rfl])
  have hba : Below u26_.heap.size u26_ (u26_.alloc (.cells #[.int .i64 0, .int .i64 0, .int .i64 0, .int .i64 0, .int .i64 0] 69)) := bal (Below.refl _ _) _
  have hb : Below u26_.heap.size u26_ ((u26_.alloc (.cells #[.int .i64 0, .int .i64 0, .int .i64 0, .int .i64 0, .int .i64 0] 69)).setCells u26_.heap.size 0 [.int .i64 p1, .int .i64 p2, .int .i64 p3, .int .i64 p4, .int .i64 p5]) := below_mids (Nat.le_refl _) _ _ hba
  have hnb : ((u26_.alloc (.cells #[.int .i64 0, .int .i64 0, .int .i64 0, .int .i64 0, .int .i64 0] 69)).setCells u26_.heap.size 0 [.int .i64 p1, .int .i64 p2, .int .i64 p3, .int .i64 p4, .int .i64 p5]).heap[u26_.heap.size]? = some (.cells #[.int .i64 p1, .int .i64 p2, .int .i64 p3, .int .i64 p4, .int .i64 p5] 69 (0, 0)) := block_whole [.int .i64 p1, .int .i64 p2, .int .i64 p3, .int .i64 p4, .int .i64 p5] (heap_alloc_new u26_ (.cells #[.int .i64 0, .int .i64 0, .int .i64 0, .int .i64 0, .int .i64 0] 69)) rfl
  have hlb : u26_.heap.size < ((u26_.alloc (.cells #[.int .i64 0, .int .i64 0, .int .i64 0, .int .i64 0, .int .i64 0] 69)).setCells u26_.heap.size 0 [.int .i64 p1, .int .i64 p2, .int .i64 p3, .int .i64 p4, .int .i64 p5]).heap.size := (Array.getElem?_eq_some_iff.1 hnb).1
  have HD27 := Lib.hid (HD26.out.trans (hb.mono lw26))
  have lw27 : w.heap.size ≤ ((u26_.alloc (.cells #[.int .i64 0, .int .i64 0, .int .i64 0, .int .i64 0, .int .i64 0] 69)).setCells u26_.heap.size 0 [.int .i64 p1, .int .i64 p2, .int .i64 p3, .int .i64 p4, .int .i64 p5]).heap.size := Nat.le_trans lw26 hb.size
  have Hb2_27 := Lib.hid ((hb.block _ lb2_26).trans Hb2_26.out)
  have lb2_27 : w.heap.size < ((u26_.alloc (.cells #[.int .i64 0, .int .i64 0, .int .i64 0, .int .i64 0, .int .i64 0] 69)).setCells u26_.heap.size 0 [.int .i64 p1, .int .i64 p2, .int .i64 p3, .int .i64 p4, .int .i64 p5]).heap.size := Nat.lt_of_lt_of_le lb2_26 hb.size
  have Hb3_27 := Lib.hid ((hb.block _ lb3_26).trans Hb3_26.out)
  have lb3_27 : w.heap.size + 1 < ((u26_.alloc (.cells #[.int .i64 0, .int .i64 0, .int .i64 0, .int .i64 0, .int .i64 0] 69)).setCells u26_.heap.size 0 [.int .i64 p1, .int .i64 p2, .int .i64 p3, .int .i64 p4, .int .i64 p5]).heap.size := Nat.lt_of_lt_of_le lb3_26 hb.size
  have Hb5_27 := Lib.hid ((hb.block _ lb5_26).trans Hb5_26.out)
  have lb5_27 : BB2 < ((u26_.alloc (.cells #[.int .i64 0, .int .i64 0, .int .i64 0, .int .i64 0, .int .i64 0] 69)).setCells u26_.heap.size 0 [.int .i64 p1, .int .i64 p2, .int .i64 p3, .int .i64 p4, .int .i64 p5]).heap.size := Nat.lt_of_lt_of_le lb5_26 hb.size
  have Hb7_27 := Lib.hid ((hb.block _ lb7_26).trans Hb7_26.out)
  have lb7_27 : BB4 < ((u26_.alloc (.cells #[.int .i64 0, .int .i64 0, .int .i64 0, .int .i64 0, .int .i64 0] 69)).setCells u26_.heap.size 0 [.int .i64 p1, .int .i64 p2, .int .i64 p3, .int .i64 p4, .int .i64 p5]).heap.size := Nat.lt_of_lt_of_le lb7_26 hb.size
  have Hb18_27 := Lib.hid hnb
  have lb18_27 := hlb
  clear hb hba hnb hlb HTH HD26 lw26 Hb2_26 lb2_26 Hb3_26 lb3_26 Hb5_26 lb5_26 Hb7_26 lb7_26
  generalize ((u26_.alloc (.cells #[.int .i64 0, .int .i64 0, .int .i64 0, .int .i64 0, .int .i64 0] 69)).setCells u26_.heap.size 0 [.int .i64 p1, .int .i64 p2, .int .i64 p3, .int .i64 p4, .int .i64 p5]) = U27 at *
  generalize u26_.heap.size = BB27 at *
  refine wpList_step (fun K hK => ?_); go_simp; refine hK _ _ ?_; clear hK K
  refine wpList_nil ?_
  obtain ⟨q1, q2, qe, hq_⟩ := OutS_form2 (powO ⟨⟨x1, x2⟩, ⟨x3, x4⟩⟩)
  have HQ := Lib.hid hq_
  clear hq_
  go_upto_region 16 with fail
  refine wp_region_lit ?_
  refine wpList_load_mid rfl 25 (.tmp 5) rfl (BB2) 0 rfl [.int .i64 x1, .int .i64 x2, .int .i64 x3, .int .i64 x4] _ (range_row Hb5_27.out 0 [.int .i64 x1, .int .i64 x2, .int .i64 x3, .int .i64 x4] (fun j hj => by simp only [Nat.zero_add, List.getElem?_toArray])) Try.underlying25 rfl (by kernel_rfl) ?_
  refine wpList_step (fun K hK => ?_)
  go_simp
  refine (ePower_any x1 x2 x3 x4 _).mono ?_
  rw [HQ.out]
  rintro e u28_ ⟨rfl, hb⟩
  have HD28 := Lib.hid (HD27.out.trans (hb.mono lw27))
  have lw28 : w.heap.size ≤ u28_.heap.size := Nat.le_trans lw27 hb.size
  have Hb2_28 := Lib.hid ((hb.block _ lb2_27).trans Hb2_27.out)
  have lb2_28 : w.heap.size < u28_.heap.size := Nat.lt_of_lt_of_le lb2_27 hb.size
  have Hb3_28 := Lib.hid ((hb.block _ lb3_27).trans Hb3_27.out)
  have lb3_28 : w.heap.size + 1 < u28_.heap.size := Nat.lt_of_lt_of_le lb3_27 hb.size
  have Hb5_28 := Lib.hid ((hb.block _ lb5_27).trans Hb5_27.out)
  have lb5_28 : BB2 < u28_.heap.size := Nat.lt_of_lt_of_le lb5_27 hb.size
  have Hb7_28 := Lib.hid ((hb.block _ lb7_27).trans Hb7_27.out)
  have lb7_28 : BB4 < u28_.heap.size := Nat.lt_of_lt_of_le lb7_27 hb.size
  have Hb18_28 := Lib.hid ((hb.block _ lb18_27).trans Hb18_27.out)
  have lb18_28 : BB27 < u28_.heap.size := Nat.lt_of_lt_of_le lb18_27 hb.size
  clear hb HD27 lw27 Hb2_27 lb2_27 Hb3_27 lb3_27 Hb5_27 lb5_27 Hb7_27 lb7_27 Hb18_27 lb18_27
  refine hK _ _ ?_
  clear hK K
  refine wpList_step (fun K hK => ?_); go_simp; refine hK _ _ ?_; clear hK K
  refine wpList_step (fun K hK => ?_); go_simp; refine hK _ _ ?_; clear hK K
  refine wpList_step (fun K hK => ?_); go_simp; refine hK _ _ ?_; clear hK K
  refine wpList_step (fun K hK => ?_); go_simp; refine hK _ _ ?_; clear hK K
  have HTH := Lib.hid (there_mid (heap_alloc_new u28_ (.cells #[.int .i64 0, .int .i64 0] 23)) 0 2 (show 0 + 2 ≤ 2 by decide))
  refine wpList_store_mid rfl 23 (.tmp 19) (.tmp 94) rfl u28_.heap.size 0 #[.int .i64 q1, .int .i64 q2] rfl rfl HTH.out (by kernel_rfl) (by simp [Value.oneCell']) ?_
  (try rw [show (#[.int .i64 q1, .int .i64 q2] : Array Value).toList = [.int .i64 q1, .int .i64 q2] from rfl])
  have hba : Below u28_.heap.size u28_ (u28_.alloc (.cells #[.int .i64 0, .int .i64 0] 23)) := bal (Below.refl _ _) _
  have hb : Below u28_.heap.size u28_ ((u28_.alloc (.cells #[.int .i64 0, .int .i64 0] 23)).setCells u28_.heap.size 0 [.int .i64 q1, .int .i64 q2]) := below_mids (Nat.le_refl _) _ _ hba
  have hnb : ((u28_.alloc (.cells #[.int .i64 0, .int .i64 0] 23)).setCells u28_.heap.size 0 [.int .i64 q1, .int .i64 q2]).heap[u28_.heap.size]? = some (.cells #[.int .i64 q1, .int .i64 q2] 23 (0, 0)) := block_whole [.int .i64 q1, .int .i64 q2] (heap_alloc_new u28_ (.cells #[.int .i64 0, .int .i64 0] 23)) rfl
  have hlb : u28_.heap.size < ((u28_.alloc (.cells #[.int .i64 0, .int .i64 0] 23)).setCells u28_.heap.size 0 [.int .i64 q1, .int .i64 q2]).heap.size := (Array.getElem?_eq_some_iff.1 hnb).1
  have HD29 := Lib.hid (HD28.out.trans (hb.mono lw28))
  have lw29 : w.heap.size ≤ ((u28_.alloc (.cells #[.int .i64 0, .int .i64 0] 23)).setCells u28_.heap.size 0 [.int .i64 q1, .int .i64 q2]).heap.size := Nat.le_trans lw28 hb.size
  have Hb2_29 := Lib.hid ((hb.block _ lb2_28).trans Hb2_28.out)
  have lb2_29 : w.heap.size < ((u28_.alloc (.cells #[.int .i64 0, .int .i64 0] 23)).setCells u28_.heap.size 0 [.int .i64 q1, .int .i64 q2]).heap.size := Nat.lt_of_lt_of_le lb2_28 hb.size
  have Hb3_29 := Lib.hid ((hb.block _ lb3_28).trans Hb3_28.out)
  have lb3_29 : w.heap.size + 1 < ((u28_.alloc (.cells #[.int .i64 0, .int .i64 0] 23)).setCells u28_.heap.size 0 [.int .i64 q1, .int .i64 q2]).heap.size := Nat.lt_of_lt_of_le lb3_28 hb.size
  have Hb5_29 := Lib.hid ((hb.block _ lb5_28).trans Hb5_28.out)
  have lb5_29 : BB2 < ((u28_.alloc (.cells #[.int .i64 0, .int .i64 0] 23)).setCells u28_.heap.size 0 [.int .i64 q1, .int .i64 q2]).heap.size := Nat.lt_of_lt_of_le lb5_28 hb.size
  have Hb7_29 := Lib.hid ((hb.block _ lb7_28).trans Hb7_28.out)
  have lb7_29 : BB4 < ((u28_.alloc (.cells #[.int .i64 0, .int .i64 0] 23)).setCells u28_.heap.size 0 [.int .i64 q1, .int .i64 q2]).heap.size := Nat.lt_of_lt_of_le lb7_28 hb.size
  have Hb18_29 := Lib.hid ((hb.block _ lb18_28).trans Hb18_28.out)
  have lb18_29 : BB27 < ((u28_.alloc (.cells #[.int .i64 0, .int .i64 0] 23)).setCells u28_.heap.size 0 [.int .i64 q1, .int .i64 q2]).heap.size := Nat.lt_of_lt_of_le lb18_28 hb.size
  have Hb19_29 := Lib.hid hnb
  have lb19_29 := hlb
  clear hb hba hnb hlb HTH HD28 lw28 Hb2_28 lb2_28 Hb3_28 lb3_28 Hb5_28 lb5_28 Hb7_28 lb7_28 Hb18_28 lb18_28
  generalize ((u28_.alloc (.cells #[.int .i64 0, .int .i64 0] 23)).setCells u28_.heap.size 0 [.int .i64 q1, .int .i64 q2]) = U29 at *
  generalize u28_.heap.size = BB29 at *
  refine wpList_step (fun K hK => ?_); go_simp; refine hK _ _ ?_; clear hK K
  refine wpList_nil ?_
  obtain ⟨ol, oh, pl, ph, oe, HO⟩ := bnd_ex ⟨⟨p1, p2, p3, p4⟩, p5⟩ 30
  obtain ⟨d1, d2, d3, d4, de, hd_⟩ := OutR_form4 (numO oe ⟨ol, oh⟩ ⟨pl, ph⟩)
  have HE := Lib.hid hd_
  clear hd_
  go_upto_region 17 with fail
  refine wp_region_lit ?_
  refine wpList_load_mid rfl 69 (.tmp 18) rfl (BB27) 0 rfl [.int .i64 p1, .int .i64 p2, .int .i64 p3, .int .i64 p4, .int .i64 p5] _ (range_row Hb18_29.out 0 [.int .i64 p1, .int .i64 p2, .int .i64 p3, .int .i64 p4, .int .i64 p5] (fun j hj => by simp only [Nat.zero_add, List.getElem?_toArray])) Try.underlying69 rfl (by kernel_rfl) ?_
  refine wpList_step (fun K hK => ?_)
  go_simp
  refine (eFromNum_any p1 p2 p3 p4 p5 ol oh pl ph oe _ HO).mono ?_
  rw [HE.out]
  rintro e u30_ ⟨rfl, hb⟩
  have HD30 := Lib.hid (HD29.out.trans (hb.mono lw29))
  have lw30 : w.heap.size ≤ u30_.heap.size := Nat.le_trans lw29 hb.size
  have Hb2_30 := Lib.hid ((hb.block _ lb2_29).trans Hb2_29.out)
  have lb2_30 : w.heap.size < u30_.heap.size := Nat.lt_of_lt_of_le lb2_29 hb.size
  have Hb3_30 := Lib.hid ((hb.block _ lb3_29).trans Hb3_29.out)
  have lb3_30 : w.heap.size + 1 < u30_.heap.size := Nat.lt_of_lt_of_le lb3_29 hb.size
  have Hb5_30 := Lib.hid ((hb.block _ lb5_29).trans Hb5_29.out)
  have lb5_30 : BB2 < u30_.heap.size := Nat.lt_of_lt_of_le lb5_29 hb.size
  have Hb7_30 := Lib.hid ((hb.block _ lb7_29).trans Hb7_29.out)
  have lb7_30 : BB4 < u30_.heap.size := Nat.lt_of_lt_of_le lb7_29 hb.size
  have Hb18_30 := Lib.hid ((hb.block _ lb18_29).trans Hb18_29.out)
  have lb18_30 : BB27 < u30_.heap.size := Nat.lt_of_lt_of_le lb18_29 hb.size
  have Hb19_30 := Lib.hid ((hb.block _ lb19_29).trans Hb19_29.out)
  have lb19_30 : BB29 < u30_.heap.size := Nat.lt_of_lt_of_le lb19_29 hb.size
  clear hb HD29 lw29 Hb2_29 lb2_29 Hb3_29 lb3_29 Hb5_29 lb5_29 Hb7_29 lb7_29 Hb18_29 lb18_29 Hb19_29 lb19_29
  refine hK _ _ ?_
  clear hK K
  refine wpList_step (fun K hK => ?_); go_simp; refine hK _ _ ?_; clear hK K
  refine wpList_step (fun K hK => ?_); go_simp; refine hK _ _ ?_; clear hK K
  refine wpList_step (fun K hK => ?_); go_simp; refine hK _ _ ?_; clear hK K
  refine wpList_step (fun K hK => ?_); go_simp; refine hK _ _ ?_; clear hK K
  have HTH := Lib.hid (there_mid (heap_alloc_new u30_ (.cells #[.int .i64 0, .int .i64 0, .int .i64 0, .int .i64 0] 25)) 0 4 (show 0 + 4 ≤ 4 by decide))
  refine wpList_store_mid rfl 25 (.tmp 20) (.tmp 99) rfl u30_.heap.size 0 #[.int .i64 d1, .int .i64 d2, .int .i64 d3, .int .i64 d4] rfl rfl HTH.out (by kernel_rfl) (by simp [Value.oneCell']) ?_
  (try rw [show (#[.int .i64 d1, .int .i64 d2, .int .i64 d3, .int .i64 d4] : Array Value).toList = [.int .i64 d1, .int .i64 d2, .int .i64 d3, .int .i64 d4] from rfl])
  have hba : Below u30_.heap.size u30_ (u30_.alloc (.cells #[.int .i64 0, .int .i64 0, .int .i64 0, .int .i64 0] 25)) := bal (Below.refl _ _) _
  have hb : Below u30_.heap.size u30_ ((u30_.alloc (.cells #[.int .i64 0, .int .i64 0, .int .i64 0, .int .i64 0] 25)).setCells u30_.heap.size 0 [.int .i64 d1, .int .i64 d2, .int .i64 d3, .int .i64 d4]) := below_mids (Nat.le_refl _) _ _ hba
  have hnb : ((u30_.alloc (.cells #[.int .i64 0, .int .i64 0, .int .i64 0, .int .i64 0] 25)).setCells u30_.heap.size 0 [.int .i64 d1, .int .i64 d2, .int .i64 d3, .int .i64 d4]).heap[u30_.heap.size]? = some (.cells #[.int .i64 d1, .int .i64 d2, .int .i64 d3, .int .i64 d4] 25 (0, 0)) := block_whole [.int .i64 d1, .int .i64 d2, .int .i64 d3, .int .i64 d4] (heap_alloc_new u30_ (.cells #[.int .i64 0, .int .i64 0, .int .i64 0, .int .i64 0] 25)) rfl
  have hlb : u30_.heap.size < ((u30_.alloc (.cells #[.int .i64 0, .int .i64 0, .int .i64 0, .int .i64 0] 25)).setCells u30_.heap.size 0 [.int .i64 d1, .int .i64 d2, .int .i64 d3, .int .i64 d4]).heap.size := (Array.getElem?_eq_some_iff.1 hnb).1
  have HD31 := Lib.hid (HD30.out.trans (hb.mono lw30))
  have lw31 : w.heap.size ≤ ((u30_.alloc (.cells #[.int .i64 0, .int .i64 0, .int .i64 0, .int .i64 0] 25)).setCells u30_.heap.size 0 [.int .i64 d1, .int .i64 d2, .int .i64 d3, .int .i64 d4]).heap.size := Nat.le_trans lw30 hb.size
  have Hb2_31 := Lib.hid ((hb.block _ lb2_30).trans Hb2_30.out)
  have lb2_31 : w.heap.size < ((u30_.alloc (.cells #[.int .i64 0, .int .i64 0, .int .i64 0, .int .i64 0] 25)).setCells u30_.heap.size 0 [.int .i64 d1, .int .i64 d2, .int .i64 d3, .int .i64 d4]).heap.size := Nat.lt_of_lt_of_le lb2_30 hb.size
  have Hb3_31 := Lib.hid ((hb.block _ lb3_30).trans Hb3_30.out)
  have lb3_31 : w.heap.size + 1 < ((u30_.alloc (.cells #[.int .i64 0, .int .i64 0, .int .i64 0, .int .i64 0] 25)).setCells u30_.heap.size 0 [.int .i64 d1, .int .i64 d2, .int .i64 d3, .int .i64 d4]).heap.size := Nat.lt_of_lt_of_le lb3_30 hb.size
  have Hb5_31 := Lib.hid ((hb.block _ lb5_30).trans Hb5_30.out)
  have lb5_31 : BB2 < ((u30_.alloc (.cells #[.int .i64 0, .int .i64 0, .int .i64 0, .int .i64 0] 25)).setCells u30_.heap.size 0 [.int .i64 d1, .int .i64 d2, .int .i64 d3, .int .i64 d4]).heap.size := Nat.lt_of_lt_of_le lb5_30 hb.size
  have Hb7_31 := Lib.hid ((hb.block _ lb7_30).trans Hb7_30.out)
  have lb7_31 : BB4 < ((u30_.alloc (.cells #[.int .i64 0, .int .i64 0, .int .i64 0, .int .i64 0] 25)).setCells u30_.heap.size 0 [.int .i64 d1, .int .i64 d2, .int .i64 d3, .int .i64 d4]).heap.size := Nat.lt_of_lt_of_le lb7_30 hb.size
  have Hb18_31 := Lib.hid ((hb.block _ lb18_30).trans Hb18_30.out)
  have lb18_31 : BB27 < ((u30_.alloc (.cells #[.int .i64 0, .int .i64 0, .int .i64 0, .int .i64 0] 25)).setCells u30_.heap.size 0 [.int .i64 d1, .int .i64 d2, .int .i64 d3, .int .i64 d4]).heap.size := Nat.lt_of_lt_of_le lb18_30 hb.size
  have Hb19_31 := Lib.hid ((hb.block _ lb19_30).trans Hb19_30.out)
  have lb19_31 : BB29 < ((u30_.alloc (.cells #[.int .i64 0, .int .i64 0, .int .i64 0, .int .i64 0] 25)).setCells u30_.heap.size 0 [.int .i64 d1, .int .i64 d2, .int .i64 d3, .int .i64 d4]).heap.size := Nat.lt_of_lt_of_le lb19_30 hb.size
  have Hb20_31 := Lib.hid hnb
  have lb20_31 := hlb
  clear hb hba hnb hlb HTH HD30 lw30 Hb2_30 lb2_30 Hb3_30 lb3_30 Hb5_30 lb5_30 Hb7_30 lb7_30 Hb18_30 lb18_30 Hb19_30 lb19_30
  generalize ((u30_.alloc (.cells #[.int .i64 0, .int .i64 0, .int .i64 0, .int .i64 0] 25)).setCells u30_.heap.size 0 [.int .i64 d1, .int .i64 d2, .int .i64 d3, .int .i64 d4]) = U31 at *
  generalize u30_.heap.size = BB31 at *
  refine wpList_step (fun K hK => ?_); go_simp; refine hK _ _ ?_; clear hK K
  refine wpList_nil ?_
  go_upto_region 18 with fail
  have G0 : Hid (∀ w' : World, Below U31.heap.size U31 w' → w'.heap[BB31]? = some (.cells #[.int .i64 d1, .int .i64 d2, .int .i64 d3, .int .i64 d4] 25 (0, 0)) ∧ w'.heap[BB29]? = some (.cells #[.int .i64 q1, .int .i64 q2] 23 (0, 0))) := Lib.hid (fun w' hb => ⟨(hb.block _ lb20_31).trans Hb20_31.out, (hb.block _ lb19_31).trans Hb19_31.out⟩)
  have HQ0 : Below U31.heap.size U31 U31.drew := (Below.refl _ _).drew
  by_cases h1 : pe = 0
  case neg =>
    have hb1 : (pe != 0) = true := bne_iff_ne.2 h1
    clear h1
    refine wp_region_held_drew (S := fun w' => w'.heap[BB31]? = some (.cells #[.int .i64 d1, .int .i64 d2, .int .i64 d3, .int .i64 d4] 25 (0, 0)) ∧ w'.heap[BB29]? = some (.cells #[.int .i64 q1, .int .i64 q2] 23 (0, 0))) (by kernel_rfl) (G0.out _ HQ0) (fun hHeld => ?_)
    refine wpAnyH_take (i := 0) (oi := _) (v := ?_) rfl (by kernel_rfl) (by kernel_rfl) (by kernel_rfl) (fun _ _ _ h => h) (Or.inl ⟨by rfl, ?_⟩) (by assumption) ?_
    rotate_left
    · intro w hSw; go_simp; (try with_reducible rfl)
    try change wpAnyH _ _ _ _ _ _ _ (Act.put _ (some 101) _) _
    try simp only [act_all]
    refine wpAnyH_take (i := 1) (oi := _) (v := ?_) rfl (by kernel_rfl) (by kernel_rfl) (by kernel_rfl) (fun _ _ _ h => h) (Or.inl ⟨by rfl, ?_⟩) (by assumption) ?_
    rotate_left
    · intro w hSw; go_simp; (try with_reducible rfl)
    try change wpAnyH _ _ _ _ _ _ _ (Act.put _ (some 102) _) _
    try simp only [act_all]
    refine wpAnyH_take (i := 2) (oi := _) (v := ?_) rfl (by kernel_rfl) (by kernel_rfl) (by kernel_rfl) (fun _ _ _ h => h) (Or.inl ⟨by rfl, ?_⟩) (by assumption) ?_
    rotate_left
    · intro w hSw; go_simp; (try with_reducible rfl)
    try change wpAnyH _ _ _ _ _ _ _ (Act.put _ (some 103) _) _
    try simp only [act_all]
    refine wpAnyH_take (i := 3) (oi := _) (v := _) rfl (by kernel_rfl) (by kernel_rfl) (by kernel_rfl) (fun _ _ _ h => h) (Or.inr ⟨by rfl, rfl⟩) (by assumption) ?_
    try change wpAnyH _ _ _ _ _ _ _ (Act.put _ (some 104) _) _
    try simp only [act_all]
    refine wpAnyH_take (i := 4) (oi := _) (v := _) rfl (by kernel_rfl) (by kernel_rfl) (by kernel_rfl) (fun _ _ _ h => h) (Or.inr ⟨by rfl, rfl⟩) (by assumption) ?_
    try change wpAnyH _ _ _ _ _ _ _ (Act.put _ (some 105) _) _
    try simp only [act_all]
    refine wpAnyH_take (i := 5) (oi := _) (v := ?_) rfl (by kernel_rfl) (by kernel_rfl) (by kernel_rfl) (fun _ _ _ h => h) (Or.inl ⟨by rfl, ?_⟩) (by assumption) ?_
    rotate_left
    · intro w hSw; go_simp; (try with_reducible rfl)
    try change wpAnyH _ _ _ _ _ _ _ (Act.put _ (some 106) _) _
    try simp only [act_all]
    refine wpAnyH_take (i := 6) (oi := _) (v := ?_) rfl (by kernel_rfl) (by kernel_rfl) (by kernel_rfl) (fun _ _ _ h => h) (Or.inl ⟨by rfl, ?_⟩) (by assumption) ?_
    rotate_left
    · intro w hSw; go_simp; (try with_reducible rfl)
    try change wpAnyH _ _ _ _ _ _ _ (Act.put _ (some 107) _) _
    try simp only [act_all]
    refine wpAnyH_take (i := 7) (oi := _) (v := _) rfl (by kernel_rfl) (by kernel_rfl) (by kernel_rfl) (fun _ _ _ h => h) (Or.inr ⟨by rfl, rfl⟩) (by assumption) ?_
    try change wpAnyH _ _ _ _ _ _ _ (Act.put _ (some 108) _) _
    try simp only [act_all]
    refine wpAnyH_take (i := 8) (oi := _) (v := _) rfl (by kernel_rfl) (by kernel_rfl) (by kernel_rfl) (fun _ _ _ h => h) (Or.inr ⟨by rfl, rfl⟩) (by assumption) ?_
    try change wpAnyH _ _ _ _ _ _ _ (Act.put _ (some 109) _) _
    try simp only [act_all]
    refine wpAnyH_take (i := 9) (oi := _) (v := ?_) rfl (by kernel_rfl) (by kernel_rfl) (by kernel_rfl) (fun _ _ _ h => h) (Or.inl ⟨by rfl, ?_⟩) (by assumption) ?_
    rotate_left
    · intro w hSw; go_simp; (try with_reducible rfl)
    try change wpAnyH _ _ _ _ _ _ _ (Act.put _ (some 110) _) _
    try simp only [act_all]
    refine wpAnyH_take (i := 10) (oi := _) (v := ?_) rfl (by kernel_rfl) (by kernel_rfl) (by kernel_rfl) (fun _ _ _ h => h) (Or.inl ⟨by rfl, ?_⟩) (by assumption) ?_
    rotate_left
    · intro w hSw; go_simp; (try with_reducible rfl)
    try change wpAnyH _ _ _ _ _ _ _ (Act.put _ (some 111) _) _
    try simp only [act_all]
    refine wpAnyH_take (i := 11) (oi := _) (v := _) rfl (by kernel_rfl) (by kernel_rfl) (by kernel_rfl) (fun _ _ _ h => h) (Or.inr ⟨by rfl, rfl⟩) (by assumption) ?_
    try change wpAnyH _ _ _ _ _ _ _ (Act.put _ (some 112) _) _
    try simp only [act_all]
    refine wpAnyH_take (i := 12) (oi := _) (v := _) rfl (by kernel_rfl) (by kernel_rfl) (by kernel_rfl) (fun _ _ _ h => h) (Or.inr ⟨by rfl, rfl⟩) (by assumption) ?_
    try change wpAnyH _ _ _ _ _ _ _ (Act.put _ (some 113) _) _
    try simp only [act_all]
    refine wpAnyH_take (i := 13) (oi := _) (v := _) rfl (by kernel_rfl) (by kernel_rfl) (by kernel_rfl) (fun _ _ _ h => h) (Or.inr ⟨by rfl, rfl⟩) (by assumption) ?_
    try change wpAnyH _ _ _ _ _ _ _ (Act.put _ (some 114) _) _
    try simp only [act_all]
    refine wpAnyH_take (i := 14) (oi := _) (v := _) rfl (by kernel_rfl) (by kernel_rfl) (by kernel_rfl) (fun _ _ _ h => h) (Or.inr ⟨by rfl, rfl⟩) (by assumption) ?_
    try change wpAnyH _ _ _ _ _ _ _ (Act.put _ (some 115) _) _
    try simp only [act_all]
    refine wpAnyH_take (i := 15) (oi := _) (v := ?_) rfl (by kernel_rfl) (by kernel_rfl) (by kernel_rfl) (fun _ _ _ h => h) (Or.inl ⟨by rfl, ?_⟩) (by assumption) ?_
    rotate_left
    · intro w hSw; go_simp; (try with_reducible rfl)
    try change wpAnyH _ _ _ _ _ _ _ (Act.put _ (some 116) _) _
    try simp only [act_all]
    refine wpAnyH_take (i := 16) (oi := _) (v := ?_) rfl (by kernel_rfl) (by kernel_rfl) (by kernel_rfl) (fun _ _ _ h => h) (Or.inl ⟨by rfl, ?_⟩) (by assumption) ?_
    rotate_left
    · intro w hSw; go_simp; (try with_reducible rfl)
    try change wpAnyH _ _ _ _ _ _ _ (Act.put _ (some 117) _) _
    try simp only [act_all]
    refine wpAnyH_ready (rs := [17]) (by kernel_rfl) (by simp) ?_
    refine AllReadyH.cons (o := _) rfl (fun K hK => ?_) AllReadyH.nil
    go_simp
    refine (eawake_any _).mono ?_
    rintro e_ t1 ⟨rfl, hb⟩
    have HV1 : Below U31.heap.size U31 t1 := HQ0.trans (hb.mono HQ0.size)
    clear hb hHeld
    refine hK.out _ _ (G0.out _ HV1) (fun hHeld => ?_)
    clear hK K
    try simp only [act_all]
    refine wpAnyH_take (i := 18) (oi := _) (v := ?_) rfl (by kernel_rfl) (by kernel_rfl) (by kernel_rfl) (fun _ _ _ h => h) (Or.inl ⟨by rfl, ?_⟩) (by assumption) ?_
    rotate_left
    · intro w hSw; go_simp; (try with_reducible rfl)
    try change wpAnyH _ _ _ _ _ _ _ (Act.put _ (some 119) _) _
    try simp only [act_all]
    refine wpAnyH_take (i := 19) (oi := _) (v := ?_) rfl (by kernel_rfl) (by kernel_rfl) (by kernel_rfl) (fun _ _ _ h => h) (Or.inl ⟨by rfl, ?_⟩) (by assumption) ?_
    rotate_left
    · intro w hSw; go_simp; (try with_reducible rfl)
    try change wpAnyH _ _ _ _ _ _ _ (Act.put _ (some 4) _) _
    try simp only [act_all]
    refine wpAnyH_done (by kernel_rfl) ?_ _
    refine (‹∀ (a : Act) (w : World), Code.wp Try.prog Code.ret _ a w → _› _ _ ?_)
    apply wp_ret
    (try unfold Exit.then)
    (try dsimp only)
    (try simp only [act_all])
    refine bodyPost_ret (v := .bool true) (by simp [results, Try.results16, go_sem]) rfl ⟨rfl, HD31.out.trans (HV1.mono lw31)⟩
  subst h1
  by_cases h2 : qe = 0
  case neg =>
    have hb1 : (qe != 0) = true := bne_iff_ne.2 h2
    clear h2
    refine wp_region_held_drew (S := fun w' => w'.heap[BB31]? = some (.cells #[.int .i64 d1, .int .i64 d2, .int .i64 d3, .int .i64 d4] 25 (0, 0)) ∧ w'.heap[BB29]? = some (.cells #[.int .i64 q1, .int .i64 q2] 23 (0, 0))) (by kernel_rfl) (G0.out _ HQ0) (fun hHeld => ?_)
    refine wpAnyH_take (i := 0) (oi := _) (v := ?_) rfl (by kernel_rfl) (by kernel_rfl) (by kernel_rfl) (fun _ _ _ h => h) (Or.inl ⟨by rfl, ?_⟩) (by assumption) ?_
    rotate_left
    · intro w hSw; go_simp; (try with_reducible rfl)
    try change wpAnyH _ _ _ _ _ _ _ (Act.put _ (some 101) _) _
    try simp only [act_all]
    refine wpAnyH_take (i := 1) (oi := _) (v := ?_) rfl (by kernel_rfl) (by kernel_rfl) (by kernel_rfl) (fun _ _ _ h => h) (Or.inl ⟨by rfl, ?_⟩) (by assumption) ?_
    rotate_left
    · intro w hSw; go_simp; (try with_reducible rfl)
    try change wpAnyH _ _ _ _ _ _ _ (Act.put _ (some 102) _) _
    try simp only [act_all]
    refine wpAnyH_take (i := 2) (oi := _) (v := ?_) rfl (by kernel_rfl) (by kernel_rfl) (by kernel_rfl) (fun _ _ _ h => h) (Or.inl ⟨by rfl, ?_⟩) (by assumption) ?_
    rotate_left
    · intro w hSw; go_simp; (try with_reducible rfl)
    try change wpAnyH _ _ _ _ _ _ _ (Act.put _ (some 103) _) _
    try simp only [act_all]
    refine wpAnyH_take (i := 3) (oi := _) (v := ?_) rfl (by kernel_rfl) (by kernel_rfl) (by kernel_rfl) (fun _ _ _ h => h) (Or.inl ⟨by rfl, ?_⟩) (by assumption) ?_
    rotate_left
    · intro w hSw; go_simp; (try with_reducible rfl)
    try change wpAnyH _ _ _ _ _ _ _ (Act.put _ (some 104) _) _
    try simp only [act_all]
    refine wpAnyH_take (i := 4) (oi := _) (v := ?_) rfl (by kernel_rfl) (by kernel_rfl) (by kernel_rfl) (fun _ _ _ h => h) (Or.inl ⟨by rfl, ?_⟩) (by assumption) ?_
    rotate_left
    · intro w hSw; go_simp; (try with_reducible rfl)
    try change wpAnyH _ _ _ _ _ _ _ (Act.put _ (some 105) _) _
    try simp only [act_all]
    refine wpAnyH_take (i := 5) (oi := _) (v := ?_) rfl (by kernel_rfl) (by kernel_rfl) (by kernel_rfl) (fun _ _ _ h => h) (Or.inl ⟨by rfl, ?_⟩) (by assumption) ?_
    rotate_left
    · intro w hSw; go_simp; (try with_reducible rfl)
    try change wpAnyH _ _ _ _ _ _ _ (Act.put _ (some 106) _) _
    try simp only [act_all]
    refine wpAnyH_take (i := 6) (oi := _) (v := ?_) rfl (by kernel_rfl) (by kernel_rfl) (by kernel_rfl) (fun _ _ _ h => h) (Or.inl ⟨by rfl, ?_⟩) (by assumption) ?_
    rotate_left
    · intro w hSw; go_simp; (try with_reducible rfl)
    try change wpAnyH _ _ _ _ _ _ _ (Act.put _ (some 107) _) _
    try simp only [act_all]
    refine wpAnyH_take (i := 7) (oi := _) (v := _) rfl (by kernel_rfl) (by kernel_rfl) (by kernel_rfl) (fun _ _ _ h => h) (Or.inr ⟨by rfl, rfl⟩) (by assumption) ?_
    try change wpAnyH _ _ _ _ _ _ _ (Act.put _ (some 108) _) _
    try simp only [act_all]
    refine wpAnyH_take (i := 8) (oi := _) (v := _) rfl (by kernel_rfl) (by kernel_rfl) (by kernel_rfl) (fun _ _ _ h => h) (Or.inr ⟨by rfl, rfl⟩) (by assumption) ?_
    try change wpAnyH _ _ _ _ _ _ _ (Act.put _ (some 109) _) _
    try simp only [act_all]
    refine wpAnyH_take (i := 9) (oi := _) (v := ?_) rfl (by kernel_rfl) (by kernel_rfl) (by kernel_rfl) (fun _ _ _ h => h) (Or.inl ⟨by rfl, ?_⟩) (by assumption) ?_
    rotate_left
    · intro w hSw; go_simp; (try with_reducible rfl)
    try change wpAnyH _ _ _ _ _ _ _ (Act.put _ (some 110) _) _
    try simp only [act_all]
    refine wpAnyH_take (i := 10) (oi := _) (v := ?_) rfl (by kernel_rfl) (by kernel_rfl) (by kernel_rfl) (fun _ _ _ h => h) (Or.inl ⟨by rfl, ?_⟩) (by assumption) ?_
    rotate_left
    · intro w hSw; go_simp; (try with_reducible rfl)
    try change wpAnyH _ _ _ _ _ _ _ (Act.put _ (some 111) _) _
    try simp only [act_all]
    refine wpAnyH_take (i := 11) (oi := _) (v := _) rfl (by kernel_rfl) (by kernel_rfl) (by kernel_rfl) (fun _ _ _ h => h) (Or.inr ⟨by rfl, rfl⟩) (by assumption) ?_
    try change wpAnyH _ _ _ _ _ _ _ (Act.put _ (some 112) _) _
    try simp only [act_all]
    refine wpAnyH_take (i := 12) (oi := _) (v := _) rfl (by kernel_rfl) (by kernel_rfl) (by kernel_rfl) (fun _ _ _ h => h) (Or.inr ⟨by rfl, rfl⟩) (by assumption) ?_
    try change wpAnyH _ _ _ _ _ _ _ (Act.put _ (some 113) _) _
    try simp only [act_all]
    refine wpAnyH_take (i := 13) (oi := _) (v := _) rfl (by kernel_rfl) (by kernel_rfl) (by kernel_rfl) (fun _ _ _ h => h) (Or.inr ⟨by rfl, rfl⟩) (by assumption) ?_
    try change wpAnyH _ _ _ _ _ _ _ (Act.put _ (some 114) _) _
    try simp only [act_all]
    refine wpAnyH_take (i := 14) (oi := _) (v := _) rfl (by kernel_rfl) (by kernel_rfl) (by kernel_rfl) (fun _ _ _ h => h) (Or.inr ⟨by rfl, rfl⟩) (by assumption) ?_
    try change wpAnyH _ _ _ _ _ _ _ (Act.put _ (some 115) _) _
    try simp only [act_all]
    refine wpAnyH_take (i := 15) (oi := _) (v := ?_) rfl (by kernel_rfl) (by kernel_rfl) (by kernel_rfl) (fun _ _ _ h => h) (Or.inl ⟨by rfl, ?_⟩) (by assumption) ?_
    rotate_left
    · intro w hSw; go_simp; (try with_reducible rfl)
    try change wpAnyH _ _ _ _ _ _ _ (Act.put _ (some 116) _) _
    try simp only [act_all]
    refine wpAnyH_take (i := 16) (oi := _) (v := ?_) rfl (by kernel_rfl) (by kernel_rfl) (by kernel_rfl) (fun _ _ _ h => h) (Or.inl ⟨by rfl, ?_⟩) (by assumption) ?_
    rotate_left
    · intro w hSw; go_simp; (try with_reducible rfl)
    try change wpAnyH _ _ _ _ _ _ _ (Act.put _ (some 117) _) _
    try simp only [act_all]
    refine wpAnyH_ready (rs := [17]) (by kernel_rfl) (by simp) ?_
    refine AllReadyH.cons (o := _) rfl (fun K hK => ?_) AllReadyH.nil
    go_simp
    refine (eawake_any _).mono ?_
    rintro e_ t2 ⟨rfl, hb⟩
    have HV2 : Below U31.heap.size U31 t2 := HQ0.trans (hb.mono HQ0.size)
    clear hb hHeld
    refine hK.out _ _ (G0.out _ HV2) (fun hHeld => ?_)
    clear hK K
    try simp only [act_all]
    refine wpAnyH_take (i := 18) (oi := _) (v := ?_) rfl (by kernel_rfl) (by kernel_rfl) (by kernel_rfl) (fun _ _ _ h => h) (Or.inl ⟨by rfl, ?_⟩) (by assumption) ?_
    rotate_left
    · intro w hSw; go_simp; (try with_reducible rfl)
    try change wpAnyH _ _ _ _ _ _ _ (Act.put _ (some 119) _) _
    try simp only [act_all]
    refine wpAnyH_take (i := 19) (oi := _) (v := ?_) rfl (by kernel_rfl) (by kernel_rfl) (by kernel_rfl) (fun _ _ _ h => h) (Or.inl ⟨by rfl, ?_⟩) (by assumption) ?_
    rotate_left
    · intro w hSw; go_simp; (try with_reducible rfl)
    try change wpAnyH _ _ _ _ _ _ _ (Act.put _ (some 4) _) _
    try simp only [act_all]
    refine wpAnyH_done (by kernel_rfl) ?_ _
    refine (‹∀ (a : Act) (w : World), Code.wp Try.prog Code.ret _ a w → _› _ _ ?_)
    apply wp_ret
    (try unfold Exit.then)
    (try dsimp only)
    (try simp only [act_all])
    refine bodyPost_ret (v := .bool true) (by simp [results, Try.results16, go_sem]) rfl ⟨rfl, HD31.out.trans (HV2.mono lw31)⟩
  subst h2
  by_cases h3 : de = 0
  case neg =>
    have hb1 : (de != 0) = true := bne_iff_ne.2 h3
    clear h3
    refine wp_region_held_drew (S := fun w' => w'.heap[BB31]? = some (.cells #[.int .i64 d1, .int .i64 d2, .int .i64 d3, .int .i64 d4] 25 (0, 0)) ∧ w'.heap[BB29]? = some (.cells #[.int .i64 q1, .int .i64 q2] 23 (0, 0))) (by kernel_rfl) (G0.out _ HQ0) (fun hHeld => ?_)
    refine wpAnyH_take (i := 0) (oi := _) (v := ?_) rfl (by kernel_rfl) (by kernel_rfl) (by kernel_rfl) (fun _ _ _ h => h) (Or.inl ⟨by rfl, ?_⟩) (by assumption) ?_
    rotate_left
    · intro w hSw; go_simp; (try with_reducible rfl)
    try change wpAnyH _ _ _ _ _ _ _ (Act.put _ (some 101) _) _
    try simp only [act_all]
    refine wpAnyH_take (i := 1) (oi := _) (v := ?_) rfl (by kernel_rfl) (by kernel_rfl) (by kernel_rfl) (fun _ _ _ h => h) (Or.inl ⟨by rfl, ?_⟩) (by assumption) ?_
    rotate_left
    · intro w hSw; go_simp; (try with_reducible rfl)
    try change wpAnyH _ _ _ _ _ _ _ (Act.put _ (some 102) _) _
    try simp only [act_all]
    refine wpAnyH_take (i := 2) (oi := _) (v := ?_) rfl (by kernel_rfl) (by kernel_rfl) (by kernel_rfl) (fun _ _ _ h => h) (Or.inl ⟨by rfl, ?_⟩) (by assumption) ?_
    rotate_left
    · intro w hSw; go_simp; (try with_reducible rfl)
    try change wpAnyH _ _ _ _ _ _ _ (Act.put _ (some 103) _) _
    try simp only [act_all]
    refine wpAnyH_take (i := 3) (oi := _) (v := ?_) rfl (by kernel_rfl) (by kernel_rfl) (by kernel_rfl) (fun _ _ _ h => h) (Or.inl ⟨by rfl, ?_⟩) (by assumption) ?_
    rotate_left
    · intro w hSw; go_simp; (try with_reducible rfl)
    try change wpAnyH _ _ _ _ _ _ _ (Act.put _ (some 104) _) _
    try simp only [act_all]
    refine wpAnyH_take (i := 4) (oi := _) (v := ?_) rfl (by kernel_rfl) (by kernel_rfl) (by kernel_rfl) (fun _ _ _ h => h) (Or.inl ⟨by rfl, ?_⟩) (by assumption) ?_
    rotate_left
    · intro w hSw; go_simp; (try with_reducible rfl)
    try change wpAnyH _ _ _ _ _ _ _ (Act.put _ (some 105) _) _
    try simp only [act_all]
    refine wpAnyH_take (i := 5) (oi := _) (v := ?_) rfl (by kernel_rfl) (by kernel_rfl) (by kernel_rfl) (fun _ _ _ h => h) (Or.inl ⟨by rfl, ?_⟩) (by assumption) ?_
    rotate_left
    · intro w hSw; go_simp; (try with_reducible rfl)
    try change wpAnyH _ _ _ _ _ _ _ (Act.put _ (some 106) _) _
    try simp only [act_all]
    refine wpAnyH_take (i := 6) (oi := _) (v := ?_) rfl (by kernel_rfl) (by kernel_rfl) (by kernel_rfl) (fun _ _ _ h => h) (Or.inl ⟨by rfl, ?_⟩) (by assumption) ?_
    rotate_left
    · intro w hSw; go_simp; (try with_reducible rfl)
    try change wpAnyH _ _ _ _ _ _ _ (Act.put _ (some 107) _) _
    try simp only [act_all]
    refine wpAnyH_take (i := 7) (oi := _) (v := ?_) rfl (by kernel_rfl) (by kernel_rfl) (by kernel_rfl) (fun _ _ _ h => h) (Or.inl ⟨by rfl, ?_⟩) (by assumption) ?_
    rotate_left
    · intro w hSw; go_simp; (try with_reducible rfl)
    try change wpAnyH _ _ _ _ _ _ _ (Act.put _ (some 108) _) _
    try simp only [act_all]
    refine wpAnyH_take (i := 8) (oi := _) (v := ?_) rfl (by kernel_rfl) (by kernel_rfl) (by kernel_rfl) (fun _ _ _ h => h) (Or.inl ⟨by rfl, ?_⟩) (by assumption) ?_
    rotate_left
    · intro w hSw; go_simp; (try with_reducible rfl)
    try change wpAnyH _ _ _ _ _ _ _ (Act.put _ (some 109) _) _
    try simp only [act_all]
    refine wpAnyH_take (i := 9) (oi := _) (v := ?_) rfl (by kernel_rfl) (by kernel_rfl) (by kernel_rfl) (fun _ _ _ h => h) (Or.inl ⟨by rfl, ?_⟩) (by assumption) ?_
    rotate_left
    · intro w hSw; go_simp; (try with_reducible rfl)
    try change wpAnyH _ _ _ _ _ _ _ (Act.put _ (some 110) _) _
    try simp only [act_all]
    refine wpAnyH_take (i := 10) (oi := _) (v := ?_) rfl (by kernel_rfl) (by kernel_rfl) (by kernel_rfl) (fun _ _ _ h => h) (Or.inl ⟨by rfl, ?_⟩) (by assumption) ?_
    rotate_left
    · intro w hSw; go_simp; (try with_reducible rfl)
    try change wpAnyH _ _ _ _ _ _ _ (Act.put _ (some 111) _) _
    try simp only [act_all]
    refine wpAnyH_take (i := 11) (oi := _) (v := _) rfl (by kernel_rfl) (by kernel_rfl) (by kernel_rfl) (fun _ _ _ h => h) (Or.inr ⟨by rfl, rfl⟩) (by assumption) ?_
    try change wpAnyH _ _ _ _ _ _ _ (Act.put _ (some 112) _) _
    try simp only [act_all]
    refine wpAnyH_take (i := 12) (oi := _) (v := _) rfl (by kernel_rfl) (by kernel_rfl) (by kernel_rfl) (fun _ _ _ h => h) (Or.inr ⟨by rfl, rfl⟩) (by assumption) ?_
    try change wpAnyH _ _ _ _ _ _ _ (Act.put _ (some 113) _) _
    try simp only [act_all]
    refine wpAnyH_take (i := 13) (oi := _) (v := _) rfl (by kernel_rfl) (by kernel_rfl) (by kernel_rfl) (fun _ _ _ h => h) (Or.inr ⟨by rfl, rfl⟩) (by assumption) ?_
    try change wpAnyH _ _ _ _ _ _ _ (Act.put _ (some 114) _) _
    try simp only [act_all]
    refine wpAnyH_take (i := 14) (oi := _) (v := _) rfl (by kernel_rfl) (by kernel_rfl) (by kernel_rfl) (fun _ _ _ h => h) (Or.inr ⟨by rfl, rfl⟩) (by assumption) ?_
    try change wpAnyH _ _ _ _ _ _ _ (Act.put _ (some 115) _) _
    try simp only [act_all]
    refine wpAnyH_take (i := 15) (oi := _) (v := ?_) rfl (by kernel_rfl) (by kernel_rfl) (by kernel_rfl) (fun _ _ _ h => h) (Or.inl ⟨by rfl, ?_⟩) (by assumption) ?_
    rotate_left
    · intro w hSw; go_simp; (try with_reducible rfl)
    try change wpAnyH _ _ _ _ _ _ _ (Act.put _ (some 116) _) _
    try simp only [act_all]
    refine wpAnyH_take (i := 16) (oi := _) (v := ?_) rfl (by kernel_rfl) (by kernel_rfl) (by kernel_rfl) (fun _ _ _ h => h) (Or.inl ⟨by rfl, ?_⟩) (by assumption) ?_
    rotate_left
    · intro w hSw; go_simp; (try with_reducible rfl)
    try change wpAnyH _ _ _ _ _ _ _ (Act.put _ (some 117) _) _
    try simp only [act_all]
    refine wpAnyH_ready (rs := [17]) (by kernel_rfl) (by simp) ?_
    refine AllReadyH.cons (o := _) rfl (fun K hK => ?_) AllReadyH.nil
    go_simp
    refine (eawake_any _).mono ?_
    rintro e_ t3 ⟨rfl, hb⟩
    have HV3 : Below U31.heap.size U31 t3 := HQ0.trans (hb.mono HQ0.size)
    clear hb hHeld
    refine hK.out _ _ (G0.out _ HV3) (fun hHeld => ?_)
    clear hK K
    try simp only [act_all]
    refine wpAnyH_take (i := 18) (oi := _) (v := ?_) rfl (by kernel_rfl) (by kernel_rfl) (by kernel_rfl) (fun _ _ _ h => h) (Or.inl ⟨by rfl, ?_⟩) (by assumption) ?_
    rotate_left
    · intro w hSw; go_simp; (try with_reducible rfl)
    try change wpAnyH _ _ _ _ _ _ _ (Act.put _ (some 119) _) _
    try simp only [act_all]
    refine wpAnyH_take (i := 19) (oi := _) (v := ?_) rfl (by kernel_rfl) (by kernel_rfl) (by kernel_rfl) (fun _ _ _ h => h) (Or.inl ⟨by rfl, ?_⟩) (by assumption) ?_
    rotate_left
    · intro w hSw; go_simp; (try with_reducible rfl)
    try change wpAnyH _ _ _ _ _ _ _ (Act.put _ (some 4) _) _
    try simp only [act_all]
    refine wpAnyH_done (by kernel_rfl) ?_ _
    refine (‹∀ (a : Act) (w : World), Code.wp Try.prog Code.ret _ a w → _› _ _ ?_)
    apply wp_ret
    (try unfold Exit.then)
    (try dsimp only)
    (try simp only [act_all])
    refine bodyPost_ret (v := .bool true) (by simp [results, Try.results16, go_sem]) rfl ⟨rfl, HD31.out.trans (HV3.mono lw31)⟩
  subst h3
  refine wp_region_held_drew (S := fun w' => w'.heap[BB31]? = some (.cells #[.int .i64 d1, .int .i64 d2, .int .i64 d3, .int .i64 d4] 25 (0, 0)) ∧ w'.heap[BB29]? = some (.cells #[.int .i64 q1, .int .i64 q2] 23 (0, 0))) (by kernel_rfl) (G0.out _ HQ0) (fun hHeld => ?_)
  refine wpAnyH_take (i := 0) (oi := _) (v := ?_) rfl (by kernel_rfl) (by kernel_rfl) (by kernel_rfl) (fun _ _ _ h => h) (Or.inl ⟨by rfl, ?_⟩) (by assumption) ?_
  rotate_left
  · intro w hSw; go_simp; (try with_reducible rfl)
  try change wpAnyH _ _ _ _ _ _ _ (Act.put _ (some 101) _) _
  try simp only [act_all]
  refine wpAnyH_take (i := 1) (oi := _) (v := ?_) rfl (by kernel_rfl) (by kernel_rfl) (by kernel_rfl) (fun _ _ _ h => h) (Or.inl ⟨by rfl, ?_⟩) (by assumption) ?_
  rotate_left
  · intro w hSw; go_simp; (try with_reducible rfl)
  try change wpAnyH _ _ _ _ _ _ _ (Act.put _ (some 102) _) _
  try simp only [act_all]
  refine wpAnyH_take (i := 2) (oi := _) (v := ?_) rfl (by kernel_rfl) (by kernel_rfl) (by kernel_rfl) (fun _ _ _ h => h) (Or.inl ⟨by rfl, ?_⟩) (by assumption) ?_
  rotate_left
  · intro w hSw; go_simp; (try with_reducible rfl)
  try change wpAnyH _ _ _ _ _ _ _ (Act.put _ (some 103) _) _
  try simp only [act_all]
  refine wpAnyH_take (i := 3) (oi := _) (v := ?_) rfl (by kernel_rfl) (by kernel_rfl) (by kernel_rfl) (fun _ _ _ h => h) (Or.inl ⟨by rfl, ?_⟩) (by assumption) ?_
  rotate_left
  · intro w hSw; go_simp; (try with_reducible rfl)
  try change wpAnyH _ _ _ _ _ _ _ (Act.put _ (some 104) _) _
  try simp only [act_all]
  refine wpAnyH_take (i := 4) (oi := _) (v := ?_) rfl (by kernel_rfl) (by kernel_rfl) (by kernel_rfl) (fun _ _ _ h => h) (Or.inl ⟨by rfl, ?_⟩) (by assumption) ?_
  rotate_left
  · intro w hSw; go_simp; (try with_reducible rfl)
  try change wpAnyH _ _ _ _ _ _ _ (Act.put _ (some 105) _) _
  try simp only [act_all]
  refine wpAnyH_take (i := 5) (oi := _) (v := ?_) rfl (by kernel_rfl) (by kernel_rfl) (by kernel_rfl) (fun _ _ _ h => h) (Or.inl ⟨by rfl, ?_⟩) (by assumption) ?_
  rotate_left
  · intro w hSw; go_simp; (try with_reducible rfl)
  try change wpAnyH _ _ _ _ _ _ _ (Act.put _ (some 106) _) _
  try simp only [act_all]
  refine wpAnyH_take (i := 6) (oi := _) (v := ?_) rfl (by kernel_rfl) (by kernel_rfl) (by kernel_rfl) (fun _ _ _ h => h) (Or.inl ⟨by rfl, ?_⟩) (by assumption) ?_
  rotate_left
  · intro w hSw; go_simp; (try with_reducible rfl)
  try change wpAnyH _ _ _ _ _ _ _ (Act.put _ (some 107) _) _
  try simp only [act_all]
  refine wpAnyH_take (i := 7) (oi := _) (v := ?_) rfl (by kernel_rfl) (by kernel_rfl) (by kernel_rfl) (fun _ _ _ h => h) (Or.inl ⟨by rfl, ?_⟩) (by assumption) ?_
  rotate_left
  · intro w hSw; go_simp; (try with_reducible rfl)
  try change wpAnyH _ _ _ _ _ _ _ (Act.put _ (some 108) _) _
  try simp only [act_all]
  refine wpAnyH_take (i := 8) (oi := _) (v := ?_) rfl (by kernel_rfl) (by kernel_rfl) (by kernel_rfl) (fun _ _ _ h => h) (Or.inl ⟨by rfl, ?_⟩) (by assumption) ?_
  rotate_left
  · intro w hSw; go_simp; (try with_reducible rfl)
  try change wpAnyH _ _ _ _ _ _ _ (Act.put _ (some 109) _) _
  try simp only [act_all]
  refine wpAnyH_take (i := 9) (oi := _) (v := ?_) rfl (by kernel_rfl) (by kernel_rfl) (by kernel_rfl) (fun _ _ _ h => h) (Or.inl ⟨by rfl, ?_⟩) (by assumption) ?_
  rotate_left
  · intro w hSw; go_simp; (try with_reducible rfl)
  try change wpAnyH _ _ _ _ _ _ _ (Act.put _ (some 110) _) _
  try simp only [act_all]
  refine wpAnyH_take (i := 10) (oi := _) (v := ?_) rfl (by kernel_rfl) (by kernel_rfl) (by kernel_rfl) (fun _ _ _ h => h) (Or.inl ⟨by rfl, ?_⟩) (by assumption) ?_
  rotate_left
  · intro w hSw; go_simp; (try with_reducible rfl)
  try change wpAnyH _ _ _ _ _ _ _ (Act.put _ (some 111) _) _
  try simp only [act_all]
  refine wpAnyH_take (i := 11) (oi := _) (v := _) rfl (by kernel_rfl) (by kernel_rfl) (by kernel_rfl) (fun _ _ _ h => h) (yieldsIf_load_mid (by rfl) 25 _ rfl BB31 0 rfl ([.int .i64 d1, .int .i64 d2, .int .i64 d3, .int .i64 d4]) _ ((fun w' hh => range_row hh.1 0 [.int .i64 d1, .int .i64 d2, .int .i64 d3, .int .i64 d4] (fun j hj => by simp only [Nat.zero_add, List.getElem?_toArray]))) Try.underlying25 rfl (by kernel_rfl)) (by assumption) ?_
  try change wpAnyH _ _ _ _ _ _ _ (Act.put _ (some 112) _) _
  try simp only [act_all]
  refine wpAnyH_take (i := 12) (oi := _) (v := _) rfl (by kernel_rfl) (by kernel_rfl) (by kernel_rfl) (fun _ _ _ h => h) (yieldsIf_load_mid (by rfl) 23 _ rfl BB29 0 rfl ([.int .i64 q1, .int .i64 q2]) _ ((fun w' hh => range_row hh.2 0 [.int .i64 q1, .int .i64 q2] (fun j hj => by simp only [Nat.zero_add, List.getElem?_toArray]))) Try.underlying23 rfl (by kernel_rfl)) (by assumption) ?_
  try change wpAnyH _ _ _ _ _ _ _ (Act.put _ (some 113) _) _
  try simp only [act_all]
  refine wpAnyH_ready (rs := [13]) (by kernel_rfl) (by simp) ?_
  refine AllReadyH.cons (o := _) rfl (fun K hK => ?_) AllReadyH.nil
  go_simp
  refine (wideX_any q1 q2 _).mono ?_
  rintro e_ t4 ⟨rfl, hb⟩
  have HV4 : Below U31.heap.size U31 t4 := HQ0.trans (hb.mono HQ0.size)
  clear hb hHeld
  refine hK.out _ _ (G0.out _ HV4) (fun hHeld => ?_)
  clear hK K
  try simp only [act_all]
  refine wpAnyH_ready (rs := [14]) (by kernel_rfl) (by simp) ?_
  refine AllReadyH.cons (o := _) rfl (fun K hK => ?_) AllReadyH.nil
  go_simp
  refine (inL_any d1 d2 d3 d4 q1 q2 0 0 _).mono ?_
  rw [said_pow (x := ⟨⟨a, b, c, d⟩, k⟩) (z := ⟨⟨p1, p2, p3, p4⟩, p5⟩) H.out HO.out HX.out HE.out HP.out HQ.out]
  rintro e_ t5 ⟨rfl, hb⟩
  have HV5 : Below U31.heap.size U31 t5 := HV4.trans (hb.mono HV4.size)
  clear hb hHeld
  refine hK.out _ _ (G0.out _ HV5) (fun hHeld => ?_)
  clear hK K
  try simp only [act_all]
  refine wpAnyH_take (i := 15) (oi := _) (v := ?_) rfl (by kernel_rfl) (by kernel_rfl) (by kernel_rfl) (fun _ _ _ h => h) (Or.inl ⟨by rfl, ?_⟩) (by assumption) ?_
  rotate_left
  · intro w hSw; go_simp; (try with_reducible rfl)
  try change wpAnyH _ _ _ _ _ _ _ (Act.put _ (some 116) _) _
  try simp only [act_all]
  refine wpAnyH_take (i := 16) (oi := _) (v := ?_) rfl (by kernel_rfl) (by kernel_rfl) (by kernel_rfl) (fun _ _ _ h => h) (Or.inl ⟨by rfl, ?_⟩) (by assumption) ?_
  rotate_left
  · intro w hSw; go_simp; (try with_reducible rfl)
  try change wpAnyH _ _ _ _ _ _ _ (Act.put _ (some 117) _) _
  try simp only [act_all]
  refine wpAnyH_ready (rs := [17]) (by kernel_rfl) (by simp) ?_
  refine AllReadyH.cons (o := _) rfl (fun K hK => ?_) AllReadyH.nil
  go_simp
  refine (eawake_any _).mono ?_
  rintro e_ t6 ⟨rfl, hb⟩
  have HV6 : Below U31.heap.size U31 t6 := HV5.trans (hb.mono HV5.size)
  clear hb hHeld
  refine hK.out _ _ (G0.out _ HV6) (fun hHeld => ?_)
  clear hK K
  try simp only [act_all]
  refine wpAnyH_take (i := 18) (oi := _) (v := ?_) rfl (by kernel_rfl) (by kernel_rfl) (by kernel_rfl) (fun _ _ _ h => h) (Or.inl ⟨by rfl, ?_⟩) (by assumption) ?_
  rotate_left
  · intro w hSw; go_simp; (try with_reducible rfl)
  try change wpAnyH _ _ _ _ _ _ _ (Act.put _ (some 119) _) _
  try simp only [act_all]
  refine wpAnyH_take (i := 19) (oi := _) (v := ?_) rfl (by kernel_rfl) (by kernel_rfl) (by kernel_rfl) (fun _ _ _ h => h) (Or.inl ⟨by rfl, ?_⟩) (by assumption) ?_
  rotate_left
  · intro w hSw; go_simp; (try with_reducible rfl)
  try change wpAnyH _ _ _ _ _ _ _ (Act.put _ (some 4) _) _
  try simp only [act_all]
  refine wpAnyH_done (by kernel_rfl) ?_ _
  refine (‹∀ (a : Act) (w : World), Code.wp Try.prog Code.ret _ a w → _› _ _ ?_)
  apply wp_ret
  (try unfold Exit.then)
  (try dsimp only)
  (try simp only [act_all])
  refine bodyPost_ret (v := .bool true) (by simp [results, Try.results16, go_sem]) rfl ⟨rfl, HD31.out.trans (HV6.mono lw31)⟩
end Go.Proofs.Ytgbnpnenejgnnaa
