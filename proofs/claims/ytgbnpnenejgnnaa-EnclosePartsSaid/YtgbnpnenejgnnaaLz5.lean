import Derived.Test.YtgbnpnenejgnnaaFo5
import Derived.Test.YtgbnpnenejgnnaaFp5
import Derived.Test.YtgbnpnenejgnnaaPs6
import Derived.Test.YtgbnpnenejgnnaaAw5
namespace Go.Proofs.Ytgbnpnenejgnnaa
open Go.RowKit Encl Amp
set_option maxRecDepth 100000 in
set_option maxHeartbeats 8000000 in
theorem EncloseParts_any (n dd a b c d k : Int) (w : World) :
    Calls Try.prog 15 #[.int .i64 n, .int .i64 dd, .agg #[.int .i64 a, .int .i64 b, .int .i64 c, .int .i64 d, .int .i64 k]] w fun e w' => e = .returned (.bool true) ∧ Below w.heap.size w w' := by
  obtain ⟨rl, rh, il, ih, er, H⟩ := bnd_ex ⟨⟨a, b, c, d⟩, k⟩ 30
  obtain ⟨p1, p2, pe, hp⟩ := OutS_form' (prtO n dd)
  obtain ⟨x1, x2, x3, x4, xe, hx⟩ := OutR_form4 (numO er ⟨rl, rh⟩ ⟨il, ih⟩)
  have HP := Lib.hid hp
  have HX := Lib.hid hx
  clear hp hx
  go_enter Try.func15, Try.ntmps15
  go_upto_region 1 with fail
  have hb0 : Below w.heap.size w (w.alloc (.cells #[.int .i64 a, .int .i64 b, .int .i64 c, .int .i64 d, .int .i64 k] 69)) := by go_grown
  have hc5 : (w.alloc (.cells #[.int .i64 a, .int .i64 b, .int .i64 c, .int .i64 d, .int .i64 k] 69)).heap[w.heap.size]? = some (.cells #[.int .i64 a, .int .i64 b, .int .i64 c, .int .i64 d, .int .i64 k] 69 (0, 0)) := (heap_alloc_new w _)
  have hsz : w.heap.size + 1 ≤ (w.alloc (.cells #[.int .i64 a, .int .i64 b, .int .i64 c, .int .i64 d, .int .i64 k] 69)).heap.size := by simp
  generalize (w.alloc (.cells #[.int .i64 a, .int .i64 b, .int .i64 c, .int .i64 d, .int .i64 k] 69)) = W0 at *
  have HD0 := Lib.hid hb0
  have Hb5_0 := Lib.hid hc5
  have lb5_0 : w.heap.size < W0.heap.size := by omega
  have lw0 : w.heap.size ≤ W0.heap.size := by omega
  clear hb0 hsz hc5
  refine wp_region_lit ?_
  refine wpList_step (fun K hK => ?_); go_simp; refine hK _ _ ?_; clear hK K
  refine wpList_step (fun K hK => ?_); go_simp; refine hK _ _ ?_; clear hK K
  refine wpList_step (fun K hK => ?_)
  go_simp
  refine (ePart_all n dd _).mono ?_
  rw [HP.out]
  rintro e u1_ ⟨rfl, hb⟩
  have HD1 := Lib.hid (HD0.out.trans (hb.mono lw0))
  have lw1 : w.heap.size ≤ u1_.heap.size := Nat.le_trans lw0 hb.size
  have Hb5_1 := Lib.hid ((hb.block _ lb5_0).trans Hb5_0.out)
  have lb5_1 : w.heap.size < u1_.heap.size := Nat.lt_of_lt_of_le lb5_0 hb.size
  clear hb HD0 lw0 Hb5_0 lb5_0
  refine hK _ _ ?_
  clear hK K
  refine wpList_step (fun K hK => ?_); go_simp; refine hK _ _ ?_; clear hK K
  refine wpList_step (fun K hK => ?_); go_simp; refine hK _ _ ?_; clear hK K
  refine wpList_step (fun K hK => ?_); go_simp; refine hK _ _ ?_; clear hK K
  refine wpList_step (fun K hK => ?_); go_simp; refine hK _ _ ?_; clear hK K
  have HTH := Lib.hid (there_mid (heap_alloc_new u1_ (.cells #[.int .i64 0, .int .i64 0] 23)) 0 2 (show 0 + 2 ≤ 2 by decide))
  refine wpList_store_mid rfl 23 (.tmp 7) (.tmp 19) rfl u1_.heap.size 0 #[.int .i64 p1, .int .i64 p2] rfl rfl HTH.out (by kernel_rfl) (by simp [Value.oneCell']) ?_
  (try rw [show (#[.int .i64 p1, .int .i64 p2] : Array Value).toList = [.int .i64 p1, .int .i64 p2] from rfl])
  have hba : Below u1_.heap.size u1_ (u1_.alloc (.cells #[.int .i64 0, .int .i64 0] 23)) := bal (Below.refl _ _) _
  have hb : Below u1_.heap.size u1_ ((u1_.alloc (.cells #[.int .i64 0, .int .i64 0] 23)).setCells u1_.heap.size 0 [.int .i64 p1, .int .i64 p2]) := below_mids (Nat.le_refl _) _ _ hba
  have hnb : ((u1_.alloc (.cells #[.int .i64 0, .int .i64 0] 23)).setCells u1_.heap.size 0 [.int .i64 p1, .int .i64 p2]).heap[u1_.heap.size]? = some (.cells #[.int .i64 p1, .int .i64 p2] 23 (0, 0)) := block_whole [.int .i64 p1, .int .i64 p2] (heap_alloc_new u1_ (.cells #[.int .i64 0, .int .i64 0] 23)) rfl
  have hlb : u1_.heap.size < ((u1_.alloc (.cells #[.int .i64 0, .int .i64 0] 23)).setCells u1_.heap.size 0 [.int .i64 p1, .int .i64 p2]).heap.size := (Array.getElem?_eq_some_iff.1 hnb).1
  have HD2 := Lib.hid (HD1.out.trans (hb.mono lw1))
  have lw2 : w.heap.size ≤ ((u1_.alloc (.cells #[.int .i64 0, .int .i64 0] 23)).setCells u1_.heap.size 0 [.int .i64 p1, .int .i64 p2]).heap.size := Nat.le_trans lw1 hb.size
  have Hb5_2 := Lib.hid ((hb.block _ lb5_1).trans Hb5_1.out)
  have lb5_2 : w.heap.size < ((u1_.alloc (.cells #[.int .i64 0, .int .i64 0] 23)).setCells u1_.heap.size 0 [.int .i64 p1, .int .i64 p2]).heap.size := Nat.lt_of_lt_of_le lb5_1 hb.size
  have Hb7_2 := Lib.hid hnb
  have lb7_2 := hlb
  clear hb hba hnb hlb HTH HD1 lw1 Hb5_1 lb5_1
  generalize ((u1_.alloc (.cells #[.int .i64 0, .int .i64 0] 23)).setCells u1_.heap.size 0 [.int .i64 p1, .int .i64 p2]) = U2 at *
  generalize u1_.heap.size = BB2 at *
  refine wpList_step (fun K hK => ?_); go_simp; refine hK _ _ ?_; clear hK K
  refine wpList_nil ?_
  go_upto_region 2 with fail
  refine wp_region_lit ?_
  refine wpList_step (fun K hK => ?_); go_simp; refine hK _ _ ?_; clear hK K
  refine wpList_step (fun K hK => ?_); go_simp; refine hK _ _ ?_; clear hK K
  refine wpList_step (fun K hK => ?_)
  go_simp
  refine (rPart_all n dd _).mono ?_
  rw [HP.out]
  rintro e u3_ ⟨rfl, hb⟩
  have HD3 := Lib.hid (HD2.out.trans (hb.mono lw2))
  have lw3 : w.heap.size ≤ u3_.heap.size := Nat.le_trans lw2 hb.size
  have Hb5_3 := Lib.hid ((hb.block _ lb5_2).trans Hb5_2.out)
  have lb5_3 : w.heap.size < u3_.heap.size := Nat.lt_of_lt_of_le lb5_2 hb.size
  have Hb7_3 := Lib.hid ((hb.block _ lb7_2).trans Hb7_2.out)
  have lb7_3 : BB2 < u3_.heap.size := Nat.lt_of_lt_of_le lb7_2 hb.size
  clear hb HD2 lw2 Hb5_2 lb5_2 Hb7_2 lb7_2
  refine hK _ _ ?_
  clear hK K
  refine wpList_step (fun K hK => ?_); go_simp; refine hK _ _ ?_; clear hK K
  refine wpList_step (fun K hK => ?_); go_simp; refine hK _ _ ?_; clear hK K
  refine wpList_step (fun K hK => ?_); go_simp; refine hK _ _ ?_; clear hK K
  refine wpList_step (fun K hK => ?_); go_simp; refine hK _ _ ?_; clear hK K
  have HTH := Lib.hid (there_mid (heap_alloc_new u3_ (.cells #[.int .i64 0, .int .i64 0] 23)) 0 2 (show 0 + 2 ≤ 2 by decide))
  refine wpList_store_mid rfl 23 (.tmp 9) (.tmp 25) rfl u3_.heap.size 0 #[.int .i64 p1, .int .i64 p2] rfl rfl HTH.out (by kernel_rfl) (by simp [Value.oneCell']) ?_
  (try rw [show (#[.int .i64 p1, .int .i64 p2] : Array Value).toList = [.int .i64 p1, .int .i64 p2] from rfl])
  have hba : Below u3_.heap.size u3_ (u3_.alloc (.cells #[.int .i64 0, .int .i64 0] 23)) := bal (Below.refl _ _) _
  have hb : Below u3_.heap.size u3_ ((u3_.alloc (.cells #[.int .i64 0, .int .i64 0] 23)).setCells u3_.heap.size 0 [.int .i64 p1, .int .i64 p2]) := below_mids (Nat.le_refl _) _ _ hba
  have hnb : ((u3_.alloc (.cells #[.int .i64 0, .int .i64 0] 23)).setCells u3_.heap.size 0 [.int .i64 p1, .int .i64 p2]).heap[u3_.heap.size]? = some (.cells #[.int .i64 p1, .int .i64 p2] 23 (0, 0)) := block_whole [.int .i64 p1, .int .i64 p2] (heap_alloc_new u3_ (.cells #[.int .i64 0, .int .i64 0] 23)) rfl
  have hlb : u3_.heap.size < ((u3_.alloc (.cells #[.int .i64 0, .int .i64 0] 23)).setCells u3_.heap.size 0 [.int .i64 p1, .int .i64 p2]).heap.size := (Array.getElem?_eq_some_iff.1 hnb).1
  have HD4 := Lib.hid (HD3.out.trans (hb.mono lw3))
  have lw4 : w.heap.size ≤ ((u3_.alloc (.cells #[.int .i64 0, .int .i64 0] 23)).setCells u3_.heap.size 0 [.int .i64 p1, .int .i64 p2]).heap.size := Nat.le_trans lw3 hb.size
  have Hb5_4 := Lib.hid ((hb.block _ lb5_3).trans Hb5_3.out)
  have lb5_4 : w.heap.size < ((u3_.alloc (.cells #[.int .i64 0, .int .i64 0] 23)).setCells u3_.heap.size 0 [.int .i64 p1, .int .i64 p2]).heap.size := Nat.lt_of_lt_of_le lb5_3 hb.size
  have Hb7_4 := Lib.hid ((hb.block _ lb7_3).trans Hb7_3.out)
  have lb7_4 : BB2 < ((u3_.alloc (.cells #[.int .i64 0, .int .i64 0] 23)).setCells u3_.heap.size 0 [.int .i64 p1, .int .i64 p2]).heap.size := Nat.lt_of_lt_of_le lb7_3 hb.size
  have Hb9_4 := Lib.hid hnb
  have lb9_4 := hlb
  clear hb hba hnb hlb HTH HD3 lw3 Hb5_3 lb5_3 Hb7_3 lb7_3
  generalize ((u3_.alloc (.cells #[.int .i64 0, .int .i64 0] 23)).setCells u3_.heap.size 0 [.int .i64 p1, .int .i64 p2]) = U4 at *
  generalize u3_.heap.size = BB4 at *
  refine wpList_step (fun K hK => ?_); go_simp; refine hK _ _ ?_; clear hK K
  refine wpList_nil ?_
  go_upto_region 3 with fail
  refine wp_region_lit ?_
  refine wpList_load_mid rfl 69 (.tmp 5) rfl (w.heap.size) 0 rfl [.int .i64 a, .int .i64 b, .int .i64 c, .int .i64 d, .int .i64 k] _ (range_row Hb5_4.out 0 [.int .i64 a, .int .i64 b, .int .i64 c, .int .i64 d, .int .i64 k] (fun j hj => by simp only [Nat.zero_add, List.getElem?_toArray])) Try.underlying69 rfl (by kernel_rfl) ?_
  refine wpList_step (fun K hK => ?_)
  go_simp
  refine (eFromNum_any a b c d k rl rh il ih er _ H).mono ?_
  rw [HX.out]
  rintro e u5_ ⟨rfl, hb⟩
  have HD5 := Lib.hid (HD4.out.trans (hb.mono lw4))
  have lw5 : w.heap.size ≤ u5_.heap.size := Nat.le_trans lw4 hb.size
  have Hb5_5 := Lib.hid ((hb.block _ lb5_4).trans Hb5_4.out)
  have lb5_5 : w.heap.size < u5_.heap.size := Nat.lt_of_lt_of_le lb5_4 hb.size
  have Hb7_5 := Lib.hid ((hb.block _ lb7_4).trans Hb7_4.out)
  have lb7_5 : BB2 < u5_.heap.size := Nat.lt_of_lt_of_le lb7_4 hb.size
  have Hb9_5 := Lib.hid ((hb.block _ lb9_4).trans Hb9_4.out)
  have lb9_5 : BB4 < u5_.heap.size := Nat.lt_of_lt_of_le lb9_4 hb.size
  clear hb HD4 lw4 Hb5_4 lb5_4 Hb7_4 lb7_4 Hb9_4 lb9_4
  refine hK _ _ ?_
  clear hK K
  refine wpList_step (fun K hK => ?_); go_simp; refine hK _ _ ?_; clear hK K
  refine wpList_step (fun K hK => ?_); go_simp; refine hK _ _ ?_; clear hK K
  refine wpList_step (fun K hK => ?_); go_simp; refine hK _ _ ?_; clear hK K
  refine wpList_step (fun K hK => ?_); go_simp; refine hK _ _ ?_; clear hK K
  have HTH := Lib.hid (there_mid (heap_alloc_new u5_ (.cells #[.int .i64 0, .int .i64 0, .int .i64 0, .int .i64 0] 25)) 0 4 (show 0 + 4 ≤ 4 by decide))
  refine wpList_store_mid rfl 25 (.tmp 11) (.tmp 30) rfl u5_.heap.size 0 #[.int .i64 x1, .int .i64 x2, .int .i64 x3, .int .i64 x4] rfl rfl HTH.out (by kernel_rfl) (by simp [Value.oneCell']) ?_
  (try rw [show (#[.int .i64 x1, .int .i64 x2, .int .i64 x3, .int .i64 x4] : Array Value).toList = [.int .i64 x1, .int .i64 x2, .int .i64 x3, .int .i64 x4] from rfl])
  have hba : Below u5_.heap.size u5_ (u5_.alloc (.cells #[.int .i64 0, .int .i64 0, .int .i64 0, .int .i64 0] 25)) := bal (Below.refl _ _) _
  have hb : Below u5_.heap.size u5_ ((u5_.alloc (.cells #[.int .i64 0, .int .i64 0, .int .i64 0, .int .i64 0] 25)).setCells u5_.heap.size 0 [.int .i64 x1, .int .i64 x2, .int .i64 x3, .int .i64 x4]) := below_mids (Nat.le_refl _) _ _ hba
  have hnb : ((u5_.alloc (.cells #[.int .i64 0, .int .i64 0, .int .i64 0, .int .i64 0] 25)).setCells u5_.heap.size 0 [.int .i64 x1, .int .i64 x2, .int .i64 x3, .int .i64 x4]).heap[u5_.heap.size]? = some (.cells #[.int .i64 x1, .int .i64 x2, .int .i64 x3, .int .i64 x4] 25 (0, 0)) := block_whole [.int .i64 x1, .int .i64 x2, .int .i64 x3, .int .i64 x4] (heap_alloc_new u5_ (.cells #[.int .i64 0, .int .i64 0, .int .i64 0, .int .i64 0] 25)) rfl
  have hlb : u5_.heap.size < ((u5_.alloc (.cells #[.int .i64 0, .int .i64 0, .int .i64 0, .int .i64 0] 25)).setCells u5_.heap.size 0 [.int .i64 x1, .int .i64 x2, .int .i64 x3, .int .i64 x4]).heap.size := (Array.getElem?_eq_some_iff.1 hnb).1
  have HD6 := Lib.hid (HD5.out.trans (hb.mono lw5))
  have lw6 : w.heap.size ≤ ((u5_.alloc (.cells #[.int .i64 0, .int .i64 0, .int .i64 0, .int .i64 0] 25)).setCells u5_.heap.size 0 [.int .i64 x1, .int .i64 x2, .int .i64 x3, .int .i64 x4]).heap.size := Nat.le_trans lw5 hb.size
  have Hb5_6 := Lib.hid ((hb.block _ lb5_5).trans Hb5_5.out)
  have lb5_6 : w.heap.size < ((u5_.alloc (.cells #[.int .i64 0, .int .i64 0, .int .i64 0, .int .i64 0] 25)).setCells u5_.heap.size 0 [.int .i64 x1, .int .i64 x2, .int .i64 x3, .int .i64 x4]).heap.size := Nat.lt_of_lt_of_le lb5_5 hb.size
  have Hb7_6 := Lib.hid ((hb.block _ lb7_5).trans Hb7_5.out)
  have lb7_6 : BB2 < ((u5_.alloc (.cells #[.int .i64 0, .int .i64 0, .int .i64 0, .int .i64 0] 25)).setCells u5_.heap.size 0 [.int .i64 x1, .int .i64 x2, .int .i64 x3, .int .i64 x4]).heap.size := Nat.lt_of_lt_of_le lb7_5 hb.size
  have Hb9_6 := Lib.hid ((hb.block _ lb9_5).trans Hb9_5.out)
  have lb9_6 : BB4 < ((u5_.alloc (.cells #[.int .i64 0, .int .i64 0, .int .i64 0, .int .i64 0] 25)).setCells u5_.heap.size 0 [.int .i64 x1, .int .i64 x2, .int .i64 x3, .int .i64 x4]).heap.size := Nat.lt_of_lt_of_le lb9_5 hb.size
  have Hb11_6 := Lib.hid hnb
  have lb11_6 := hlb
  clear hb hba hnb hlb HTH HD5 lw5 Hb5_5 lb5_5 Hb7_5 lb7_5 Hb9_5 lb9_5
  generalize ((u5_.alloc (.cells #[.int .i64 0, .int .i64 0, .int .i64 0, .int .i64 0] 25)).setCells u5_.heap.size 0 [.int .i64 x1, .int .i64 x2, .int .i64 x3, .int .i64 x4]) = U6 at *
  generalize u5_.heap.size = BB6 at *
  refine wpList_step (fun K hK => ?_); go_simp; refine hK _ _ ?_; clear hK K
  refine wpList_nil ?_
  go_upto_region 4 with fail
  refine wp_region_lit ?_
  refine wpList_load_mid rfl 69 (.tmp 5) rfl (w.heap.size) 0 rfl [.int .i64 a, .int .i64 b, .int .i64 c, .int .i64 d, .int .i64 k] _ (range_row Hb5_6.out 0 [.int .i64 a, .int .i64 b, .int .i64 c, .int .i64 d, .int .i64 k] (fun j hj => by simp only [Nat.zero_add, List.getElem?_toArray])) Try.underlying69 rfl (by kernel_rfl) ?_
  refine wpList_step (fun K hK => ?_)
  go_simp
  refine (rFromNum_any a b c d k rl rh il ih er _ H).mono ?_
  rw [HX.out]
  rintro e u7_ ⟨rfl, hb⟩
  have HD7 := Lib.hid (HD6.out.trans (hb.mono lw6))
  have lw7 : w.heap.size ≤ u7_.heap.size := Nat.le_trans lw6 hb.size
  have Hb5_7 := Lib.hid ((hb.block _ lb5_6).trans Hb5_6.out)
  have lb5_7 : w.heap.size < u7_.heap.size := Nat.lt_of_lt_of_le lb5_6 hb.size
  have Hb7_7 := Lib.hid ((hb.block _ lb7_6).trans Hb7_6.out)
  have lb7_7 : BB2 < u7_.heap.size := Nat.lt_of_lt_of_le lb7_6 hb.size
  have Hb9_7 := Lib.hid ((hb.block _ lb9_6).trans Hb9_6.out)
  have lb9_7 : BB4 < u7_.heap.size := Nat.lt_of_lt_of_le lb9_6 hb.size
  have Hb11_7 := Lib.hid ((hb.block _ lb11_6).trans Hb11_6.out)
  have lb11_7 : BB6 < u7_.heap.size := Nat.lt_of_lt_of_le lb11_6 hb.size
  clear hb HD6 lw6 Hb5_6 lb5_6 Hb7_6 lb7_6 Hb9_6 lb9_6 Hb11_6 lb11_6
  refine hK _ _ ?_
  clear hK K
  refine wpList_step (fun K hK => ?_); go_simp; refine hK _ _ ?_; clear hK K
  refine wpList_step (fun K hK => ?_); go_simp; refine hK _ _ ?_; clear hK K
  refine wpList_step (fun K hK => ?_); go_simp; refine hK _ _ ?_; clear hK K
  refine wpList_step (fun K hK => ?_); go_simp; refine hK _ _ ?_; clear hK K
  have HTH := Lib.hid (there_mid (heap_alloc_new u7_ (.cells #[.int .i64 0, .int .i64 0, .int .i64 0, .int .i64 0] 25)) 0 4 (show 0 + 4 ≤ 4 by decide))
  refine wpList_store_mid rfl 25 (.tmp 13) (.tmp 35) rfl u7_.heap.size 0 #[.int .i64 x1, .int .i64 x2, .int .i64 x3, .int .i64 x4] rfl rfl HTH.out (by kernel_rfl) (by simp [Value.oneCell']) ?_
  (try rw [show (#[.int .i64 x1, .int .i64 x2, .int .i64 x3, .int .i64 x4] : Array Value).toList = [.int .i64 x1, .int .i64 x2, .int .i64 x3, .int .i64 x4] from rfl])
  have hba : Below u7_.heap.size u7_ (u7_.alloc (.cells #[.int .i64 0, .int .i64 0, .int .i64 0, .int .i64 0] 25)) := bal (Below.refl _ _) _
  have hb : Below u7_.heap.size u7_ ((u7_.alloc (.cells #[.int .i64 0, .int .i64 0, .int .i64 0, .int .i64 0] 25)).setCells u7_.heap.size 0 [.int .i64 x1, .int .i64 x2, .int .i64 x3, .int .i64 x4]) := below_mids (Nat.le_refl _) _ _ hba
  have hnb : ((u7_.alloc (.cells #[.int .i64 0, .int .i64 0, .int .i64 0, .int .i64 0] 25)).setCells u7_.heap.size 0 [.int .i64 x1, .int .i64 x2, .int .i64 x3, .int .i64 x4]).heap[u7_.heap.size]? = some (.cells #[.int .i64 x1, .int .i64 x2, .int .i64 x3, .int .i64 x4] 25 (0, 0)) := block_whole [.int .i64 x1, .int .i64 x2, .int .i64 x3, .int .i64 x4] (heap_alloc_new u7_ (.cells #[.int .i64 0, .int .i64 0, .int .i64 0, .int .i64 0] 25)) rfl
  have hlb : u7_.heap.size < ((u7_.alloc (.cells #[.int .i64 0, .int .i64 0, .int .i64 0, .int .i64 0] 25)).setCells u7_.heap.size 0 [.int .i64 x1, .int .i64 x2, .int .i64 x3, .int .i64 x4]).heap.size := (Array.getElem?_eq_some_iff.1 hnb).1
  have HD8 := Lib.hid (HD7.out.trans (hb.mono lw7))
  have lw8 : w.heap.size ≤ ((u7_.alloc (.cells #[.int .i64 0, .int .i64 0, .int .i64 0, .int .i64 0] 25)).setCells u7_.heap.size 0 [.int .i64 x1, .int .i64 x2, .int .i64 x3, .int .i64 x4]).heap.size := Nat.le_trans lw7 hb.size
  have Hb5_8 := Lib.hid ((hb.block _ lb5_7).trans Hb5_7.out)
  have lb5_8 : w.heap.size < ((u7_.alloc (.cells #[.int .i64 0, .int .i64 0, .int .i64 0, .int .i64 0] 25)).setCells u7_.heap.size 0 [.int .i64 x1, .int .i64 x2, .int .i64 x3, .int .i64 x4]).heap.size := Nat.lt_of_lt_of_le lb5_7 hb.size
  have Hb7_8 := Lib.hid ((hb.block _ lb7_7).trans Hb7_7.out)
  have lb7_8 : BB2 < ((u7_.alloc (.cells #[.int .i64 0, .int .i64 0, .int .i64 0, .int .i64 0] 25)).setCells u7_.heap.size 0 [.int .i64 x1, .int .i64 x2, .int .i64 x3, .int .i64 x4]).heap.size := Nat.lt_of_lt_of_le lb7_7 hb.size
  have Hb9_8 := Lib.hid ((hb.block _ lb9_7).trans Hb9_7.out)
  have lb9_8 : BB4 < ((u7_.alloc (.cells #[.int .i64 0, .int .i64 0, .int .i64 0, .int .i64 0] 25)).setCells u7_.heap.size 0 [.int .i64 x1, .int .i64 x2, .int .i64 x3, .int .i64 x4]).heap.size := Nat.lt_of_lt_of_le lb9_7 hb.size
  have Hb11_8 := Lib.hid ((hb.block _ lb11_7).trans Hb11_7.out)
  have lb11_8 : BB6 < ((u7_.alloc (.cells #[.int .i64 0, .int .i64 0, .int .i64 0, .int .i64 0] 25)).setCells u7_.heap.size 0 [.int .i64 x1, .int .i64 x2, .int .i64 x3, .int .i64 x4]).heap.size := Nat.lt_of_lt_of_le lb11_7 hb.size
  have Hb13_8 := Lib.hid hnb
  have lb13_8 := hlb
  clear hb hba hnb hlb HTH HD7 lw7 Hb5_7 lb5_7 Hb7_7 lb7_7 Hb9_7 lb9_7 Hb11_7 lb11_7
  generalize ((u7_.alloc (.cells #[.int .i64 0, .int .i64 0, .int .i64 0, .int .i64 0] 25)).setCells u7_.heap.size 0 [.int .i64 x1, .int .i64 x2, .int .i64 x3, .int .i64 x4]) = U8 at *
  generalize u7_.heap.size = BB8 at *
  refine wpList_step (fun K hK => ?_); go_simp; refine hK _ _ ?_; clear hK K
  refine wpList_nil ?_
  go_upto_region 5 with fail
  refine wp_region_lit ?_
  refine wpList_load_mid rfl 23 (.tmp 7) rfl (BB2) 0 rfl [.int .i64 p1, .int .i64 p2] _ (range_row Hb7_8.out 0 [.int .i64 p1, .int .i64 p2] (fun j hj => by simp only [Nat.zero_add, List.getElem?_toArray])) Try.underlying23 rfl (by kernel_rfl) ?_
  refine wpList_load_mid rfl 23 (.tmp 9) rfl (BB4) 0 rfl [.int .i64 p1, .int .i64 p2] _ (range_row Hb9_8.out 0 [.int .i64 p1, .int .i64 p2] (fun j hj => by simp only [Nat.zero_add, List.getElem?_toArray])) Try.underlying23 rfl (by kernel_rfl) ?_
  refine wpList_step (fun K hK => ?_); go_simp; refine hK _ _ ?_; clear hK K
  refine wpList_step (fun K hK => ?_); go_simp; refine hK _ _ ?_; clear hK K
  refine wpList_step (fun K hK => ?_); go_simp; refine hK _ _ ?_; clear hK K
  refine wpList_step (fun K hK => ?_); go_simp; refine hK _ _ ?_; clear hK K
  refine wpList_step (fun K hK => ?_); go_simp; refine hK _ _ ?_; clear hK K
  refine wpList_step (fun K hK => ?_); go_simp; refine hK _ _ ?_; clear hK K
  refine wpList_step (fun K hK => ?_); go_simp; refine hK _ _ ?_; clear hK K
  refine wpList_step (fun K hK => ?_)
  rw [if_pos (show Region.wanted _ _ = true from rfl)]
  refine wp_load_mid 25 (.tmp 11) rfl (BB6) 0 rfl [.int .i64 x1, .int .i64 x2, .int .i64 x3, .int .i64 x4] _ (range_row Hb11_8.out 0 [.int .i64 x1, .int .i64 x2, .int .i64 x3, .int .i64 x4] (fun j hj => by simp only [Nat.zero_add, List.getElem?_toArray])) Try.underlying25 rfl (by kernel_rfl) ?_
  refine hK _ _ ?_
  clear hK K
  refine wpList_step (fun K hK => ?_)
  rw [if_pos (show Region.wanted _ _ = true from rfl)]
  refine wp_load_mid 25 (.tmp 13) rfl (BB8) 0 rfl [.int .i64 x1, .int .i64 x2, .int .i64 x3, .int .i64 x4] _ (range_row Hb13_8.out 0 [.int .i64 x1, .int .i64 x2, .int .i64 x3, .int .i64 x4] (fun j hj => by simp only [Nat.zero_add, List.getElem?_toArray])) Try.underlying25 rfl (by kernel_rfl) ?_
  refine hK _ _ ?_
  clear hK K
  refine wpList_step (fun K hK => ?_); go_simp; refine hK _ _ ?_; clear hK K
  refine wpList_step (fun K hK => ?_); go_simp; refine hK _ _ ?_; clear hK K
  refine wpList_step (fun K hK => ?_); go_simp; refine hK _ _ ?_; clear hK K
  refine wpList_step (fun K hK => ?_); go_simp; refine hK _ _ ?_; clear hK K
  refine wpList_step (fun K hK => ?_); go_simp; refine hK _ _ ?_; clear hK K
  refine wpList_step (fun K hK => ?_); go_simp; refine hK _ _ ?_; clear hK K
  refine wpList_step (fun K hK => ?_); go_simp; refine hK _ _ ?_; clear hK K
  refine wpList_step (fun K hK => ?_); go_simp; refine hK _ _ ?_; clear hK K
  refine wpList_step (fun K hK => ?_)
  go_simp
  refine (eawake_any _).mono ?_
  rintro e u9_ ⟨rfl, hb⟩
  have HD9 := Lib.hid (HD8.out.trans (hb.mono lw8))
  have lw9 : w.heap.size ≤ u9_.heap.size := Nat.le_trans lw8 hb.size
  have Hb5_9 := Lib.hid ((hb.block _ lb5_8).trans Hb5_8.out)
  have lb5_9 : w.heap.size < u9_.heap.size := Nat.lt_of_lt_of_le lb5_8 hb.size
  have Hb7_9 := Lib.hid ((hb.block _ lb7_8).trans Hb7_8.out)
  have lb7_9 : BB2 < u9_.heap.size := Nat.lt_of_lt_of_le lb7_8 hb.size
  have Hb9_9 := Lib.hid ((hb.block _ lb9_8).trans Hb9_8.out)
  have lb9_9 : BB4 < u9_.heap.size := Nat.lt_of_lt_of_le lb9_8 hb.size
  have Hb11_9 := Lib.hid ((hb.block _ lb11_8).trans Hb11_8.out)
  have lb11_9 : BB6 < u9_.heap.size := Nat.lt_of_lt_of_le lb11_8 hb.size
  have Hb13_9 := Lib.hid ((hb.block _ lb13_8).trans Hb13_8.out)
  have lb13_9 : BB8 < u9_.heap.size := Nat.lt_of_lt_of_le lb13_8 hb.size
  clear hb HD8 lw8 Hb5_8 lb5_8 Hb7_8 lb7_8 Hb9_8 lb9_8 Hb11_8 lb11_8 Hb13_8 lb13_8
  refine hK _ _ ?_
  clear hK K
  refine wpList_step (fun K hK => ?_); go_simp; refine hK _ _ ?_; clear hK K
  refine wpList_step (fun K hK => ?_); go_simp; refine hK _ _ ?_; clear hK K
  refine wpList_nil ?_
  refine (‹∀ (a : Act) (w : World), Code.wp Try.prog Code.ret _ a w → _› _ _ ?_)
  apply wp_ret
  refine bodyPost_ret (v := .bool true) (by simp [results, Try.results15, go_sem]) rfl ⟨rfl, HD9.out⟩
end Go.Proofs.Ytgbnpnenejgnnaa
