import Derived.Test.YtgbnpnenejgnnaaFo5
import Derived.Test.YtgbnpnenejgnnaaCm5
import Derived.Test.YtgbnpnenejgnnaaU
namespace Go.Proofs.Ytgbnpnenejgnnaa
open Go.RowKit Encl Amp
set_option maxRecDepth 100000 in
set_option maxHeartbeats 8000000 in
theorem EncloseCircle_any (n : Int) (w : World) :
    Calls Try.prog 17 #[.int .i64 n] w fun e w' => e = .returned (.bool true) ∧ Below w.heap.size w w' := by
  obtain ⟨m, hm⟩ : ∃ m, n.tmod 1073741824 = m := ⟨_, rfl⟩
  have hmb : -1073741824 < m ∧ m < 1073741824 := by rw [← hm]; exact ⟨Int.neg_lt_of_neg_lt (by have := Int.lt_tmod_of_pos n (show (0 : Int) < 1073741824 by decide); omega), Int.tmod_lt_of_pos n (by decide)⟩
  have HM := Lib.hid hm
  obtain ⟨u, p, hu, hp, hp1, hp2⟩ := unit_power m
  obtain ⟨v, hv, hin⟩ := unit_oct m
  obtain ⟨a, b, c, d, k, ht, hbn⟩ := turn_oct m
  have hno := num_oct (m % 8).toNat
  have hua : okR u = true := unitS_ok hu
  obtain ⟨⟨u1, u2⟩, ⟨u3, u4⟩⟩ := u
  obtain ⟨p1, p2⟩ := p
  obtain ⟨⟨v1, v2⟩, ⟨v3, v4⟩⟩ := v
  generalize octR (m % 8).toNat = oc at *
  obtain ⟨⟨o1, o2⟩, ⟨o3, o4⟩⟩ := oc
  have HU := Lib.hid hu
  have HA : Hid (unitS (m + 1024) = .ok ⟨⟨u1, u2⟩, ⟨u3, u4⟩⟩) := Lib.hid ((unit_shift m).trans hu)
  have HP : Hid (powO ⟨⟨u1, u2⟩, ⟨u3, u4⟩⟩ = .ok ⟨p1, p2⟩) := Lib.hid (by unfold powO; rw [if_pos hua]; exact hp)
  have HV := Lib.hid hv
  have HT := Lib.hid ht
  have HN := Lib.hid hno
  have HB := Lib.hid hbn
  have HI := Lib.hid hin
  have g1 : ¬ 1073741824 < p1 := by simp only at hp1; omega
  have g2 : ¬ p2 < 1073741824 := by simp only at hp2; omega
  have w1 : ∀ t, t = m + 1024 → IntKind.i64.wrap t = t := by intro t h; rw [IntKind.wrap_i64]; omega
  have w2 : ∀ t, t = 128 * m → IntKind.i64.wrap t = t := by intro t h; rw [IntKind.wrap_i64]; omega
  clear hu hp hp1 hp2 hv hin ht hbn hno hua
  go_enter Try.func17, Try.ntmps17
  go_upto_region 1 with fail
  have HD0 := Lib.hid (Below.refl w.heap.size w)
  obtain ⟨W0, hW⟩ : ∃ z, z = w := ⟨w, rfl⟩
  have lw0 : w.heap.size ≤ W0.heap.size := by rw [hW]; exact Nat.le_refl _
  refine wp_region_lit ?_
  refine wpList_step (fun K hK => ?_); go_simp; refine hK _ _ ?_; clear hK K
  clear hmb
  refine wpList_step (fun K hK => ?_); go_simp; refine hK _ _ ?_; clear hK K
  refine wpList_step (fun K hK => ?_); go_simp; refine hK _ _ ?_; clear hK K
  refine wpList_nil ?_
  (try rw [hm])
  clear hm hW lw0 HD0 W0
  have HD0 := Lib.hid (Below.refl w.heap.size w)
  have lw0 : w.heap.size ≤ w.heap.size := Nat.le_refl _
  go_upto_region 2 with fail
  refine wp_region_lit ?_
  refine wpList_step (fun K hK => ?_); go_simp; refine hK _ _ ?_; clear hK K
  refine wpList_step (fun K hK => ?_)
  go_simp
  refine (Unit_any m _).mono ?_
  rw [HU.out]
  rintro e u1_ ⟨rfl, hb⟩
  have HD1 := Lib.hid (HD0.out.trans (hb.mono lw0))
  have lw1 : w.heap.size ≤ u1_.heap.size := Nat.le_trans lw0 hb.size
  clear hb HD0 lw0
  refine hK _ _ ?_
  clear hK K
  refine wpList_step (fun K hK => ?_); go_simp; refine hK _ _ ?_; clear hK K
  refine wpList_step (fun K hK => ?_); go_simp; refine hK _ _ ?_; clear hK K
  refine wpList_step (fun K hK => ?_); go_simp; refine hK _ _ ?_; clear hK K
  refine wpList_step (fun K hK => ?_); go_simp; refine hK _ _ ?_; clear hK K
  have HTH := Lib.hid (there_mid (heap_alloc_new u1_ (.cells #[.int .i64 0, .int .i64 0, .int .i64 0, .int .i64 0] 25)) 0 4 (show 0 + 4 ≤ 4 by decide))
  refine wpList_store_mid rfl 25 (.tmp 3) (.tmp 17) rfl u1_.heap.size 0 #[.int .i64 u1, .int .i64 u2, .int .i64 u3, .int .i64 u4] rfl rfl HTH.out (by kernel_rfl) (by simp [Value.oneCell']) ?_
  (try rw [show (#[.int .i64 u1, .int .i64 u2, .int .i64 u3, .int .i64 u4] : Array Value).toList = [.int .i64 u1, .int .i64 u2, .int .i64 u3, .int .i64 u4] from rfl])
  have hba : Below u1_.heap.size u1_ (u1_.alloc (.cells #[.int .i64 0, .int .i64 0, .int .i64 0, .int .i64 0] 25)) := bal (Below.refl _ _) _
  have hb : Below u1_.heap.size u1_ ((u1_.alloc (.cells #[.int .i64 0, .int .i64 0, .int .i64 0, .int .i64 0] 25)).setCells u1_.heap.size 0 [.int .i64 u1, .int .i64 u2, .int .i64 u3, .int .i64 u4]) := below_mids (Nat.le_refl _) _ _ hba
  have hnb : ((u1_.alloc (.cells #[.int .i64 0, .int .i64 0, .int .i64 0, .int .i64 0] 25)).setCells u1_.heap.size 0 [.int .i64 u1, .int .i64 u2, .int .i64 u3, .int .i64 u4]).heap[u1_.heap.size]? = some (.cells #[.int .i64 u1, .int .i64 u2, .int .i64 u3, .int .i64 u4] 25 (0, 0)) := block_whole [.int .i64 u1, .int .i64 u2, .int .i64 u3, .int .i64 u4] (heap_alloc_new u1_ (.cells #[.int .i64 0, .int .i64 0, .int .i64 0, .int .i64 0] 25)) rfl
  have hlb : u1_.heap.size < ((u1_.alloc (.cells #[.int .i64 0, .int .i64 0, .int .i64 0, .int .i64 0] 25)).setCells u1_.heap.size 0 [.int .i64 u1, .int .i64 u2, .int .i64 u3, .int .i64 u4]).heap.size := (Array.getElem?_eq_some_iff.1 hnb).1
  have HD2 := Lib.hid (HD1.out.trans (hb.mono lw1))
  have lw2 : w.heap.size ≤ ((u1_.alloc (.cells #[.int .i64 0, .int .i64 0, .int .i64 0, .int .i64 0] 25)).setCells u1_.heap.size 0 [.int .i64 u1, .int .i64 u2, .int .i64 u3, .int .i64 u4]).heap.size := Nat.le_trans lw1 hb.size
  have Hb3_2 := Lib.hid hnb
  have lb3_2 := hlb
  clear hb hba hnb hlb HTH HD1 lw1
  generalize ((u1_.alloc (.cells #[.int .i64 0, .int .i64 0, .int .i64 0, .int .i64 0] 25)).setCells u1_.heap.size 0 [.int .i64 u1, .int .i64 u2, .int .i64 u3, .int .i64 u4]) = U2 at *
  generalize u1_.heap.size = BB2 at *
  refine wpList_step (fun K hK => ?_); go_simp; refine hK _ _ ?_; clear hK K
  refine wpList_nil ?_
  go_upto_region 3 with fail
  refine wp_region_lit ?_
  refine wpList_step (fun K hK => ?_); go_simp; refine hK _ _ ?_; clear hK K
  refine wpList_step (fun K hK => ?_); go_simp; refine hK _ _ ?_; clear hK K
  refine wpList_step (fun K hK => ?_)
  go_simp
  refine (Unit_any (m + 1024) _).mono ?_
  rw [HA.out]
  rintro e u3_ ⟨rfl, hb⟩
  have HD3 := Lib.hid (HD2.out.trans (hb.mono lw2))
  have lw3 : w.heap.size ≤ u3_.heap.size := Nat.le_trans lw2 hb.size
  have Hb3_3 := Lib.hid ((hb.block _ lb3_2).trans Hb3_2.out)
  have lb3_3 : BB2 < u3_.heap.size := Nat.lt_of_lt_of_le lb3_2 hb.size
  clear hb HD2 lw2 Hb3_2 lb3_2
  refine hK _ _ ?_
  clear hK K
  refine wpList_step (fun K hK => ?_); go_simp; refine hK _ _ ?_; clear hK K
  refine wpList_step (fun K hK => ?_); go_simp; refine hK _ _ ?_; clear hK K
  refine wpList_step (fun K hK => ?_); go_simp; refine hK _ _ ?_; clear hK K
  refine wpList_step (fun K hK => ?_); go_simp; refine hK _ _ ?_; clear hK K
  have HTH := Lib.hid (there_mid (heap_alloc_new u3_ (.cells #[.int .i64 0, .int .i64 0, .int .i64 0, .int .i64 0] 25)) 0 4 (show 0 + 4 ≤ 4 by decide))
  refine wpList_store_mid rfl 25 (.tmp 5) (.tmp 23) rfl u3_.heap.size 0 #[.int .i64 u1, .int .i64 u2, .int .i64 u3, .int .i64 u4] rfl rfl HTH.out (by kernel_rfl) (by simp [Value.oneCell']) ?_
  (try rw [show (#[.int .i64 u1, .int .i64 u2, .int .i64 u3, .int .i64 u4] : Array Value).toList = [.int .i64 u1, .int .i64 u2, .int .i64 u3, .int .i64 u4] from rfl])
  have hba : Below u3_.heap.size u3_ (u3_.alloc (.cells #[.int .i64 0, .int .i64 0, .int .i64 0, .int .i64 0] 25)) := bal (Below.refl _ _) _
  have hb : Below u3_.heap.size u3_ ((u3_.alloc (.cells #[.int .i64 0, .int .i64 0, .int .i64 0, .int .i64 0] 25)).setCells u3_.heap.size 0 [.int .i64 u1, .int .i64 u2, .int .i64 u3, .int .i64 u4]) := below_mids (Nat.le_refl _) _ _ hba
  have hnb : ((u3_.alloc (.cells #[.int .i64 0, .int .i64 0, .int .i64 0, .int .i64 0] 25)).setCells u3_.heap.size 0 [.int .i64 u1, .int .i64 u2, .int .i64 u3, .int .i64 u4]).heap[u3_.heap.size]? = some (.cells #[.int .i64 u1, .int .i64 u2, .int .i64 u3, .int .i64 u4] 25 (0, 0)) := block_whole [.int .i64 u1, .int .i64 u2, .int .i64 u3, .int .i64 u4] (heap_alloc_new u3_ (.cells #[.int .i64 0, .int .i64 0, .int .i64 0, .int .i64 0] 25)) rfl
  have hlb : u3_.heap.size < ((u3_.alloc (.cells #[.int .i64 0, .int .i64 0, .int .i64 0, .int .i64 0] 25)).setCells u3_.heap.size 0 [.int .i64 u1, .int .i64 u2, .int .i64 u3, .int .i64 u4]).heap.size := (Array.getElem?_eq_some_iff.1 hnb).1
  have HD4 := Lib.hid (HD3.out.trans (hb.mono lw3))
  have lw4 : w.heap.size ≤ ((u3_.alloc (.cells #[.int .i64 0, .int .i64 0, .int .i64 0, .int .i64 0] 25)).setCells u3_.heap.size 0 [.int .i64 u1, .int .i64 u2, .int .i64 u3, .int .i64 u4]).heap.size := Nat.le_trans lw3 hb.size
  have Hb3_4 := Lib.hid ((hb.block _ lb3_3).trans Hb3_3.out)
  have lb3_4 : BB2 < ((u3_.alloc (.cells #[.int .i64 0, .int .i64 0, .int .i64 0, .int .i64 0] 25)).setCells u3_.heap.size 0 [.int .i64 u1, .int .i64 u2, .int .i64 u3, .int .i64 u4]).heap.size := Nat.lt_of_lt_of_le lb3_3 hb.size
  have Hb5_4 := Lib.hid hnb
  have lb5_4 := hlb
  clear hb hba hnb hlb HTH HD3 lw3 Hb3_3 lb3_3
  generalize ((u3_.alloc (.cells #[.int .i64 0, .int .i64 0, .int .i64 0, .int .i64 0] 25)).setCells u3_.heap.size 0 [.int .i64 u1, .int .i64 u2, .int .i64 u3, .int .i64 u4]) = U4 at *
  generalize u3_.heap.size = BB4 at *
  refine wpList_step (fun K hK => ?_); go_simp; refine hK _ _ ?_; clear hK K
  refine wpList_nil ?_
  go_upto_region 4 with fail
  refine wp_region_lit ?_
  refine wpList_load_mid rfl 25 (.tmp 3) rfl (BB2) 0 rfl [.int .i64 u1, .int .i64 u2, .int .i64 u3, .int .i64 u4] _ (range_row Hb3_4.out 0 [.int .i64 u1, .int .i64 u2, .int .i64 u3, .int .i64 u4] (fun j hj => by simp only [Nat.zero_add, List.getElem?_toArray])) Try.underlying25 rfl (by kernel_rfl) ?_
  refine wpList_step (fun K hK => ?_)
  go_simp
  refine (ePower_any u1 u2 u3 u4 _).mono ?_
  rw [HP.out]
  rintro e u5_ ⟨rfl, hb⟩
  have HD5 := Lib.hid (HD4.out.trans (hb.mono lw4))
  have lw5 : w.heap.size ≤ u5_.heap.size := Nat.le_trans lw4 hb.size
  have Hb3_5 := Lib.hid ((hb.block _ lb3_4).trans Hb3_4.out)
  have lb3_5 : BB2 < u5_.heap.size := Nat.lt_of_lt_of_le lb3_4 hb.size
  have Hb5_5 := Lib.hid ((hb.block _ lb5_4).trans Hb5_4.out)
  have lb5_5 : BB4 < u5_.heap.size := Nat.lt_of_lt_of_le lb5_4 hb.size
  clear hb HD4 lw4 Hb3_4 lb3_4 Hb5_4 lb5_4
  refine hK _ _ ?_
  clear hK K
  refine wpList_step (fun K hK => ?_); go_simp; refine hK _ _ ?_; clear hK K
  refine wpList_step (fun K hK => ?_); go_simp; refine hK _ _ ?_; clear hK K
  refine wpList_step (fun K hK => ?_); go_simp; refine hK _ _ ?_; clear hK K
  refine wpList_step (fun K hK => ?_); go_simp; refine hK _ _ ?_; clear hK K
  have HTH := Lib.hid (there_mid (heap_alloc_new u5_ (.cells #[.int .i64 0, .int .i64 0] 23)) 0 2 (show 0 + 2 ≤ 2 by decide))
  refine wpList_store_mid rfl 23 (.tmp 7) (.tmp 28) rfl u5_.heap.size 0 #[.int .i64 p1, .int .i64 p2] rfl rfl HTH.out (by kernel_rfl) (by simp [Value.oneCell']) ?_
  (try rw [show (#[.int .i64 p1, .int .i64 p2] : Array Value).toList = [.int .i64 p1, .int .i64 p2] from rfl])
  have hba : Below u5_.heap.size u5_ (u5_.alloc (.cells #[.int .i64 0, .int .i64 0] 23)) := bal (Below.refl _ _) _
  have hb : Below u5_.heap.size u5_ ((u5_.alloc (.cells #[.int .i64 0, .int .i64 0] 23)).setCells u5_.heap.size 0 [.int .i64 p1, .int .i64 p2]) := below_mids (Nat.le_refl _) _ _ hba
  have hnb : ((u5_.alloc (.cells #[.int .i64 0, .int .i64 0] 23)).setCells u5_.heap.size 0 [.int .i64 p1, .int .i64 p2]).heap[u5_.heap.size]? = some (.cells #[.int .i64 p1, .int .i64 p2] 23 (0, 0)) := block_whole [.int .i64 p1, .int .i64 p2] (heap_alloc_new u5_ (.cells #[.int .i64 0, .int .i64 0] 23)) rfl
  have hlb : u5_.heap.size < ((u5_.alloc (.cells #[.int .i64 0, .int .i64 0] 23)).setCells u5_.heap.size 0 [.int .i64 p1, .int .i64 p2]).heap.size := (Array.getElem?_eq_some_iff.1 hnb).1
  have HD6 := Lib.hid (HD5.out.trans (hb.mono lw5))
  have lw6 : w.heap.size ≤ ((u5_.alloc (.cells #[.int .i64 0, .int .i64 0] 23)).setCells u5_.heap.size 0 [.int .i64 p1, .int .i64 p2]).heap.size := Nat.le_trans lw5 hb.size
  have Hb3_6 := Lib.hid ((hb.block _ lb3_5).trans Hb3_5.out)
  have lb3_6 : BB2 < ((u5_.alloc (.cells #[.int .i64 0, .int .i64 0] 23)).setCells u5_.heap.size 0 [.int .i64 p1, .int .i64 p2]).heap.size := Nat.lt_of_lt_of_le lb3_5 hb.size
  have Hb5_6 := Lib.hid ((hb.block _ lb5_5).trans Hb5_5.out)
  have lb5_6 : BB4 < ((u5_.alloc (.cells #[.int .i64 0, .int .i64 0] 23)).setCells u5_.heap.size 0 [.int .i64 p1, .int .i64 p2]).heap.size := Nat.lt_of_lt_of_le lb5_5 hb.size
  have Hb7_6 := Lib.hid hnb
  have lb7_6 := hlb
  clear hb hba hnb hlb HTH HD5 lw5 Hb3_5 lb3_5 Hb5_5 lb5_5
  generalize ((u5_.alloc (.cells #[.int .i64 0, .int .i64 0] 23)).setCells u5_.heap.size 0 [.int .i64 p1, .int .i64 p2]) = U6 at *
  generalize u5_.heap.size = BB6 at *
  refine wpList_step (fun K hK => ?_); go_simp; refine hK _ _ ?_; clear hK K
  refine wpList_nil ?_
  go_upto_region 5 with fail
  refine wp_region_lit ?_
  refine wpList_step (fun K hK => ?_); go_simp; refine hK _ _ ?_; clear hK K
  refine wpList_step (fun K hK => ?_); go_simp; refine hK _ _ ?_; clear hK K
  refine wpList_step (fun K hK => ?_); go_simp; refine hK _ _ ?_; clear hK K
  refine wpList_step (fun K hK => ?_); go_simp; refine hK _ _ ?_; clear hK K
  refine wpList_step (fun K hK => ?_); go_simp; refine hK _ _ ?_; clear hK K
  refine wpList_step (fun K hK => ?_); go_simp; refine hK _ _ ?_; clear hK K
  refine wpList_step (fun K hK => ?_); go_simp; refine hK _ _ ?_; clear hK K
  refine wpList_step (fun K hK => ?_); go_simp; refine hK _ _ ?_; clear hK K
  refine wpList_step (fun K hK => ?_); go_simp; refine hK _ _ ?_; clear hK K
  refine wpList_step (fun K hK => ?_); go_simp; refine hK _ _ ?_; clear hK K
  refine wpList_step (fun K hK => ?_); go_simp; refine hK _ _ ?_; clear hK K
  refine wpList_step (fun K hK => ?_)
  rw [if_pos (show Region.wanted _ _ = true from rfl)]
  refine wp_load_mid 25 (.tmp 5) rfl (BB4) 0 rfl [.int .i64 u1, .int .i64 u2, .int .i64 u3, .int .i64 u4] _ (range_row Hb5_6.out 0 [.int .i64 u1, .int .i64 u2, .int .i64 u3, .int .i64 u4] (fun j hj => by simp only [Nat.zero_add, List.getElem?_toArray])) Try.underlying25 rfl (by kernel_rfl) ?_
  refine hK _ _ ?_
  clear hK K
  refine wpList_step (fun K hK => ?_)
  rw [if_pos (show Region.wanted _ _ = true from rfl)]
  refine wp_load_mid 25 (.tmp 3) rfl (BB2) 0 rfl [.int .i64 u1, .int .i64 u2, .int .i64 u3, .int .i64 u4] _ (range_row Hb3_6.out 0 [.int .i64 u1, .int .i64 u2, .int .i64 u3, .int .i64 u4] (fun j hj => by simp only [Nat.zero_add, List.getElem?_toArray])) Try.underlying25 rfl (by kernel_rfl) ?_
  refine hK _ _ ?_
  clear hK K
  refine wpList_step (fun K hK => ?_); go_simp; refine hK _ _ ?_; clear hK K
  refine wpList_step (fun K hK => ?_); go_simp; refine hK _ _ ?_; clear hK K
  refine wpList_step (fun K hK => ?_); go_simp; refine hK _ _ ?_; clear hK K
  have y0 : U6.cell? ⟨BB6, 0, none⟩ = some (.int .i64 p1) := by have h := range_row Hb7_6.out 0 [.int .i64 p1, .int .i64 p2] (fun j hj => by simp only [Nat.zero_add, List.getElem?_toArray]) 0 _ rfl; rwa [Nat.zero_add] at h
  have y1 : U6.cell? ⟨BB6, 1, none⟩ = some (.int .i64 p2) := by have h := range_row Hb7_6.out 0 [.int .i64 p1, .int .i64 p2] (fun j hj => by simp only [Nat.zero_add, List.getElem?_toArray]) 1 _ rfl; rwa [Nat.zero_add] at h
  refine wpList_step (fun K hK => ?_); go_simp; refine hK _ _ ?_; clear hK K
  refine wpList_step (fun K hK => ?_); go_simp; refine hK _ _ ?_; clear hK K
  refine wpList_step (fun K hK => ?_); go_simp; refine hK _ _ ?_; clear hK K
  refine wpList_step (fun K hK => ?_); go_simp; refine hK _ _ ?_; clear hK K
  refine wpList_step (fun K hK => ?_); go_simp; refine hK _ _ ?_; clear hK K
  refine wpList_step (fun K hK => ?_); go_simp; refine hK _ _ ?_; clear hK K
  refine wpList_step (fun K hK => ?_); go_simp; refine hK _ _ ?_; clear hK K
  refine wpList_step (fun K hK => ?_); go_simp; refine hK _ _ ?_; clear hK K
  refine wpList_step (fun K hK => ?_); go_simp; refine hK _ _ ?_; clear hK K
  refine wpList_nil ?_
  clear y0 y1
  go_upto_region 7 with fail
  refine wp_region_lit ?_
  refine wpList_step (fun K hK => ?_); go_simp; refine hK _ _ ?_; clear hK K
  refine wpList_step (fun K hK => ?_); go_simp; refine hK _ _ ?_; clear hK K
  refine wpList_step (fun K hK => ?_); go_simp; refine hK _ _ ?_; clear hK K
  refine wpList_step (fun K hK => ?_)
  go_simp
  refine (Turn_any 1 0 0 0 0 m _).mono ?_
  rw [HT.out]
  rintro e u7_ ⟨rfl, hb⟩
  have HD7 := Lib.hid (HD6.out.trans (hb.mono lw6))
  have lw7 : w.heap.size ≤ u7_.heap.size := Nat.le_trans lw6 hb.size
  have Hb3_7 := Lib.hid ((hb.block _ lb3_6).trans Hb3_6.out)
  have lb3_7 : BB2 < u7_.heap.size := Nat.lt_of_lt_of_le lb3_6 hb.size
  have Hb5_7 := Lib.hid ((hb.block _ lb5_6).trans Hb5_6.out)
  have lb5_7 : BB4 < u7_.heap.size := Nat.lt_of_lt_of_le lb5_6 hb.size
  have Hb7_7 := Lib.hid ((hb.block _ lb7_6).trans Hb7_6.out)
  have lb7_7 : BB6 < u7_.heap.size := Nat.lt_of_lt_of_le lb7_6 hb.size
  clear hb HD6 lw6 Hb3_6 lb3_6 Hb5_6 lb5_6 Hb7_6 lb7_6
  refine hK _ _ ?_
  clear hK K
  refine wpList_step (fun K hK => ?_); go_simp; refine hK _ _ ?_; clear hK K
  refine wpList_step (fun K hK => ?_); go_simp; refine hK _ _ ?_; clear hK K
  refine wpList_step (fun K hK => ?_); go_simp; refine hK _ _ ?_; clear hK K
  refine wpList_step (fun K hK => ?_); go_simp; refine hK _ _ ?_; clear hK K
  have HTH := Lib.hid (there_mid (heap_alloc_new u7_ (.cells #[.int .i64 0, .int .i64 0, .int .i64 0, .int .i64 0, .int .i64 0] 69)) 0 5 (show 0 + 5 ≤ 5 by decide))
  refine wpList_store_mid rfl 69 (.tmp 9) (.tmp 60) rfl u7_.heap.size 0 #[.int .i64 a, .int .i64 b, .int .i64 c, .int .i64 d, .int .i64 k] rfl rfl HTH.out (by kernel_rfl) (by simp [Value.oneCell']) ?_
  (try rw [show (#[.int .i64 a, .int .i64 b, .int .i64 c, .int .i64 d, .int .i64 k] : Array Value).toList = [.int .i64 a, .int .i64 b, .int .i64 c, .int .i64 d, .int .i64 k] from rfl])
  have hba : Below u7_.heap.size u7_ (u7_.alloc (.cells #[.int .i64 0, .int .i64 0, .int .i64 0, .int .i64 0, .int .i64 0] 69)) := bal (Below.refl _ _) _
  have hb : Below u7_.heap.size u7_ ((u7_.alloc (.cells #[.int .i64 0, .int .i64 0, .int .i64 0, .int .i64 0, .int .i64 0] 69)).setCells u7_.heap.size 0 [.int .i64 a, .int .i64 b, .int .i64 c, .int .i64 d, .int .i64 k]) := below_mids (Nat.le_refl _) _ _ hba
  have hnb : ((u7_.alloc (.cells #[.int .i64 0, .int .i64 0, .int .i64 0, .int .i64 0, .int .i64 0] 69)).setCells u7_.heap.size 0 [.int .i64 a, .int .i64 b, .int .i64 c, .int .i64 d, .int .i64 k]).heap[u7_.heap.size]? = some (.cells #[.int .i64 a, .int .i64 b, .int .i64 c, .int .i64 d, .int .i64 k] 69 (0, 0)) := block_whole [.int .i64 a, .int .i64 b, .int .i64 c, .int .i64 d, .int .i64 k] (heap_alloc_new u7_ (.cells #[.int .i64 0, .int .i64 0, .int .i64 0, .int .i64 0, .int .i64 0] 69)) rfl
  have hlb : u7_.heap.size < ((u7_.alloc (.cells #[.int .i64 0, .int .i64 0, .int .i64 0, .int .i64 0, .int .i64 0] 69)).setCells u7_.heap.size 0 [.int .i64 a, .int .i64 b, .int .i64 c, .int .i64 d, .int .i64 k]).heap.size := (Array.getElem?_eq_some_iff.1 hnb).1
  have HD8 := Lib.hid (HD7.out.trans (hb.mono lw7))
  have lw8 : w.heap.size ≤ ((u7_.alloc (.cells #[.int .i64 0, .int .i64 0, .int .i64 0, .int .i64 0, .int .i64 0] 69)).setCells u7_.heap.size 0 [.int .i64 a, .int .i64 b, .int .i64 c, .int .i64 d, .int .i64 k]).heap.size := Nat.le_trans lw7 hb.size
  have Hb3_8 := Lib.hid ((hb.block _ lb3_7).trans Hb3_7.out)
  have lb3_8 : BB2 < ((u7_.alloc (.cells #[.int .i64 0, .int .i64 0, .int .i64 0, .int .i64 0, .int .i64 0] 69)).setCells u7_.heap.size 0 [.int .i64 a, .int .i64 b, .int .i64 c, .int .i64 d, .int .i64 k]).heap.size := Nat.lt_of_lt_of_le lb3_7 hb.size
  have Hb5_8 := Lib.hid ((hb.block _ lb5_7).trans Hb5_7.out)
  have lb5_8 : BB4 < ((u7_.alloc (.cells #[.int .i64 0, .int .i64 0, .int .i64 0, .int .i64 0, .int .i64 0] 69)).setCells u7_.heap.size 0 [.int .i64 a, .int .i64 b, .int .i64 c, .int .i64 d, .int .i64 k]).heap.size := Nat.lt_of_lt_of_le lb5_7 hb.size
  have Hb7_8 := Lib.hid ((hb.block _ lb7_7).trans Hb7_7.out)
  have lb7_8 : BB6 < ((u7_.alloc (.cells #[.int .i64 0, .int .i64 0, .int .i64 0, .int .i64 0, .int .i64 0] 69)).setCells u7_.heap.size 0 [.int .i64 a, .int .i64 b, .int .i64 c, .int .i64 d, .int .i64 k]).heap.size := Nat.lt_of_lt_of_le lb7_7 hb.size
  have Hb9_8 := Lib.hid hnb
  have lb9_8 := hlb
  clear hb hba hnb hlb HTH HD7 lw7 Hb3_7 lb3_7 Hb5_7 lb5_7 Hb7_7 lb7_7
  generalize ((u7_.alloc (.cells #[.int .i64 0, .int .i64 0, .int .i64 0, .int .i64 0, .int .i64 0] 69)).setCells u7_.heap.size 0 [.int .i64 a, .int .i64 b, .int .i64 c, .int .i64 d, .int .i64 k]) = U8 at *
  generalize u7_.heap.size = BB8 at *
  refine wpList_step (fun K hK => ?_); go_simp; refine hK _ _ ?_; clear hK K
  refine wpList_nil ?_
  go_upto_region 8 with fail
  refine wp_region_lit ?_
  refine wpList_load_mid rfl 69 (.tmp 9) rfl (BB8) 0 rfl [.int .i64 a, .int .i64 b, .int .i64 c, .int .i64 d, .int .i64 k] _ (range_row Hb9_8.out 0 [.int .i64 a, .int .i64 b, .int .i64 c, .int .i64 d, .int .i64 k] (fun j hj => by simp only [Nat.zero_add, List.getElem?_toArray])) Try.underlying69 rfl (by kernel_rfl) ?_
  refine wpList_step (fun K hK => ?_)
  go_simp
  refine (eFromNum_any a b c d k o1 o2 o3 o4 0 _ (Lib.hid HB.out)).mono ?_
  rw [HN.out]
  rintro e u9_ ⟨rfl, hb⟩
  have HD9 := Lib.hid (HD8.out.trans (hb.mono lw8))
  have lw9 : w.heap.size ≤ u9_.heap.size := Nat.le_trans lw8 hb.size
  have Hb3_9 := Lib.hid ((hb.block _ lb3_8).trans Hb3_8.out)
  have lb3_9 : BB2 < u9_.heap.size := Nat.lt_of_lt_of_le lb3_8 hb.size
  have Hb5_9 := Lib.hid ((hb.block _ lb5_8).trans Hb5_8.out)
  have lb5_9 : BB4 < u9_.heap.size := Nat.lt_of_lt_of_le lb5_8 hb.size
  have Hb7_9 := Lib.hid ((hb.block _ lb7_8).trans Hb7_8.out)
  have lb7_9 : BB6 < u9_.heap.size := Nat.lt_of_lt_of_le lb7_8 hb.size
  have Hb9_9 := Lib.hid ((hb.block _ lb9_8).trans Hb9_8.out)
  have lb9_9 : BB8 < u9_.heap.size := Nat.lt_of_lt_of_le lb9_8 hb.size
  clear hb HD8 lw8 Hb3_8 lb3_8 Hb5_8 lb5_8 Hb7_8 lb7_8 Hb9_8 lb9_8
  refine hK _ _ ?_
  clear hK K
  refine wpList_step (fun K hK => ?_); go_simp; refine hK _ _ ?_; clear hK K
  refine wpList_step (fun K hK => ?_); go_simp; refine hK _ _ ?_; clear hK K
  refine wpList_step (fun K hK => ?_); go_simp; refine hK _ _ ?_; clear hK K
  refine wpList_step (fun K hK => ?_); go_simp; refine hK _ _ ?_; clear hK K
  have HTH := Lib.hid (there_mid (heap_alloc_new u9_ (.cells #[.int .i64 0, .int .i64 0, .int .i64 0, .int .i64 0] 25)) 0 4 (show 0 + 4 ≤ 4 by decide))
  refine wpList_store_mid rfl 25 (.tmp 10) (.tmp 65) rfl u9_.heap.size 0 #[.int .i64 o1, .int .i64 o2, .int .i64 o3, .int .i64 o4] rfl rfl HTH.out (by kernel_rfl) (by simp [Value.oneCell']) ?_
  (try rw [show (#[.int .i64 o1, .int .i64 o2, .int .i64 o3, .int .i64 o4] : Array Value).toList = [.int .i64 o1, .int .i64 o2, .int .i64 o3, .int .i64 o4] from rfl])
  have hba : Below u9_.heap.size u9_ (u9_.alloc (.cells #[.int .i64 0, .int .i64 0, .int .i64 0, .int .i64 0] 25)) := bal (Below.refl _ _) _
  have hb : Below u9_.heap.size u9_ ((u9_.alloc (.cells #[.int .i64 0, .int .i64 0, .int .i64 0, .int .i64 0] 25)).setCells u9_.heap.size 0 [.int .i64 o1, .int .i64 o2, .int .i64 o3, .int .i64 o4]) := below_mids (Nat.le_refl _) _ _ hba
  have hnb : ((u9_.alloc (.cells #[.int .i64 0, .int .i64 0, .int .i64 0, .int .i64 0] 25)).setCells u9_.heap.size 0 [.int .i64 o1, .int .i64 o2, .int .i64 o3, .int .i64 o4]).heap[u9_.heap.size]? = some (.cells #[.int .i64 o1, .int .i64 o2, .int .i64 o3, .int .i64 o4] 25 (0, 0)) := block_whole [.int .i64 o1, .int .i64 o2, .int .i64 o3, .int .i64 o4] (heap_alloc_new u9_ (.cells #[.int .i64 0, .int .i64 0, .int .i64 0, .int .i64 0] 25)) rfl
  have hlb : u9_.heap.size < ((u9_.alloc (.cells #[.int .i64 0, .int .i64 0, .int .i64 0, .int .i64 0] 25)).setCells u9_.heap.size 0 [.int .i64 o1, .int .i64 o2, .int .i64 o3, .int .i64 o4]).heap.size := (Array.getElem?_eq_some_iff.1 hnb).1
  have HD10 := Lib.hid (HD9.out.trans (hb.mono lw9))
  have lw10 : w.heap.size ≤ ((u9_.alloc (.cells #[.int .i64 0, .int .i64 0, .int .i64 0, .int .i64 0] 25)).setCells u9_.heap.size 0 [.int .i64 o1, .int .i64 o2, .int .i64 o3, .int .i64 o4]).heap.size := Nat.le_trans lw9 hb.size
  have Hb3_10 := Lib.hid ((hb.block _ lb3_9).trans Hb3_9.out)
  have lb3_10 : BB2 < ((u9_.alloc (.cells #[.int .i64 0, .int .i64 0, .int .i64 0, .int .i64 0] 25)).setCells u9_.heap.size 0 [.int .i64 o1, .int .i64 o2, .int .i64 o3, .int .i64 o4]).heap.size := Nat.lt_of_lt_of_le lb3_9 hb.size
  have Hb5_10 := Lib.hid ((hb.block _ lb5_9).trans Hb5_9.out)
  have lb5_10 : BB4 < ((u9_.alloc (.cells #[.int .i64 0, .int .i64 0, .int .i64 0, .int .i64 0] 25)).setCells u9_.heap.size 0 [.int .i64 o1, .int .i64 o2, .int .i64 o3, .int .i64 o4]).heap.size := Nat.lt_of_lt_of_le lb5_9 hb.size
  have Hb7_10 := Lib.hid ((hb.block _ lb7_9).trans Hb7_9.out)
  have lb7_10 : BB6 < ((u9_.alloc (.cells #[.int .i64 0, .int .i64 0, .int .i64 0, .int .i64 0] 25)).setCells u9_.heap.size 0 [.int .i64 o1, .int .i64 o2, .int .i64 o3, .int .i64 o4]).heap.size := Nat.lt_of_lt_of_le lb7_9 hb.size
  have Hb9_10 := Lib.hid ((hb.block _ lb9_9).trans Hb9_9.out)
  have lb9_10 : BB8 < ((u9_.alloc (.cells #[.int .i64 0, .int .i64 0, .int .i64 0, .int .i64 0] 25)).setCells u9_.heap.size 0 [.int .i64 o1, .int .i64 o2, .int .i64 o3, .int .i64 o4]).heap.size := Nat.lt_of_lt_of_le lb9_9 hb.size
  have Hb10_10 := Lib.hid hnb
  have lb10_10 := hlb
  clear hb hba hnb hlb HTH HD9 lw9 Hb3_9 lb3_9 Hb5_9 lb5_9 Hb7_9 lb7_9 Hb9_9 lb9_9
  generalize ((u9_.alloc (.cells #[.int .i64 0, .int .i64 0, .int .i64 0, .int .i64 0] 25)).setCells u9_.heap.size 0 [.int .i64 o1, .int .i64 o2, .int .i64 o3, .int .i64 o4]) = U10 at *
  generalize u9_.heap.size = BB10 at *
  refine wpList_step (fun K hK => ?_); go_simp; refine hK _ _ ?_; clear hK K
  refine wpList_nil ?_
  go_upto_region 9 with fail
  refine wp_region_lit ?_
  refine wpList_step (fun K hK => ?_); go_simp; refine hK _ _ ?_; clear hK K
  refine wpList_step (fun K hK => ?_); go_simp; refine hK _ _ ?_; clear hK K
  refine wpList_step (fun K hK => ?_)
  go_simp
  refine (Unit_any (128 * m) _).mono ?_
  rw [HV.out]
  rintro e u11_ ⟨rfl, hb⟩
  have HD11 := Lib.hid (HD10.out.trans (hb.mono lw10))
  have lw11 : w.heap.size ≤ u11_.heap.size := Nat.le_trans lw10 hb.size
  have Hb3_11 := Lib.hid ((hb.block _ lb3_10).trans Hb3_10.out)
  have lb3_11 : BB2 < u11_.heap.size := Nat.lt_of_lt_of_le lb3_10 hb.size
  have Hb5_11 := Lib.hid ((hb.block _ lb5_10).trans Hb5_10.out)
  have lb5_11 : BB4 < u11_.heap.size := Nat.lt_of_lt_of_le lb5_10 hb.size
  have Hb7_11 := Lib.hid ((hb.block _ lb7_10).trans Hb7_10.out)
  have lb7_11 : BB6 < u11_.heap.size := Nat.lt_of_lt_of_le lb7_10 hb.size
  have Hb9_11 := Lib.hid ((hb.block _ lb9_10).trans Hb9_10.out)
  have lb9_11 : BB8 < u11_.heap.size := Nat.lt_of_lt_of_le lb9_10 hb.size
  have Hb10_11 := Lib.hid ((hb.block _ lb10_10).trans Hb10_10.out)
  have lb10_11 : BB10 < u11_.heap.size := Nat.lt_of_lt_of_le lb10_10 hb.size
  clear hb HD10 lw10 Hb3_10 lb3_10 Hb5_10 lb5_10 Hb7_10 lb7_10 Hb9_10 lb9_10 Hb10_10 lb10_10
  refine hK _ _ ?_
  clear hK K
  refine wpList_step (fun K hK => ?_); go_simp; refine hK _ _ ?_; clear hK K
  refine wpList_step (fun K hK => ?_); go_simp; refine hK _ _ ?_; clear hK K
  refine wpList_step (fun K hK => ?_); go_simp; refine hK _ _ ?_; clear hK K
  refine wpList_step (fun K hK => ?_); go_simp; refine hK _ _ ?_; clear hK K
  have HTH := Lib.hid (there_mid (heap_alloc_new u11_ (.cells #[.int .i64 0, .int .i64 0, .int .i64 0, .int .i64 0] 25)) 0 4 (show 0 + 4 ≤ 4 by decide))
  refine wpList_store_mid rfl 25 (.tmp 11) (.tmp 71) rfl u11_.heap.size 0 #[.int .i64 v1, .int .i64 v2, .int .i64 v3, .int .i64 v4] rfl rfl HTH.out (by kernel_rfl) (by simp [Value.oneCell']) ?_
  (try rw [show (#[.int .i64 v1, .int .i64 v2, .int .i64 v3, .int .i64 v4] : Array Value).toList = [.int .i64 v1, .int .i64 v2, .int .i64 v3, .int .i64 v4] from rfl])
  have hba : Below u11_.heap.size u11_ (u11_.alloc (.cells #[.int .i64 0, .int .i64 0, .int .i64 0, .int .i64 0] 25)) := bal (Below.refl _ _) _
  have hb : Below u11_.heap.size u11_ ((u11_.alloc (.cells #[.int .i64 0, .int .i64 0, .int .i64 0, .int .i64 0] 25)).setCells u11_.heap.size 0 [.int .i64 v1, .int .i64 v2, .int .i64 v3, .int .i64 v4]) := below_mids (Nat.le_refl _) _ _ hba
  have hnb : ((u11_.alloc (.cells #[.int .i64 0, .int .i64 0, .int .i64 0, .int .i64 0] 25)).setCells u11_.heap.size 0 [.int .i64 v1, .int .i64 v2, .int .i64 v3, .int .i64 v4]).heap[u11_.heap.size]? = some (.cells #[.int .i64 v1, .int .i64 v2, .int .i64 v3, .int .i64 v4] 25 (0, 0)) := block_whole [.int .i64 v1, .int .i64 v2, .int .i64 v3, .int .i64 v4] (heap_alloc_new u11_ (.cells #[.int .i64 0, .int .i64 0, .int .i64 0, .int .i64 0] 25)) rfl
  have hlb : u11_.heap.size < ((u11_.alloc (.cells #[.int .i64 0, .int .i64 0, .int .i64 0, .int .i64 0] 25)).setCells u11_.heap.size 0 [.int .i64 v1, .int .i64 v2, .int .i64 v3, .int .i64 v4]).heap.size := (Array.getElem?_eq_some_iff.1 hnb).1
  have HD12 := Lib.hid (HD11.out.trans (hb.mono lw11))
  have lw12 : w.heap.size ≤ ((u11_.alloc (.cells #[.int .i64 0, .int .i64 0, .int .i64 0, .int .i64 0] 25)).setCells u11_.heap.size 0 [.int .i64 v1, .int .i64 v2, .int .i64 v3, .int .i64 v4]).heap.size := Nat.le_trans lw11 hb.size
  have Hb3_12 := Lib.hid ((hb.block _ lb3_11).trans Hb3_11.out)
  have lb3_12 : BB2 < ((u11_.alloc (.cells #[.int .i64 0, .int .i64 0, .int .i64 0, .int .i64 0] 25)).setCells u11_.heap.size 0 [.int .i64 v1, .int .i64 v2, .int .i64 v3, .int .i64 v4]).heap.size := Nat.lt_of_lt_of_le lb3_11 hb.size
  have Hb5_12 := Lib.hid ((hb.block _ lb5_11).trans Hb5_11.out)
  have lb5_12 : BB4 < ((u11_.alloc (.cells #[.int .i64 0, .int .i64 0, .int .i64 0, .int .i64 0] 25)).setCells u11_.heap.size 0 [.int .i64 v1, .int .i64 v2, .int .i64 v3, .int .i64 v4]).heap.size := Nat.lt_of_lt_of_le lb5_11 hb.size
  have Hb7_12 := Lib.hid ((hb.block _ lb7_11).trans Hb7_11.out)
  have lb7_12 : BB6 < ((u11_.alloc (.cells #[.int .i64 0, .int .i64 0, .int .i64 0, .int .i64 0] 25)).setCells u11_.heap.size 0 [.int .i64 v1, .int .i64 v2, .int .i64 v3, .int .i64 v4]).heap.size := Nat.lt_of_lt_of_le lb7_11 hb.size
  have Hb9_12 := Lib.hid ((hb.block _ lb9_11).trans Hb9_11.out)
  have lb9_12 : BB8 < ((u11_.alloc (.cells #[.int .i64 0, .int .i64 0, .int .i64 0, .int .i64 0] 25)).setCells u11_.heap.size 0 [.int .i64 v1, .int .i64 v2, .int .i64 v3, .int .i64 v4]).heap.size := Nat.lt_of_lt_of_le lb9_11 hb.size
  have Hb10_12 := Lib.hid ((hb.block _ lb10_11).trans Hb10_11.out)
  have lb10_12 : BB10 < ((u11_.alloc (.cells #[.int .i64 0, .int .i64 0, .int .i64 0, .int .i64 0] 25)).setCells u11_.heap.size 0 [.int .i64 v1, .int .i64 v2, .int .i64 v3, .int .i64 v4]).heap.size := Nat.lt_of_lt_of_le lb10_11 hb.size
  have Hb11_12 := Lib.hid hnb
  have lb11_12 := hlb
  clear hb hba hnb hlb HTH HD11 lw11 Hb3_11 lb3_11 Hb5_11 lb5_11 Hb7_11 lb7_11 Hb9_11 lb9_11 Hb10_11 lb10_11
  generalize ((u11_.alloc (.cells #[.int .i64 0, .int .i64 0, .int .i64 0, .int .i64 0] 25)).setCells u11_.heap.size 0 [.int .i64 v1, .int .i64 v2, .int .i64 v3, .int .i64 v4]) = U12 at *
  generalize u11_.heap.size = BB12 at *
  refine wpList_step (fun K hK => ?_); go_simp; refine hK _ _ ?_; clear hK K
  refine wpList_nil ?_
  go_upto_region 10 with fail
  refine wp_region_lit ?_
  refine wpList_step (fun K hK => ?_); go_simp; refine hK _ _ ?_; clear hK K
  refine wpList_step (fun K hK => ?_); go_simp; refine hK _ _ ?_; clear hK K
  refine wpList_step (fun K hK => ?_); go_simp; refine hK _ _ ?_; clear hK K
  refine wpList_step (fun K hK => ?_); go_simp; refine hK _ _ ?_; clear hK K
  refine wpList_step (fun K hK => ?_); go_simp; refine hK _ _ ?_; clear hK K
  refine wpList_step (fun K hK => ?_); go_simp; refine hK _ _ ?_; clear hK K
  refine wpList_step (fun K hK => ?_); go_simp; refine hK _ _ ?_; clear hK K
  refine wpList_step (fun K hK => ?_); go_simp; refine hK _ _ ?_; clear hK K
  refine wpList_step (fun K hK => ?_); go_simp; refine hK _ _ ?_; clear hK K
  refine wpList_step (fun K hK => ?_); go_simp; refine hK _ _ ?_; clear hK K
  refine wpList_step (fun K hK => ?_); go_simp; refine hK _ _ ?_; clear hK K
  refine wpList_step (fun K hK => ?_)
  rw [if_pos (show Region.wanted _ _ = true from rfl)]
  refine wp_load_mid 25 (.tmp 10) rfl (BB10) 0 rfl [.int .i64 o1, .int .i64 o2, .int .i64 o3, .int .i64 o4] _ (range_row Hb10_12.out 0 [.int .i64 o1, .int .i64 o2, .int .i64 o3, .int .i64 o4] (fun j hj => by simp only [Nat.zero_add, List.getElem?_toArray])) Try.underlying25 rfl (by kernel_rfl) ?_
  refine hK _ _ ?_
  clear hK K
  refine wpList_step (fun K hK => ?_)
  rw [if_pos (show Region.wanted _ _ = true from rfl)]
  refine wp_load_mid 25 (.tmp 11) rfl (BB12) 0 rfl [.int .i64 v1, .int .i64 v2, .int .i64 v3, .int .i64 v4] _ (range_row Hb11_12.out 0 [.int .i64 v1, .int .i64 v2, .int .i64 v3, .int .i64 v4] (fun j hj => by simp only [Nat.zero_add, List.getElem?_toArray])) Try.underlying25 rfl (by kernel_rfl) ?_
  refine hK _ _ ?_
  clear hK K
  refine wpList_step (fun K hK => ?_)
  go_simp
  refine (inL_any o1 o2 o3 o4 v1 v2 v3 v4 _).mono ?_
  rw [HI.out]
  rintro e u13_ ⟨rfl, hb⟩
  have HD13 := Lib.hid (HD12.out.trans (hb.mono lw12))
  have lw13 : w.heap.size ≤ u13_.heap.size := Nat.le_trans lw12 hb.size
  have Hb3_13 := Lib.hid ((hb.block _ lb3_12).trans Hb3_12.out)
  have lb3_13 : BB2 < u13_.heap.size := Nat.lt_of_lt_of_le lb3_12 hb.size
  have Hb5_13 := Lib.hid ((hb.block _ lb5_12).trans Hb5_12.out)
  have lb5_13 : BB4 < u13_.heap.size := Nat.lt_of_lt_of_le lb5_12 hb.size
  have Hb7_13 := Lib.hid ((hb.block _ lb7_12).trans Hb7_12.out)
  have lb7_13 : BB6 < u13_.heap.size := Nat.lt_of_lt_of_le lb7_12 hb.size
  have Hb9_13 := Lib.hid ((hb.block _ lb9_12).trans Hb9_12.out)
  have lb9_13 : BB8 < u13_.heap.size := Nat.lt_of_lt_of_le lb9_12 hb.size
  have Hb10_13 := Lib.hid ((hb.block _ lb10_12).trans Hb10_12.out)
  have lb10_13 : BB10 < u13_.heap.size := Nat.lt_of_lt_of_le lb10_12 hb.size
  have Hb11_13 := Lib.hid ((hb.block _ lb11_12).trans Hb11_12.out)
  have lb11_13 : BB12 < u13_.heap.size := Nat.lt_of_lt_of_le lb11_12 hb.size
  clear hb HD12 lw12 Hb3_12 lb3_12 Hb5_12 lb5_12 Hb7_12 lb7_12 Hb9_12 lb9_12 Hb10_12 lb10_12 Hb11_12 lb11_12
  refine hK _ _ ?_
  clear hK K
  refine wpList_step (fun K hK => ?_); go_simp; refine hK _ _ ?_; clear hK K
  refine wpList_step (fun K hK => ?_); go_simp; refine hK _ _ ?_; clear hK K
  refine wpList_step (fun K hK => ?_)
  go_simp
  refine (eawake_any _).mono ?_
  rintro e u14_ ⟨rfl, hb⟩
  have HD14 := Lib.hid (HD13.out.trans (hb.mono lw13))
  have lw14 : w.heap.size ≤ u14_.heap.size := Nat.le_trans lw13 hb.size
  have Hb3_14 := Lib.hid ((hb.block _ lb3_13).trans Hb3_13.out)
  have lb3_14 : BB2 < u14_.heap.size := Nat.lt_of_lt_of_le lb3_13 hb.size
  have Hb5_14 := Lib.hid ((hb.block _ lb5_13).trans Hb5_13.out)
  have lb5_14 : BB4 < u14_.heap.size := Nat.lt_of_lt_of_le lb5_13 hb.size
  have Hb7_14 := Lib.hid ((hb.block _ lb7_13).trans Hb7_13.out)
  have lb7_14 : BB6 < u14_.heap.size := Nat.lt_of_lt_of_le lb7_13 hb.size
  have Hb9_14 := Lib.hid ((hb.block _ lb9_13).trans Hb9_13.out)
  have lb9_14 : BB8 < u14_.heap.size := Nat.lt_of_lt_of_le lb9_13 hb.size
  have Hb10_14 := Lib.hid ((hb.block _ lb10_13).trans Hb10_13.out)
  have lb10_14 : BB10 < u14_.heap.size := Nat.lt_of_lt_of_le lb10_13 hb.size
  have Hb11_14 := Lib.hid ((hb.block _ lb11_13).trans Hb11_13.out)
  have lb11_14 : BB12 < u14_.heap.size := Nat.lt_of_lt_of_le lb11_13 hb.size
  clear hb HD13 lw13 Hb3_13 lb3_13 Hb5_13 lb5_13 Hb7_13 lb7_13 Hb9_13 lb9_13 Hb10_13 lb10_13 Hb11_13 lb11_13
  refine hK _ _ ?_
  clear hK K
  refine wpList_step (fun K hK => ?_); go_simp; refine hK _ _ ?_; clear hK K
  refine wpList_step (fun K hK => ?_); go_simp; refine hK _ _ ?_; clear hK K
  refine wpList_nil ?_
  refine (‹∀ (a : Act) (w : World), Code.wp Try.prog Code.ret _ a w → _› _ _ ?_)
  apply wp_ret
  refine bodyPost_ret (v := .bool true) (by simp [results, Try.results17, go_sem]) rfl ⟨rfl, HD14.out⟩
end Go.Proofs.Ytgbnpnenejgnnaa
