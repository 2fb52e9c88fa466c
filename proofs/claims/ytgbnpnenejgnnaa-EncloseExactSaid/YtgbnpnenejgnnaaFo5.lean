import Derived.Test.YtgbnpnenejgnnaaFn5
import Derived.Test.YtgbnpnenejgnnaaBl
namespace Go.Proofs.Ytgbnpnenejgnnaa
open Go.RowKit Encl Amp
set_option maxRecDepth 100000 in
set_option maxHeartbeats 4000000 in
theorem eFromNum_err (a b c d k rl rh il ih er : Int) (w : World) (H : Hid (isBnd ⟨⟨a, b, c, d⟩, k⟩ 30 rl rh il ih er)) (he : ¬ er = 0) :
    Calls Try.prog 55 #[.agg #[.int .i64 a, .int .i64 b, .int .i64 c, .int .i64 d, .int .i64 k]] w fun e w' => e = OutR (.bad er) ∧ Below w.heap.size w w' := by
  have hmf : ∀ (fn : Fn) (first cap : Array Value) (w : World), (Instr.makeFunc fn first cap).run Try.prog w = .ok (.func fn first cap) w := fun _ _ _ _ => rfl
  have hb1 : (er == 0) = false := beq_eq_false_iff_ne.2 he
  have hb2 : (er != 0) = true := bne_iff_ne.2 he
  clear he
  go_enter Try.func55, Try.ntmps55
  go_upto_region 1 with fail
  have hb0 : Below w.heap.size w ((w.alloc (.cells #[.int .i64 a, .int .i64 b, .int .i64 c, .int .i64 d, .int .i64 k] 69)).alloc (.cells #[.int .i64 0, .int .i64 0, .int .i64 0, .int .i64 0] 25)) := by go_grown
  have hc1 : ((w.alloc (.cells #[.int .i64 a, .int .i64 b, .int .i64 c, .int .i64 d, .int .i64 k] 69)).alloc (.cells #[.int .i64 0, .int .i64 0, .int .i64 0, .int .i64 0] 25)).heap[w.heap.size]? = some (.cells #[.int .i64 a, .int .i64 b, .int .i64 c, .int .i64 d, .int .i64 k] 69 (0, 0)) := (Below.heap_alloc _ _ _ (by first | omega | (simp; done) | (simp; omega))).trans ((heap_alloc_new w _))
  have hc2 : ((w.alloc (.cells #[.int .i64 a, .int .i64 b, .int .i64 c, .int .i64 d, .int .i64 k] 69)).alloc (.cells #[.int .i64 0, .int .i64 0, .int .i64 0, .int .i64 0] 25)).heap[w.heap.size + 1]? = some (.cells #[.int .i64 0, .int .i64 0, .int .i64 0, .int .i64 0] 25 (0, 0)) := (by
      have h := heap_alloc_new (w.alloc (.cells #[.int .i64 a, .int .i64 b, .int .i64 c, .int .i64 d, .int .i64 k] 69)) (.cells #[.int .i64 0, .int .i64 0, .int .i64 0, .int .i64 0] 25)
      rwa [World.size_alloc] at h)
  have hsz : w.heap.size + 2 ≤ ((w.alloc (.cells #[.int .i64 a, .int .i64 b, .int .i64 c, .int .i64 d, .int .i64 k] 69)).alloc (.cells #[.int .i64 0, .int .i64 0, .int .i64 0, .int .i64 0] 25)).heap.size := by simp
  generalize ((w.alloc (.cells #[.int .i64 a, .int .i64 b, .int .i64 c, .int .i64 d, .int .i64 k] 69)).alloc (.cells #[.int .i64 0, .int .i64 0, .int .i64 0, .int .i64 0] 25)) = W0 at *
  have HD0 := Lib.hid hb0
  have Hb1_0 := Lib.hid hc1
  have lb1_0 : w.heap.size < W0.heap.size := by omega
  have Hb2_0 := Lib.hid hc2
  have lb2_0 : w.heap.size + 1 < W0.heap.size := by omega
  have lw0 : w.heap.size ≤ W0.heap.size := by omega
  clear hb0 hsz hc1 hc2
  refine wp_region_lit ?_
  refine wpList_load_mid rfl 69 (.tmp 1) rfl (w.heap.size) 0 rfl [.int .i64 a, .int .i64 b, .int .i64 c, .int .i64 d, .int .i64 k] _ (range_row Hb1_0.out 0 [.int .i64 a, .int .i64 b, .int .i64 c, .int .i64 d, .int .i64 k] (fun j hj => by simp only [Nat.zero_add, List.getElem?_toArray])) Try.underlying69 rfl (by kernel_rfl) ?_
  refine wpList_step (fun K hK => ?_)
  go_simp
  refine (Bounds_is a b c d k 30 rl rh il ih er _ H).mono ?_
  rintro e u1_ ⟨rfl, hb⟩
  have HD1 := Lib.hid (HD0.out.trans (hb.mono lw0))
  have lw1 : w.heap.size ≤ u1_.heap.size := Nat.le_trans lw0 hb.size
  have Hb1_1 := Lib.hid ((hb.block _ lb1_0).trans Hb1_0.out)
  have lb1_1 : w.heap.size < u1_.heap.size := Nat.lt_of_lt_of_le lb1_0 hb.size
  have Hb2_1 := Lib.hid ((hb.block _ lb2_0).trans Hb2_0.out)
  have lb2_1 : w.heap.size + 1 < u1_.heap.size := Nat.lt_of_lt_of_le lb2_0 hb.size
  clear hb HD0 lw0 Hb1_0 lb1_0 Hb2_0 lb2_0
  refine hK _ _ ?_
  clear hK K
  refine wpList_step (fun K hK => ?_); go_simp; refine hK _ _ ?_; clear hK K
  refine wpList_step (fun K hK => ?_); go_simp; refine hK _ _ ?_; clear hK K
  refine wpList_step (fun K hK => ?_); go_simp; refine hK _ _ ?_; clear hK K
  refine wpList_step (fun K hK => ?_); go_simp; refine hK _ _ ?_; clear hK K
  refine wpList_step (fun K hK => ?_); go_simp; refine hK _ _ ?_; clear hK K
  refine wpList_step (fun K hK => ?_); go_simp; refine hK _ _ ?_; clear hK K
  have hba : Below u1_.heap.size u1_ ((u1_.alloc (.cells #[.int .i64 0, .int .i64 0] 23)).alloc (.cells #[.int .i64 0, .int .i64 0] 23)) := bal (bal (Below.refl _ _) _) _
  have e1 : ((u1_.alloc (.cells #[.int .i64 0, .int .i64 0] 23)).alloc (.cells #[.int .i64 0, .int .i64 0] 23)).heap[u1_.heap.size]? = some (.cells #[.int .i64 0, .int .i64 0] 23 (0, 0)) := (Below.heap_alloc _ _ _ (by first | omega | (simp; done) | (simp; omega))).trans (heap_alloc_new u1_ _)
  have e2 : ((u1_.alloc (.cells #[.int .i64 0, .int .i64 0] 23)).alloc (.cells #[.int .i64 0, .int .i64 0] 23)).heap[u1_.heap.size + 1]? = some (.cells #[.int .i64 0, .int .i64 0] 23 (0, 0)) := by
    have h := heap_alloc_new (u1_.alloc (.cells #[.int .i64 0, .int .i64 0] 23)) (.cells #[.int .i64 0, .int .i64 0] 23)
    rwa [World.size_alloc] at h
  have le2 : u1_.heap.size + 1 < ((u1_.alloc (.cells #[.int .i64 0, .int .i64 0] 23)).alloc (.cells #[.int .i64 0, .int .i64 0] 23)).heap.size := by simp
  generalize ((u1_.alloc (.cells #[.int .i64 0, .int .i64 0] 23)).alloc (.cells #[.int .i64 0, .int .i64 0] 23)) = Y at *
  have HTH := Lib.hid (there_mid e1 0 2 (show 0 + 2 ≤ 2 by decide))
  refine wpList_store_mid rfl 23 (.tmp 4) (.tmp 10) rfl u1_.heap.size 0 #[.int .i64 rl, .int .i64 rh] rfl rfl HTH.out (by kernel_rfl) (by simp [Value.oneCell']) ?_
  (try rw [show (#[.int .i64 rl, .int .i64 rh] : Array Value).toList = [.int .i64 rl, .int .i64 rh] from rfl])
  have hbb : Below u1_.heap.size u1_ (Y.setCells u1_.heap.size 0 [.int .i64 rl, .int .i64 rh]) := below_mids (Nat.le_refl _) _ _ hba
  have g1 : (Y.setCells u1_.heap.size 0 [.int .i64 rl, .int .i64 rh]).heap[u1_.heap.size]? = some (.cells #[.int .i64 rl, .int .i64 rh] 23 (0, 0)) := block_whole [.int .i64 rl, .int .i64 rh] e1 rfl
  have g2 : (Y.setCells u1_.heap.size 0 [.int .i64 rl, .int .i64 rh]).heap[u1_.heap.size + 1]? = some (.cells #[.int .i64 0, .int .i64 0] 23 (0, 0)) := (World.heap_setCells_other _ _ _ _ le2 (Nat.succ_ne_self _)).trans e2
  have lg2 : u1_.heap.size + 1 < (Y.setCells u1_.heap.size 0 [.int .i64 rl, .int .i64 rh]).heap.size := (Array.getElem?_eq_some_iff.1 g2).1
  clear hba e1 e2 le2 HTH
  generalize (Y.setCells u1_.heap.size 0 [.int .i64 rl, .int .i64 rh]) = Y1 at *
  have HTH := Lib.hid (there_mid g2 0 2 (show 0 + 2 ≤ 2 by decide))
  refine wpList_store_mid rfl 23 (.tmp 5) (.tmp 11) rfl (u1_.heap.size + 1) 0 #[.int .i64 il, .int .i64 ih] rfl rfl HTH.out (by kernel_rfl) (by simp [Value.oneCell']) ?_
  (try rw [show (#[.int .i64 il, .int .i64 ih] : Array Value).toList = [.int .i64 il, .int .i64 ih] from rfl])
  have hb : Below u1_.heap.size u1_ (Y1.setCells (u1_.heap.size + 1) 0 [.int .i64 il, .int .i64 ih]) := below_mids (Nat.le_succ _) _ _ hbb
  have k1 : (Y1.setCells (u1_.heap.size + 1) 0 [.int .i64 il, .int .i64 ih]).heap[u1_.heap.size]? = some (.cells #[.int .i64 rl, .int .i64 rh] 23 (0, 0)) := (World.heap_setCells_other _ _ _ _ (by omega) (Nat.ne_of_lt (Nat.lt_succ_self _))).trans g1
  have k2 : (Y1.setCells (u1_.heap.size + 1) 0 [.int .i64 il, .int .i64 ih]).heap[u1_.heap.size + 1]? = some (.cells #[.int .i64 il, .int .i64 ih] 23 (0, 0)) := block_whole [.int .i64 il, .int .i64 ih] g2 rfl
  have hl1 : u1_.heap.size < (Y1.setCells (u1_.heap.size + 1) 0 [.int .i64 il, .int .i64 ih]).heap.size := (Array.getElem?_eq_some_iff.1 k1).1
  have hl2 : u1_.heap.size + 1 < (Y1.setCells (u1_.heap.size + 1) 0 [.int .i64 il, .int .i64 ih]).heap.size := (Array.getElem?_eq_some_iff.1 k2).1
  have HD2 := Lib.hid (HD1.out.trans (hb.mono lw1))
  have lw2 : w.heap.size ≤ (Y1.setCells (u1_.heap.size + 1) 0 [.int .i64 il, .int .i64 ih]).heap.size := Nat.le_trans lw1 hb.size
  have Hb1_2 := Lib.hid ((hb.block _ lb1_1).trans Hb1_1.out)
  have lb1_2 : w.heap.size < (Y1.setCells (u1_.heap.size + 1) 0 [.int .i64 il, .int .i64 ih]).heap.size := Nat.lt_of_lt_of_le lb1_1 hb.size
  have Hb2_2 := Lib.hid ((hb.block _ lb2_1).trans Hb2_1.out)
  have lb2_2 : w.heap.size + 1 < (Y1.setCells (u1_.heap.size + 1) 0 [.int .i64 il, .int .i64 ih]).heap.size := Nat.lt_of_lt_of_le lb2_1 hb.size
  have Hb4_2 := Lib.hid k1
  have lb4_2 := hl1
  have Hb5_2 := Lib.hid k2
  have lb5_2 := hl2
  clear hb hbb g1 g2 lg2 k1 k2 hl1 hl2 HTH HD1 lw1 Hb1_1 lb1_1 Hb2_1 lb2_1
  generalize (Y1.setCells (u1_.heap.size + 1) 0 [.int .i64 il, .int .i64 ih]) = U2 at *
  generalize u1_.heap.size + 1 = BC2 at *
  generalize u1_.heap.size = BB2 at *
  refine wpList_step (fun K hK => ?_); go_simp; refine hK _ _ ?_; clear hK K
  refine wpList_nil ?_
  go_upto_region 3 with fail
  refine wp_region_lit ?_
  refine wpList_step (fun K hK => ?_); go_simp; refine hK _ _ ?_; clear hK K
  refine wpList_step (fun K hK => ?_); go_simp; refine hK _ _ ?_; clear hK K
  have HTH := Lib.hid (there_mid Hb2_2.out 0 4 (show 0 + 4 ≤ 4 by decide))
  refine wpList_store_mid rfl 25 (.tmp 2) (.tmp 15) rfl (w.heap.size + 1) 0 #[.int .i64 0, .int .i64 0, .int .i64 0, .int .i64 0] rfl rfl HTH.out (by kernel_rfl) (by simp [Value.oneCell']) ?_
  (try rw [show (#[.int .i64 0, .int .i64 0, .int .i64 0, .int .i64 0] : Array Value).toList = [.int .i64 0, .int .i64 0, .int .i64 0, .int .i64 0] from rfl])
  have HD3 := Lib.hid (below_mids (show w.heap.size ≤ w.heap.size + 1 by omega) [.int .i64 0, .int .i64 0, .int .i64 0, .int .i64 0] 0 HD2.out)
  have Hb2_3 : Hid ((U2.setCells (w.heap.size + 1) 0 [.int .i64 0, .int .i64 0, .int .i64 0, .int .i64 0]).heap[w.heap.size + 1]? = some (.cells #[.int .i64 0, .int .i64 0, .int .i64 0, .int .i64 0] 25 (0, 0))) := Lib.hid (block_whole [.int .i64 0, .int .i64 0, .int .i64 0, .int .i64 0] Hb2_2.out rfl)
  clear HTH HD2 Hb2_2
  generalize (U2.setCells (w.heap.size + 1) 0 [.int .i64 0, .int .i64 0, .int .i64 0, .int .i64 0]) = U3 at *
  refine wpList_step (fun K hK => ?_); go_simp; refine hK _ _ ?_; clear hK K
  refine wpList_nil ?_
  refine (‹∀ (a : Act) (w : World), Code.wp Try.prog Code.ret _ a w → _› _ _ ?_)
  apply wp_ret
  (try unfold Exit.then)
  (try dsimp only)
  (try simp only [act_all])
  obtain ⟨q0, q1, q2, q3⟩ : (U3.cell? ⟨w.heap.size + 1, 0, none⟩ = some (.int .i64 0) ∧ U3.cell? ⟨w.heap.size + 1, 1, none⟩ = some (.int .i64 0) ∧ U3.cell? ⟨w.heap.size + 1, 2, none⟩ = some (.int .i64 0) ∧ U3.cell? ⟨w.heap.size + 1, 3, none⟩ = some (.int .i64 0)) := by
    have h := range_row Hb2_3.out 0 [.int .i64 0, .int .i64 0, .int .i64 0, .int .i64 0] (fun j hj => by simp only [Nat.zero_add, List.getElem?_toArray])
    refine ⟨by have h1 := h 0 _ rfl; rwa [Nat.zero_add] at h1, by have h1 := h 1 _ rfl; rwa [Nat.zero_add] at h1, by have h1 := h 2 _ rfl; rwa [Nat.zero_add] at h1, by have h1 := h 3 _ rfl; rwa [Nat.zero_add] at h1⟩
  refine bodyPost_ret (v := .tuple #[.agg #[.int .i64 0, .int .i64 0, .int .i64 0, .int .i64 0], .int .i64 er]) (by simp [results, Try.results55, go_sem, q0, q1, q2, q3]) rfl ⟨rfl, HD3.out⟩
set_option maxRecDepth 100000 in
set_option maxHeartbeats 4000000 in
theorem eFromNum_ok (a b c d k rl rh il ih : Int) (w : World) (H : Hid (isBnd ⟨⟨a, b, c, d⟩, k⟩ 30 rl rh il ih 0)) :
    Calls Try.prog 55 #[.agg #[.int .i64 a, .int .i64 b, .int .i64 c, .int .i64 d, .int .i64 k]] w fun e w' => e = OutR (fromR ⟨rl, rh⟩ ⟨il, ih⟩) ∧ Below w.heap.size w w' := by
  have hmf : ∀ (fn : Fn) (first cap : Array Value) (w : World), (Instr.makeFunc fn first cap).run Try.prog w = .ok (.func fn first cap) w := fun _ _ _ _ => rfl
  go_enter Try.func55, Try.ntmps55
  go_upto_region 1 with fail
  have hb0 : Below w.heap.size w ((w.alloc (.cells #[.int .i64 a, .int .i64 b, .int .i64 c, .int .i64 d, .int .i64 k] 69)).alloc (.cells #[.int .i64 0, .int .i64 0, .int .i64 0, .int .i64 0] 25)) := by go_grown
  have hc1 : ((w.alloc (.cells #[.int .i64 a, .int .i64 b, .int .i64 c, .int .i64 d, .int .i64 k] 69)).alloc (.cells #[.int .i64 0, .int .i64 0, .int .i64 0, .int .i64 0] 25)).heap[w.heap.size]? = some (.cells #[.int .i64 a, .int .i64 b, .int .i64 c, .int .i64 d, .int .i64 k] 69 (0, 0)) := (Below.heap_alloc _ _ _ (by first | omega | (simp; done) | (simp; omega))).trans ((heap_alloc_new w _))
  have hc2 : ((w.alloc (.cells #[.int .i64 a, .int .i64 b, .int .i64 c, .int .i64 d, .int .i64 k] 69)).alloc (.cells #[.int .i64 0, .int .i64 0, .int .i64 0, .int .i64 0] 25)).heap[w.heap.size + 1]? = some (.cells #[.int .i64 0, .int .i64 0, .int .i64 0, .int .i64 0] 25 (0, 0)) := (by
      have h := heap_alloc_new (w.alloc (.cells #[.int .i64 a, .int .i64 b, .int .i64 c, .int .i64 d, .int .i64 k] 69)) (.cells #[.int .i64 0, .int .i64 0, .int .i64 0, .int .i64 0] 25)
      rwa [World.size_alloc] at h)
  have hsz : w.heap.size + 2 ≤ ((w.alloc (.cells #[.int .i64 a, .int .i64 b, .int .i64 c, .int .i64 d, .int .i64 k] 69)).alloc (.cells #[.int .i64 0, .int .i64 0, .int .i64 0, .int .i64 0] 25)).heap.size := by simp
  generalize ((w.alloc (.cells #[.int .i64 a, .int .i64 b, .int .i64 c, .int .i64 d, .int .i64 k] 69)).alloc (.cells #[.int .i64 0, .int .i64 0, .int .i64 0, .int .i64 0] 25)) = W0 at *
  have HD0 := Lib.hid hb0
  have Hb1_0 := Lib.hid hc1
  have lb1_0 : w.heap.size < W0.heap.size := by omega
  have Hb2_0 := Lib.hid hc2
  have lb2_0 : w.heap.size + 1 < W0.heap.size := by omega
  have lw0 : w.heap.size ≤ W0.heap.size := by omega
  clear hb0 hsz hc1 hc2
  refine wp_region_lit ?_
  refine wpList_load_mid rfl 69 (.tmp 1) rfl (w.heap.size) 0 rfl [.int .i64 a, .int .i64 b, .int .i64 c, .int .i64 d, .int .i64 k] _ (range_row Hb1_0.out 0 [.int .i64 a, .int .i64 b, .int .i64 c, .int .i64 d, .int .i64 k] (fun j hj => by simp only [Nat.zero_add, List.getElem?_toArray])) Try.underlying69 rfl (by kernel_rfl) ?_
  refine wpList_step (fun K hK => ?_)
  go_simp
  refine (Bounds_is a b c d k 30 rl rh il ih 0 _ H).mono ?_
  rintro e u1_ ⟨rfl, hb⟩
  have HD1 := Lib.hid (HD0.out.trans (hb.mono lw0))
  have lw1 : w.heap.size ≤ u1_.heap.size := Nat.le_trans lw0 hb.size
  have Hb1_1 := Lib.hid ((hb.block _ lb1_0).trans Hb1_0.out)
  have lb1_1 : w.heap.size < u1_.heap.size := Nat.lt_of_lt_of_le lb1_0 hb.size
  have Hb2_1 := Lib.hid ((hb.block _ lb2_0).trans Hb2_0.out)
  have lb2_1 : w.heap.size + 1 < u1_.heap.size := Nat.lt_of_lt_of_le lb2_0 hb.size
  clear hb HD0 lw0 Hb1_0 lb1_0 Hb2_0 lb2_0
  refine hK _ _ ?_
  clear hK K
  refine wpList_step (fun K hK => ?_); go_simp; refine hK _ _ ?_; clear hK K
  refine wpList_step (fun K hK => ?_); go_simp; refine hK _ _ ?_; clear hK K
  refine wpList_step (fun K hK => ?_); go_simp; refine hK _ _ ?_; clear hK K
  refine wpList_step (fun K hK => ?_); go_simp; refine hK _ _ ?_; clear hK K
  refine wpList_step (fun K hK => ?_); go_simp; refine hK _ _ ?_; clear hK K
  refine wpList_step (fun K hK => ?_); go_simp; refine hK _ _ ?_; clear hK K
  have hba : Below u1_.heap.size u1_ ((u1_.alloc (.cells #[.int .i64 0, .int .i64 0] 23)).alloc (.cells #[.int .i64 0, .int .i64 0] 23)) := bal (bal (Below.refl _ _) _) _
  have e1 : ((u1_.alloc (.cells #[.int .i64 0, .int .i64 0] 23)).alloc (.cells #[.int .i64 0, .int .i64 0] 23)).heap[u1_.heap.size]? = some (.cells #[.int .i64 0, .int .i64 0] 23 (0, 0)) := (Below.heap_alloc _ _ _ (by first | omega | (simp; done) | (simp; omega))).trans (heap_alloc_new u1_ _)
  have e2 : ((u1_.alloc (.cells #[.int .i64 0, .int .i64 0] 23)).alloc (.cells #[.int .i64 0, .int .i64 0] 23)).heap[u1_.heap.size + 1]? = some (.cells #[.int .i64 0, .int .i64 0] 23 (0, 0)) := by
    have h := heap_alloc_new (u1_.alloc (.cells #[.int .i64 0, .int .i64 0] 23)) (.cells #[.int .i64 0, .int .i64 0] 23)
    rwa [World.size_alloc] at h
  have le2 : u1_.heap.size + 1 < ((u1_.alloc (.cells #[.int .i64 0, .int .i64 0] 23)).alloc (.cells #[.int .i64 0, .int .i64 0] 23)).heap.size := by simp
  generalize ((u1_.alloc (.cells #[.int .i64 0, .int .i64 0] 23)).alloc (.cells #[.int .i64 0, .int .i64 0] 23)) = Y at *
  have HTH := Lib.hid (there_mid e1 0 2 (show 0 + 2 ≤ 2 by decide))
  refine wpList_store_mid rfl 23 (.tmp 4) (.tmp 10) rfl u1_.heap.size 0 #[.int .i64 rl, .int .i64 rh] rfl rfl HTH.out (by kernel_rfl) (by simp [Value.oneCell']) ?_
  (try rw [show (#[.int .i64 rl, .int .i64 rh] : Array Value).toList = [.int .i64 rl, .int .i64 rh] from rfl])
  have hbb : Below u1_.heap.size u1_ (Y.setCells u1_.heap.size 0 [.int .i64 rl, .int .i64 rh]) := below_mids (Nat.le_refl _) _ _ hba
  have g1 : (Y.setCells u1_.heap.size 0 [.int .i64 rl, .int .i64 rh]).heap[u1_.heap.size]? = some (.cells #[.int .i64 rl, .int .i64 rh] 23 (0, 0)) := block_whole [.int .i64 rl, .int .i64 rh] e1 rfl
  have g2 : (Y.setCells u1_.heap.size 0 [.int .i64 rl, .int .i64 rh]).heap[u1_.heap.size + 1]? = some (.cells #[.int .i64 0, .int .i64 0] 23 (0, 0)) := (World.heap_setCells_other _ _ _ _ le2 (Nat.succ_ne_self _)).trans e2
  have lg2 : u1_.heap.size + 1 < (Y.setCells u1_.heap.size 0 [.int .i64 rl, .int .i64 rh]).heap.size := (Array.getElem?_eq_some_iff.1 g2).1
  clear hba e1 e2 le2 HTH
  generalize (Y.setCells u1_.heap.size 0 [.int .i64 rl, .int .i64 rh]) = Y1 at *
  have HTH := Lib.hid (there_mid g2 0 2 (show 0 + 2 ≤ 2 by decide))
  refine wpList_store_mid rfl 23 (.tmp 5) (.tmp 11) rfl (u1_.heap.size + 1) 0 #[.int .i64 il, .int .i64 ih] rfl rfl HTH.out (by kernel_rfl) (by simp [Value.oneCell']) ?_
  (try rw [show (#[.int .i64 il, .int .i64 ih] : Array Value).toList = [.int .i64 il, .int .i64 ih] from rfl])
  have hb : Below u1_.heap.size u1_ (Y1.setCells (u1_.heap.size + 1) 0 [.int .i64 il, .int .i64 ih]) := below_mids (Nat.le_succ _) _ _ hbb
  have k1 : (Y1.setCells (u1_.heap.size + 1) 0 [.int .i64 il, .int .i64 ih]).heap[u1_.heap.size]? = some (.cells #[.int .i64 rl, .int .i64 rh] 23 (0, 0)) := (World.heap_setCells_other _ _ _ _ (by omega) (Nat.ne_of_lt (Nat.lt_succ_self _))).trans g1
  have k2 : (Y1.setCells (u1_.heap.size + 1) 0 [.int .i64 il, .int .i64 ih]).heap[u1_.heap.size + 1]? = some (.cells #[.int .i64 il, .int .i64 ih] 23 (0, 0)) := block_whole [.int .i64 il, .int .i64 ih] g2 rfl
  have hl1 : u1_.heap.size < (Y1.setCells (u1_.heap.size + 1) 0 [.int .i64 il, .int .i64 ih]).heap.size := (Array.getElem?_eq_some_iff.1 k1).1
  have hl2 : u1_.heap.size + 1 < (Y1.setCells (u1_.heap.size + 1) 0 [.int .i64 il, .int .i64 ih]).heap.size := (Array.getElem?_eq_some_iff.1 k2).1
  have HD2 := Lib.hid (HD1.out.trans (hb.mono lw1))
  have lw2 : w.heap.size ≤ (Y1.setCells (u1_.heap.size + 1) 0 [.int .i64 il, .int .i64 ih]).heap.size := Nat.le_trans lw1 hb.size
  have Hb1_2 := Lib.hid ((hb.block _ lb1_1).trans Hb1_1.out)
  have lb1_2 : w.heap.size < (Y1.setCells (u1_.heap.size + 1) 0 [.int .i64 il, .int .i64 ih]).heap.size := Nat.lt_of_lt_of_le lb1_1 hb.size
  have Hb2_2 := Lib.hid ((hb.block _ lb2_1).trans Hb2_1.out)
  have lb2_2 : w.heap.size + 1 < (Y1.setCells (u1_.heap.size + 1) 0 [.int .i64 il, .int .i64 ih]).heap.size := Nat.lt_of_lt_of_le lb2_1 hb.size
  have Hb4_2 := Lib.hid k1
  have lb4_2 := hl1
  have Hb5_2 := Lib.hid k2
  have lb5_2 := hl2
  clear hb hbb g1 g2 lg2 k1 k2 hl1 hl2 HTH HD1 lw1 Hb1_1 lb1_1 Hb2_1 lb2_1
  generalize (Y1.setCells (u1_.heap.size + 1) 0 [.int .i64 il, .int .i64 ih]) = U2 at *
  generalize u1_.heap.size + 1 = BC2 at *
  generalize u1_.heap.size = BB2 at *
  refine wpList_step (fun K hK => ?_); go_simp; refine hK _ _ ?_; clear hK K
  refine wpList_nil ?_
  go_upto_region 4 with fail
  refine wp_region_lit ?_
  refine wpList_step (fun K hK => ?_); go_simp; refine hK _ _ ?_; clear hK K
  obtain ⟨x1, x2, x3, x4, xe, hE⟩ := OutR_form4 (fromR ⟨rl, rh⟩ ⟨il, ih⟩)
  have HE := Lib.hid hE
  clear hE
  refine wpList_step (fun K hK => ?_)
  go_simp
  refine (attempt_num ⟨BB2, 0, none⟩ ⟨BC2, 0, none⟩ (fromR ⟨rl, rh⟩ ⟨il, ih⟩) _ (fun w3 hb => numC_any rl rh il ih _ _ w3 ((hb.block _ lb4_2).trans Hb4_2.out) ((hb.block _ lb5_2).trans Hb5_2.out))).mono ?_
  rw [HE.out]
  rintro e u3_ ⟨rfl, hb⟩
  have HD3 := Lib.hid (HD2.out.trans (hb.mono lw2))
  have lw3 : w.heap.size ≤ u3_.heap.size := Nat.le_trans lw2 hb.size
  have Hb1_3 := Lib.hid ((hb.block _ lb1_2).trans Hb1_2.out)
  have lb1_3 : w.heap.size < u3_.heap.size := Nat.lt_of_lt_of_le lb1_2 hb.size
  have Hb2_3 := Lib.hid ((hb.block _ lb2_2).trans Hb2_2.out)
  have lb2_3 : w.heap.size + 1 < u3_.heap.size := Nat.lt_of_lt_of_le lb2_2 hb.size
  have Hb4_3 := Lib.hid ((hb.block _ lb4_2).trans Hb4_2.out)
  have lb4_3 : BB2 < u3_.heap.size := Nat.lt_of_lt_of_le lb4_2 hb.size
  have Hb5_3 := Lib.hid ((hb.block _ lb5_2).trans Hb5_2.out)
  have lb5_3 : BC2 < u3_.heap.size := Nat.lt_of_lt_of_le lb5_2 hb.size
  clear hb HD2 lw2 Hb1_2 lb1_2 Hb2_2 lb2_2 Hb4_2 lb4_2 Hb5_2 lb5_2
  refine hK _ _ ?_
  clear hK K
  refine wpList_step (fun K hK => ?_); go_simp; refine hK _ _ ?_; clear hK K
  refine wpList_step (fun K hK => ?_); go_simp; refine hK _ _ ?_; clear hK K
  have HTH := Lib.hid (there_mid Hb2_3.out 0 4 (show 0 + 4 ≤ 4 by decide))
  refine wpList_store_mid rfl 25 (.tmp 2) (.tmp 19) rfl (w.heap.size + 1) 0 #[.int .i64 x1, .int .i64 x2, .int .i64 x3, .int .i64 x4] rfl rfl HTH.out (by kernel_rfl) (by simp [Value.oneCell']) ?_
  (try rw [show (#[.int .i64 x1, .int .i64 x2, .int .i64 x3, .int .i64 x4] : Array Value).toList = [.int .i64 x1, .int .i64 x2, .int .i64 x3, .int .i64 x4] from rfl])
  have HD4 := Lib.hid (below_mids (show w.heap.size ≤ w.heap.size + 1 by omega) [.int .i64 x1, .int .i64 x2, .int .i64 x3, .int .i64 x4] 0 HD3.out)
  have Hb2_4 : Hid ((u3_.setCells (w.heap.size + 1) 0 [.int .i64 x1, .int .i64 x2, .int .i64 x3, .int .i64 x4]).heap[w.heap.size + 1]? = some (.cells #[.int .i64 x1, .int .i64 x2, .int .i64 x3, .int .i64 x4] 25 (0, 0))) := Lib.hid (block_whole [.int .i64 x1, .int .i64 x2, .int .i64 x3, .int .i64 x4] Hb2_3.out rfl)
  clear HTH HD3 Hb2_3
  generalize (u3_.setCells (w.heap.size + 1) 0 [.int .i64 x1, .int .i64 x2, .int .i64 x3, .int .i64 x4]) = U4 at *
  refine wpList_step (fun K hK => ?_); go_simp; refine hK _ _ ?_; clear hK K
  refine wpList_nil ?_
  refine (‹∀ (a : Act) (w : World), Code.wp Try.prog Code.ret _ a w → _› _ _ ?_)
  apply wp_ret
  (try unfold Exit.then)
  (try dsimp only)
  (try simp only [act_all])
  obtain ⟨q0, q1, q2, q3⟩ : (U4.cell? ⟨w.heap.size + 1, 0, none⟩ = some (.int .i64 x1) ∧ U4.cell? ⟨w.heap.size + 1, 1, none⟩ = some (.int .i64 x2) ∧ U4.cell? ⟨w.heap.size + 1, 2, none⟩ = some (.int .i64 x3) ∧ U4.cell? ⟨w.heap.size + 1, 3, none⟩ = some (.int .i64 x4)) := by
    have h := range_row Hb2_4.out 0 [.int .i64 x1, .int .i64 x2, .int .i64 x3, .int .i64 x4] (fun j hj => by simp only [Nat.zero_add, List.getElem?_toArray])
    refine ⟨by have h1 := h 0 _ rfl; rwa [Nat.zero_add] at h1, by have h1 := h 1 _ rfl; rwa [Nat.zero_add] at h1, by have h1 := h 2 _ rfl; rwa [Nat.zero_add] at h1, by have h1 := h 3 _ rfl; rwa [Nat.zero_add] at h1⟩
  refine bodyPost_ret (v := .tuple #[.agg #[.int .i64 x1, .int .i64 x2, .int .i64 x3, .int .i64 x4], .int .i64 xe]) (by simp [results, Try.results55, go_sem, q0, q1, q2, q3]) rfl ⟨HE.out.symm, HD4.out⟩
theorem eFromNum_any (a b c d k rl rh il ih er : Int) (w : World) (H : Hid (isBnd ⟨⟨a, b, c, d⟩, k⟩ 30 rl rh il ih er)) :
    Calls Try.prog 55 #[.agg #[.int .i64 a, .int .i64 b, .int .i64 c, .int .i64 d, .int .i64 k]] w fun e w' => e = OutR (numO er ⟨rl, rh⟩ ⟨il, ih⟩) ∧ Below w.heap.size w w' := by
  by_cases he : er = 0
  · subst he
    rw [show numO 0 ⟨rl, rh⟩ ⟨il, ih⟩ = fromR ⟨rl, rh⟩ ⟨il, ih⟩ from if_pos rfl]
    exact eFromNum_ok a b c d k rl rh il ih w H
  · rw [show numO er ⟨rl, rh⟩ ⟨il, ih⟩ = .bad er from if_neg he]
    exact eFromNum_err a b c d k rl rh il ih er w H he
end Go.Proofs.Ytgbnpnenejgnnaa
