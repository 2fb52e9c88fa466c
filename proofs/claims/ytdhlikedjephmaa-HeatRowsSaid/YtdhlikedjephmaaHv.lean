import Derived.Test.YtdhlikedjephmaaHt
import Derived.Test.YtdhlikedjephmaaHu
namespace Go.Proofs.Ytdhlikedjephmaa
open Go.RowKit Heat
set_option maxRecDepth 100000 in
set_option maxHeartbeats 8000000 in
theorem hDet_no (N cap : Nat) (ao : Option Addr) (A : Nat → Option Addr) (l c : Nat → Nat) (F : Nat → Nat → Int) (w : World) (hN : N ≤ 9223372036854775807) (hR : Rowsw w ao N A l c F) (hok : okG N l F = false) :
    Calls Try.prog 37 #[.agg #[.slice ao N cap]] w fun e w' => e = .returned (.tuple #[.int .i64 0, .int .i64 60]) ∧ Below w.heap.size w w' := by
  have HG := Lib.hid hR
  have HOK := Lib.hid hok
  clear hR hok
  have hbx : (w.alloc (Obj.cells #[.slice ao N cap] 40)).cell? ⟨w.heap.size, 0, none⟩ = some (.slice ao N cap) := by go_cell
  have hb0 : Below w.heap.size w (w.alloc (Obj.cells #[.slice ao N cap] 40)) := by go_grown
  have hsz : w.heap.size < (w.alloc (Obj.cells #[.slice ao N cap] 40)).heap.size := by simp
  go_enter Try.func37, Try.ntmps37
  go_upto_region 1 with fail
  generalize (w.alloc (Obj.cells #[.slice ao N cap] 40)) = W at *
  have HB0 := Lib.hid hb0
  have HSZ := Lib.hid hsz
  clear hb0
  refine wp_region_lit ?_
  refine wpList_step (fun K hK => ?_); go_simp; refine hK _ _ ?_; clear hK K
  refine wpList_step (fun K hK => ?_); go_simp
  refine (read_no N cap ao A l c F _ hN (HG.out.keep (HB0.out.mono (Nat.le_refl _))) HOK.out).mono ?_
  rintro e w1 ⟨rfl, hb⟩
  have hB1 : Below w.heap.size w w1 := HB0.out.trans (hb.mono HB0.out.size)
  have hg : w.heap.size < w1.heap.size := by have h1 := hb.size; have h2 := HSZ.out; omega
  refine hK _ _ ?_; clear hK K
  clear hb hbx hsz HSZ HB0
  have HBK2 : Hid (Bkw (w1.alloc (Obj.cells #[.int .i64 0, .int .i64 0, .int .i64 0, .int .i64 0, .int .i64 0, .int .i64 0, .int .i64 0, .int .i64 0, .int .i64 0, .int .i64 0, .int .i64 0, .int .i64 0, .int .i64 0, .int .i64 0, .int .i64 0, .int .i64 0, .int .i64 0, .int .i64 0, .int .i64 0, .int .i64 0, .int .i64 0, .int .i64 0, .int .i64 0, .int .i64 0, .int .i64 0, .int .i64 0, .int .i64 0, .int .i64 0, .int .i64 0, .int .i64 0, .int .i64 0] 81)) w1.heap.size 0 (fun _ => 0) (fun _ => 0)) := Lib.hid (Bkw.fresh (by refine ⟨?_, ?_, ?_, ?_, ?_, ?_, ?_, ?_, ?_, ?_, ?_, ?_, ?_, ?_, ?_, ?_, ?_, ?_, ?_, ?_, ?_, ?_, ?_, ?_, ?_, ?_, ?_, ?_, ?_, ?_, ?_⟩ <;> go_cell) (by refine ⟨?_, ?_, ?_, ?_, ?_, ?_, ?_, ?_, ?_, ?_, ?_, ?_, ?_, ?_, ?_, ?_, ?_, ?_, ?_, ?_, ?_, ?_, ?_, ?_, ?_, ?_, ?_, ?_, ?_, ?_, ?_⟩ <;> go_cell))
  have hb2 : Below w1.heap.size w1 (w1.alloc (Obj.cells #[.int .i64 0, .int .i64 0, .int .i64 0, .int .i64 0, .int .i64 0, .int .i64 0, .int .i64 0, .int .i64 0, .int .i64 0, .int .i64 0, .int .i64 0, .int .i64 0, .int .i64 0, .int .i64 0, .int .i64 0, .int .i64 0, .int .i64 0, .int .i64 0, .int .i64 0, .int .i64 0, .int .i64 0, .int .i64 0, .int .i64 0, .int .i64 0, .int .i64 0, .int .i64 0, .int .i64 0, .int .i64 0, .int .i64 0, .int .i64 0, .int .i64 0] 81)) := (Below.refl _ _).alloc (Nat.le_refl _) _
  have hB2 : Below w.heap.size w (w1.alloc (Obj.cells #[.int .i64 0, .int .i64 0, .int .i64 0, .int .i64 0, .int .i64 0, .int .i64 0, .int .i64 0, .int .i64 0, .int .i64 0, .int .i64 0, .int .i64 0, .int .i64 0, .int .i64 0, .int .i64 0, .int .i64 0, .int .i64 0, .int .i64 0, .int .i64 0, .int .i64 0, .int .i64 0, .int .i64 0, .int .i64 0, .int .i64 0, .int .i64 0, .int .i64 0, .int .i64 0, .int .i64 0, .int .i64 0, .int .i64 0, .int .i64 0, .int .i64 0] 81)) := hB1.trans (hb2.mono hB1.size)
  refine wpList_step (fun K hK => ?_); go_simp; refine hK _ _ ?_; clear hK K
  refine wpList_step (fun K hK => ?_); go_simp; refine hK _ _ ?_; clear hK K
  refine wpList_step (fun K hK => ?_); go_simp; refine hK _ _ ?_; clear hK K
  refine wpList_step (fun K hK => ?_); go_simp; refine hK _ _ ?_; clear hK K
  generalize (w1.alloc (Obj.cells #[.int .i64 0, .int .i64 0, .int .i64 0, .int .i64 0, .int .i64 0, .int .i64 0, .int .i64 0, .int .i64 0, .int .i64 0, .int .i64 0, .int .i64 0, .int .i64 0, .int .i64 0, .int .i64 0, .int .i64 0, .int .i64 0, .int .i64 0, .int .i64 0, .int .i64 0, .int .i64 0, .int .i64 0, .int .i64 0, .int .i64 0, .int .i64 0, .int .i64 0, .int .i64 0, .int .i64 0, .int .i64 0, .int .i64 0, .int .i64 0, .int .i64 0] 81)) = W2 at *
  have HTH : Hid (W2.there w1.heap.size 0 (bkL 0 (fun _ => 0) (fun _ => 0)).toArray.size) := Lib.hid HBK2.out.there
  (refine wpList_store_mid rfl 81 _ _ rfl w1.heap.size 0 (bkL 0 (fun _ => 0) (fun _ => 0)).toArray rfl rfl HTH.out (infoBk 0 (fun _ => 0) (fun _ => 0)) (all_oneCell_toArray (bkL_one 0 (fun _ => 0) (fun _ => 0))) ?_)
  have HM3 : Hid (Bkw (W2.setCells w1.heap.size 0 (bkL 0 (fun _ => 0) (fun _ => 0)).toArray.toList) w1.heap.size 0 (fun _ => 0) (fun _ => 0)) := Lib.hid (by rw [List.toList_toArray]; exact HBK2.out.whole)
  have HB3 : Hid (Below w.heap.size w (W2.setCells w1.heap.size 0 (bkL 0 (fun _ => 0) (fun _ => 0)).toArray.toList)) := Lib.hid (below_setCells hB2 hB1.size _ _)
  generalize W2.setCells w1.heap.size 0 (bkL 0 (fun _ => 0) (fun _ => 0)).toArray.toList = W3 at *
  have hs3 : w1.heap.size < W3.heap.size := World.block_lt_of_cell? _ _ HM3.out.1.1
  clear HTH HBK2 hb2 hB2 hB1
  generalize w1.heap.size = g at *
  refine wpList_step (fun K hK => ?_); go_simp; refine hK _ _ ?_; clear hK K
  refine wpList_nil ?_
  have hbl := HB3.out
  go_wp2_with fail
  go_returns
  exact ⟨rfl, by go_grown⟩
set_option maxRecDepth 100000 in
set_option maxHeartbeats 8000000 in
theorem hDet_ok (N cap : Nat) (ao : Option Addr) (A : Nat → Option Addr) (l c : Nat → Nat) (F : Nat → Nat → Int) (w : World) (hN : N ≤ 9223372036854775807) (hR : Rowsw w ao N A l c F) (hok : okG N l F = true) :
    Calls Try.prog 37 #[.agg #[.slice ao N cap]] w fun e w' => e = .returned (.tuple #[.int .i64 (detN N (gnL N N F)), .int .i64 0]) ∧ Below w.heap.size w w' := by
  have HG := Lib.hid hR
  have HOK := Lib.hid hok
  clear hR hok
  have hN5 := (okG_iff.1 HOK.out).1.2
  have hbx : (w.alloc (Obj.cells #[.slice ao N cap] 40)).cell? ⟨w.heap.size, 0, none⟩ = some (.slice ao N cap) := by go_cell
  have hb0 : Below w.heap.size w (w.alloc (Obj.cells #[.slice ao N cap] 40)) := by go_grown
  have hsz : w.heap.size < (w.alloc (Obj.cells #[.slice ao N cap] 40)).heap.size := by simp
  go_enter Try.func37, Try.ntmps37
  go_upto_region 1 with fail
  generalize (w.alloc (Obj.cells #[.slice ao N cap] 40)) = W at *
  have HB0 := Lib.hid hb0
  have HSZ := Lib.hid hsz
  clear hb0
  refine wp_region_lit ?_
  refine wpList_step (fun K hK => ?_); go_simp; refine hK _ _ ?_; clear hK K
  refine wpList_step (fun K hK => ?_); go_simp
  refine (read_ok N cap ao A l c F _ hN (HG.out.keep (HB0.out.mono (Nat.le_refl _))) HOK.out).mono ?_
  rintro e w1 ⟨rfl, hb⟩
  have hB1 : Below w.heap.size w w1 := HB0.out.trans (hb.mono HB0.out.size)
  have hg : w.heap.size < w1.heap.size := by have h1 := hb.size; have h2 := HSZ.out; omega
  refine hK _ _ ?_; clear hK K
  clear hb hbx hsz HSZ HB0
  have HBK2 : Hid (Bkw (w1.alloc (Obj.cells #[.int .i64 0, .int .i64 0, .int .i64 0, .int .i64 0, .int .i64 0, .int .i64 0, .int .i64 0, .int .i64 0, .int .i64 0, .int .i64 0, .int .i64 0, .int .i64 0, .int .i64 0, .int .i64 0, .int .i64 0, .int .i64 0, .int .i64 0, .int .i64 0, .int .i64 0, .int .i64 0, .int .i64 0, .int .i64 0, .int .i64 0, .int .i64 0, .int .i64 0, .int .i64 0, .int .i64 0, .int .i64 0, .int .i64 0, .int .i64 0, .int .i64 0] 81)) w1.heap.size 0 (fun _ => 0) (fun _ => 0)) := Lib.hid (Bkw.fresh (by refine ⟨?_, ?_, ?_, ?_, ?_, ?_, ?_, ?_, ?_, ?_, ?_, ?_, ?_, ?_, ?_, ?_, ?_, ?_, ?_, ?_, ?_, ?_, ?_, ?_, ?_, ?_, ?_, ?_, ?_, ?_, ?_⟩ <;> go_cell) (by refine ⟨?_, ?_, ?_, ?_, ?_, ?_, ?_, ?_, ?_, ?_, ?_, ?_, ?_, ?_, ?_, ?_, ?_, ?_, ?_, ?_, ?_, ?_, ?_, ?_, ?_, ?_, ?_, ?_, ?_, ?_, ?_⟩ <;> go_cell))
  have hb2 : Below w1.heap.size w1 (w1.alloc (Obj.cells #[.int .i64 0, .int .i64 0, .int .i64 0, .int .i64 0, .int .i64 0, .int .i64 0, .int .i64 0, .int .i64 0, .int .i64 0, .int .i64 0, .int .i64 0, .int .i64 0, .int .i64 0, .int .i64 0, .int .i64 0, .int .i64 0, .int .i64 0, .int .i64 0, .int .i64 0, .int .i64 0, .int .i64 0, .int .i64 0, .int .i64 0, .int .i64 0, .int .i64 0, .int .i64 0, .int .i64 0, .int .i64 0, .int .i64 0, .int .i64 0, .int .i64 0] 81)) := (Below.refl _ _).alloc (Nat.le_refl _) _
  have hB2 : Below w.heap.size w (w1.alloc (Obj.cells #[.int .i64 0, .int .i64 0, .int .i64 0, .int .i64 0, .int .i64 0, .int .i64 0, .int .i64 0, .int .i64 0, .int .i64 0, .int .i64 0, .int .i64 0, .int .i64 0, .int .i64 0, .int .i64 0, .int .i64 0, .int .i64 0, .int .i64 0, .int .i64 0, .int .i64 0, .int .i64 0, .int .i64 0, .int .i64 0, .int .i64 0, .int .i64 0, .int .i64 0, .int .i64 0, .int .i64 0, .int .i64 0, .int .i64 0, .int .i64 0, .int .i64 0] 81)) := hB1.trans (hb2.mono hB1.size)
  refine wpList_step (fun K hK => ?_); go_simp; refine hK _ _ ?_; clear hK K
  refine wpList_step (fun K hK => ?_); go_simp; refine hK _ _ ?_; clear hK K
  refine wpList_step (fun K hK => ?_); go_simp; refine hK _ _ ?_; clear hK K
  refine wpList_step (fun K hK => ?_); go_simp; refine hK _ _ ?_; clear hK K
  generalize (w1.alloc (Obj.cells #[.int .i64 0, .int .i64 0, .int .i64 0, .int .i64 0, .int .i64 0, .int .i64 0, .int .i64 0, .int .i64 0, .int .i64 0, .int .i64 0, .int .i64 0, .int .i64 0, .int .i64 0, .int .i64 0, .int .i64 0, .int .i64 0, .int .i64 0, .int .i64 0, .int .i64 0, .int .i64 0, .int .i64 0, .int .i64 0, .int .i64 0, .int .i64 0, .int .i64 0, .int .i64 0, .int .i64 0, .int .i64 0, .int .i64 0, .int .i64 0, .int .i64 0] 81)) = W2 at *
  have HTH : Hid (W2.there w1.heap.size 0 (bkL N (gnL N N F) (rhL N N 0 F)).toArray.size) := Lib.hid HBK2.out.there
  (refine wpList_store_mid rfl 81 _ _ rfl w1.heap.size 0 (bkL N (gnL N N F) (rhL N N 0 F)).toArray rfl rfl HTH.out (infoBk N (gnL N N F) (rhL N N 0 F)) (all_oneCell_toArray (bkL_one N (gnL N N F) (rhL N N 0 F))) ?_)
  have HM3 : Hid (Bkw (W2.setCells w1.heap.size 0 (bkL N (gnL N N F) (rhL N N 0 F)).toArray.toList) w1.heap.size N (gnL N N F) (rhL N N 0 F)) := Lib.hid (by rw [List.toList_toArray]; exact HBK2.out.whole)
  have HB3 : Hid (Below w.heap.size w (W2.setCells w1.heap.size 0 (bkL N (gnL N N F) (rhL N N 0 F)).toArray.toList)) := Lib.hid (below_setCells hB2 hB1.size _ _)
  generalize W2.setCells w1.heap.size 0 (bkL N (gnL N N F) (rhL N N 0 F)).toArray.toList = W3 at *
  have hs3 : w1.heap.size < W3.heap.size := World.block_lt_of_cell? _ _ HM3.out.1.1
  clear HTH HBK2 hb2 hB2 hB1
  generalize w1.heap.size = g at *
  refine wpList_step (fun K hK => ?_); go_simp; refine hK _ _ ?_; clear hK K
  refine wpList_nil ?_
  have HRG := Lib.hid HM3.out.1.range
  go_upto_region 4 with fail
  refine wp_region_lit ?_
  refine wpList_step (fun K hK => ?_); go_simp; refine hK _ _ ?_; clear hK K
  (refine wpList_load_mid rfl 79 _ rfl g 0 rfl (sqL N (gnL N N F)) _ HRG.out Try.underlying79 rfl (infoSq N (gnL N N F)) ?_)
  refine wpList_step (fun K hK => ?_); go_simp
  refine (det_any N (gnL N N F) _ hN5).mono ?_
  rintro e w4 ⟨rfl, hb⟩
  have hbl := HB3.out.trans (hb.mono HB3.out.size)
  clear hb
  refine hK _ _ ?_; clear hK K
  refine wpList_step (fun K hK => ?_); go_simp; refine hK _ _ ?_; clear hK K
  refine wpList_step (fun K hK => ?_); go_simp; refine hK _ _ ?_; clear hK K
  refine wpList_nil ?_
  go_wp2_with fail
  go_returns
  exact ⟨rfl, hbl⟩
set_option maxRecDepth 100000 in
set_option maxHeartbeats 8000000 in
theorem hSolve_ok (N cap : Nat) (ao : Option Addr) (A : Nat → Option Addr) (l c : Nat → Nat) (F : Nat → Nat → Int) (M dap : Nat) (bo : Option Addr) (C : Nat → Int) (w : World) (hN : N ≤ 9223372036854775807) (hR : Rowsw w ao N A l c F) (hok : okG N l F = true) (hI : Ints w bo M C) (hC : inB M C N (-1000000) 1000000 = true) (hd : (detN N (gnL N N F)).natAbs ≤ 1000000000000000000) (h0 : ¬ detN N (gnL N N F) = 0) (hbd : ∀ k, k < N → (detN N (wiL k N (padI M C) (gnL N N F))).natAbs ≤ 1000000000000000000) :
    Calls Try.prog 39 #[.agg #[.slice ao N cap], .slice bo M dap] w fun e w' => ∃ g cap', e = .returned (.tuple #[.slice (some ⟨g, 0, none⟩) N cap', .int .i64 0]) ∧ Ratw w' g N (fun k => ratN (detN N (wiL k N (padI M C) (gnL N N F))) (detN N (gnL N N F))) (fun k => ratD (detN N (wiL k N (padI M C) (gnL N N F))) (detN N (gnL N N F))) ∧ w.heap.size ≤ g ∧ g < w'.heap.size ∧ N ≤ cap' ∧ cap' ≤ 9223372036854775807 ∧ Below w.heap.size w w' := by
  have HG := Lib.hid hR
  have HOK := Lib.hid hok
  clear hR hok
  have hN5 := (okG_iff.1 HOK.out).1.2
  have HI := Lib.hid hI
  have HC := Lib.hid hC
  have HBD := Lib.hid hbd
  have hMN : N = M := by have := (inB_iff.1 hC).1; omega
  subst hMN
  obtain ⟨d, hdd⟩ : ∃ d, detN N (gnL N N F) = d := ⟨_, rfl⟩
  have HDD := Lib.hid hdd
  rw [hdd] at hd h0 ⊢
  clear hI hC hbd hdd
  have d0 : (d == 0) = false := beq_eq_false_iff_ne.2 h0
  have hbx : (w.alloc (Obj.cells #[.slice ao N cap] 40)).cell? ⟨w.heap.size, 0, none⟩ = some (.slice ao N cap) := by go_cell
  have hb0 : Below w.heap.size w (w.alloc (Obj.cells #[.slice ao N cap] 40)) := by go_grown
  have hsz : w.heap.size < (w.alloc (Obj.cells #[.slice ao N cap] 40)).heap.size := by simp
  go_enter Try.func39, Try.ntmps39
  go_upto_region 1 with fail
  generalize (w.alloc (Obj.cells #[.slice ao N cap] 40)) = W at *
  have HB0 := Lib.hid hb0
  have HSZ := Lib.hid hsz
  clear hb0
  refine wp_region_lit ?_
  refine wpList_step (fun K hK => ?_); go_simp; refine hK _ _ ?_; clear hK K
  refine wpList_step (fun K hK => ?_); go_simp
  refine (read_ok N cap ao A l c F _ hN (HG.out.keep (HB0.out.mono (Nat.le_refl _))) HOK.out).mono ?_
  rintro e w1 ⟨rfl, hb⟩
  have hB1 : Below w.heap.size w w1 := HB0.out.trans (hb.mono HB0.out.size)
  have hg : w.heap.size < w1.heap.size := by have h1 := hb.size; have h2 := HSZ.out; omega
  refine hK _ _ ?_; clear hK K
  clear hb hbx hsz HSZ HB0
  have HBK2 : Hid (Bkw (w1.alloc (Obj.cells #[.int .i64 0, .int .i64 0, .int .i64 0, .int .i64 0, .int .i64 0, .int .i64 0, .int .i64 0, .int .i64 0, .int .i64 0, .int .i64 0, .int .i64 0, .int .i64 0, .int .i64 0, .int .i64 0, .int .i64 0, .int .i64 0, .int .i64 0, .int .i64 0, .int .i64 0, .int .i64 0, .int .i64 0, .int .i64 0, .int .i64 0, .int .i64 0, .int .i64 0, .int .i64 0, .int .i64 0, .int .i64 0, .int .i64 0, .int .i64 0, .int .i64 0] 81)) w1.heap.size 0 (fun _ => 0) (fun _ => 0)) := Lib.hid (Bkw.fresh (by refine ⟨?_, ?_, ?_, ?_, ?_, ?_, ?_, ?_, ?_, ?_, ?_, ?_, ?_, ?_, ?_, ?_, ?_, ?_, ?_, ?_, ?_, ?_, ?_, ?_, ?_, ?_, ?_, ?_, ?_, ?_, ?_⟩ <;> go_cell) (by refine ⟨?_, ?_, ?_, ?_, ?_, ?_, ?_, ?_, ?_, ?_, ?_, ?_, ?_, ?_, ?_, ?_, ?_, ?_, ?_, ?_, ?_, ?_, ?_, ?_, ?_, ?_, ?_, ?_, ?_, ?_, ?_⟩ <;> go_cell))
  have hb2 : Below w1.heap.size w1 (w1.alloc (Obj.cells #[.int .i64 0, .int .i64 0, .int .i64 0, .int .i64 0, .int .i64 0, .int .i64 0, .int .i64 0, .int .i64 0, .int .i64 0, .int .i64 0, .int .i64 0, .int .i64 0, .int .i64 0, .int .i64 0, .int .i64 0, .int .i64 0, .int .i64 0, .int .i64 0, .int .i64 0, .int .i64 0, .int .i64 0, .int .i64 0, .int .i64 0, .int .i64 0, .int .i64 0, .int .i64 0, .int .i64 0, .int .i64 0, .int .i64 0, .int .i64 0, .int .i64 0] 81)) := (Below.refl _ _).alloc (Nat.le_refl _) _
  have hB2 : Below w.heap.size w (w1.alloc (Obj.cells #[.int .i64 0, .int .i64 0, .int .i64 0, .int .i64 0, .int .i64 0, .int .i64 0, .int .i64 0, .int .i64 0, .int .i64 0, .int .i64 0, .int .i64 0, .int .i64 0, .int .i64 0, .int .i64 0, .int .i64 0, .int .i64 0, .int .i64 0, .int .i64 0, .int .i64 0, .int .i64 0, .int .i64 0, .int .i64 0, .int .i64 0, .int .i64 0, .int .i64 0, .int .i64 0, .int .i64 0, .int .i64 0, .int .i64 0, .int .i64 0, .int .i64 0] 81)) := hB1.trans (hb2.mono hB1.size)
  refine wpList_step (fun K hK => ?_); go_simp; refine hK _ _ ?_; clear hK K
  refine wpList_step (fun K hK => ?_); go_simp; refine hK _ _ ?_; clear hK K
  refine wpList_step (fun K hK => ?_); go_simp; refine hK _ _ ?_; clear hK K
  refine wpList_step (fun K hK => ?_); go_simp; refine hK _ _ ?_; clear hK K
  generalize (w1.alloc (Obj.cells #[.int .i64 0, .int .i64 0, .int .i64 0, .int .i64 0, .int .i64 0, .int .i64 0, .int .i64 0, .int .i64 0, .int .i64 0, .int .i64 0, .int .i64 0, .int .i64 0, .int .i64 0, .int .i64 0, .int .i64 0, .int .i64 0, .int .i64 0, .int .i64 0, .int .i64 0, .int .i64 0, .int .i64 0, .int .i64 0, .int .i64 0, .int .i64 0, .int .i64 0, .int .i64 0, .int .i64 0, .int .i64 0, .int .i64 0, .int .i64 0, .int .i64 0] 81)) = W2 at *
  have HTH : Hid (W2.there w1.heap.size 0 (bkL N (gnL N N F) (rhL N N 0 F)).toArray.size) := Lib.hid HBK2.out.there
  (refine wpList_store_mid rfl 81 _ _ rfl w1.heap.size 0 (bkL N (gnL N N F) (rhL N N 0 F)).toArray rfl rfl HTH.out (infoBk N (gnL N N F) (rhL N N 0 F)) (all_oneCell_toArray (bkL_one N (gnL N N F) (rhL N N 0 F))) ?_)
  have HM3 : Hid (Bkw (W2.setCells w1.heap.size 0 (bkL N (gnL N N F) (rhL N N 0 F)).toArray.toList) w1.heap.size N (gnL N N F) (rhL N N 0 F)) := Lib.hid (by rw [List.toList_toArray]; exact HBK2.out.whole)
  have HB3 : Hid (Below w.heap.size w (W2.setCells w1.heap.size 0 (bkL N (gnL N N F) (rhL N N 0 F)).toArray.toList)) := Lib.hid (below_setCells hB2 hB1.size _ _)
  generalize W2.setCells w1.heap.size 0 (bkL N (gnL N N F) (rhL N N 0 F)).toArray.toList = W3 at *
  have hs3 : w1.heap.size < W3.heap.size := World.block_lt_of_cell? _ _ HM3.out.1.1
  clear HTH HBK2 hb2 hB2 hB1
  generalize w1.heap.size = g at *
  refine wpList_step (fun K hK => ?_); go_simp; refine hK _ _ ?_; clear hK K
  refine wpList_nil ?_
  have HRG := Lib.hid HM3.out.1.range
  have hc0 := HM3.out.1.1
  go_wp2_with fail
  refine (arePhases_any N dap bo C N _ (by omega) (HI.out.keep (HB3.out.mono (Nat.le_refl _)))).mono ?_
  rw [HC.out]
  rintro e w4 ⟨rfl, hb⟩
  have HM4 := Lib.hid (HM3.out.keep hb)
  have HB4 := Lib.hid (HB3.out.trans (hb.mono HB3.out.size))
  have hs4 : g < w4.heap.size := World.block_lt_of_cell? _ _ HM4.out.1.1
  clear hb hc0 HM3 HB3 hs3 HRG
  have HRG := Lib.hid HM4.out.1.range
  go_upto_region 6 with fail
  refine wp_region_lit ?_
  refine wpList_step (fun K hK => ?_); go_simp; refine hK _ _ ?_; clear hK K
  (refine wpList_load_mid rfl 79 _ rfl g 0 rfl (sqL N (gnL N N F)) _ HRG.out Try.underlying79 rfl (infoSq N (gnL N N F)) ?_)
  refine wpList_step (fun K hK => ?_); go_simp
  refine (det_any N (gnL N N F) _ hN5).mono ?_
  rintro e w5 ⟨rfl, hb⟩
  rw [HDD.out]
  have HM5 := Lib.hid (HM4.out.keep hb)
  have HB5 := Lib.hid (HB4.out.trans (hb.mono HB4.out.size))
  have hs5 : g < w5.heap.size := World.block_lt_of_cell? _ _ HM5.out.1.1
  clear hb HM4 HB4 hs4 HRG
  refine hK _ _ ?_; clear hK K
  refine wpList_step (fun K hK => ?_); go_simp; refine hK _ _ ?_; clear hK K
  refine wpList_nil ?_
  go_upto_region 9 with fail
  have HMK : Hid (∀ w', Below w5.heap.size w5 w' → Sqw w' g N (gnL N N F)) := Lib.hid (fun w' hb => HM5.out.1.keep hb)
  refine wp_region_held_drew (S := fun w' => Sqw w' g N (gnL N N F)) (by kernel_rfl) (HM5.out.1.drew) (fun hHeld => ?_)
  refine wpAnyH_take (i := 0) (oi := _) (v := ?_) rfl (by kernel_rfl) (by kernel_rfl) (by kernel_rfl) (fun _ _ _ h => h) (Or.inl ⟨by rfl, ?_⟩) (by assumption) ?_
  rotate_left
  · intro w hSw; go_simp; (try with_reducible rfl)
  try change wpAnyH _ _ _ _ _ _ _ (Act.put _ (some 28) _) _
  try simp only [act_all]
  refine wpAnyH_take (i := 1) (oi := _) (v := _) rfl (by kernel_rfl) (by kernel_rfl) (by kernel_rfl) (fun _ _ _ h => h) (yieldsIf_load_mid (by rfl) 79 _ rfl g 0 rfl (sqL N (gnL N N F)) _ (fun _ h => Sqw.range h) Try.underlying79 rfl (infoSq _ _)) (by assumption) ?_
  try change wpAnyH _ _ _ _ _ _ _ (Act.put _ (some 29) _) _
  try simp only [act_all]
  refine wpAnyH_take (i := 2) (oi := _) (v := ?_) rfl (by kernel_rfl) (by kernel_rfl) (by kernel_rfl) (fun _ _ _ h => h) (Or.inl ⟨by rfl, ?_⟩) (by assumption) ?_
  rotate_left
  · intro w hSw; go_simp; (try with_reducible rfl)
  try change wpAnyH _ _ _ _ _ _ _ (Act.put _ (some 30) _) _
  try simp only [act_all]
  refine wpAnyH_take (i := 4) (oi := _) (v := ?_) rfl (by kernel_rfl) (by kernel_rfl) (by kernel_rfl) (fun _ _ _ h => h) (Or.inl ⟨by rfl, ?_⟩) (by assumption) ?_
  rotate_left
  · intro w hSw; go_simp; (try with_reducible rfl)
  try change wpAnyH _ _ _ _ _ _ _ (Act.put _ (some 32) _) _
  try simp only [act_all]
  refine wpAnyH_ready (rs := [3]) (by kernel_rfl) (by simp) ?_
  refine AllReadyH.cons (o := _) rfl (fun K hK => ?_) AllReadyH.nil
  go_simp
  refine (held_any N dap bo C _ (by omega) (HI.out.keep ((HB5.out.drew).mono (Nat.le_refl _)))).mono ?_
  rintro e w6 ⟨rfl, hb⟩
  have D1 : Below w5.heap.size w5 w6 := (Below.refl _ _).drew.trans hb
  clear hb
  refine hK.out _ _ (HMK.out _ D1) (fun hHeld => ?_)
  clear hK K
  try simp only [act_all]
  refine wpAnyH_ready (rs := [5]) (by kernel_rfl) (by simp) ?_
  refine AllReadyH.cons (o := _) rfl (fun K hK => ?_) AllReadyH.nil
  go_simp
  refine (solved_any N (gnL N N F) (padI N C) d _ hN5 hd h0 HBD.out).mono ?_
  rintro e w7 ⟨⟨g7, cap7, rfl, hr7, hg7, hl7, hc7, hm7⟩, hb⟩
  have D2 : Below w5.heap.size w5 w7 := D1.trans (hb.mono D1.size)
  have hs6 : w5.heap.size ≤ w6.heap.size := D1.size
  have HR7 := Lib.hid hr7
  clear hb D1 hr7
  refine hK.out _ _ (HMK.out _ D2) (fun hHeld => ?_)
  clear hK K
  try simp only [act_all]
  refine wpAnyH_take (i := 6) (oi := _) (v := ?_) rfl (by kernel_rfl) (by kernel_rfl) (by kernel_rfl) (fun _ _ _ h => h) (Or.inl ⟨by rfl, ?_⟩) (by assumption) ?_
  rotate_left
  · intro w hSw; go_simp; (try with_reducible rfl)
  try change wpAnyH _ _ _ _ _ _ _ (Act.put _ (some 4) _) _
  try simp only [act_all]
  refine wpAnyH_take (i := 7) (oi := _) (v := ?_) rfl (by kernel_rfl) (by kernel_rfl) (by kernel_rfl) (fun _ _ _ h => h) (Or.inl ⟨by rfl, ?_⟩) (by assumption) ?_
  rotate_left
  · intro w hSw; go_simp; (try with_reducible rfl)
  try change wpAnyH _ _ _ _ _ _ _ (Act.put _ (some 5) _) _
  try simp only [act_all]
  refine wpAnyH_done (by kernel_rfl) ?_ _
  have hsw := HB5.out.size
  have HB7 := Lib.hid (HB5.out.trans (D2.mono hsw))
  clear D2 HMK
  go_wp2_with fail
  go_returns
  exact ⟨g7, cap7, rfl, HR7.out, by omega, hl7, hc7, hm7, HB7.out⟩
end Go.Proofs.Ytdhlikedjephmaa
