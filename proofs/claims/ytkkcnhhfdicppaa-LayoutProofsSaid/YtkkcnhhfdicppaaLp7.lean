import Derived.Test.YtkkcnhhfdicppaaIr7
namespace Go.Proofs.Ytkkcnhhfdicppaa
open Go.RowKit Lay
set_option maxRecDepth 100000 in
set_option maxHeartbeats 4000000 in
/-- The law, from the two answers. -/
theorem proofs_law (W H M B tx ty k : Int) (b : Bool) (n cp nf cf : Nat) (ao af : Option Addr) (w : World)
    (hp : ∀ w1, Below w.heap.size w w1 → Calls Try.prog 17 #[.agg #[.int .i64 W, .int .i64 H, .int .i64 M, .int .i64 B, .slice ao n cp], .agg #[.int .i64 tx, .int .i64 ty], .slice af nf cf] w1 fun e w' => e = .returned (.tuple #[.bool b, .int .i64 k]) ∧ Below w1.heap.size w1 w')
    (hr : ∀ w1, Below w.heap.size w w1 → Calls Try.prog 18 #[.agg #[.int .i64 W, .int .i64 H, .int .i64 M, .int .i64 B, .slice ao n cp], .agg #[.int .i64 tx, .int .i64 ty], .slice af nf cf] w1 fun e w' => e = .returned (.tuple #[.bool b, .int .i64 k]) ∧ Below w1.heap.size w1 w') :
    Calls Try.prog 4 #[.agg #[.int .i64 W, .int .i64 H, .int .i64 M, .int .i64 B, .slice ao n cp], .agg #[.int .i64 tx, .int .i64 ty], .slice af nf cf] w fun e w' => e = .returned (.bool true) ∧ Below w.heap.size w w' := by
  have HP := Lib.hid hp
  have HR := Lib.hid hr
  clear hp hr
  go_enter Try.func4, Try.ntmps4
  go_wp2_with fail
  refine (HP.out _ (by go_grown)).mono ?_
  rintro e w1 ⟨rfl, hb⟩
  obtain ⟨b3, hb3⟩ : ∃ b, b = w.heap.size := ⟨_, rfl⟩
  obtain ⟨bt, hbt⟩ : ∃ b, b = w.heap.size + 1 := ⟨_, rfl⟩
  have hz1 : bt < w1.heap.size := by have h9 := hb.size; simp at h9; omega
  have KG1 : Hid (G5 w1 b3 W H M B ao n cp) := Lib.hid ((hb.block _ (by simp; omega)).trans ((Below.heap_alloc _ _ _ (by simp; omega)).trans (by rw [hb3]; exact heap_alloc_new w _)))
  have KT1 : Hid (w1.heap[bt]? = some (.cells #[.int .i64 tx, .int .i64 ty] 26 (0, 0))) := Lib.hid ((hb.block _ (by simp; omega)).trans (by rw [hbt]; have h := heap_alloc_new (w.alloc (.cells #[.int .i64 W, .int .i64 H, .int .i64 M, .int .i64 B, .slice ao n cp] 24)) (.cells #[.int .i64 tx, .int .i64 ty] 26); rwa [World.size_alloc] at h))
  have HB1 : Hid (Below w.heap.size w w1) := Lib.hid (Below.trans (by go_grown) (hb.mono (by simp; omega)))
  clear hb
  obtain ⟨g0, g1, g2, g3, g4⟩ := G5.c KG1.out
  obtain ⟨t0, t1⟩ : w1.cell? ⟨bt, 0, none⟩ = some (.int .i64 tx) ∧ w1.cell? ⟨bt, 1, none⟩ = some (.int .i64 ty) := ⟨cell_of_blk KT1.out rfl, cell_of_blk KT1.out rfl⟩
  have HB3 := Lib.hid hb3
  have HBT := Lib.hid hbt
  clear hb3 hbt
  go_upto_region 2 with fail
  rw [← HBT.out, ← HB3.out]
  clear HB3 HBT
  go_wp2_with fail
  refine (HR.out _ HB1.out).mono ?_
  rintro e w2 ⟨rfl, hb⟩
  have HB2 : Hid (Below w.heap.size w w2) := Lib.hid (HB1.out.trans (hb.mono HB1.out.size))
  clear hb KG1 KT1 HB1 g0 g1 g2 g3 g4 t0 t1
  have hbb : ∀ w, (binOp .eql 4 (.bool b) (.bool b)).run Try.prog w = .ok (.bool true) w := fun w => by cases b <;> rfl
  go_wp2_with fail
  refine (lawake_any _).mono ?_
  rintro e w3 ⟨rfl, hb⟩
  have HB3 : Hid (Below w.heap.size w w3) := Lib.hid (HB2.out.trans (hb.mono HB2.out.size))
  clear hb HB2
  go_wp2_with fail
  refine bodyPost_ret (v := .bool true) (by simp [results, Try.results4, go_sem]) rfl ⟨rfl, HB3.out⟩
theorem LayoutProofs_any (W H M B tx ty : Int) (n cp nf cf : Nat) (ao af : Option Addr) (X Y f : Nat → Int) (w : World) (hn : n ≤ 9223372036854775807) (hnf : nf ≤ 9223372036854775807) (hc : XYs w ao n X Y) (hf : Ints w af nf f) :
    Calls Try.prog 4 #[.agg #[.int .i64 W, .int .i64 H, .int .i64 M, .int .i64 B, .slice ao n cp], .agg #[.int .i64 tx, .int .i64 ty], .slice af nf cf] w fun e w' => e = .returned (.bool true) ∧ Below w.heap.size w w' := by
  by_cases hv : vaG W H M B n X Y = true
  case neg =>
    have hv' : vaG W H M B n X Y = false := by simpa using hv
    exact proofs_law W H M B tx ty 70 false n cp nf cf ao af w (fun w1 hb => pIsProof_grid W H M B tx ty n cp nf cf ao af X Y f w1 hn (hc.keep hb) hv') (fun w1 hb => rIsProof_grid W H M B tx ty n cp nf cf ao af X Y f w1 hn (hc.keep hb) hv')
  by_cases ho : opB W H (blkN X Y n) tx ty = true
  case neg =>
    have ho' : opB W H (blkN X Y n) tx ty = false := by simpa using ho
    exact proofs_law W H M B tx ty 72 false n cp nf cf ao af w (fun w1 hb => pIsProof_block W H M B tx ty n cp nf cf ao af X Y f w1 (hc.keep hb) hv ho') (fun w1 hb => rIsProof_block W H M B tx ty n cp nf cf ao af X Y f w1 (hc.keep hb) hv ho')
  obtain ⟨hnum, _⟩ := vaG_num hv
  have hwh := wh_le hnum.1 hnum.2.1 hnum.2.2.1 hnum.2.2.2.1
  have hN : (((W * H).toNat : Nat) : Int) = W * H := Int.toNat_of_nonneg (by omega)
  exact proofs_law W H M B tx ty _ _ n cp nf cf ao af w (fun w1 hb => pIsProof_ok W H M B tx ty (W * H).toNat n cp nf cf ao af X Y f w1 hnf (hc.keep hb) (hf.keep hb) hv ho hN) (fun w1 hb => rIsProof_ok W H M B tx ty (W * H).toNat n cp nf cf ao af X Y f w1 hnf (hc.keep hb) (hf.keep hb) hv ho hN)
end Go.Proofs.Ytkkcnhhfdicppaa
