import Derived.Test.YtkkcnhhfdicppaaCe7
namespace Lay
/-- What it costs to go to a place. -/
def farS (F : Int → Int → Int → Option Int) (B p q x y : Int) : Int := if x = p ∧ y = q then 0 else if (chp F B x y (-1)).1 = -1 then -1 else (F x y (chp F B x y (-1)).1).getD 0
def intC (f : Nat → Int) (k : Nat) : List Go.Value := (List.range k).map fun j => .int .i64 (f j)
theorem intC_len (f : Nat → Int) (k : Nat) : (intC f k).length = k := by unfold intC; simp
theorem intC_next (f : Nat → Int) (k : Nat) : intC f (k + 1) = intC f k ++ [.int .i64 (f k)] := by unfold intC; rw [List.range_succ, List.map_append]; rfl
theorem intC_get (f : Nat → Int) {k j : Nat} (h : j < k) : (intC f k)[j]? = some (.int .i64 (f j)) := by unfold intC; rw [List.getElem?_map, List.getElem?_range h]; rfl
end Lay
namespace Go.Proofs.Ytkkcnhhfdicppaa
open Go.RowKit Lay
theorem own_blk {w : World} {b N : Nat} {v : Value} {l : List (Int × Int)} (h : w.ownsRow b 26 2 v N (xyC l)) (hN : l.length = N) (h0 : 0 < N) :
    ∃ g cap cur, v = .slice (some ⟨g, 0, none⟩) N cap ∧ b ≤ g ∧ w.heap[g]? = some (.cells cur 26 (0, 0)) ∧ ∀ i, i < N → cur[i * 2]? = some (.int .i64 (l.getD i (0, 0)).1) ∧ cur[i * 2 + 1]? = some (.int .i64 (l.getD i (0, 0)).2) := by
  obtain ⟨_, ⟨rfl, hn⟩ | ⟨g, cap, cur, rfl, hg, hb, _, _, hs, ht⟩⟩ := h
  · omega
  · refine ⟨g, cap, cur, rfl, hg, hb, fun i hi => ?_⟩
    have hi' : i < l.length := by omega
    obtain ⟨h0, h1⟩ := xyC_get l i (l.getD i (0, 0)) (by rw [List.getD_eq_getElem?_getD, List.getElem?_eq_getElem hi']; rfl)
    have hc : ∀ j u, j < N * 2 → (xyC l)[j]? = some u → cur[j]? = some u := fun j u hj hu => by
      rw [← ht, List.getElem?_take_of_lt hj, Array.getElem?_toList] at hu
      exact hu
    exact ⟨hc _ _ (by omega) h0, hc _ _ (by omega) h1⟩
theorem own_ints {w : World} {b N : Nat} {v : Value} {f : Nat → Int} (h : w.ownsRow b 3 1 v N (intC f N)) : ∃ ao cap, v = .slice ao N cap ∧ Ints w ao N f := by
  obtain ⟨_, ⟨rfl, hn⟩ | ⟨g, cap, cur, rfl, hg, hb, _, _, hs, ht⟩⟩ := h
  · subst hn
    exact ⟨none, 0, rfl, fun h => absurd h (by omega)⟩
  · refine ⟨_, cap, rfl, fun _ => ⟨g, 0, rfl, fun i hi => ?_⟩⟩
    rw [Nat.zero_add]
    refine cell_of_blk hb ?_
    have hu := intC_get f hi
    rw [← ht, List.getElem?_take_of_lt (by omega), Array.getElem?_toList] at hu
    exact hu
theorem int_info : (Try.prog.info? 3 ).map (fun i => (i.zero, i.size, i.bytes)) = some (some (.int .i64 0), 1, 8) := by kernel_rfl

set_option maxRecDepth 100000 in
set_option maxHeartbeats 4000000 in
theorem pFar_grid (W H M B tx ty : Int) (n cp : Nat) (ao : Option Addr) (X Y : Nat → Int) (w : World) (hn : n ≤ 9223372036854775807) (hc : XYs w ao n X Y) (hv : vaG W H M B n X Y = false) :
    Calls Try.prog 25 #[.agg #[.int .i64 W, .int .i64 H, .int .i64 M, .int .i64 B, .slice ao n cp], .agg #[.int .i64 tx, .int .i64 ty]] w fun e w' => e = .returned (.tuple #[.slice none 0 0, .int .i64 70]) ∧ Below w.heap.size w w' := by
  have HC := Lib.hid hc
  have HV := Lib.hid hv
  clear hc hv
  go_enter Try.func25, Try.ntmps25
  go_wp2_with fail
  refine (pRead_no W H M B n cp ao X Y _ hn (HC.out.keep (by go_grown)) HV.out).mono ?_
  rintro e w1 ⟨rfl, hb⟩
  have HB1 : Hid (Below w.heap.size w w1) := Lib.hid (Below.trans (by go_grown) (hb.mono (by simp; omega)))
  have hz : w.heap.size ≤ w1.heap.size := HB1.out.size
  clear hb
  go_wp2_with fail
  refine bodyPost_ret (v := .tuple #[.slice none 0 0, .int .i64 70]) (by simp [results, Try.results25, go_sem]) rfl ⟨rfl, HB1.out.alloc hz _⟩

set_option maxRecDepth 100000 in
set_option maxHeartbeats 4000000 in
theorem pFar_block (W H M B tx ty : Int) (n cp : Nat) (ao : Option Addr) (X Y : Nat → Int) (w : World) (hc : XYs w ao n X Y) (hv : vaG W H M B n X Y = true) (hot : opB W H (blkN X Y n) tx ty = false) :
    Calls Try.prog 25 #[.agg #[.int .i64 W, .int .i64 H, .int .i64 M, .int .i64 B, .slice ao n cp], .agg #[.int .i64 tx, .int .i64 ty]] w fun e w' => e = .returned (.tuple #[.slice none 0 0, .int .i64 72]) ∧ Below w.heap.size w w' := by
  have HC := Lib.hid hc
  have HV := Lib.hid hv
  have HOT := Lib.hid hot
  obtain ⟨hnum, _⟩ := vaG_num hv
  clear hc hv hot
  go_enter Try.func25, Try.ntmps25
  go_wp2_with fail
  refine (pRead_ok W H M B n cp ao X Y _ (HC.out.keep (by go_grown)) HV.out).mono ?_
  rintro e w1 ⟨m, rfl, hm1, hbm, hb⟩
  obtain ⟨bt, hbt⟩ : ∃ b, b = w.heap.size + 1 := ⟨_, rfl⟩
  obtain ⟨b9, hb9⟩ : ∃ b, b = w1.heap.size := ⟨_, rfl⟩
  have hz1 : bt < b9 := by have h9 := hb.size; simp at h9; omega
  have KT1 : Hid (w1.heap[bt]? = some (.cells #[.int .i64 tx, .int .i64 ty] 26 (0, 0))) := Lib.hid ((hb.block _ (by simp; omega)).trans (by rw [hbt]; have h := heap_alloc_new (w.alloc (.cells #[.int .i64 W, .int .i64 H, .int .i64 M, .int .i64 B, .slice ao n cp] 24)) (.cells #[.int .i64 tx, .int .i64 ty] 26); rwa [World.size_alloc] at h))
  have HB1 : Hid (Below w.heap.size w w1) := Lib.hid (Below.trans (by go_grown) (hb.mono (by simp; omega)))
  obtain ⟨w2, hw2⟩ : ∃ z, z = w1.alloc (.cells #[.int .i64 W, .int .i64 H, .int .i64 M, .int .i64 B, .slice ao n cp, .map (some m)] 68) := ⟨_, rfl⟩
  have hb2 : Below w1.heap.size w1 w2 := by rw [hw2]; exact bal (Below.refl _ _) _
  have KB2 : Hid (w2.heap[b9]? = some (.cells #[.int .i64 W, .int .i64 H, .int .i64 M, .int .i64 B, .slice ao n cp, .map (some m)] 68 (0, 0))) := Lib.hid (by rw [hw2, hb9]; exact heap_alloc_new w1 _)
  have hz2 : w2.heap.size = b9 + 1 := by rw [hw2]; simp; omega
  have KM2 := Lib.hid (hbm.keep (hb2.block _ hbm.lt))
  have HB2 : Hid (Below w.heap.size w w2) := Lib.hid (HB1.out.trans (hb2.mono (by omega)))
  have KT2 : Hid (w2.heap[bt]? = some (.cells #[.int .i64 tx, .int .i64 ty] 26 (0, 0))) := Lib.hid ((hb2.block _ (by first | omega | (simp; done) | (simp; omega))).trans KT1.out)
  have hwm : w.heap.size < bt := by omega
  clear hb hbm KT1 HB1 hb2
  have HW2 := Lib.hid hw2
  have HB9 := Lib.hid hb9
  clear hb9 hw2 hm1
  go_upto_region 4 with fail
  rw [← HB9.out, ← HW2.out]
  try rw [← hbt]
  clear hbt HW2 HB9
  obtain ⟨cB0, cB1, cB2, cB3, cB4, cB5⟩ : w2.cell? ⟨b9, 0, none⟩ = some (.int .i64 W) ∧ w2.cell? ⟨b9, 1, none⟩ = some (.int .i64 H) ∧ w2.cell? ⟨b9, 2, none⟩ = some (.int .i64 M) ∧ w2.cell? ⟨b9, 3, none⟩ = some (.int .i64 B) ∧ w2.cell? ⟨b9, 4, none⟩ = some (.slice ao n cp) ∧ w2.cell? ⟨b9, 5, none⟩ = some (.map (some m)) := ⟨cell_of_blk KB2.out rfl, cell_of_blk KB2.out rfl, cell_of_blk KB2.out rfl, cell_of_blk KB2.out rfl, cell_of_blk KB2.out rfl, cell_of_blk KB2.out rfl⟩
  obtain ⟨cT0, cT1⟩ : w2.cell? ⟨bt, 0, none⟩ = some (.int .i64 tx) ∧ w2.cell? ⟨bt, 1, none⟩ = some (.int .i64 ty) := ⟨cell_of_blk KT2.out rfl, cell_of_blk KT2.out rfl⟩
  go_wp2_with fail
  refine (has_any W H M B tx ty n cp m n ao (blkN X Y n) _ (by omega) (by omega) KM2.out).mono ?_
  rw [HOT.out]
  rintro e w4 ⟨rfl, hb⟩
  have hz4 : b9 < w4.heap.size := by have := hb.size; omega
  have KB4 : Hid (w4.heap[b9]? = some (.cells #[.int .i64 W, .int .i64 H, .int .i64 M, .int .i64 B, .slice ao n cp, .map (some m)] 68 (0, 0))) := Lib.hid ((hb.block _ (by first | omega | (simp; done) | (simp; omega))).trans KB2.out)
  have KT4 : Hid (w4.heap[bt]? = some (.cells #[.int .i64 tx, .int .i64 ty] 26 (0, 0))) := Lib.hid ((hb.block _ (by first | omega | (simp; done) | (simp; omega))).trans KT2.out)
  have KM4 := Lib.hid (KM2.out.keep (hb.block _ KM2.out.lt))
  have HB4 : Hid (Below w.heap.size w w4) := Lib.hid (HB2.out.trans (hb.mono (by omega)))
  clear hb KB2 KT2 KM2 HB2 cB0 cB1 cB2 cB3 cB4 cB5 cT0 cT1
  go_wp2_with fail
  refine bodyPost_ret (v := .tuple #[.slice none 0 0, .int .i64 72]) (by simp [results, Try.results25, go_sem]) rfl ⟨rfl, HB4.out⟩
set_option maxRecDepth 100000 in
set_option maxHeartbeats 16000000 in
theorem pFar_ok (W H M B tx ty : Int) (n cp N : Nat) (ao : Option Addr) (X Y : Nat → Int) (w : World) (hc : XYs w ao n X Y) (hv : vaG W H M B n X Y = true) (hot : opB W H (blkN X Y n) tx ty = true) (hN : (N : Int) = W * H) :
    Calls Try.prog 25 #[.agg #[.int .i64 W, .int .i64 H, .int .i64 M, .int .i64 B, .slice ao n cp], .agg #[.int .i64 tx, .int .i64 ty]] w fun e w' => ∃ v F, e = .returned (.tuple #[v, .int .i64 0]) ∧ Costs W H (blkN X Y n) M B tx ty F ∧ w'.ownsRow w.heap.size 3 1 v N (intC (fun j => farS F B tx ty (j % W.toNat : Nat) (j / W.toNat : Nat)) N) ∧ Below w.heap.size w w' := by
  obtain ⟨i0, hi, hz0, hz1', hz2'⟩ := info_parts int_info
  have HI := Lib.hid (And.intro hi (And.intro hz0 (And.intro hz1' hz2')))
  clear hi hz0 hz1' hz2'
  have hont := (opB_iff.1 hot).1
  have HC := Lib.hid hc
  have HV := Lib.hid hv
  have HOT := Lib.hid hot
  obtain ⟨hnum, _⟩ := vaG_num hv
  clear hc hv hot
  go_enter Try.func25, Try.ntmps25
  go_wp2_with fail
  refine (pRead_ok W H M B n cp ao X Y _ (HC.out.keep (by go_grown)) HV.out).mono ?_
  rintro e w1 ⟨m, rfl, hm1, hbm, hb⟩
  obtain ⟨bt, hbt⟩ : ∃ b, b = w.heap.size + 1 := ⟨_, rfl⟩
  obtain ⟨b9, hb9⟩ : ∃ b, b = w1.heap.size := ⟨_, rfl⟩
  have hz1 : bt < b9 := by have h9 := hb.size; simp at h9; omega
  have KT1 : Hid (w1.heap[bt]? = some (.cells #[.int .i64 tx, .int .i64 ty] 26 (0, 0))) := Lib.hid ((hb.block _ (by simp; omega)).trans (by rw [hbt]; have h := heap_alloc_new (w.alloc (.cells #[.int .i64 W, .int .i64 H, .int .i64 M, .int .i64 B, .slice ao n cp] 24)) (.cells #[.int .i64 tx, .int .i64 ty] 26); rwa [World.size_alloc] at h))
  have HB1 : Hid (Below w.heap.size w w1) := Lib.hid (Below.trans (by go_grown) (hb.mono (by simp; omega)))
  obtain ⟨w2, hw2⟩ : ∃ z, z = w1.alloc (.cells #[.int .i64 W, .int .i64 H, .int .i64 M, .int .i64 B, .slice ao n cp, .map (some m)] 68) := ⟨_, rfl⟩
  have hb2 : Below w1.heap.size w1 w2 := by rw [hw2]; exact bal (Below.refl _ _) _
  have KB2 : Hid (w2.heap[b9]? = some (.cells #[.int .i64 W, .int .i64 H, .int .i64 M, .int .i64 B, .slice ao n cp, .map (some m)] 68 (0, 0))) := Lib.hid (by rw [hw2, hb9]; exact heap_alloc_new w1 _)
  have hz2 : w2.heap.size = b9 + 1 := by rw [hw2]; simp; omega
  have KM2 := Lib.hid (hbm.keep (hb2.block _ hbm.lt))
  have HB2 : Hid (Below w.heap.size w w2) := Lib.hid (HB1.out.trans (hb2.mono (by omega)))
  have KT2 : Hid (w2.heap[bt]? = some (.cells #[.int .i64 tx, .int .i64 ty] 26 (0, 0))) := Lib.hid ((hb2.block _ (by first | omega | (simp; done) | (simp; omega))).trans KT1.out)
  have hwm : w.heap.size < bt := by omega
  clear hb hbm KT1 HB1 hb2
  have HW2 := Lib.hid hw2
  have HB9 := Lib.hid hb9
  clear hb9 hw2 hm1
  go_upto_region 4 with fail
  rw [← HB9.out, ← HW2.out]
  try rw [← hbt]
  clear hbt HW2 HB9
  obtain ⟨cB0, cB1, cB2, cB3, cB4, cB5⟩ : w2.cell? ⟨b9, 0, none⟩ = some (.int .i64 W) ∧ w2.cell? ⟨b9, 1, none⟩ = some (.int .i64 H) ∧ w2.cell? ⟨b9, 2, none⟩ = some (.int .i64 M) ∧ w2.cell? ⟨b9, 3, none⟩ = some (.int .i64 B) ∧ w2.cell? ⟨b9, 4, none⟩ = some (.slice ao n cp) ∧ w2.cell? ⟨b9, 5, none⟩ = some (.map (some m)) := ⟨cell_of_blk KB2.out rfl, cell_of_blk KB2.out rfl, cell_of_blk KB2.out rfl, cell_of_blk KB2.out rfl, cell_of_blk KB2.out rfl, cell_of_blk KB2.out rfl⟩
  obtain ⟨cT0, cT1⟩ : w2.cell? ⟨bt, 0, none⟩ = some (.int .i64 tx) ∧ w2.cell? ⟨bt, 1, none⟩ = some (.int .i64 ty) := ⟨cell_of_blk KT2.out rfl, cell_of_blk KT2.out rfl⟩
  go_wp2_with fail
  refine (has_any W H M B tx ty n cp m n ao (blkN X Y n) _ (by omega) (by omega) KM2.out).mono ?_
  rw [HOT.out]
  rintro e w4 ⟨rfl, hb⟩
  have hz4 : b9 < w4.heap.size := by have := hb.size; omega
  have KB4 : Hid (w4.heap[b9]? = some (.cells #[.int .i64 W, .int .i64 H, .int .i64 M, .int .i64 B, .slice ao n cp, .map (some m)] 68 (0, 0))) := Lib.hid ((hb.block _ (by first | omega | (simp; done) | (simp; omega))).trans KB2.out)
  have KT4 : Hid (w4.heap[bt]? = some (.cells #[.int .i64 tx, .int .i64 ty] 26 (0, 0))) := Lib.hid ((hb.block _ (by first | omega | (simp; done) | (simp; omega))).trans KT2.out)
  have KM4 := Lib.hid (KM2.out.keep (hb.block _ KM2.out.lt))
  have HB4 : Hid (Below w.heap.size w w4) := Lib.hid (HB2.out.trans (hb.mono (by omega)))
  clear hb KB2 KT2 KM2 HB2 cB0 cB1 cB2 cB3 cB4 cB5 cT0 cT1
  obtain ⟨cB0, cB1, cB2, cB3, cB4, cB5⟩ : w4.cell? ⟨b9, 0, none⟩ = some (.int .i64 W) ∧ w4.cell? ⟨b9, 1, none⟩ = some (.int .i64 H) ∧ w4.cell? ⟨b9, 2, none⟩ = some (.int .i64 M) ∧ w4.cell? ⟨b9, 3, none⟩ = some (.int .i64 B) ∧ w4.cell? ⟨b9, 4, none⟩ = some (.slice ao n cp) ∧ w4.cell? ⟨b9, 5, none⟩ = some (.map (some m)) := ⟨cell_of_blk KB4.out rfl, cell_of_blk KB4.out rfl, cell_of_blk KB4.out rfl, cell_of_blk KB4.out rfl, cell_of_blk KB4.out rfl, cell_of_blk KB4.out rfl⟩
  obtain ⟨cT0, cT1⟩ : w4.cell? ⟨bt, 0, none⟩ = some (.int .i64 tx) ∧ w4.cell? ⟨bt, 1, none⟩ = some (.int .i64 ty) := ⟨cell_of_blk KT4.out rfl, cell_of_blk KT4.out rfl⟩
  go_wp2_with fail
  refine (costs_any W H M B tx ty n cp m n ao (blkN X Y n) _ KM4.out (by omega) (by omega) (by omega) (by omega) (by omega) (by omega)).mono ?_
  rintro e w5 ⟨b, kn, F, rfl, hbb, hsm, hco, hb⟩
  have hz5 : b9 < w5.heap.size := by have := hb.size; omega
  have KB5 : Hid (w5.heap[b9]? = some (.cells #[.int .i64 W, .int .i64 H, .int .i64 M, .int .i64 B, .slice ao n cp, .map (some m)] 68 (0, 0))) := Lib.hid ((hb.block _ (by first | omega | (simp; done) | (simp; omega))).trans KB4.out)
  have KT5 : Hid (w5.heap[bt]? = some (.cells #[.int .i64 tx, .int .i64 ty] 26 (0, 0))) := Lib.hid ((hb.block _ (by first | omega | (simp; done) | (simp; omega))).trans KT4.out)
  have KS5 := Lib.hid hsm
  have HCO := Lib.hid hco
  have HB5 : Hid (Below w.heap.size w w5) := Lib.hid (HB4.out.trans (hb.mono (by omega)))
  clear hb hsm hco KB4 KT4 KM4 HB4 cB0 cB1 cB2 cB3 cB4 cB5 cT0 cT1
  obtain ⟨cB0, cB1, cB2, cB3, cB4, cB5⟩ : w5.cell? ⟨b9, 0, none⟩ = some (.int .i64 W) ∧ w5.cell? ⟨b9, 1, none⟩ = some (.int .i64 H) ∧ w5.cell? ⟨b9, 2, none⟩ = some (.int .i64 M) ∧ w5.cell? ⟨b9, 3, none⟩ = some (.int .i64 B) ∧ w5.cell? ⟨b9, 4, none⟩ = some (.slice ao n cp) ∧ w5.cell? ⟨b9, 5, none⟩ = some (.map (some m)) := ⟨cell_of_blk KB5.out rfl, cell_of_blk KB5.out rfl, cell_of_blk KB5.out rfl, cell_of_blk KB5.out rfl, cell_of_blk KB5.out rfl, cell_of_blk KB5.out rfl⟩
  obtain ⟨cT0, cT1⟩ : w5.cell? ⟨bt, 0, none⟩ = some (.int .i64 tx) ∧ w5.cell? ⟨bt, 1, none⟩ = some (.int .i64 ty) := ⟨cell_of_blk KT5.out rfl, cell_of_blk KT5.out rfl⟩
  obtain ⟨Wn, hWn⟩ : ∃ k : Nat, W = k := ⟨W.toNat, by omega⟩
  obtain ⟨Hn, hHn⟩ : ∃ k : Nat, H = k := ⟨H.toNat, by omega⟩
  have hNN : N = Hn * Wn := by
    rw [hWn, hHn] at hN
    have h1 : ((Hn * Wn : Nat) : Int) = (Wn : Int) * Hn := by push_cast; exact Int.mul_comm _ _
    omega
  have hWn1 : 1 ≤ Wn := by omega
  have hHn1 : 1 ≤ Hn := by omega
  have hN1 : 1 ≤ N := by rw [hNN]; exact Nat.mul_pos hHn1 hWn1
  have hN9 : N ≤ 900 := by rw [hNN]; exact Nat.le_trans (Nat.mul_le_mul (show Hn ≤ 30 by omega) (show Wn ≤ 30 by omega)) (by decide)
  have hce := cells_any M B Wn Hn n cp m ao w5 (by omega) (by omega)
  rw [← hWn, ← hHn, ← hNN] at hce
  have HCE := Lib.hid hce
  have HWN := Lib.hid hWn
  have HHN := Lib.hid hHn
  have HNN := Lib.hid hNN
  have hWn30 : Wn ≤ 30 := by omega
  have hHn30 : Hn ≤ 30 := by omega
  clear hce hWn hHn hNN hN
  go_wp2_with fail
  refine HCE.out.mono ?_
  rintro e w6 ⟨vc, rfl, how, hb⟩
  obtain ⟨gc, capc, cur, rfl, hgc, hcur, hent⟩ := own_blk how (clL_len _ _) hN1
  have hz6 : b9 < w6.heap.size := by have := hb.size; omega
  have KB6 : Hid (w6.heap[b9]? = some (.cells #[.int .i64 W, .int .i64 H, .int .i64 M, .int .i64 B, .slice ao n cp, .map (some m)] 68 (0, 0))) := Lib.hid ((hb.block _ (by first | omega | (simp; done) | (simp; omega))).trans KB5.out)
  have KT6 : Hid (w6.heap[bt]? = some (.cells #[.int .i64 tx, .int .i64 ty] 26 (0, 0))) := Lib.hid ((hb.block _ (by first | omega | (simp; done) | (simp; omega))).trans KT5.out)
  have KS6 := Lib.hid (KS5.out.keep (hb.block _ KS5.out.lt))
  have HB6 : Hid (Below w.heap.size w w6) := Lib.hid (HB5.out.trans (hb.mono (by omega)))
  have KC6 : Hid (w6.heap[gc]? = some (.cells cur 26 (0, 0))) := Lib.hid hcur
  have HE : Hid (∀ i, i < N → cur[i * 2]? = some (.int .i64 (i % Wn : Nat)) ∧ cur[i * 2 + 1]? = some (.int .i64 (i / Wn : Nat))) := Lib.hid (fun i hi => by have h := hent i hi; rw [clL_get hi] at h; exact h)
  obtain ⟨b0, hb0⟩ : ∃ z, z = w6.heap.size := ⟨_, rfl⟩
  have hgc0 : gc < b0 := by rw [hb0]; exact (Array.getElem?_eq_some_iff.1 hcur).1
  have hbb0 : b < b0 := by rw [hb0]; exact KS6.out.lt
  have hz60 : b0 ≤ w6.heap.size := by omega
  have hz9 : b9 < b0 := by omega
  have hwb0 : w.heap.size < b0 := by omega
  clear how hb hcur hent KB5 KT5 KS5 HB5 hb0 hz6 HCE cB0 cB1 cB2 cB3 cB4 cB5 cT0 cT1
  go_wp2_with fail
  obtain ⟨ff, hff⟩ : ∃ f : Nat → Int, f = fun j => farS F B tx ty (j % Wn : Nat) (j / Wn : Nat) := ⟨_, rfl⟩
  have HFF := Lib.hid hff
  clear hff
  go_loopg [9, 31] N (fun gg v9 v31 wr => ∃ k : Nat, v31 = .int .i64 k ∧ k ≤ N ∧ Hid (N - k ≤ gg) ∧ Hid (wr.ownsRow b0 3 1 v9 k (intC ff k)) ∧ Hid (wr.heap[b9]? = some (.cells #[.int .i64 W, .int .i64 H, .int .i64 M, .int .i64 B, .slice ao n cp, .map (some m)] 68 (0, 0))) ∧ Hid (wr.heap[bt]? = some (.cells #[.int .i64 tx, .int .i64 ty] 26 (0, 0))) ∧ Hid (SMap wr b kn F) ∧ Hid (wr.heap[gc]? = some (.cells cur 26 (0, 0))) ∧ Hid (Below w.heap.size w wr) ∧ b0 ≤ wr.heap.size)
  case atStart => exact ⟨0, rfl, by omega, Lib.hid (by omega), Lib.hid (World.ownsRow_nil _ _ _ _), KB6, KT6, KS6, KC6, HB6, hz60⟩
  case round =>
    obtain ⟨k, rfl, hk, HG, HO, KB, KT, KS, KC, HB, hz⟩ := hrel
    clear KB6 KT6 KS6 KC6 HB6 hz60
    by_cases hlt : k < N
    case neg =>
      obtain rfl : k = N := by omega
      have HR := Lib.hid (ownsRow_base HO.out (show w.heap.size ≤ b0 by omega))
      go_wp2_with fail
      refine bodyPost_ret (v := .tuple #[u9, .int .i64 0]) (by simp [results, Try.results25, go_sem, *]) rfl ⟨u9, F, rfl, HCO.out, ?_, HB.out⟩
      have h := HR.out
      rw [HFF.out] at h
      rw [HWN.out]
      exact h
    have HGG : Hid (N - k ≤ gk) := Lib.hid HG.out
    obtain ⟨e0, e1⟩ := HE.out k hlt
    obtain ⟨x, hx⟩ : ∃ z : Int, ((k % Wn : Nat) : Int) = z := ⟨_, rfl⟩
    obtain ⟨y, hy⟩ : ∃ z : Int, ((k / Wn : Nat) : Int) = z := ⟨_, rfl⟩
    rw [hx] at e0
    rw [hy] at e1
    have hxb : 0 ≤ x ∧ x < 30 := by
      have h1 := Nat.mod_lt k (show 0 < Wn by omega)
      generalize k % Wn = q at h1 hx
      omega
    have hyb : 0 ≤ y ∧ y < 30 := by
      have h1 : k / Wn < Hn := Nat.div_lt_of_lt_mul (by rw [Nat.mul_comm, ← HNN.out]; exact hlt)
      generalize k / Wn = q at h1 hy
      omega
    have HFK : Hid (ff k = farS F B tx ty x y) := Lib.hid (by rw [HFF.out]; simp only; rw [hx, hy])
    have c0 : wr.cell? ⟨gc, k * 2, none⟩ = some (.int .i64 x) := cell_of_blk KC.out e0
    have c1 : wr.cell? ⟨gc, k * 2 + 1, none⟩ = some (.int .i64 y) := cell_of_blk KC.out e1
    clear e0 e1 hx hy HG
    obtain ⟨wq, hwq⟩ : ∃ z, z = wr.alloc (.cells #[.int .i64 x, .int .i64 y] 26) := ⟨_, rfl⟩
    have hbq : Below wr.heap.size wr wq := by rw [hwq]; exact bal (Below.refl _ _) _
    have KXq : Hid (wq.heap[wr.heap.size]? = some (.cells #[.int .i64 x, .int .i64 y] 26 (0, 0))) := Lib.hid (by rw [hwq]; exact heap_alloc_new wr _)
    have hzq : wq.heap.size = wr.heap.size + 1 := by rw [hwq]; simp
    have KBq : Hid (wq.heap[b9]? = some (.cells #[.int .i64 W, .int .i64 H, .int .i64 M, .int .i64 B, .slice ao n cp, .map (some m)] 68 (0, 0))) := Lib.hid ((hbq.block _ (by omega)).trans KB.out)
    have KTq : Hid (wq.heap[bt]? = some (.cells #[.int .i64 tx, .int .i64 ty] 26 (0, 0))) := Lib.hid ((hbq.block _ (by omega)).trans KT.out)
    have KSq := Lib.hid (KS.out.keep (hbq.block _ (by omega)))
    have KCq : Hid (wq.heap[gc]? = some (.cells cur 26 (0, 0))) := Lib.hid ((hbq.block _ (by omega)).trans KC.out)
    have HBq : Hid (Below w.heap.size w wq) := Lib.hid (HB.out.trans (hbq.mono (by omega)))
    have HOq : Hid (wq.ownsRow b0 3 1 u9 k (intC ff k)) := Lib.hid (own_below' HO.out hbq)
    have HWQ := Lib.hid hwq
    clear hbq KB KT KS KC HB HO hwq
    go_upto_region 11 with fail
    rw [← HWQ.out]
    clear HWQ c0 c1
    obtain ⟨x0, x1⟩ : wq.cell? ⟨wr.heap.size, 0, none⟩ = some (.int .i64 x) ∧ wq.cell? ⟨wr.heap.size, 1, none⟩ = some (.int .i64 y) := ⟨cell_of_blk KXq.out rfl, cell_of_blk KXq.out rfl⟩
    obtain ⟨cB0, cB1, cB2, cB3, cB4, cB5⟩ : wq.cell? ⟨b9, 0, none⟩ = some (.int .i64 W) ∧ wq.cell? ⟨b9, 1, none⟩ = some (.int .i64 H) ∧ wq.cell? ⟨b9, 2, none⟩ = some (.int .i64 M) ∧ wq.cell? ⟨b9, 3, none⟩ = some (.int .i64 B) ∧ wq.cell? ⟨b9, 4, none⟩ = some (.slice ao n cp) ∧ wq.cell? ⟨b9, 5, none⟩ = some (.map (some m)) := ⟨cell_of_blk KBq.out rfl, cell_of_blk KBq.out rfl, cell_of_blk KBq.out rfl, cell_of_blk KBq.out rfl, cell_of_blk KBq.out rfl, cell_of_blk KBq.out rfl⟩
    go_wp2_with fail
    refine (cheapest_any W H M B x y (-1) n cp m b kn ao F _ KSq.out (HCO.out.bd (by omega) (by omega)) (by omega) hxb hyb).mono ?_
    obtain ⟨d, hdd⟩ : ∃ d, (chp F B x y (-1)).1 = d := ⟨_, rfl⟩
    rw [hdd]
    rintro e w1 ⟨rfl, hb⟩
    have hz1 : wr.heap.size < w1.heap.size := by have := hb.size; omega
    have KX1 : Hid (w1.heap[wr.heap.size]? = some (.cells #[.int .i64 x, .int .i64 y] 26 (0, 0))) := Lib.hid ((hb.block _ (by omega)).trans KXq.out)
    have KB1 : Hid (w1.heap[b9]? = some (.cells #[.int .i64 W, .int .i64 H, .int .i64 M, .int .i64 B, .slice ao n cp, .map (some m)] 68 (0, 0))) := Lib.hid ((hb.block _ (by omega)).trans KBq.out)
    have KT1 : Hid (w1.heap[bt]? = some (.cells #[.int .i64 tx, .int .i64 ty] 26 (0, 0))) := Lib.hid ((hb.block _ (by omega)).trans KTq.out)
    have KS1 := Lib.hid (KSq.out.keep (hb.block _ (by omega)))
    have KC1 : Hid (w1.heap[gc]? = some (.cells cur 26 (0, 0))) := Lib.hid ((hb.block _ (by omega)).trans KCq.out)
    have HB1 : Hid (Below w.heap.size w w1) := Lib.hid (HBq.out.trans (hb.mono (by omega)))
    have HO1 : Hid (w1.ownsRow b0 3 1 u9 k (intC ff k)) := Lib.hid (own_below' HOq.out hb)
    have HDD := Lib.hid hdd
    clear hb hdd KXq KBq KTq KSq KCq HBq HOq x0 x1 cB0 cB1 cB2 cB3 cB4 cB5
    obtain ⟨x0, x1⟩ : w1.cell? ⟨wr.heap.size, 0, none⟩ = some (.int .i64 x) ∧ w1.cell? ⟨wr.heap.size, 1, none⟩ = some (.int .i64 y) := ⟨cell_of_blk KX1.out rfl, cell_of_blk KX1.out rfl⟩
    obtain ⟨cT0, cT1⟩ : w1.cell? ⟨bt, 0, none⟩ = some (.int .i64 tx) ∧ w1.cell? ⟨bt, 1, none⟩ = some (.int .i64 ty) := ⟨cell_of_blk KT1.out rfl, cell_of_blk KT1.out rfl⟩
    have hzb : b0 ≤ w1.heap.size := by omega
    by_cases hp : x = tx ∧ y = ty
    case pos =>
      have hne : ∀ w, (binOp .eql 26 (.agg #[.int .i64 x, .int .i64 y]) (.agg #[.int .i64 tx, .int .i64 ty])).run Try.prog w = .ok (.bool true) w := fun w => by
        have h := eqXY x y tx ty w
        rw [show (x == tx && y == ty) = true by simp [hp.1, hp.2]] at h
        exact h
      have HFV : Hid (ff k = 0) := Lib.hid (by rw [HFK.out]; unfold farS; rw [if_pos hp])
      clear hp
      go_upto_region 14 with fail
      refine wp_region_lit ?_
      refine wpList_step (fun K hK => ?_); go_simp; refine hK _ _ ?_; clear hK K
      refine wpList_step (fun K hK => ?_); go_simp; refine hK _ _ ?_; clear hK K
      have hNB : (w1.alloc (.cells #[.int .i64 0] 3)).heap[w1.heap.size]? = some (.cells #[.int .i64 0] 3 (0, 0)) := heap_alloc_new w1 _
      refine wpList_append_own _ rfl _ _ 34 rfl b0 3 i0 _ 1 8 Try.underlying34 HI.out.1 HI.out.2.1 HI.out.2.2.1 HI.out.2.2.2 (by rfl) (by decide) u9 k (intC ff k) (by rfl) (HO1.out.alloc _) ⟨w1.heap.size, 0, none⟩ 1 1 [.int .i64 0] (by rfl) rfl (fun j u hu => World.news_of_block (cs := #[.int .i64 0]) hNB j u hu) (by intro u hu; simp only [List.mem_cons, List.not_mem_nil, or_false] at hu; subst hu; rfl) (by unfold maxLen; omega) (by omega) (by simp; omega) ?_
      intro v' w9 hown' hgrow hnil
      have hlb := HO1.out.lt
      have hz9' : b0 ≤ w9.heap.size := by have := hgrow.size; simp at this; omega
      have hk9 : ∀ j, j < b0 → w9.heap[j]? = w1.heap[j]? := fun j hj => (hgrow.block _ (by simp; omega) (fun e => by have := (hlb _ e.symm).1; omega)).trans (Below.heap_alloc _ _ _ (by omega))
      have KB9 : Hid (w9.heap[b9]? = some (.cells #[.int .i64 W, .int .i64 H, .int .i64 M, .int .i64 B, .slice ao n cp, .map (some m)] 68 (0, 0))) := Lib.hid ((hk9 _ (by omega)).trans KB1.out)
      have KT9 : Hid (w9.heap[bt]? = some (.cells #[.int .i64 tx, .int .i64 ty] 26 (0, 0))) := Lib.hid ((hk9 _ (by omega)).trans KT1.out)
      have KS9 := Lib.hid (KS1.out.keep (hk9 _ hbb0))
      have KC9 : Hid (w9.heap[gc]? = some (.cells cur 26 (0, 0))) := Lib.hid ((hk9 _ hgc0).trans KC1.out)
      have HB9 : Hid (Below w.heap.size w w9) := Lib.hid ((HB1.out.alloc (by omega) _).grown hgrow (by simp; omega) (fun j hj => by have := (hlb j hj).1; omega))
      have HO9 : Hid (w9.ownsRow b0 3 1 v' (k + 1) (intC ff (k + 1))) := Lib.hid (by rw [intC_next, show ff k = 0 from HFV.out]; exact hown')
      clear hown' hgrow hnil hlb hk9 hNB KB1 KT1 KS1 KC1 HB1 HO1
      refine wpList_step (fun K hK => ?_); go_simp; refine hK _ _ ?_; clear hK K
      refine wpList_nil ?_
      go_wp2_with fail
      go_roundg (N - (k + 1))
      case measure => have := HGG.out; omega
      case rel => exact ⟨k + 1, by go_num, by omega, Lib.hid (Nat.le_refl _), HO9, KB9, KT9, KS9, KC9, HB9, hz9'⟩
    have hne : ∀ w, (binOp .eql 26 (.agg #[.int .i64 x, .int .i64 y]) (.agg #[.int .i64 tx, .int .i64 ty])).run Try.prog w = .ok (.bool false) w := fun w => by
      have h := eqXY x y tx ty w
      rw [show (x == tx && y == ty) = false from Bool.eq_false_iff.2 (fun e => hp (by simpa using e))] at h
      exact h
    by_cases hd : d = -1
    case pos =>
      have HFV : Hid (ff k = -1) := Lib.hid (by rw [HFK.out]; unfold farS; rw [if_neg hp, HDD.out, if_pos hd])
      subst hd
      clear hp
      go_upto_region 16 with fail
      refine wp_region_lit ?_
      refine wpList_step (fun K hK => ?_); go_simp; refine hK _ _ ?_; clear hK K
      refine wpList_step (fun K hK => ?_); go_simp; refine hK _ _ ?_; clear hK K
      have hNB : (w1.alloc (.cells #[.int .i64 (-1)] 3)).heap[w1.heap.size]? = some (.cells #[.int .i64 (-1)] 3 (0, 0)) := heap_alloc_new w1 _
      refine wpList_append_own _ rfl _ _ 34 rfl b0 3 i0 _ 1 8 Try.underlying34 HI.out.1 HI.out.2.1 HI.out.2.2.1 HI.out.2.2.2 (by rfl) (by decide) u9 k (intC ff k) (by rfl) (HO1.out.alloc _) ⟨w1.heap.size, 0, none⟩ 1 1 [.int .i64 (-1)] (by rfl) rfl (fun j u hu => World.news_of_block (cs := #[.int .i64 (-1)]) hNB j u hu) (by intro u hu; simp only [List.mem_cons, List.not_mem_nil, or_false] at hu; subst hu; rfl) (by unfold maxLen; omega) (by omega) (by simp; omega) ?_
      intro v' w9 hown' hgrow hnil
      have hlb := HO1.out.lt
      have hz9' : b0 ≤ w9.heap.size := by have := hgrow.size; simp at this; omega
      have hk9 : ∀ j, j < b0 → w9.heap[j]? = w1.heap[j]? := fun j hj => (hgrow.block _ (by simp; omega) (fun e => by have := (hlb _ e.symm).1; omega)).trans (Below.heap_alloc _ _ _ (by omega))
      have KB9 : Hid (w9.heap[b9]? = some (.cells #[.int .i64 W, .int .i64 H, .int .i64 M, .int .i64 B, .slice ao n cp, .map (some m)] 68 (0, 0))) := Lib.hid ((hk9 _ (by omega)).trans KB1.out)
      have KT9 : Hid (w9.heap[bt]? = some (.cells #[.int .i64 tx, .int .i64 ty] 26 (0, 0))) := Lib.hid ((hk9 _ (by omega)).trans KT1.out)
      have KS9 := Lib.hid (KS1.out.keep (hk9 _ hbb0))
      have KC9 : Hid (w9.heap[gc]? = some (.cells cur 26 (0, 0))) := Lib.hid ((hk9 _ hgc0).trans KC1.out)
      have HB9 : Hid (Below w.heap.size w w9) := Lib.hid ((HB1.out.alloc (by omega) _).grown hgrow (by simp; omega) (fun j hj => by have := (hlb j hj).1; omega))
      have HO9 : Hid (w9.ownsRow b0 3 1 v' (k + 1) (intC ff (k + 1))) := Lib.hid (by rw [intC_next, show ff k = (-1) from HFV.out]; exact hown')
      clear hown' hgrow hnil hlb hk9 hNB KB1 KT1 KS1 KC1 HB1 HO1
      refine wpList_step (fun K hK => ?_); go_simp; refine hK _ _ ?_; clear hK K
      refine wpList_nil ?_
      go_wp2_with fail
      go_roundg (N - (k + 1))
      case measure => have := HGG.out; omega
      case rel => exact ⟨k + 1, by go_num, by omega, Lib.hid (Nat.le_refl _), HO9, KB9, KT9, KS9, KC9, HB9, hz9'⟩
    have hd1 : (d == -1) = false := beq_eq_false_iff_ne.2 hd
    obtain ⟨h0, h4, _⟩ := HCO.out.next HOT.out (show (chp F B x y (-1)).1 ≠ -1 by rw [HDD.out]; exact hd)
    rw [HDD.out] at h0 h4
    have hlook := KS1.out.look1 (x := x) (y := y) (d := d) (wf7 (by omega) (by omega)) (wf7 (by omega) (by omega)) (wf7 (by omega) (by omega))
    obtain ⟨fv, hfv⟩ : ∃ z, (F x y d).getD 0 = z := ⟨_, rfl⟩
    rw [hfv] at hlook
    have HFV : Hid (ff k = fv) := Lib.hid (by rw [HFK.out]; unfold farS; rw [if_neg hp, HDD.out, if_neg hd]; exact hfv)
    clear hp hfv hd
    go_upto_region 12 with fail
    refine wp_region_lit ?_
    refine wpList_step (fun K hK => ?_); go_simp; refine hK _ _ ?_; clear hK K
    refine wpList_step (fun K hK => ?_); go_simp; refine hK _ _ ?_; clear hK K
    refine wpList_step (fun K hK => ?_); go_simp; refine hK _ _ ?_; clear hK K
    refine wpList_step (fun K hK => ?_); go_simp; refine hK _ _ ?_; clear hK K
    refine wpList_step (fun K hK => ?_); go_simp; refine hK _ _ ?_; clear hK K
    refine wpList_step (fun K hK => ?_); go_simp; refine hK _ _ ?_; clear hK K
    refine wpList_step (fun K hK => ?_); go_simp; refine hK _ _ ?_; clear hK K
    have hNB : (w1.alloc (.cells #[.int .i64 fv] 3)).heap[w1.heap.size]? = some (.cells #[.int .i64 fv] 3 (0, 0)) := heap_alloc_new w1 _
    refine wpList_append_own _ rfl _ _ 34 rfl b0 3 i0 _ 1 8 Try.underlying34 HI.out.1 HI.out.2.1 HI.out.2.2.1 HI.out.2.2.2 (by rfl) (by decide) u9 k (intC ff k) (by rfl) (HO1.out.alloc _) ⟨w1.heap.size, 0, none⟩ 1 1 [.int .i64 fv] (by rfl) rfl (fun j u hu => World.news_of_block (cs := #[.int .i64 fv]) hNB j u hu) (by intro u hu; simp only [List.mem_cons, List.not_mem_nil, or_false] at hu; subst hu; rfl) (by unfold maxLen; omega) (by omega) (by simp; omega) ?_
    intro v' w9 hown' hgrow hnil
    have hlb := HO1.out.lt
    have hz9' : b0 ≤ w9.heap.size := by have := hgrow.size; simp at this; omega
    have hk9 : ∀ j, j < b0 → w9.heap[j]? = w1.heap[j]? := fun j hj => (hgrow.block _ (by simp; omega) (fun e => by have := (hlb _ e.symm).1; omega)).trans (Below.heap_alloc _ _ _ (by omega))
    have KB9 : Hid (w9.heap[b9]? = some (.cells #[.int .i64 W, .int .i64 H, .int .i64 M, .int .i64 B, .slice ao n cp, .map (some m)] 68 (0, 0))) := Lib.hid ((hk9 _ (by omega)).trans KB1.out)
    have KT9 : Hid (w9.heap[bt]? = some (.cells #[.int .i64 tx, .int .i64 ty] 26 (0, 0))) := Lib.hid ((hk9 _ (by omega)).trans KT1.out)
    have KS9 := Lib.hid (KS1.out.keep (hk9 _ hbb0))
    have KC9 : Hid (w9.heap[gc]? = some (.cells cur 26 (0, 0))) := Lib.hid ((hk9 _ hgc0).trans KC1.out)
    have HB9 : Hid (Below w.heap.size w w9) := Lib.hid ((HB1.out.alloc (by omega) _).grown hgrow (by simp; omega) (fun j hj => by have := (hlb j hj).1; omega))
    have HO9 : Hid (w9.ownsRow b0 3 1 v' (k + 1) (intC ff (k + 1))) := Lib.hid (by rw [intC_next, show ff k = fv from HFV.out]; exact hown')
    clear hown' hgrow hnil hlb hk9 hNB KB1 KT1 KS1 KC1 HB1 HO1
    refine wpList_step (fun K hK => ?_); go_simp; refine hK _ _ ?_; clear hK K
    refine wpList_nil ?_
    go_wp2_with fail
    go_roundg (N - (k + 1))
    case measure => have := HGG.out; omega
    case rel => exact ⟨k + 1, by go_num, by omega, Lib.hid (Nat.le_refl _), HO9, KB9, KT9, KS9, KC9, HB9, hz9'⟩
end Go.Proofs.Ytkkcnhhfdicppaa
