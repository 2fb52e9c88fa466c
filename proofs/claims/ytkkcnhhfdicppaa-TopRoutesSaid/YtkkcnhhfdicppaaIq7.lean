import Derived.Test.YtkkcnhhfdicppaaFa7
import Derived.Test.YtkkcnhhfdicppaaRv7
namespace Lay
def anyN (p : Nat → Bool) : Nat → Bool
  | 0 => false
  | k + 1 => anyN p k || p k
theorem anyN_stop {p : Nat → Bool} {k : Nat} (h : p k = true) : ∀ n, k < n → anyN p n = true := by
  intro n
  induction n with
  | zero => intro h; omega
  | succ n ih =>
    intro hk
    simp only [anyN]
    by_cases e : k = n
    · subst e; rw [h]; simp
    · rw [ih (by omega)]; rfl
theorem anyN_get {p : Nat → Bool} : ∀ {n : Nat}, anyN p n = false → ∀ k, k < n → p k = false := by
  intro n
  induction n with
  | zero => intro _ k hk; omega
  | succ n ih =>
    intro h k hk
    simp only [anyN, Bool.or_eq_false_iff] at h
    by_cases e : k = n
    · subst e; exact h.2
    · exact ih h.1 k (by omega)
/-- As many numbers as cells, and none too great. -/
def anS (n : Nat) (N : Int) (f : Nat → Int) : Bool := decide ((n : Int) = N) && !anyN (fun i => decide (f i < -1000000000 ∨ 1000000000 < f i)) n
/-- A step that shows that numbers are no proof. -/
def badS (W H M : Int) (K : Int → Int → Bool) (f : Nat → Int) (i d : Nat) : Bool :=
  opB W H K ((i % W.toNat : Nat) : Int) ((i / W.toNat : Nat) : Int) && (opB W H K (nx ((i % W.toNat : Nat) : Int) d) (ny ((i / W.toNat : Nat) : Int) d) && decide (f (ny ((i / W.toNat : Nat) : Int) d * W + nx ((i % W.toNat : Nat) : Int) d).toNat + M < f i))
/-- Numbers are a proof. -/
def prS (W H M tx ty : Int) (K : Int → Int → Bool) (f : Nat → Int) (N : Nat) : Bool := !decide (0 < f (ty * W + tx).toNat) && !anyN (fun i => anyN (badS W H M K f i) 4) N
theorem idx_lt {W H x y : Int} {N : Nat} (hN : (N : Int) = W * H) (hx : 0 ≤ x ∧ x < W) (hy : 0 ≤ y ∧ y < H) : 0 ≤ y * W ∧ y * W + x < N := by
  have a : 0 ≤ y * W := Int.mul_nonneg hy.1 (by omega)
  have b : (y + 1) * W ≤ H * W := Int.mul_le_mul_of_nonneg_right (by omega) (by omega)
  rw [Int.add_mul, Int.one_mul, Int.mul_comm H W] at b
  omega
theorem idx_back {Wn i : Nat} : ((i / Wn : Nat) : Int) * (Wn : Int) + ((i % Wn : Nat) : Int) = (i : Int) := by
  have := Nat.div_add_mod i Wn
  rw [Nat.mul_comm] at this
  exact_mod_cast this
end Lay
namespace Go.Proofs.Ytkkcnhhfdicppaa
open Go.RowKit Lay

set_option maxRecDepth 100000 in
set_option maxHeartbeats 4000000 in
theorem index_any (W H M B x y : Int) (n cp m : Nat) (ao : Option Addr) (w : World) (h1 : 0 ≤ y * W) (h2 : y * W ≤ 1000) (hx : 0 ≤ x ∧ x < 30) :
    Calls Try.prog 47 #[bdV W H M B ao n cp m, .agg #[.int .i64 x, .int .i64 y]] w fun e w' => e = .returned (.int .i64 (y * W + x)) ∧ Below w.heap.size w w' := by
  go_enter Try.func47, Try.ntmps47
  go_wp2_with fail
  refine bodyPost_ret (v := .int .i64 (y * W + x)) (by simp [results, Try.results47, go_sem]) rfl ⟨rfl, by go_grown⟩

set_option maxRecDepth 100000 in
set_option maxHeartbeats 4000000 in
theorem areNumbers_any (N : Int) (n cp : Nat) (ao : Option Addr) (f : Nat → Int) (w : World) (hn : n ≤ 9223372036854775807) (hc : Ints w ao n f) :
    Calls Try.prog 46 #[.slice ao n cp, .int .i64 N] w fun e w' => e = .returned (.bool (anS n N f)) ∧ Below w.heap.size w w' := by
  have HC := Lib.hid hc
  clear hc
  by_cases he : (n : Int) = N
  case neg =>
    have hb1 : ((n : Int) != N) = true := bne_iff_ne.2 he
    have HR : Hid (anS n N f = false) := Lib.hid (by unfold anS; rw [decide_eq_false he]; rfl)
    clear he
    go_enter Try.func46, Try.ntmps46
    go_wp2_with fail
    refine bodyPost_ret (v := .bool false) (by simp [results, Try.results46, go_sem]) rfl ⟨by rw [HR.out], by go_grown⟩
  subst he
  go_enter Try.func46, Try.ntmps46
  go_wp2_with fail
  go_loopw [13] (fun iv wr => ∃ k : Nat, iv = .int .i64 k ∧ k ≤ n ∧ Hid (anyN (fun i => decide (f i < -1000000000 ∨ 1000000000 < f i)) k = false) ∧ Hid (Below w.heap.size w wr)) (fun iv _ => n - (intOf iv).toNat)
  case atStart => exact ⟨0, rfl, Nat.zero_le _, Lib.hid rfl, Lib.hid (Below.refl _ _)⟩
  case round =>
    obtain ⟨k, rfl, hk, HV, HB⟩ := hrel
    by_cases hlt : k < n
    · obtain ⟨b, o, rfl, hcell⟩ := (HC.out.keep HB.out) (by omega)
      have c0 := hcell k hlt
      obtain ⟨v, hv⟩ : ∃ z, f k = z := ⟨_, rfl⟩
      rw [hv] at c0
      have HVV := Lib.hid hv
      clear hcell hv
      by_cases h1 : v < -1000000000
      · have HR : Hid (anS n n f = false) := Lib.hid (by unfold anS; rw [anyN_stop (k := k) (by rw [HVV.out]; exact decide_eq_true (Or.inl h1)) n hlt]; simp)
        go_wp2_with fail
        refine bodyPost_ret (v := .bool false) (by simp [results, Try.results46, go_sem]) rfl ⟨by rw [HR.out], HB.out⟩
      by_cases h2 : 1000000000 < v
      · have HR : Hid (anS n n f = false) := Lib.hid (by unfold anS; rw [anyN_stop (k := k) (by rw [HVV.out]; exact decide_eq_true (Or.inr h2)) n hlt]; simp)
        go_wp2_with fail
        refine bodyPost_ret (v := .bool false) (by simp [results, Try.results46, go_sem]) rfl ⟨by rw [HR.out], HB.out⟩
      have HV' : Hid (anyN (fun i => decide (f i < -1000000000 ∨ 1000000000 < f i)) (k + 1) = false) := Lib.hid (by simp only [anyN]; rw [HV.out, HVV.out, decide_eq_false (by omega)]; rfl)
      go_wp2_with fail
      go_roundw
      case rel => exact ⟨k + 1, by go_num, by omega, HV', HB⟩
      case measure => simp [intOf]; omega
    · obtain rfl : n = k := by omega
      have HR : Hid (anS n n f = true) := Lib.hid (by unfold anS; rw [HV.out]; simp)
      go_wp2_with fail
      refine bodyPost_ret (v := .bool true) (by simp [results, Try.results46, go_sem]) rfl ⟨by rw [HR.out], HB.out⟩

end Go.Proofs.Ytkkcnhhfdicppaa

namespace Lay
def erS (b : Bool) : Int := if b = true then 0 else 2
end Lay
namespace Go.Proofs.Ytkkcnhhfdicppaa
open Go.RowKit Lay

set_option maxRecDepth 100000 in
set_option maxHeartbeats 4000000 in
theorem pIsProof_grid (W H M B tx ty : Int) (n cp nf cf : Nat) (ao af : Option Addr) (X Y _f : Nat → Int) (w : World) (hn : n ≤ 9223372036854775807) (hc : XYs w ao n X Y) (hv : vaG W H M B n X Y = false) :
    Calls Try.prog 17 #[.agg #[.int .i64 W, .int .i64 H, .int .i64 M, .int .i64 B, .slice ao n cp], .agg #[.int .i64 tx, .int .i64 ty], .slice af nf cf] w fun e w' => e = .returned (.tuple #[.bool false, .int .i64 70]) ∧ Below w.heap.size w w' := by
  have HC := Lib.hid hc
  have HV := Lib.hid hv
  clear hc hv
  go_enter Try.func17, Try.ntmps17
  go_wp2_with fail
  refine (pRead_no W H M B n cp ao X Y _ hn (HC.out.keep (by go_grown)) HV.out).mono ?_
  rintro e w1 ⟨rfl, hb⟩
  have HB1 : Hid (Below w.heap.size w w1) := Lib.hid (Below.trans (by go_grown) (hb.mono (by simp; omega)))
  have hz : w.heap.size ≤ w1.heap.size := HB1.out.size
  clear hb
  go_wp2_with fail
  refine bodyPost_ret (v := .tuple #[.bool false, .int .i64 70]) (by simp [results, Try.results17, go_sem]) rfl ⟨rfl, HB1.out.alloc hz _⟩
set_option maxRecDepth 100000 in
set_option maxHeartbeats 4000000 in
theorem pIsProof_block (W H M B tx ty : Int) (n cp nf cf : Nat) (ao af : Option Addr) (X Y _f : Nat → Int) (w : World) (hc : XYs w ao n X Y) (hv : vaG W H M B n X Y = true) (hot : opB W H (blkN X Y n) tx ty = false) :
    Calls Try.prog 17 #[.agg #[.int .i64 W, .int .i64 H, .int .i64 M, .int .i64 B, .slice ao n cp], .agg #[.int .i64 tx, .int .i64 ty], .slice af nf cf] w fun e w' => e = .returned (.tuple #[.bool false, .int .i64 72]) ∧ Below w.heap.size w w' := by
  have HC := Lib.hid hc
  have HV := Lib.hid hv
  have HOT := Lib.hid hot
  obtain ⟨hnum, _⟩ := vaG_num hv
  clear hc hv hot
  go_enter Try.func17, Try.ntmps17
  go_wp2_with fail
  refine (pRead_ok W H M B n cp ao X Y _ (HC.out.keep (by go_grown)) HV.out).mono ?_
  rintro e w1 ⟨m, rfl, hm1, hbm, hb⟩
  obtain ⟨bt, hbt⟩ : ∃ b, b = w.heap.size + 1 := ⟨_, rfl⟩
  obtain ⟨b9, hb9⟩ : ∃ b, b = w1.heap.size := ⟨_, rfl⟩
  have hz1 : bt < b9 := by have h9 := hb.size; simp at h9; omega
  have KT1 : Hid (w1.heap[bt]? = some (.cells #[.int .i64 tx, .int .i64 ty] 26 (0, 0))) := Lib.hid ((hb.block _ (by simp; omega)).trans (by rw [hbt]; have h := heap_alloc_new (w.alloc (.cells #[.int .i64 W, .int .i64 H, .int .i64 M, .int .i64 B, .slice ao n cp] 24)) (.cells #[.int .i64 tx, .int .i64 ty] 26); rwa [World.size_alloc] at h))
  have HB1 : Hid (Below w.heap.size w w1) := Lib.hid (Below.trans (by go_grown) (hb.mono (by simp; omega)))
  obtain ⟨w2, hw2⟩ : ∃ z, z = w1.alloc (.cells #[.int .i64 W, .int .i64 H, .int .i64 M, .int .i64 B, .slice ao n cp, .map (some m)] 68) := ⟨_, rfl⟩
  have hb2 : Below w1.heap.size w1 w2 := by rw [hw2]; exact bal (Below.refl _ _) _
  have KB2 : Hid (w2.heap[b9]? = some (.cells #[.int .i64 W, .int .i64 H, .int .i64 M, .int .i64 B, .slice ao n cp, .map (some m)] 68 (0, 0))) := Lib.hid (by rw [hw2, hb9]; exact heap_alloc_new w1 _)
  have hz2 : w2.heap.size = b9 + 1 := by rw [hw2]; simp; omega
  have KM2 := Lib.hid (hbm.keep (hb2.block _ hbm.lt))
  have HB2 : Hid (Below w.heap.size w w2) := Lib.hid (HB1.out.trans (hb2.mono (by omega)))
  have KT2 : Hid (w2.heap[bt]? = some (.cells #[.int .i64 tx, .int .i64 ty] 26 (0, 0))) := Lib.hid ((hb2.block _ (by first | omega | (simp; done) | (simp; omega))).trans KT1.out)
  have hwm : w.heap.size < bt := by omega
  clear hb hbm KT1 HB1 hb2
  have HW2 := Lib.hid hw2
  have HB9 := Lib.hid hb9
  clear hb9 hw2 hm1
  go_upto_region 4 with fail
  rw [← HB9.out, ← HW2.out]
  try rw [← hbt]
  clear hbt HW2 HB9
  obtain ⟨cB0, cB1, cB2, cB3, cB4, cB5⟩ : w2.cell? ⟨b9, 0, none⟩ = some (.int .i64 W) ∧ w2.cell? ⟨b9, 1, none⟩ = some (.int .i64 H) ∧ w2.cell? ⟨b9, 2, none⟩ = some (.int .i64 M) ∧ w2.cell? ⟨b9, 3, none⟩ = some (.int .i64 B) ∧ w2.cell? ⟨b9, 4, none⟩ = some (.slice ao n cp) ∧ w2.cell? ⟨b9, 5, none⟩ = some (.map (some m)) := ⟨cell_of_blk KB2.out rfl, cell_of_blk KB2.out rfl, cell_of_blk KB2.out rfl, cell_of_blk KB2.out rfl, cell_of_blk KB2.out rfl, cell_of_blk KB2.out rfl⟩
  obtain ⟨cT0, cT1⟩ : w2.cell? ⟨bt, 0, none⟩ = some (.int .i64 tx) ∧ w2.cell? ⟨bt, 1, none⟩ = some (.int .i64 ty) := ⟨cell_of_blk KT2.out rfl, cell_of_blk KT2.out rfl⟩
  go_wp2_with fail
  refine (has_any W H M B tx ty n cp m n ao (blkN X Y n) _ (by omega) (by omega) KM2.out).mono ?_
  rw [HOT.out]
  rintro e w4 ⟨rfl, hb⟩
  have hz4 : b9 < w4.heap.size := by have := hb.size; omega
  have KB4 : Hid (w4.heap[b9]? = some (.cells #[.int .i64 W, .int .i64 H, .int .i64 M, .int .i64 B, .slice ao n cp, .map (some m)] 68 (0, 0))) := Lib.hid ((hb.block _ (by first | omega | (simp; done) | (simp; omega))).trans KB2.out)
  have KT4 : Hid (w4.heap[bt]? = some (.cells #[.int .i64 tx, .int .i64 ty] 26 (0, 0))) := Lib.hid ((hb.block _ (by first | omega | (simp; done) | (simp; omega))).trans KT2.out)
  have KM4 := Lib.hid (KM2.out.keep (hb.block _ KM2.out.lt))
  have HB4 : Hid (Below w.heap.size w w4) := Lib.hid (HB2.out.trans (hb.mono (by omega)))
  clear hb KB2 KT2 KM2 HB2 cB0 cB1 cB2 cB3 cB4 cB5 cT0 cT1
  go_wp2_with fail
  refine bodyPost_ret (v := .tuple #[.bool false, .int .i64 72]) (by simp [results, Try.results17, go_sem]) rfl ⟨rfl, HB4.out⟩
set_option maxRecDepth 100000 in
set_option maxHeartbeats 16000000 in
theorem pIsProof_ok (W H M B tx ty : Int) (N : Nat) (n cp nf cf : Nat) (ao af : Option Addr) (X Y f : Nat → Int) (w : World) (hnf : nf ≤ 9223372036854775807) (hc : XYs w ao n X Y) (hfar : Ints w af nf f) (hv : vaG W H M B n X Y = true) (hot : opB W H (blkN X Y n) tx ty = true) (hN : (N : Int) = W * H) :
    Calls Try.prog 17 #[.agg #[.int .i64 W, .int .i64 H, .int .i64 M, .int .i64 B, .slice ao n cp], .agg #[.int .i64 tx, .int .i64 ty], .slice af nf cf] w fun e w' => e = .returned (.tuple #[.bool (anS nf (W * H) f && prS W H M tx ty (blkN X Y n) f N), .int .i64 (erS (anS nf (W * H) f))]) ∧ Below w.heap.size w w' := by
  have HFAR := Lib.hid hfar
  clear hfar
  have hont := (opB_iff.1 hot).1
  have HC := Lib.hid hc
  have HV := Lib.hid hv
  have HOT := Lib.hid hot
  obtain ⟨hnum, _⟩ := vaG_num hv
  clear hc hv hot
  go_enter Try.func17, Try.ntmps17
  go_wp2_with fail
  refine (pRead_ok W H M B n cp ao X Y _ (HC.out.keep (by go_grown)) HV.out).mono ?_
  rintro e w1 ⟨m, rfl, hm1, hbm, hb⟩
  obtain ⟨bt, hbt⟩ : ∃ b, b = w.heap.size + 1 := ⟨_, rfl⟩
  obtain ⟨b9, hb9⟩ : ∃ b, b = w1.heap.size := ⟨_, rfl⟩
  have hz1 : bt < b9 := by have h9 := hb.size; simp at h9; omega
  have KT1 : Hid (w1.heap[bt]? = some (.cells #[.int .i64 tx, .int .i64 ty] 26 (0, 0))) := Lib.hid ((hb.block _ (by simp; omega)).trans (by rw [hbt]; have h := heap_alloc_new (w.alloc (.cells #[.int .i64 W, .int .i64 H, .int .i64 M, .int .i64 B, .slice ao n cp] 24)) (.cells #[.int .i64 tx, .int .i64 ty] 26); rwa [World.size_alloc] at h))
  have HB1 : Hid (Below w.heap.size w w1) := Lib.hid (Below.trans (by go_grown) (hb.mono (by simp; omega)))
  obtain ⟨w2, hw2⟩ : ∃ z, z = w1.alloc (.cells #[.int .i64 W, .int .i64 H, .int .i64 M, .int .i64 B, .slice ao n cp, .map (some m)] 68) := ⟨_, rfl⟩
  have hb2 : Below w1.heap.size w1 w2 := by rw [hw2]; exact bal (Below.refl _ _) _
  have KB2 : Hid (w2.heap[b9]? = some (.cells #[.int .i64 W, .int .i64 H, .int .i64 M, .int .i64 B, .slice ao n cp, .map (some m)] 68 (0, 0))) := Lib.hid (by rw [hw2, hb9]; exact heap_alloc_new w1 _)
  have hz2 : w2.heap.size = b9 + 1 := by rw [hw2]; simp; omega
  have KM2 := Lib.hid (hbm.keep (hb2.block _ hbm.lt))
  have HB2 : Hid (Below w.heap.size w w2) := Lib.hid (HB1.out.trans (hb2.mono (by omega)))
  have KT2 : Hid (w2.heap[bt]? = some (.cells #[.int .i64 tx, .int .i64 ty] 26 (0, 0))) := Lib.hid ((hb2.block _ (by first | omega | (simp; done) | (simp; omega))).trans KT1.out)
  have hwm : w.heap.size < bt := by omega
  clear hb hbm KT1 HB1 hb2
  have HW2 := Lib.hid hw2
  have HB9 := Lib.hid hb9
  clear hb9 hw2 hm1
  go_upto_region 4 with fail
  rw [← HB9.out, ← HW2.out]
  try rw [← hbt]
  clear hbt HW2 HB9
  obtain ⟨cB0, cB1, cB2, cB3, cB4, cB5⟩ : w2.cell? ⟨b9, 0, none⟩ = some (.int .i64 W) ∧ w2.cell? ⟨b9, 1, none⟩ = some (.int .i64 H) ∧ w2.cell? ⟨b9, 2, none⟩ = some (.int .i64 M) ∧ w2.cell? ⟨b9, 3, none⟩ = some (.int .i64 B) ∧ w2.cell? ⟨b9, 4, none⟩ = some (.slice ao n cp) ∧ w2.cell? ⟨b9, 5, none⟩ = some (.map (some m)) := ⟨cell_of_blk KB2.out rfl, cell_of_blk KB2.out rfl, cell_of_blk KB2.out rfl, cell_of_blk KB2.out rfl, cell_of_blk KB2.out rfl, cell_of_blk KB2.out rfl⟩
  obtain ⟨cT0, cT1⟩ : w2.cell? ⟨bt, 0, none⟩ = some (.int .i64 tx) ∧ w2.cell? ⟨bt, 1, none⟩ = some (.int .i64 ty) := ⟨cell_of_blk KT2.out rfl, cell_of_blk KT2.out rfl⟩
  go_wp2_with fail
  refine (has_any W H M B tx ty n cp m n ao (blkN X Y n) _ (by omega) (by omega) KM2.out).mono ?_
  rw [HOT.out]
  rintro e w4 ⟨rfl, hb⟩
  have hz4 : b9 < w4.heap.size := by have := hb.size; omega
  have KB4 : Hid (w4.heap[b9]? = some (.cells #[.int .i64 W, .int .i64 H, .int .i64 M, .int .i64 B, .slice ao n cp, .map (some m)] 68 (0, 0))) := Lib.hid ((hb.block _ (by first | omega | (simp; done) | (simp; omega))).trans KB2.out)
  have KT4 : Hid (w4.heap[bt]? = some (.cells #[.int .i64 tx, .int .i64 ty] 26 (0, 0))) := Lib.hid ((hb.block _ (by first | omega | (simp; done) | (simp; omega))).trans KT2.out)
  have KM4 := Lib.hid (KM2.out.keep (hb.block _ KM2.out.lt))
  have HB4 : Hid (Below w.heap.size w w4) := Lib.hid (HB2.out.trans (hb.mono (by omega)))
  clear hb KB2 KT2 KM2 HB2 cB0 cB1 cB2 cB3 cB4 cB5 cT0 cT1
  obtain ⟨cB0, cB1, cB2, cB3, cB4, cB5⟩ : w4.cell? ⟨b9, 0, none⟩ = some (.int .i64 W) ∧ w4.cell? ⟨b9, 1, none⟩ = some (.int .i64 H) ∧ w4.cell? ⟨b9, 2, none⟩ = some (.int .i64 M) ∧ w4.cell? ⟨b9, 3, none⟩ = some (.int .i64 B) ∧ w4.cell? ⟨b9, 4, none⟩ = some (.slice ao n cp) ∧ w4.cell? ⟨b9, 5, none⟩ = some (.map (some m)) := ⟨cell_of_blk KB4.out rfl, cell_of_blk KB4.out rfl, cell_of_blk KB4.out rfl, cell_of_blk KB4.out rfl, cell_of_blk KB4.out rfl, cell_of_blk KB4.out rfl⟩
  obtain ⟨cT0, cT1⟩ : w4.cell? ⟨bt, 0, none⟩ = some (.int .i64 tx) ∧ w4.cell? ⟨bt, 1, none⟩ = some (.int .i64 ty) := ⟨cell_of_blk KT4.out rfl, cell_of_blk KT4.out rfl⟩
  obtain ⟨hwh1, hwh2⟩ := wh_le (W := W) (H := H) (by omega) (by omega) (by omega) (by omega)
  go_wp2_with fail
  refine (areNumbers_any (W * H) nf cf af f _ hnf (HFAR.out.keep (HB4.out.mono (Nat.le_refl _)))).mono ?_
  by_cases han : anS nf (W * H) f = true
  case neg =>
    have han' : anS nf (W * H) f = false := by simpa using han
    have HAN := Lib.hid han'
    rw [han']
    rintro e w5 ⟨rfl, hb⟩
    have HB5 : Hid (Below w.heap.size w w5) := Lib.hid (HB4.out.trans (hb.mono (by omega)))
    clear hb han han' cB0 cB1 cB2 cB3 cB4 cB5 cT0 cT1
    go_wp2_with fail
    refine bodyPost_ret (v := .tuple #[.bool false, .int .i64 2]) (by simp [results, Try.results17, go_sem]) rfl ⟨by rw [HAN.out]; rfl, HB5.out⟩
  have HAN := Lib.hid han
  have hnfN : nf = N := by
    unfold anS at han
    simp only [Bool.and_eq_true, decide_eq_true_eq] at han
    omega
  have HABS : Hid (∀ i, i < N → -1000000000 ≤ f i ∧ f i ≤ 1000000000) := Lib.hid (fun i hi => by
    unfold anS at han
    simp only [Bool.and_eq_true, Bool.not_eq_true', decide_eq_true_eq] at han
    have h := anyN_get han.2 i (by omega)
    simp only [decide_eq_false_iff_not] at h
    omega)
  rw [han]
  rintro e w5 ⟨rfl, hb⟩
  have hz5 : b9 < w5.heap.size := by have := hb.size; omega
  have KB5 : Hid (w5.heap[b9]? = some (.cells #[.int .i64 W, .int .i64 H, .int .i64 M, .int .i64 B, .slice ao n cp, .map (some m)] 68 (0, 0))) := Lib.hid ((hb.block _ (by first | omega | (simp; done) | (simp; omega))).trans KB4.out)
  have KT5 : Hid (w5.heap[bt]? = some (.cells #[.int .i64 tx, .int .i64 ty] 26 (0, 0))) := Lib.hid ((hb.block _ (by first | omega | (simp; done) | (simp; omega))).trans KT4.out)
  have KM5 := Lib.hid (KM4.out.keep (hb.block _ KM4.out.lt))
  have HB5 : Hid (Below w.heap.size w w5) := Lib.hid (HB4.out.trans (hb.mono (by omega)))
  clear hb han KB4 KT4 KM4 HB4 cB0 cB1 cB2 cB3 cB4 cB5 cT0 cT1
  obtain ⟨cB0, cB1, cB2, cB3, cB4, cB5⟩ : w5.cell? ⟨b9, 0, none⟩ = some (.int .i64 W) ∧ w5.cell? ⟨b9, 1, none⟩ = some (.int .i64 H) ∧ w5.cell? ⟨b9, 2, none⟩ = some (.int .i64 M) ∧ w5.cell? ⟨b9, 3, none⟩ = some (.int .i64 B) ∧ w5.cell? ⟨b9, 4, none⟩ = some (.slice ao n cp) ∧ w5.cell? ⟨b9, 5, none⟩ = some (.map (some m)) := ⟨cell_of_blk KB5.out rfl, cell_of_blk KB5.out rfl, cell_of_blk KB5.out rfl, cell_of_blk KB5.out rfl, cell_of_blk KB5.out rfl, cell_of_blk KB5.out rfl⟩
  obtain ⟨cT0, cT1⟩ : w5.cell? ⟨bt, 0, none⟩ = some (.int .i64 tx) ∧ w5.cell? ⟨bt, 1, none⟩ = some (.int .i64 ty) := ⟨cell_of_blk KT5.out rfl, cell_of_blk KT5.out rfl⟩
  obtain ⟨hit0, hit1⟩ := idx_lt hN ⟨hont.1, hont.2.1⟩ ⟨hont.2.2.1, hont.2.2.2⟩
  go_wp2_with fail
  refine (index_any W H M B tx ty n cp m ao _ hit0 (by omega) (by omega)).mono ?_
  obtain ⟨it, hit⟩ : ∃ k : Nat, ty * W + tx = k := ⟨(ty * W + tx).toNat, by omega⟩
  rw [hit]
  have HIT := Lib.hid hit
  rintro e w6 ⟨rfl, hb⟩
  have hz6 : b9 < w6.heap.size := by have := hb.size; omega
  have KB6 : Hid (w6.heap[b9]? = some (.cells #[.int .i64 W, .int .i64 H, .int .i64 M, .int .i64 B, .slice ao n cp, .map (some m)] 68 (0, 0))) := Lib.hid ((hb.block _ (by first | omega | (simp; done) | (simp; omega))).trans KB5.out)
  have KT6 : Hid (w6.heap[bt]? = some (.cells #[.int .i64 tx, .int .i64 ty] 26 (0, 0))) := Lib.hid ((hb.block _ (by first | omega | (simp; done) | (simp; omega))).trans KT5.out)
  have KM6 := Lib.hid (KM5.out.keep (hb.block _ KM5.out.lt))
  have HB6 : Hid (Below w.heap.size w w6) := Lib.hid (HB5.out.trans (hb.mono (by omega)))
  obtain ⟨bfa, ofa, rfl, hfc⟩ := (HFAR.out.keep HB6.out) (by omega)
  have hitn : it < nf := by omega
  have ct := hfc it hitn
  obtain ⟨vt, hvt⟩ : ∃ z, f it = z := ⟨_, rfl⟩
  rw [hvt] at ct
  have HVT : Hid (f (ty * W + tx).toNat = vt) := Lib.hid (by rw [HIT.out]; simpa using hvt)
  have hbf0 : bfa < w6.heap.size := World.block_lt_of_cell? _ _ ct
  clear hb hvt hfc hit KB5 KT5 KM5 HB5 cB0 cB1 cB2 cB3 cB4 cB5 cT0 cT1
  by_cases hpos : 0 < vt
  · have HR : Hid (prS W H M tx ty (blkN X Y n) f N = false) := Lib.hid (by unfold prS; rw [HVT.out, decide_eq_true hpos]; rfl)
    go_wp2_with fail
    refine bodyPost_ret (v := .tuple #[.bool false, .int .i64 0]) (by simp [results, Try.results17, go_sem]) rfl ⟨by rw [HAN.out, Bool.true_and, HR.out]; rfl, HB6.out⟩
  have HPOS : Hid (prS W H M tx ty (blkN X Y n) f N = !anyN (fun i => anyN (badS W H M (blkN X Y n) f i) 4) N) := Lib.hid (by unfold prS; rw [HVT.out, decide_eq_false hpos]; simp)
  obtain ⟨cB0, cB1, cB2, cB3, cB4, cB5⟩ : w6.cell? ⟨b9, 0, none⟩ = some (.int .i64 W) ∧ w6.cell? ⟨b9, 1, none⟩ = some (.int .i64 H) ∧ w6.cell? ⟨b9, 2, none⟩ = some (.int .i64 M) ∧ w6.cell? ⟨b9, 3, none⟩ = some (.int .i64 B) ∧ w6.cell? ⟨b9, 4, none⟩ = some (.slice ao n cp) ∧ w6.cell? ⟨b9, 5, none⟩ = some (.map (some m)) := ⟨cell_of_blk KB6.out rfl, cell_of_blk KB6.out rfl, cell_of_blk KB6.out rfl, cell_of_blk KB6.out rfl, cell_of_blk KB6.out rfl, cell_of_blk KB6.out rfl⟩
  obtain ⟨Wn, hWn⟩ : ∃ k : Nat, W = k := ⟨W.toNat, by omega⟩
  obtain ⟨Hn, hHn⟩ : ∃ k : Nat, H = k := ⟨H.toNat, by omega⟩
  have hNN : N = Hn * Wn := by
    have h1 : ((Hn * Wn : Nat) : Int) = (Wn : Int) * Hn := by push_cast; exact Int.mul_comm _ _
    rw [hWn, hHn] at hN
    omega
  have hWn1 : 1 ≤ Wn := by omega
  have hHn1 : 1 ≤ Hn := by omega
  have hN1 : 1 ≤ N := by omega
  have hN9 : N ≤ 900 := by omega
  have hce := cells_any M B Wn Hn n cp m ao w6 (by omega) (by omega)
  rw [← hWn, ← hHn, ← hNN] at hce
  have HCE := Lib.hid hce
  have HWN := Lib.hid hWn
  have HHN := Lib.hid hHn
  have HNN := Lib.hid hNN
  have HN := Lib.hid hN
  have hWn30 : Wn ≤ 30 := by omega
  have hHn30 : Hn ≤ 30 := by omega
  clear hce hWn hHn hNN hN hit0 hit1 hwh1 hwh2
  go_wp2_with fail
  refine HCE.out.mono ?_
  rintro e w7 ⟨vc, rfl, how, hb⟩
  obtain ⟨gc, capc, cur, rfl, hgc, hcur, hent⟩ := own_blk how (clL_len _ _) hN1
  have hz7 : b9 < w7.heap.size := by have := hb.size; omega
  have KB7 : Hid (w7.heap[b9]? = some (.cells #[.int .i64 W, .int .i64 H, .int .i64 M, .int .i64 B, .slice ao n cp, .map (some m)] 68 (0, 0))) := Lib.hid ((hb.block _ (by first | omega | (simp; done) | (simp; omega))).trans KB6.out)
  have KM7 := Lib.hid (KM6.out.keep (hb.block _ KM6.out.lt))
  have HB7 : Hid (Below w.heap.size w w7) := Lib.hid (HB6.out.trans (hb.mono (by omega)))
  have KC7 : Hid (w7.heap[gc]? = some (.cells cur 26 (0, 0))) := Lib.hid hcur
  have hgl : gc < w7.heap.size := (Array.getElem?_eq_some_iff.1 hcur).1
  have HE : Hid (∀ i, i < N → cur[i * 2]? = some (.int .i64 (i % Wn : Nat)) ∧ cur[i * 2 + 1]? = some (.int .i64 (i / Wn : Nat))) := Lib.hid (fun i hi => by have h := hent i hi; rw [clL_get hi] at h; exact h)
  clear how hb hcur hent KB6 KT6 KM6 HB6 HCE ct cB0 cB1 cB2 cB3 cB4 cB5
  go_wp2_with fail
  go_loopg [46] N (fun gg v46 wr => ∃ k : Nat, v46 = .int .i64 k ∧ k ≤ N ∧ Hid (N - k ≤ gg) ∧ Hid (anyN (fun i => anyN (badS W H M (blkN X Y n) f i) 4) k = false) ∧ Hid (wr.heap[b9]? = some (.cells #[.int .i64 W, .int .i64 H, .int .i64 M, .int .i64 B, .slice ao n cp, .map (some m)] 68 (0, 0))) ∧ Hid (BMap wr m n (blkN X Y n)) ∧ Hid (wr.heap[gc]? = some (.cells cur 26 (0, 0))) ∧ Hid (Below w.heap.size w wr) ∧ b9 < wr.heap.size ∧ gc < wr.heap.size)
  case atStart => exact ⟨0, rfl, by omega, Lib.hid (by omega), Lib.hid rfl, KB7, KM7, KC7, HB7, hz7, hgl⟩
  case round =>
    obtain ⟨k, rfl, hk, HG, HA, KB, KM, KC, HB, hz, hzg⟩ := hrel
    clear KB7 KM7 KC7 HB7 hz7 hgl
    by_cases hlt : k < N
    case neg =>
      obtain rfl : k = N := by omega
      have HR : Hid (prS W H M tx ty (blkN X Y n) f k = true) := Lib.hid (by rw [HPOS.out, HA.out]; rfl)
      go_wp2_with fail
      refine bodyPost_ret (v := .tuple #[.bool true, .int .i64 0]) (by simp [results, Try.results17, go_sem]) rfl ⟨by rw [HAN.out, Bool.true_and, HR.out]; rfl, HB.out⟩
    have HGG : Hid (N - k ≤ gk) := Lib.hid HG.out
    obtain ⟨e0, e1⟩ := HE.out k hlt
    obtain ⟨x, hx⟩ : ∃ z : Int, ((k % Wn : Nat) : Int) = z := ⟨_, rfl⟩
    obtain ⟨y, hy⟩ : ∃ z : Int, ((k / Wn : Nat) : Int) = z := ⟨_, rfl⟩
    rw [hx] at e0
    rw [hy] at e1
    have hxb : 0 ≤ x ∧ x < Wn := by
      have h1 := Nat.mod_lt k (show 0 < Wn by omega)
      generalize k % Wn = q at h1 hx
      omega
    have hyb : 0 ≤ y ∧ y < Hn := by
      have h1 : k / Wn < Hn := Nat.div_lt_of_lt_mul (by rw [Nat.mul_comm, ← HNN.out]; exact hlt)
      generalize k / Wn = q at h1 hy
      omega
    have HXY : Hid (((k % W.toNat : Nat) : Int) = x ∧ ((k / W.toNat : Nat) : Int) = y ∧ y * W + x = (k : Int)) := Lib.hid (by
      rw [HWN.out]
      refine ⟨hx, hy, ?_⟩
      rw [← hx, ← hy]
      exact idx_back)
    have c0 : wr.cell? ⟨gc, k * 2, none⟩ = some (.int .i64 x) := cell_of_blk KC.out e0
    have c1 : wr.cell? ⟨gc, k * 2 + 1, none⟩ = some (.int .i64 y) := cell_of_blk KC.out e1
    clear e0 e1 hx hy HG
    obtain ⟨b11, hb11⟩ : ∃ z, z = wr.heap.size := ⟨_, rfl⟩
    obtain ⟨wq, hwq⟩ : ∃ z, z = wr.alloc (.cells #[.int .i64 x, .int .i64 y] 26) := ⟨_, rfl⟩
    have hbq : Below wr.heap.size wr wq := by rw [hwq]; exact bal (Below.refl _ _) _
    have KXq : Hid (wq.heap[b11]? = some (.cells #[.int .i64 x, .int .i64 y] 26 (0, 0))) := Lib.hid (by rw [hwq, hb11]; exact heap_alloc_new wr _)
    have hzq : b11 < wq.heap.size := by rw [hwq, hb11]; simp
    have h9q : b9 < b11 := by omega
    have hgq : gc < b11 := by omega
    have KBq : Hid (wq.heap[b9]? = some (.cells #[.int .i64 W, .int .i64 H, .int .i64 M, .int .i64 B, .slice ao n cp, .map (some m)] 68 (0, 0))) := Lib.hid ((hbq.block _ hz).trans KB.out)
    have KMq := Lib.hid (KM.out.keep (hbq.block _ KM.out.lt))
    have KCq : Hid (wq.heap[gc]? = some (.cells cur 26 (0, 0))) := Lib.hid ((hbq.block _ hzg).trans KC.out)
    have HBq : Hid (Below w.heap.size w wq) := Lib.hid (HB.out.trans (hbq.mono (by omega)))
    have HWQ := Lib.hid hwq
    have HB11 := Lib.hid hb11
    clear hbq KB KM KC HB hwq hz hzg hb11
    go_upto_region 13 with fail
    rw [← HWQ.out, ← HB11.out]
    clear HWQ HB11 c0 c1
    go_wp2_with fail
    go_loopg [50] 4 (fun gg v50 ws => ∃ d : Nat, v50 = .int .i64 d ∧ d ≤ 4 ∧ Hid (4 - d ≤ gg) ∧ Hid (anyN (badS W H M (blkN X Y n) f k) d = false) ∧ Hid (ws.heap[b11]? = some (.cells #[.int .i64 x, .int .i64 y] 26 (0, 0))) ∧ Hid (ws.heap[b9]? = some (.cells #[.int .i64 W, .int .i64 H, .int .i64 M, .int .i64 B, .slice ao n cp, .map (some m)] 68 (0, 0))) ∧ Hid (BMap ws m n (blkN X Y n)) ∧ Hid (ws.heap[gc]? = some (.cells cur 26 (0, 0))) ∧ Hid (Below w.heap.size w ws) ∧ b11 < ws.heap.size)
    case atStart => exact ⟨0, rfl, by omega, Lib.hid (by omega), Lib.hid rfl, KXq, KBq, KMq, KCq, HBq, hzq⟩
    case round =>
      obtain ⟨d, rfl, hd, HGi, HAd, KX, KB, KM, KC, HB, hz⟩ := hrel
      clear KXq KBq KMq KCq HBq hzq
      by_cases hdl : d < 4
      case neg =>
        obtain rfl : d = 4 := by omega
        have HA' : Hid (anyN (fun i => anyN (badS W H M (blkN X Y n) f i) 4) (k + 1) = false) := Lib.hid (by show (anyN _ k || anyN (badS W H M (blkN X Y n) f k) 4) = false; rw [HA.out, HAd.out]; rfl)
        have hz9 : b9 < wr.heap.size := by omega
        have hzg : gc < wr.heap.size := by omega
        go_wp2_with fail
        go_roundg (N - (k + 1))
        case measure => have := HGG.out; omega
        case rel => exact ⟨k + 1, by go_num, by omega, Lib.hid (Nat.le_refl _), HA', KB, KM, KC, HB, hz9, hzg⟩
      have HGD : Hid (4 - d ≤ gk) := Lib.hid HGi.out
      clear HGi
      obtain ⟨px, hpx⟩ : ∃ z, nx x (d : Int) = z := ⟨_, rfl⟩
      obtain ⟨py, hpy⟩ : ∃ z, ny y (d : Int) = z := ⟨_, rfl⟩
      have HPX := Lib.hid (And.intro hpx hpy)
      have HBS : Hid (badS W H M (blkN X Y n) f k d = (opB W H (blkN X Y n) x y && (opB W H (blkN X Y n) px py && decide (f (py * W + px).toNat + M < f k)))) := Lib.hid (by unfold badS; rw [HXY.out.1, HXY.out.2.1, hpx, hpy])
      clear hpx hpy
      obtain ⟨x0, x1⟩ : wr.cell? ⟨b11, 0, none⟩ = some (.int .i64 x) ∧ wr.cell? ⟨b11, 1, none⟩ = some (.int .i64 y) := ⟨cell_of_blk KX.out rfl, cell_of_blk KX.out rfl⟩
      go_wp2_with fail
      refine (beside_any x y d _ (by omega) (by omega) (by omega) (by omega)).mono ?_
      rw [HPX.out.1, HPX.out.2]
      rintro e wb ⟨rfl, hb⟩
      obtain ⟨b13, hb13⟩ : ∃ z, z = wb.heap.size := ⟨_, rfl⟩
      obtain ⟨wd, hwd⟩ : ∃ z, z = wb.alloc (.cells #[.int .i64 px, .int .i64 py] 26) := ⟨_, rfl⟩
      have hbd : Below wr.heap.size wr wd := by rw [hwd]; exact hb.alloc hb.size _
      have K13 : Hid (wd.heap[b13]? = some (.cells #[.int .i64 px, .int .i64 py] 26 (0, 0))) := Lib.hid (by rw [hwd, hb13]; exact heap_alloc_new wb _)
      have hz13 : b11 < b13 := by have := hb.size; omega
      have hzd : b13 < wd.heap.size := by rw [hwd, hb13]; simp
      have KX1 : Hid (wd.heap[b11]? = some (.cells #[.int .i64 x, .int .i64 y] 26 (0, 0))) := Lib.hid ((hbd.block _ hz).trans KX.out)
      have KB1 : Hid (wd.heap[b9]? = some (.cells #[.int .i64 W, .int .i64 H, .int .i64 M, .int .i64 B, .slice ao n cp, .map (some m)] 68 (0, 0))) := Lib.hid ((hbd.block _ (by omega)).trans KB.out)
      have KM1 := Lib.hid (KM.out.keep (hbd.block _ KM.out.lt))
      have KC1 : Hid (wd.heap[gc]? = some (.cells cur 26 (0, 0))) := Lib.hid ((hbd.block _ (by omega)).trans KC.out)
      have HB1 : Hid (Below w.heap.size w wd) := Lib.hid (HB.out.trans (hbd.mono (by omega)))
      have HWD := Lib.hid hwd
      have HB13 := Lib.hid hb13
      clear hb hbd KX KB KM KC HB hwd hb13 x0 x1
      go_upto_region 17 with fail
      rw [← HWD.out, ← HB13.out]
      clear HWD HB13
      have HIK : Hid (∃ b o, w.cell? ⟨b, o, none⟩ = w.cell? ⟨b, o, none⟩) := Lib.hid ⟨0, 0, rfl⟩
      clear HIK
      by_cases hop1 : opB W H (blkN X Y n) x y = true
      case neg =>
        replace hop1 : opB W H (blkN X Y n) x y = false := by simpa using hop1
        have HAn : Hid (anyN (badS W H M (blkN X Y n) f k) (d + 1) = false) := Lib.hid (by show (anyN _ d || badS W H M (blkN X Y n) f k d) = false; rw [HAd.out, HBS.out, hop1]; rfl)
        have G0 : Hid (∀ w' : World, Below wd.heap.size wd w' → w'.heap[b9]? = some (.cells #[.int .i64 W, .int .i64 H, .int .i64 M, .int .i64 B, .slice ao n cp, .map (some m)] 68 (0, 0)) ∧ w'.heap[b11]? = some (.cells #[.int .i64 x, .int .i64 y] 26 (0, 0)) ∧ w'.heap[b13]? = some (.cells #[.int .i64 px, .int .i64 py] 26 (0, 0))) := Lib.hid (fun w' hb => ⟨(hb.block _ (by omega)).trans KB1.out, (hb.block _ (by omega)).trans KX1.out, (hb.block _ hzd).trans K13.out⟩)
        have HQ0 : Below wd.heap.size wd wd.drew := (Below.refl _ _).drew
        refine wp_region_held_drew (S := fun w' => w'.heap[b9]? = some (.cells #[.int .i64 W, .int .i64 H, .int .i64 M, .int .i64 B, .slice ao n cp, .map (some m)] 68 (0, 0)) ∧ w'.heap[b11]? = some (.cells #[.int .i64 x, .int .i64 y] 26 (0, 0)) ∧ w'.heap[b13]? = some (.cells #[.int .i64 px, .int .i64 py] 26 (0, 0))) (by kernel_rfl) (G0.out _ HQ0) (fun hHeld => ?_)
        refine wpAnyH_take (i := 0) (oi := _) (v := _) rfl (by kernel_rfl) (by kernel_rfl) (by kernel_rfl) (fun _ _ _ h => h) (yieldsIf_load_mid (by rfl) 68 _ rfl b9 0 rfl ([.int .i64 W, .int .i64 H, .int .i64 M, .int .i64 B, .slice ao n cp, .map (some m)]) _ (fun w' hh => range_row hh.1 0 [.int .i64 W, .int .i64 H, .int .i64 M, .int .i64 B, .slice ao n cp, .map (some m)] (fun j hj => by simp only [Nat.zero_add, List.getElem?_toArray])) Try.underlying68 rfl (by kernel_rfl)) (by assumption) ?_
        try change wpAnyH _ _ _ _ _ _ _ (Act.put _ (some 56) _) _
        try simp only [act_all]
        refine wpAnyH_take (i := 1) (oi := _) (v := _) rfl (by kernel_rfl) (by kernel_rfl) (by kernel_rfl) (fun _ _ _ h => h) (yieldsIf_load_mid (by rfl) 26 _ rfl b11 0 rfl ([.int .i64 x, .int .i64 y]) _ (fun w' hh => range_row hh.2.1 0 [.int .i64 x, .int .i64 y] (fun j hj => by simp only [Nat.zero_add, List.getElem?_toArray])) Try.underlying26 rfl (by kernel_rfl)) (by assumption) ?_
        try change wpAnyH _ _ _ _ _ _ _ (Act.put _ (some 57) _) _
        try simp only [act_all]
        refine wpAnyH_ready (rs := [2]) (by kernel_rfl) (by simp) ?_
        refine AllReadyH.cons (o := _) rfl (fun K hK => ?_) AllReadyH.nil
        go_simp
        refine (has_any W H M B x y n cp m n ao (blkN X Y n) _ (by omega) (by omega) (KM1.out.keep (HQ0.block _ KM1.out.lt))).mono ?_
        rw [hop1]
        rintro e_ t1 ⟨rfl, hb⟩
        have HQ1 : Below wd.heap.size wd t1 := HQ0.trans (hb.mono HQ0.size)
        clear hb hHeld
        refine hK.out _ _ (G0.out _ HQ1) (fun hHeld => ?_)
        clear hK K
        try simp only [act_all]
        refine wpAnyH_take (i := 3) (oi := _) (v := ?_) rfl (by kernel_rfl) (by kernel_rfl) (by kernel_rfl) (fun _ _ _ h => h) (Or.inl ⟨by rfl, ?_⟩) (by assumption) ?_
        rotate_left
        · intro w hSw; obtain ⟨s0, s1, s2⟩ := hSw; go_simp; (try with_reducible rfl)
        try change wpAnyH _ _ _ _ _ _ _ (Act.put _ (some 59) _) _
        try simp only [act_all]
        refine wpAnyH_take (i := 4) (oi := _) (v := _) rfl (by kernel_rfl) (by kernel_rfl) (by kernel_rfl) (fun _ _ _ h => h) (Or.inr ⟨by rfl, rfl⟩) (by assumption) ?_
        try change wpAnyH _ _ _ _ _ _ _ (Act.put _ (some 60) _) _
        try simp only [act_all]
        refine wpAnyH_take (i := 5) (oi := _) (v := _) rfl (by kernel_rfl) (by kernel_rfl) (by kernel_rfl) (fun _ _ _ h => h) (Or.inr ⟨by rfl, rfl⟩) (by assumption) ?_
        try change wpAnyH _ _ _ _ _ _ _ (Act.put _ (some 61) _) _
        try simp only [act_all]
        refine wpAnyH_take (i := 6) (oi := _) (v := _) rfl (by kernel_rfl) (by kernel_rfl) (by kernel_rfl) (fun _ _ _ h => h) (Or.inr ⟨by rfl, rfl⟩) (by assumption) ?_
        try change wpAnyH _ _ _ _ _ _ _ (Act.put _ (some 62) _) _
        try simp only [act_all]
        refine wpAnyH_take (i := 7) (oi := _) (v := ?_) rfl (by kernel_rfl) (by kernel_rfl) (by kernel_rfl) (fun _ _ _ h => h) (Or.inl ⟨by rfl, ?_⟩) (by assumption) ?_
        rotate_left
        · intro w hSw; obtain ⟨s0, s1, s2⟩ := hSw; go_simp; (try with_reducible rfl)
        try change wpAnyH _ _ _ _ _ _ _ (Act.put _ (some 63) _) _
        try simp only [act_all]
        refine wpAnyH_take (i := 8) (oi := _) (v := ?_) rfl (by kernel_rfl) (by kernel_rfl) (by kernel_rfl) (fun _ _ _ h => h) (Or.inl ⟨by rfl, ?_⟩) (by assumption) ?_
        rotate_left
        · intro w hSw; obtain ⟨s0, s1, s2⟩ := hSw; go_simp; (try with_reducible rfl)
        try change wpAnyH _ _ _ _ _ _ _ (Act.put _ (some 64) _) _
        try simp only [act_all]
        refine wpAnyH_take (i := 9) (oi := _) (v := _) rfl (by kernel_rfl) (by kernel_rfl) (by kernel_rfl) (fun _ _ _ h => h) (Or.inr ⟨by rfl, rfl⟩) (by assumption) ?_
        try change wpAnyH _ _ _ _ _ _ _ (Act.put _ (some 65) _) _
        try simp only [act_all]
        refine wpAnyH_take (i := 10) (oi := _) (v := _) rfl (by kernel_rfl) (by kernel_rfl) (by kernel_rfl) (fun _ _ _ h => h) (Or.inr ⟨by rfl, rfl⟩) (by assumption) ?_
        try change wpAnyH _ _ _ _ _ _ _ (Act.put _ (some 66) _) _
        try simp only [act_all]
        refine wpAnyH_take (i := 11) (oi := _) (v := _) rfl (by kernel_rfl) (by kernel_rfl) (by kernel_rfl) (fun _ _ _ h => h) (Or.inr ⟨by rfl, rfl⟩) (by assumption) ?_
        try change wpAnyH _ _ _ _ _ _ _ (Act.put _ (some 67) _) _
        try simp only [act_all]
        refine wpAnyH_take (i := 12) (oi := _) (v := _) rfl (by kernel_rfl) (by kernel_rfl) (by kernel_rfl) (fun _ _ _ h => h) (Or.inr ⟨by rfl, rfl⟩) (by assumption) ?_
        try change wpAnyH _ _ _ _ _ _ _ (Act.put _ (some 68) _) _
        try simp only [act_all]
        refine wpAnyH_take (i := 13) (oi := _) (v := _) rfl (by kernel_rfl) (by kernel_rfl) (by kernel_rfl) (fun _ _ _ h => h) (Or.inr ⟨by rfl, rfl⟩) (by assumption) ?_
        try change wpAnyH _ _ _ _ _ _ _ (Act.put _ (some 69) _) _
        try simp only [act_all]
        refine wpAnyH_take (i := 14) (oi := _) (v := _) rfl (by kernel_rfl) (by kernel_rfl) (by kernel_rfl) (fun _ _ _ h => h) (Or.inr ⟨by rfl, rfl⟩) (by assumption) ?_
        try change wpAnyH _ _ _ _ _ _ _ (Act.put _ (some 70) _) _
        try simp only [act_all]
        refine wpAnyH_take (i := 15) (oi := _) (v := _) rfl (by kernel_rfl) (by kernel_rfl) (by kernel_rfl) (fun _ _ _ h => h) (Or.inr ⟨by rfl, rfl⟩) (by assumption) ?_
        try change wpAnyH _ _ _ _ _ _ _ (Act.put _ (some 71) _) _
        try simp only [act_all]
        refine wpAnyH_take (i := 16) (oi := _) (v := _) rfl (by kernel_rfl) (by kernel_rfl) (by kernel_rfl) (fun _ _ _ h => h) (Or.inr ⟨by rfl, rfl⟩) (by assumption) ?_
        try change wpAnyH _ _ _ _ _ _ _ (Act.put _ (some 72) _) _
        try simp only [act_all]
        refine wpAnyH_take (i := 17) (oi := _) (v := _) rfl (by kernel_rfl) (by kernel_rfl) (by kernel_rfl) (fun _ _ _ h => h) (Or.inr ⟨by rfl, rfl⟩) (by assumption) ?_
        try change wpAnyH _ _ _ _ _ _ _ (Act.put _ (some 73) _) _
        try simp only [act_all]
        refine wpAnyH_take (i := 18) (oi := _) (v := _) rfl (by kernel_rfl) (by kernel_rfl) (by kernel_rfl) (fun _ _ _ h => h) (Or.inr ⟨by rfl, rfl⟩) (by assumption) ?_
        try change wpAnyH _ _ _ _ _ _ _ (Act.put _ (some 74) _) _
        try simp only [act_all]
        refine wpAnyH_take (i := 19) (oi := _) (v := _) rfl (by kernel_rfl) (by kernel_rfl) (by kernel_rfl) (fun _ _ _ h => h) (Or.inr ⟨by rfl, rfl⟩) (by assumption) ?_
        try change wpAnyH _ _ _ _ _ _ _ (Act.put _ (some 75) _) _
        try simp only [act_all]
        refine wpAnyH_take (i := 20) (oi := _) (v := _) rfl (by kernel_rfl) (by kernel_rfl) (by kernel_rfl) (fun _ _ _ h => h) (Or.inr ⟨by rfl, rfl⟩) (by assumption) ?_
        try change wpAnyH _ _ _ _ _ _ _ (Act.put _ (some 76) _) _
        try simp only [act_all]
        refine wpAnyH_take (i := 21) (oi := _) (v := _) rfl (by kernel_rfl) (by kernel_rfl) (by kernel_rfl) (fun _ _ _ h => h) (Or.inr ⟨by rfl, rfl⟩) (by assumption) ?_
        try change wpAnyH _ _ _ _ _ _ _ (Act.put _ (some 77) _) _
        try simp only [act_all]
        refine wpAnyH_take (i := 22) (oi := _) (v := _) rfl (by kernel_rfl) (by kernel_rfl) (by kernel_rfl) (fun _ _ _ h => h) (Or.inr ⟨by rfl, rfl⟩) (by assumption) ?_
        try change wpAnyH _ _ _ _ _ _ _ (Act.put _ (some 78) _) _
        try simp only [act_all]
        refine wpAnyH_take (i := 23) (oi := _) (v := _) rfl (by kernel_rfl) (by kernel_rfl) (by kernel_rfl) (fun _ _ _ h => h) (Or.inr ⟨by rfl, rfl⟩) (by assumption) ?_
        try change wpAnyH _ _ _ _ _ _ _ (Act.put _ (some 79) _) _
        try simp only [act_all]
        refine wpAnyH_take (i := 24) (oi := _) (v := _) rfl (by kernel_rfl) (by kernel_rfl) (by kernel_rfl) (fun _ _ _ h => h) (Or.inr ⟨by rfl, rfl⟩) (by assumption) ?_
        try change wpAnyH _ _ _ _ _ _ _ (Act.put _ (some 80) _) _
        try simp only [act_all]
        refine wpAnyH_take (i := 25) (oi := _) (v := _) rfl (by kernel_rfl) (by kernel_rfl) (by kernel_rfl) (fun _ _ _ h => h) (Or.inr ⟨by rfl, rfl⟩) (by assumption) ?_
        try change wpAnyH _ _ _ _ _ _ _ (Act.put _ (some 81) _) _
        try simp only [act_all]
        refine wpAnyH_take (i := 26) (oi := _) (v := ?_) rfl (by kernel_rfl) (by kernel_rfl) (by kernel_rfl) (fun _ _ _ h => h) (Or.inl ⟨by rfl, ?_⟩) (by assumption) ?_
        rotate_left
        · intro w hSw; obtain ⟨s0, s1, s2⟩ := hSw; go_simp; (try with_reducible rfl)
        try change wpAnyH _ _ _ _ _ _ _ (Act.put _ (some 82) _) _
        try simp only [act_all]
        refine wpAnyH_done (by kernel_rfl) ?_ _
        clear hHeld
        have hlast := HQ1
        have hz9 := HQ1.size
        go_wp2_with fail
        go_roundg (4 - (d + 1))
        case measure => have := HGD.out; omega
        case rel => exact ⟨d + 1, by go_num, by omega, Lib.hid (Nat.le_refl _), HAn, Lib.hid ((hlast.block _ (by omega)).trans KX1.out), Lib.hid ((hlast.block _ (by omega)).trans KB1.out), Lib.hid (KM1.out.keep (hlast.block _ KM1.out.lt)), Lib.hid ((hlast.block _ (by omega)).trans KC1.out), Lib.hid (HB1.out.trans (hlast.mono (by omega))), by omega⟩
      by_cases hop2 : opB W H (blkN X Y n) px py = true
      case neg =>
        replace hop2 : opB W H (blkN X Y n) px py = false := by simpa using hop2
        have HAn : Hid (anyN (badS W H M (blkN X Y n) f k) (d + 1) = false) := Lib.hid (by show (anyN _ d || badS W H M (blkN X Y n) f k d) = false; rw [HAd.out, HBS.out, hop2]; simp)
        have G0 : Hid (∀ w' : World, Below wd.heap.size wd w' → w'.heap[b9]? = some (.cells #[.int .i64 W, .int .i64 H, .int .i64 M, .int .i64 B, .slice ao n cp, .map (some m)] 68 (0, 0)) ∧ w'.heap[b11]? = some (.cells #[.int .i64 x, .int .i64 y] 26 (0, 0)) ∧ w'.heap[b13]? = some (.cells #[.int .i64 px, .int .i64 py] 26 (0, 0))) := Lib.hid (fun w' hb => ⟨(hb.block _ (by omega)).trans KB1.out, (hb.block _ (by omega)).trans KX1.out, (hb.block _ hzd).trans K13.out⟩)
        have HQ0 : Below wd.heap.size wd wd.drew := (Below.refl _ _).drew
        refine wp_region_held_drew (S := fun w' => w'.heap[b9]? = some (.cells #[.int .i64 W, .int .i64 H, .int .i64 M, .int .i64 B, .slice ao n cp, .map (some m)] 68 (0, 0)) ∧ w'.heap[b11]? = some (.cells #[.int .i64 x, .int .i64 y] 26 (0, 0)) ∧ w'.heap[b13]? = some (.cells #[.int .i64 px, .int .i64 py] 26 (0, 0))) (by kernel_rfl) (G0.out _ HQ0) (fun hHeld => ?_)
        refine wpAnyH_take (i := 0) (oi := _) (v := _) rfl (by kernel_rfl) (by kernel_rfl) (by kernel_rfl) (fun _ _ _ h => h) (yieldsIf_load_mid (by rfl) 68 _ rfl b9 0 rfl ([.int .i64 W, .int .i64 H, .int .i64 M, .int .i64 B, .slice ao n cp, .map (some m)]) _ (fun w' hh => range_row hh.1 0 [.int .i64 W, .int .i64 H, .int .i64 M, .int .i64 B, .slice ao n cp, .map (some m)] (fun j hj => by simp only [Nat.zero_add, List.getElem?_toArray])) Try.underlying68 rfl (by kernel_rfl)) (by assumption) ?_
        try change wpAnyH _ _ _ _ _ _ _ (Act.put _ (some 56) _) _
        try simp only [act_all]
        refine wpAnyH_take (i := 1) (oi := _) (v := _) rfl (by kernel_rfl) (by kernel_rfl) (by kernel_rfl) (fun _ _ _ h => h) (yieldsIf_load_mid (by rfl) 26 _ rfl b11 0 rfl ([.int .i64 x, .int .i64 y]) _ (fun w' hh => range_row hh.2.1 0 [.int .i64 x, .int .i64 y] (fun j hj => by simp only [Nat.zero_add, List.getElem?_toArray])) Try.underlying26 rfl (by kernel_rfl)) (by assumption) ?_
        try change wpAnyH _ _ _ _ _ _ _ (Act.put _ (some 57) _) _
        try simp only [act_all]
        refine wpAnyH_ready (rs := [2]) (by kernel_rfl) (by simp) ?_
        refine AllReadyH.cons (o := _) rfl (fun K hK => ?_) AllReadyH.nil
        go_simp
        refine (has_any W H M B x y n cp m n ao (blkN X Y n) _ (by omega) (by omega) (KM1.out.keep (HQ0.block _ KM1.out.lt))).mono ?_
        rw [hop1]
        rintro e_ t2 ⟨rfl, hb⟩
        have HQ2 : Below wd.heap.size wd t2 := HQ0.trans (hb.mono HQ0.size)
        clear hb hHeld
        refine hK.out _ _ (G0.out _ HQ2) (fun hHeld => ?_)
        clear hK K
        try simp only [act_all]
        refine wpAnyH_take (i := 3) (oi := _) (v := ?_) rfl (by kernel_rfl) (by kernel_rfl) (by kernel_rfl) (fun _ _ _ h => h) (Or.inl ⟨by rfl, ?_⟩) (by assumption) ?_
        rotate_left
        · intro w hSw; obtain ⟨s0, s1, s2⟩ := hSw; go_simp; (try with_reducible rfl)
        try change wpAnyH _ _ _ _ _ _ _ (Act.put _ (some 59) _) _
        try simp only [act_all]
        refine wpAnyH_take (i := 4) (oi := _) (v := _) rfl (by kernel_rfl) (by kernel_rfl) (by kernel_rfl) (fun _ _ _ h => h) (yieldsIf_load_mid (by rfl) 68 _ rfl b9 0 rfl ([.int .i64 W, .int .i64 H, .int .i64 M, .int .i64 B, .slice ao n cp, .map (some m)]) _ (fun w' hh => range_row hh.1 0 [.int .i64 W, .int .i64 H, .int .i64 M, .int .i64 B, .slice ao n cp, .map (some m)] (fun j hj => by simp only [Nat.zero_add, List.getElem?_toArray])) Try.underlying68 rfl (by kernel_rfl)) (by assumption) ?_
        try change wpAnyH _ _ _ _ _ _ _ (Act.put _ (some 60) _) _
        try simp only [act_all]
        refine wpAnyH_take (i := 5) (oi := _) (v := _) rfl (by kernel_rfl) (by kernel_rfl) (by kernel_rfl) (fun _ _ _ h => h) (yieldsIf_load_mid (by rfl) 26 _ rfl b13 0 rfl ([.int .i64 px, .int .i64 py]) _ (fun w' hh => range_row hh.2.2 0 [.int .i64 px, .int .i64 py] (fun j hj => by simp only [Nat.zero_add, List.getElem?_toArray])) Try.underlying26 rfl (by kernel_rfl)) (by assumption) ?_
        try change wpAnyH _ _ _ _ _ _ _ (Act.put _ (some 61) _) _
        try simp only [act_all]
        refine wpAnyH_ready (rs := [6]) (by kernel_rfl) (by simp) ?_
        refine AllReadyH.cons (o := _) rfl (fun K hK => ?_) AllReadyH.nil
        go_simp
        refine (has_any W H M B px py n cp m n ao (blkN X Y n) _ (by omega) (by omega) (KM1.out.keep (HQ2.block _ KM1.out.lt))).mono ?_
        rw [hop2]
        rintro e_ t3 ⟨rfl, hb⟩
        have HQ3 : Below wd.heap.size wd t3 := HQ2.trans (hb.mono HQ2.size)
        clear hb hHeld
        refine hK.out _ _ (G0.out _ HQ3) (fun hHeld => ?_)
        clear hK K
        try simp only [act_all]
        refine wpAnyH_take (i := 7) (oi := _) (v := ?_) rfl (by kernel_rfl) (by kernel_rfl) (by kernel_rfl) (fun _ _ _ h => h) (Or.inl ⟨by rfl, ?_⟩) (by assumption) ?_
        rotate_left
        · intro w hSw; obtain ⟨s0, s1, s2⟩ := hSw; go_simp; (try with_reducible rfl)
        try change wpAnyH _ _ _ _ _ _ _ (Act.put _ (some 63) _) _
        try simp only [act_all]
        refine wpAnyH_take (i := 8) (oi := _) (v := ?_) rfl (by kernel_rfl) (by kernel_rfl) (by kernel_rfl) (fun _ _ _ h => h) (Or.inl ⟨by rfl, ?_⟩) (by assumption) ?_
        rotate_left
        · intro w hSw; obtain ⟨s0, s1, s2⟩ := hSw; go_simp; (try with_reducible rfl)
        try change wpAnyH _ _ _ _ _ _ _ (Act.put _ (some 64) _) _
        try simp only [act_all]
        refine wpAnyH_take (i := 9) (oi := _) (v := _) rfl (by kernel_rfl) (by kernel_rfl) (by kernel_rfl) (fun _ _ _ h => h) (Or.inr ⟨by rfl, rfl⟩) (by assumption) ?_
        try change wpAnyH _ _ _ _ _ _ _ (Act.put _ (some 65) _) _
        try simp only [act_all]
        refine wpAnyH_take (i := 10) (oi := _) (v := _) rfl (by kernel_rfl) (by kernel_rfl) (by kernel_rfl) (fun _ _ _ h => h) (Or.inr ⟨by rfl, rfl⟩) (by assumption) ?_
        try change wpAnyH _ _ _ _ _ _ _ (Act.put _ (some 66) _) _
        try simp only [act_all]
        refine wpAnyH_take (i := 11) (oi := _) (v := _) rfl (by kernel_rfl) (by kernel_rfl) (by kernel_rfl) (fun _ _ _ h => h) (Or.inr ⟨by rfl, rfl⟩) (by assumption) ?_
        try change wpAnyH _ _ _ _ _ _ _ (Act.put _ (some 67) _) _
        try simp only [act_all]
        refine wpAnyH_take (i := 12) (oi := _) (v := _) rfl (by kernel_rfl) (by kernel_rfl) (by kernel_rfl) (fun _ _ _ h => h) (Or.inr ⟨by rfl, rfl⟩) (by assumption) ?_
        try change wpAnyH _ _ _ _ _ _ _ (Act.put _ (some 68) _) _
        try simp only [act_all]
        refine wpAnyH_take (i := 13) (oi := _) (v := _) rfl (by kernel_rfl) (by kernel_rfl) (by kernel_rfl) (fun _ _ _ h => h) (Or.inr ⟨by rfl, rfl⟩) (by assumption) ?_
        try change wpAnyH _ _ _ _ _ _ _ (Act.put _ (some 69) _) _
        try simp only [act_all]
        refine wpAnyH_take (i := 14) (oi := _) (v := _) rfl (by kernel_rfl) (by kernel_rfl) (by kernel_rfl) (fun _ _ _ h => h) (Or.inr ⟨by rfl, rfl⟩) (by assumption) ?_
        try change wpAnyH _ _ _ _ _ _ _ (Act.put _ (some 70) _) _
        try simp only [act_all]
        refine wpAnyH_take (i := 15) (oi := _) (v := _) rfl (by kernel_rfl) (by kernel_rfl) (by kernel_rfl) (fun _ _ _ h => h) (Or.inr ⟨by rfl, rfl⟩) (by assumption) ?_
        try change wpAnyH _ _ _ _ _ _ _ (Act.put _ (some 71) _) _
        try simp only [act_all]
        refine wpAnyH_take (i := 16) (oi := _) (v := _) rfl (by kernel_rfl) (by kernel_rfl) (by kernel_rfl) (fun _ _ _ h => h) (Or.inr ⟨by rfl, rfl⟩) (by assumption) ?_
        try change wpAnyH _ _ _ _ _ _ _ (Act.put _ (some 72) _) _
        try simp only [act_all]
        refine wpAnyH_take (i := 17) (oi := _) (v := _) rfl (by kernel_rfl) (by kernel_rfl) (by kernel_rfl) (fun _ _ _ h => h) (Or.inr ⟨by rfl, rfl⟩) (by assumption) ?_
        try change wpAnyH _ _ _ _ _ _ _ (Act.put _ (some 73) _) _
        try simp only [act_all]
        refine wpAnyH_take (i := 18) (oi := _) (v := _) rfl (by kernel_rfl) (by kernel_rfl) (by kernel_rfl) (fun _ _ _ h => h) (Or.inr ⟨by rfl, rfl⟩) (by assumption) ?_
        try change wpAnyH _ _ _ _ _ _ _ (Act.put _ (some 74) _) _
        try simp only [act_all]
        refine wpAnyH_take (i := 19) (oi := _) (v := _) rfl (by kernel_rfl) (by kernel_rfl) (by kernel_rfl) (fun _ _ _ h => h) (Or.inr ⟨by rfl, rfl⟩) (by assumption) ?_
        try change wpAnyH _ _ _ _ _ _ _ (Act.put _ (some 75) _) _
        try simp only [act_all]
        refine wpAnyH_take (i := 20) (oi := _) (v := _) rfl (by kernel_rfl) (by kernel_rfl) (by kernel_rfl) (fun _ _ _ h => h) (Or.inr ⟨by rfl, rfl⟩) (by assumption) ?_
        try change wpAnyH _ _ _ _ _ _ _ (Act.put _ (some 76) _) _
        try simp only [act_all]
        refine wpAnyH_take (i := 21) (oi := _) (v := _) rfl (by kernel_rfl) (by kernel_rfl) (by kernel_rfl) (fun _ _ _ h => h) (Or.inr ⟨by rfl, rfl⟩) (by assumption) ?_
        try change wpAnyH _ _ _ _ _ _ _ (Act.put _ (some 77) _) _
        try simp only [act_all]
        refine wpAnyH_take (i := 22) (oi := _) (v := _) rfl (by kernel_rfl) (by kernel_rfl) (by kernel_rfl) (fun _ _ _ h => h) (Or.inr ⟨by rfl, rfl⟩) (by assumption) ?_
        try change wpAnyH _ _ _ _ _ _ _ (Act.put _ (some 78) _) _
        try simp only [act_all]
        refine wpAnyH_take (i := 23) (oi := _) (v := _) rfl (by kernel_rfl) (by kernel_rfl) (by kernel_rfl) (fun _ _ _ h => h) (Or.inr ⟨by rfl, rfl⟩) (by assumption) ?_
        try change wpAnyH _ _ _ _ _ _ _ (Act.put _ (some 79) _) _
        try simp only [act_all]
        refine wpAnyH_take (i := 24) (oi := _) (v := _) rfl (by kernel_rfl) (by kernel_rfl) (by kernel_rfl) (fun _ _ _ h => h) (Or.inr ⟨by rfl, rfl⟩) (by assumption) ?_
        try change wpAnyH _ _ _ _ _ _ _ (Act.put _ (some 80) _) _
        try simp only [act_all]
        refine wpAnyH_take (i := 25) (oi := _) (v := _) rfl (by kernel_rfl) (by kernel_rfl) (by kernel_rfl) (fun _ _ _ h => h) (Or.inr ⟨by rfl, rfl⟩) (by assumption) ?_
        try change wpAnyH _ _ _ _ _ _ _ (Act.put _ (some 81) _) _
        try simp only [act_all]
        refine wpAnyH_take (i := 26) (oi := _) (v := ?_) rfl (by kernel_rfl) (by kernel_rfl) (by kernel_rfl) (fun _ _ _ h => h) (Or.inl ⟨by rfl, ?_⟩) (by assumption) ?_
        rotate_left
        · intro w hSw; obtain ⟨s0, s1, s2⟩ := hSw; go_simp; (try with_reducible rfl)
        try change wpAnyH _ _ _ _ _ _ _ (Act.put _ (some 82) _) _
        try simp only [act_all]
        refine wpAnyH_done (by kernel_rfl) ?_ _
        clear hHeld
        have hlast := HQ3
        have hz9 := HQ3.size
        go_wp2_with fail
        go_roundg (4 - (d + 1))
        case measure => have := HGD.out; omega
        case rel => exact ⟨d + 1, by go_num, by omega, Lib.hid (Nat.le_refl _), HAn, Lib.hid ((hlast.block _ (by omega)).trans KX1.out), Lib.hid ((hlast.block _ (by omega)).trans KB1.out), Lib.hid (KM1.out.keep (hlast.block _ KM1.out.lt)), Lib.hid ((hlast.block _ (by omega)).trans KC1.out), Lib.hid (HB1.out.trans (hlast.mono (by omega))), by omega⟩
      have hpon := (opB_iff.1 hop2).1
      obtain ⟨hk0, hk1⟩ := idx_lt HN.out (x := x) (y := y) ⟨hxb.1, by rw [HWN.out]; exact hxb.2⟩ ⟨hyb.1, by rw [HHN.out]; exact hyb.2⟩
      obtain ⟨hj0, hj1⟩ := idx_lt HN.out (x := px) (y := py) ⟨hpon.1, hpon.2.1⟩ ⟨hpon.2.2.1, hpon.2.2.2⟩
      obtain ⟨j, hj⟩ : ∃ k : Nat, py * W + px = k := ⟨(py * W + px).toNat, by omega⟩
      have hjN : j < N := by omega
      have HJ := Lib.hid hj
      obtain ⟨vk, hvk⟩ : ∃ z, f k = z := ⟨_, rfl⟩
      obtain ⟨vj, hvj⟩ : ∃ z, f j = z := ⟨_, rfl⟩
      have hab1 := HABS.out k (by omega)
      have hab2 := HABS.out j hjN
      rw [hvk] at hab1
      rw [hvj] at hab2
      obtain ⟨bq, oq, heq, hfc⟩ := (HFAR.out.keep HB1.out) (by omega)
      simp only [Option.some.injEq, Addr.mk.injEq, and_true] at heq
      obtain ⟨rfl, rfl⟩ := heq
      have cK : Hid (wd.cell? ⟨bfa, ofa + k, none⟩ = some (.int .i64 vk)) := Lib.hid (by rw [← hvk]; exact hfc k (by omega))
      have cJ : Hid (wd.cell? ⟨bfa, ofa + j, none⟩ = some (.int .i64 vj)) := Lib.hid (by rw [← hvj]; exact hfc j (by omega))
      have HBV : Hid (badS W H M (blkN X Y n) f k d = decide (vj + M < vk)) := Lib.hid (by rw [HBS.out, hop1, hop2, Bool.true_and, Bool.true_and, hj, hvk]; simp [hvj])
      have hkN : k < nf := by omega
      have hjn : j < nf := by omega
      have WR1 : Hid (IntKind.i64.wrap (vj + M) = vj + M) := Lib.hid (by rw [IntKind.wrap_i64]; omega)
      clear hj hvk hvj hfc
      by_cases hlt2 : vj + M < vk
      case pos =>
        have HR : Hid (prS W H M tx ty (blkN X Y n) f N = false) := Lib.hid (by rw [HPOS.out, anyN_stop (k := k) (anyN_stop (k := d) (by rw [HBV.out]; exact decide_eq_true hlt2) 4 hdl) N hlt]; rfl)
        have G0 : Hid (∀ w' : World, Below wd.heap.size wd w' → w'.heap[b9]? = some (.cells #[.int .i64 W, .int .i64 H, .int .i64 M, .int .i64 B, .slice ao n cp, .map (some m)] 68 (0, 0)) ∧ w'.heap[b11]? = some (.cells #[.int .i64 x, .int .i64 y] 26 (0, 0)) ∧ w'.heap[b13]? = some (.cells #[.int .i64 px, .int .i64 py] 26 (0, 0)) ∧ w'.cell? ⟨b9, 2, none⟩ = some (.int .i64 M) ∧ w'.cell? ⟨bfa, ofa + k, none⟩ = some (.int .i64 vk) ∧ w'.cell? ⟨bfa, ofa + j, none⟩ = some (.int .i64 vj)) := Lib.hid (fun w' hb => ⟨(hb.block _ (by omega)).trans KB1.out, (hb.block _ (by omega)).trans KX1.out, (hb.block _ hzd).trans K13.out, cell_of_blk ((hb.block _ (by omega)).trans KB1.out) rfl, ((bcl hb).1 _ _ (World.block_lt_of_cell? _ _ cK.out)).trans cK.out, ((bcl hb).1 _ _ (World.block_lt_of_cell? _ _ cJ.out)).trans cJ.out⟩)
        have HQ0 : Below wd.heap.size wd wd.drew := (Below.refl _ _).drew
        refine wp_region_held_drew (S := fun w' => w'.heap[b9]? = some (.cells #[.int .i64 W, .int .i64 H, .int .i64 M, .int .i64 B, .slice ao n cp, .map (some m)] 68 (0, 0)) ∧ w'.heap[b11]? = some (.cells #[.int .i64 x, .int .i64 y] 26 (0, 0)) ∧ w'.heap[b13]? = some (.cells #[.int .i64 px, .int .i64 py] 26 (0, 0)) ∧ w'.cell? ⟨b9, 2, none⟩ = some (.int .i64 M) ∧ w'.cell? ⟨bfa, ofa + k, none⟩ = some (.int .i64 vk) ∧ w'.cell? ⟨bfa, ofa + j, none⟩ = some (.int .i64 vj)) (by kernel_rfl) (G0.out _ HQ0) (fun hHeld => ?_)
        refine wpAnyH_take (i := 0) (oi := _) (v := _) rfl (by kernel_rfl) (by kernel_rfl) (by kernel_rfl) (fun _ _ _ h => h) (yieldsIf_load_mid (by rfl) 68 _ rfl b9 0 rfl ([.int .i64 W, .int .i64 H, .int .i64 M, .int .i64 B, .slice ao n cp, .map (some m)]) _ (fun w' hh => range_row hh.1 0 [.int .i64 W, .int .i64 H, .int .i64 M, .int .i64 B, .slice ao n cp, .map (some m)] (fun j hj => by simp only [Nat.zero_add, List.getElem?_toArray])) Try.underlying68 rfl (by kernel_rfl)) (by assumption) ?_
        try change wpAnyH _ _ _ _ _ _ _ (Act.put _ (some 56) _) _
        try simp only [act_all]
        refine wpAnyH_take (i := 1) (oi := _) (v := _) rfl (by kernel_rfl) (by kernel_rfl) (by kernel_rfl) (fun _ _ _ h => h) (yieldsIf_load_mid (by rfl) 26 _ rfl b11 0 rfl ([.int .i64 x, .int .i64 y]) _ (fun w' hh => range_row hh.2.1 0 [.int .i64 x, .int .i64 y] (fun j hj => by simp only [Nat.zero_add, List.getElem?_toArray])) Try.underlying26 rfl (by kernel_rfl)) (by assumption) ?_
        try change wpAnyH _ _ _ _ _ _ _ (Act.put _ (some 57) _) _
        try simp only [act_all]
        refine wpAnyH_ready (rs := [2]) (by kernel_rfl) (by simp) ?_
        refine AllReadyH.cons (o := _) rfl (fun K hK => ?_) AllReadyH.nil
        go_simp
        refine (has_any W H M B x y n cp m n ao (blkN X Y n) _ (by omega) (by omega) (KM1.out.keep (HQ0.block _ KM1.out.lt))).mono ?_
        rw [hop1]
        rintro e_ t4 ⟨rfl, hb⟩
        have HQ4 : Below wd.heap.size wd t4 := HQ0.trans (hb.mono HQ0.size)
        clear hb hHeld
        refine hK.out _ _ (G0.out _ HQ4) (fun hHeld => ?_)
        clear hK K
        try simp only [act_all]
        refine wpAnyH_take (i := 3) (oi := _) (v := ?_) rfl (by kernel_rfl) (by kernel_rfl) (by kernel_rfl) (fun _ _ _ h => h) (Or.inl ⟨by rfl, ?_⟩) (by assumption) ?_
        rotate_left
        · intro w hSw; obtain ⟨s0, s1, s2, s3, s4, s5⟩ := hSw; go_simp; (try with_reducible rfl)
        try change wpAnyH _ _ _ _ _ _ _ (Act.put _ (some 59) _) _
        try simp only [act_all]
        refine wpAnyH_take (i := 4) (oi := _) (v := _) rfl (by kernel_rfl) (by kernel_rfl) (by kernel_rfl) (fun _ _ _ h => h) (yieldsIf_load_mid (by rfl) 68 _ rfl b9 0 rfl ([.int .i64 W, .int .i64 H, .int .i64 M, .int .i64 B, .slice ao n cp, .map (some m)]) _ (fun w' hh => range_row hh.1 0 [.int .i64 W, .int .i64 H, .int .i64 M, .int .i64 B, .slice ao n cp, .map (some m)] (fun j hj => by simp only [Nat.zero_add, List.getElem?_toArray])) Try.underlying68 rfl (by kernel_rfl)) (by assumption) ?_
        try change wpAnyH _ _ _ _ _ _ _ (Act.put _ (some 60) _) _
        try simp only [act_all]
        refine wpAnyH_take (i := 5) (oi := _) (v := _) rfl (by kernel_rfl) (by kernel_rfl) (by kernel_rfl) (fun _ _ _ h => h) (yieldsIf_load_mid (by rfl) 26 _ rfl b13 0 rfl ([.int .i64 px, .int .i64 py]) _ (fun w' hh => range_row hh.2.2.1 0 [.int .i64 px, .int .i64 py] (fun j hj => by simp only [Nat.zero_add, List.getElem?_toArray])) Try.underlying26 rfl (by kernel_rfl)) (by assumption) ?_
        try change wpAnyH _ _ _ _ _ _ _ (Act.put _ (some 61) _) _
        try simp only [act_all]
        refine wpAnyH_ready (rs := [6]) (by kernel_rfl) (by simp) ?_
        refine AllReadyH.cons (o := _) rfl (fun K hK => ?_) AllReadyH.nil
        go_simp
        refine (has_any W H M B px py n cp m n ao (blkN X Y n) _ (by omega) (by omega) (KM1.out.keep (HQ4.block _ KM1.out.lt))).mono ?_
        rw [hop2]
        rintro e_ t5 ⟨rfl, hb⟩
        have HQ5 : Below wd.heap.size wd t5 := HQ4.trans (hb.mono HQ4.size)
        clear hb hHeld
        refine hK.out _ _ (G0.out _ HQ5) (fun hHeld => ?_)
        clear hK K
        try simp only [act_all]
        refine wpAnyH_take (i := 7) (oi := _) (v := ?_) rfl (by kernel_rfl) (by kernel_rfl) (by kernel_rfl) (fun _ _ _ h => h) (Or.inl ⟨by rfl, ?_⟩) (by assumption) ?_
        rotate_left
        · intro w hSw; obtain ⟨s0, s1, s2, s3, s4, s5⟩ := hSw; go_simp; (try with_reducible rfl)
        try change wpAnyH _ _ _ _ _ _ _ (Act.put _ (some 63) _) _
        try simp only [act_all]
        refine wpAnyH_take (i := 8) (oi := _) (v := ?_) rfl (by kernel_rfl) (by kernel_rfl) (by kernel_rfl) (fun _ _ _ h => h) (Or.inl ⟨by rfl, ?_⟩) (by assumption) ?_
        rotate_left
        · intro w hSw; obtain ⟨s0, s1, s2, s3, s4, s5⟩ := hSw; go_simp; (try with_reducible rfl)
        try change wpAnyH _ _ _ _ _ _ _ (Act.put _ (some 64) _) _
        try simp only [act_all]
        refine wpAnyH_take (i := 9) (oi := _) (v := ?_) rfl (by kernel_rfl) (by kernel_rfl) (by kernel_rfl) (fun _ _ _ h => h) (Or.inl ⟨by rfl, ?_⟩) (by assumption) ?_
        rotate_left
        · intro w hSw; obtain ⟨s0, s1, s2, s3, s4, s5⟩ := hSw; go_simp; (try with_reducible rfl)
        try change wpAnyH _ _ _ _ _ _ _ (Act.put _ (some 65) _) _
        try simp only [act_all]
        refine wpAnyH_take (i := 10) (oi := _) (v := _) rfl (by kernel_rfl) (by kernel_rfl) (by kernel_rfl) (fun _ _ _ h => h) (yieldsIf_load_mid (by rfl) 68 _ rfl b9 0 rfl ([.int .i64 W, .int .i64 H, .int .i64 M, .int .i64 B, .slice ao n cp, .map (some m)]) _ (fun w' hh => range_row hh.1 0 [.int .i64 W, .int .i64 H, .int .i64 M, .int .i64 B, .slice ao n cp, .map (some m)] (fun j hj => by simp only [Nat.zero_add, List.getElem?_toArray])) Try.underlying68 rfl (by kernel_rfl)) (by assumption) ?_
        try change wpAnyH _ _ _ _ _ _ _ (Act.put _ (some 66) _) _
        try simp only [act_all]
        refine wpAnyH_take (i := 11) (oi := _) (v := _) rfl (by kernel_rfl) (by kernel_rfl) (by kernel_rfl) (fun _ _ _ h => h) (yieldsIf_load_mid (by rfl) 26 _ rfl b11 0 rfl ([.int .i64 x, .int .i64 y]) _ (fun w' hh => range_row hh.2.1 0 [.int .i64 x, .int .i64 y] (fun j hj => by simp only [Nat.zero_add, List.getElem?_toArray])) Try.underlying26 rfl (by kernel_rfl)) (by assumption) ?_
        try change wpAnyH _ _ _ _ _ _ _ (Act.put _ (some 67) _) _
        try simp only [act_all]
        refine wpAnyH_take (i := 15) (oi := _) (v := ?_) rfl (by kernel_rfl) (by kernel_rfl) (by kernel_rfl) (fun _ _ _ h => h) (Or.inl ⟨by rfl, ?_⟩) (by assumption) ?_
        rotate_left
        · intro w hSw; obtain ⟨s0, s1, s2, s3, s4, s5⟩ := hSw; go_simp; (try with_reducible rfl)
        try change wpAnyH _ _ _ _ _ _ _ (Act.put _ (some 71) _) _
        try simp only [act_all]
        refine wpAnyH_take (i := 16) (oi := _) (v := _) rfl (by kernel_rfl) (by kernel_rfl) (by kernel_rfl) (fun _ _ _ h => h) (yieldsIf_load_mid (by rfl) 68 _ rfl b9 0 rfl ([.int .i64 W, .int .i64 H, .int .i64 M, .int .i64 B, .slice ao n cp, .map (some m)]) _ (fun w' hh => range_row hh.1 0 [.int .i64 W, .int .i64 H, .int .i64 M, .int .i64 B, .slice ao n cp, .map (some m)] (fun j hj => by simp only [Nat.zero_add, List.getElem?_toArray])) Try.underlying68 rfl (by kernel_rfl)) (by assumption) ?_
        try change wpAnyH _ _ _ _ _ _ _ (Act.put _ (some 72) _) _
        try simp only [act_all]
        refine wpAnyH_take (i := 17) (oi := _) (v := _) rfl (by kernel_rfl) (by kernel_rfl) (by kernel_rfl) (fun _ _ _ h => h) (yieldsIf_load_mid (by rfl) 26 _ rfl b13 0 rfl ([.int .i64 px, .int .i64 py]) _ (fun w' hh => range_row hh.2.2.1 0 [.int .i64 px, .int .i64 py] (fun j hj => by simp only [Nat.zero_add, List.getElem?_toArray])) Try.underlying26 rfl (by kernel_rfl)) (by assumption) ?_
        try change wpAnyH _ _ _ _ _ _ _ (Act.put _ (some 73) _) _
        try simp only [act_all]
        refine wpAnyH_take (i := 21) (oi := _) (v := ?_) rfl (by kernel_rfl) (by kernel_rfl) (by kernel_rfl) (fun _ _ _ h => h) (Or.inl ⟨by rfl, ?_⟩) (by assumption) ?_
        rotate_left
        · intro w hSw; obtain ⟨s0, s1, s2, s3, s4, s5⟩ := hSw; go_simp; (try with_reducible rfl)
        try change wpAnyH _ _ _ _ _ _ _ (Act.put _ (some 77) _) _
        try simp only [act_all]
        refine wpAnyH_take (i := 22) (oi := _) (v := ?_) rfl (by kernel_rfl) (by kernel_rfl) (by kernel_rfl) (fun _ _ _ h => h) (Or.inl ⟨by rfl, ?_⟩) (by assumption) ?_
        rotate_left
        · intro w hSw; obtain ⟨s0, s1, s2, s3, s4, s5⟩ := hSw; go_simp; (try with_reducible rfl)
        try change wpAnyH _ _ _ _ _ _ _ (Act.put _ (some 78) _) _
        try simp only [act_all]
        refine wpAnyH_take (i := 23) (oi := _) (v := ?_) rfl (by kernel_rfl) (by kernel_rfl) (by kernel_rfl) (fun _ _ _ h => h) (Or.inl ⟨by rfl, ?_⟩) (by assumption) ?_
        rotate_left
        · intro w hSw; obtain ⟨s0, s1, s2, s3, s4, s5⟩ := hSw; go_simp; (try with_reducible rfl)
        try change wpAnyH _ _ _ _ _ _ _ (Act.put _ (some 79) _) _
        try simp only [act_all]
        refine wpAnyH_ready (rs := [12]) (by kernel_rfl) (by simp) ?_
        refine AllReadyH.cons (o := _) rfl (fun K hK => ?_) AllReadyH.nil
        go_simp
        refine (index_any W H M B x y n cp m ao _ hk0 (by omega) (by omega)).mono ?_
        rw [HXY.out.2.2]
        rintro e_ t6 ⟨rfl, hb⟩
        have HQ6 : Below wd.heap.size wd t6 := HQ5.trans (hb.mono HQ5.size)
        clear hb hHeld
        refine hK.out _ _ (G0.out _ HQ6) (fun hHeld => ?_)
        clear hK K
        try simp only [act_all]
        refine wpAnyH_take (i := 13) (oi := _) (v := ?_) rfl (by kernel_rfl) (by kernel_rfl) (by kernel_rfl) (fun _ _ _ h => h) (Or.inl ⟨by rfl, ?_⟩) (by assumption) ?_
        rotate_left
        · intro w hSw; obtain ⟨s0, s1, s2, s3, s4, s5⟩ := hSw; go_simp; (try with_reducible rfl)
        try change wpAnyH _ _ _ _ _ _ _ (Act.put _ (some 69) _) _
        try simp only [act_all]
        refine wpAnyH_take (i := 14) (oi := _) (v := ?_) rfl (by kernel_rfl) (by kernel_rfl) (by kernel_rfl) (fun _ _ _ h => h) (Or.inl ⟨by rfl, ?_⟩) (by assumption) ?_
        rotate_left
        · intro w hSw; obtain ⟨s0, s1, s2, s3, s4, s5⟩ := hSw; go_simp; (try with_reducible rfl)
        try change wpAnyH _ _ _ _ _ _ _ (Act.put _ (some 70) _) _
        try simp only [act_all]
        refine wpAnyH_ready (rs := [18]) (by kernel_rfl) (by simp) ?_
        refine AllReadyH.cons (o := _) rfl (fun K hK => ?_) AllReadyH.nil
        go_simp
        refine (index_any W H M B px py n cp m ao _ hj0 (by omega) (by omega)).mono ?_
        rw [HJ.out]
        rintro e_ t7 ⟨rfl, hb⟩
        have HQ7 : Below wd.heap.size wd t7 := HQ6.trans (hb.mono HQ6.size)
        clear hb hHeld
        refine hK.out _ _ (G0.out _ HQ7) (fun hHeld => ?_)
        clear hK K
        try simp only [act_all]
        refine wpAnyH_take (i := 19) (oi := _) (v := ?_) rfl (by kernel_rfl) (by kernel_rfl) (by kernel_rfl) (fun _ _ _ h => h) (Or.inl ⟨by rfl, ?_⟩) (by assumption) ?_
        rotate_left
        · intro w hSw; obtain ⟨s0, s1, s2, s3, s4, s5⟩ := hSw; go_simp; (try with_reducible rfl)
        try change wpAnyH _ _ _ _ _ _ _ (Act.put _ (some 75) _) _
        try simp only [act_all]
        refine wpAnyH_take (i := 20) (oi := _) (v := ?_) rfl (by kernel_rfl) (by kernel_rfl) (by kernel_rfl) (fun _ _ _ h => h) (Or.inl ⟨by rfl, ?_⟩) (by assumption) ?_
        rotate_left
        · intro w hSw; obtain ⟨s0, s1, s2, s3, s4, s5⟩ := hSw; go_simp; (try with_reducible rfl)
        try change wpAnyH _ _ _ _ _ _ _ (Act.put _ (some 76) _) _
        try simp only [act_all]
        refine wpAnyH_take (i := 24) (oi := _) (v := ?_) rfl (by kernel_rfl) (by kernel_rfl) (by kernel_rfl) (fun _ _ _ h => h) (Or.inl ⟨by rfl, ?_⟩) (by assumption) ?_
        rotate_left
        · intro w hSw; obtain ⟨s0, s1, s2, s3, s4, s5⟩ := hSw; go_simp; (try with_reducible rfl)
        try change wpAnyH _ _ _ _ _ _ _ (Act.put _ (some 80) _) _
        try simp only [act_all]
        refine wpAnyH_take (i := 25) (oi := _) (v := ?_) rfl (by kernel_rfl) (by kernel_rfl) (by kernel_rfl) (fun _ _ _ h => h) (Or.inl ⟨by rfl, ?_⟩) (by assumption) ?_
        rotate_left
        · intro w hSw; obtain ⟨s0, s1, s2, s3, s4, s5⟩ := hSw; go_simp; (try with_reducible rfl)
        try change wpAnyH _ _ _ _ _ _ _ (Act.put _ (some 81) _) _
        try simp only [act_all]
        refine wpAnyH_take (i := 26) (oi := _) (v := ?_) rfl (by kernel_rfl) (by kernel_rfl) (by kernel_rfl) (fun _ _ _ h => h) (Or.inl ⟨by rfl, ?_⟩) (by assumption) ?_
        rotate_left
        · intro w hSw; obtain ⟨s0, s1, s2, s3, s4, s5⟩ := hSw; go_simp; (try with_reducible rfl)
        try change wpAnyH _ _ _ _ _ _ _ (Act.put _ (some 82) _) _
        try simp only [act_all]
        refine wpAnyH_done (by kernel_rfl) ?_ _
        clear hHeld
        rw [WR1.out]
        have HRR := Lib.hid (HB1.out.trans (HQ7.mono (by omega)))
        go_wp2_with fail
        refine bodyPost_ret (v := .tuple #[.bool false, .int .i64 0]) (by simp [results, Try.results17, go_sem]) rfl ⟨by rw [HAN.out, Bool.true_and, HR.out]; rfl, HRR.out⟩
      have HAn : Hid (anyN (badS W H M (blkN X Y n) f k) (d + 1) = false) := Lib.hid (by show (anyN _ d || badS W H M (blkN X Y n) f k d) = false; rw [HAd.out, HBV.out, decide_eq_false hlt2]; rfl)
      have G0 : Hid (∀ w' : World, Below wd.heap.size wd w' → w'.heap[b9]? = some (.cells #[.int .i64 W, .int .i64 H, .int .i64 M, .int .i64 B, .slice ao n cp, .map (some m)] 68 (0, 0)) ∧ w'.heap[b11]? = some (.cells #[.int .i64 x, .int .i64 y] 26 (0, 0)) ∧ w'.heap[b13]? = some (.cells #[.int .i64 px, .int .i64 py] 26 (0, 0)) ∧ w'.cell? ⟨b9, 2, none⟩ = some (.int .i64 M) ∧ w'.cell? ⟨bfa, ofa + k, none⟩ = some (.int .i64 vk) ∧ w'.cell? ⟨bfa, ofa + j, none⟩ = some (.int .i64 vj)) := Lib.hid (fun w' hb => ⟨(hb.block _ (by omega)).trans KB1.out, (hb.block _ (by omega)).trans KX1.out, (hb.block _ hzd).trans K13.out, cell_of_blk ((hb.block _ (by omega)).trans KB1.out) rfl, ((bcl hb).1 _ _ (World.block_lt_of_cell? _ _ cK.out)).trans cK.out, ((bcl hb).1 _ _ (World.block_lt_of_cell? _ _ cJ.out)).trans cJ.out⟩)
      have HQ0 : Below wd.heap.size wd wd.drew := (Below.refl _ _).drew
      refine wp_region_held_drew (S := fun w' => w'.heap[b9]? = some (.cells #[.int .i64 W, .int .i64 H, .int .i64 M, .int .i64 B, .slice ao n cp, .map (some m)] 68 (0, 0)) ∧ w'.heap[b11]? = some (.cells #[.int .i64 x, .int .i64 y] 26 (0, 0)) ∧ w'.heap[b13]? = some (.cells #[.int .i64 px, .int .i64 py] 26 (0, 0)) ∧ w'.cell? ⟨b9, 2, none⟩ = some (.int .i64 M) ∧ w'.cell? ⟨bfa, ofa + k, none⟩ = some (.int .i64 vk) ∧ w'.cell? ⟨bfa, ofa + j, none⟩ = some (.int .i64 vj)) (by kernel_rfl) (G0.out _ HQ0) (fun hHeld => ?_)
      refine wpAnyH_take (i := 0) (oi := _) (v := _) rfl (by kernel_rfl) (by kernel_rfl) (by kernel_rfl) (fun _ _ _ h => h) (yieldsIf_load_mid (by rfl) 68 _ rfl b9 0 rfl ([.int .i64 W, .int .i64 H, .int .i64 M, .int .i64 B, .slice ao n cp, .map (some m)]) _ (fun w' hh => range_row hh.1 0 [.int .i64 W, .int .i64 H, .int .i64 M, .int .i64 B, .slice ao n cp, .map (some m)] (fun j hj => by simp only [Nat.zero_add, List.getElem?_toArray])) Try.underlying68 rfl (by kernel_rfl)) (by assumption) ?_
      try change wpAnyH _ _ _ _ _ _ _ (Act.put _ (some 56) _) _
      try simp only [act_all]
      refine wpAnyH_take (i := 1) (oi := _) (v := _) rfl (by kernel_rfl) (by kernel_rfl) (by kernel_rfl) (fun _ _ _ h => h) (yieldsIf_load_mid (by rfl) 26 _ rfl b11 0 rfl ([.int .i64 x, .int .i64 y]) _ (fun w' hh => range_row hh.2.1 0 [.int .i64 x, .int .i64 y] (fun j hj => by simp only [Nat.zero_add, List.getElem?_toArray])) Try.underlying26 rfl (by kernel_rfl)) (by assumption) ?_
      try change wpAnyH _ _ _ _ _ _ _ (Act.put _ (some 57) _) _
      try simp only [act_all]
      refine wpAnyH_ready (rs := [2]) (by kernel_rfl) (by simp) ?_
      refine AllReadyH.cons (o := _) rfl (fun K hK => ?_) AllReadyH.nil
      go_simp
      refine (has_any W H M B x y n cp m n ao (blkN X Y n) _ (by omega) (by omega) (KM1.out.keep (HQ0.block _ KM1.out.lt))).mono ?_
      rw [hop1]
      rintro e_ t8 ⟨rfl, hb⟩
      have HQ8 : Below wd.heap.size wd t8 := HQ0.trans (hb.mono HQ0.size)
      clear hb hHeld
      refine hK.out _ _ (G0.out _ HQ8) (fun hHeld => ?_)
      clear hK K
      try simp only [act_all]
      refine wpAnyH_take (i := 3) (oi := _) (v := ?_) rfl (by kernel_rfl) (by kernel_rfl) (by kernel_rfl) (fun _ _ _ h => h) (Or.inl ⟨by rfl, ?_⟩) (by assumption) ?_
      rotate_left
      · intro w hSw; obtain ⟨s0, s1, s2, s3, s4, s5⟩ := hSw; go_simp; (try with_reducible rfl)
      try change wpAnyH _ _ _ _ _ _ _ (Act.put _ (some 59) _) _
      try simp only [act_all]
      refine wpAnyH_take (i := 4) (oi := _) (v := _) rfl (by kernel_rfl) (by kernel_rfl) (by kernel_rfl) (fun _ _ _ h => h) (yieldsIf_load_mid (by rfl) 68 _ rfl b9 0 rfl ([.int .i64 W, .int .i64 H, .int .i64 M, .int .i64 B, .slice ao n cp, .map (some m)]) _ (fun w' hh => range_row hh.1 0 [.int .i64 W, .int .i64 H, .int .i64 M, .int .i64 B, .slice ao n cp, .map (some m)] (fun j hj => by simp only [Nat.zero_add, List.getElem?_toArray])) Try.underlying68 rfl (by kernel_rfl)) (by assumption) ?_
      try change wpAnyH _ _ _ _ _ _ _ (Act.put _ (some 60) _) _
      try simp only [act_all]
      refine wpAnyH_take (i := 5) (oi := _) (v := _) rfl (by kernel_rfl) (by kernel_rfl) (by kernel_rfl) (fun _ _ _ h => h) (yieldsIf_load_mid (by rfl) 26 _ rfl b13 0 rfl ([.int .i64 px, .int .i64 py]) _ (fun w' hh => range_row hh.2.2.1 0 [.int .i64 px, .int .i64 py] (fun j hj => by simp only [Nat.zero_add, List.getElem?_toArray])) Try.underlying26 rfl (by kernel_rfl)) (by assumption) ?_
      try change wpAnyH _ _ _ _ _ _ _ (Act.put _ (some 61) _) _
      try simp only [act_all]
      refine wpAnyH_ready (rs := [6]) (by kernel_rfl) (by simp) ?_
      refine AllReadyH.cons (o := _) rfl (fun K hK => ?_) AllReadyH.nil
      go_simp
      refine (has_any W H M B px py n cp m n ao (blkN X Y n) _ (by omega) (by omega) (KM1.out.keep (HQ8.block _ KM1.out.lt))).mono ?_
      rw [hop2]
      rintro e_ t9 ⟨rfl, hb⟩
      have HQ9 : Below wd.heap.size wd t9 := HQ8.trans (hb.mono HQ8.size)
      clear hb hHeld
      refine hK.out _ _ (G0.out _ HQ9) (fun hHeld => ?_)
      clear hK K
      try simp only [act_all]
      refine wpAnyH_take (i := 7) (oi := _) (v := ?_) rfl (by kernel_rfl) (by kernel_rfl) (by kernel_rfl) (fun _ _ _ h => h) (Or.inl ⟨by rfl, ?_⟩) (by assumption) ?_
      rotate_left
      · intro w hSw; obtain ⟨s0, s1, s2, s3, s4, s5⟩ := hSw; go_simp; (try with_reducible rfl)
      try change wpAnyH _ _ _ _ _ _ _ (Act.put _ (some 63) _) _
      try simp only [act_all]
      refine wpAnyH_take (i := 8) (oi := _) (v := ?_) rfl (by kernel_rfl) (by kernel_rfl) (by kernel_rfl) (fun _ _ _ h => h) (Or.inl ⟨by rfl, ?_⟩) (by assumption) ?_
      rotate_left
      · intro w hSw; obtain ⟨s0, s1, s2, s3, s4, s5⟩ := hSw; go_simp; (try with_reducible rfl)
      try change wpAnyH _ _ _ _ _ _ _ (Act.put _ (some 64) _) _
      try simp only [act_all]
      refine wpAnyH_take (i := 9) (oi := _) (v := ?_) rfl (by kernel_rfl) (by kernel_rfl) (by kernel_rfl) (fun _ _ _ h => h) (Or.inl ⟨by rfl, ?_⟩) (by assumption) ?_
      rotate_left
      · intro w hSw; obtain ⟨s0, s1, s2, s3, s4, s5⟩ := hSw; go_simp; (try with_reducible rfl)
      try change wpAnyH _ _ _ _ _ _ _ (Act.put _ (some 65) _) _
      try simp only [act_all]
      refine wpAnyH_take (i := 10) (oi := _) (v := _) rfl (by kernel_rfl) (by kernel_rfl) (by kernel_rfl) (fun _ _ _ h => h) (yieldsIf_load_mid (by rfl) 68 _ rfl b9 0 rfl ([.int .i64 W, .int .i64 H, .int .i64 M, .int .i64 B, .slice ao n cp, .map (some m)]) _ (fun w' hh => range_row hh.1 0 [.int .i64 W, .int .i64 H, .int .i64 M, .int .i64 B, .slice ao n cp, .map (some m)] (fun j hj => by simp only [Nat.zero_add, List.getElem?_toArray])) Try.underlying68 rfl (by kernel_rfl)) (by assumption) ?_
      try change wpAnyH _ _ _ _ _ _ _ (Act.put _ (some 66) _) _
      try simp only [act_all]
      refine wpAnyH_take (i := 11) (oi := _) (v := _) rfl (by kernel_rfl) (by kernel_rfl) (by kernel_rfl) (fun _ _ _ h => h) (yieldsIf_load_mid (by rfl) 26 _ rfl b11 0 rfl ([.int .i64 x, .int .i64 y]) _ (fun w' hh => range_row hh.2.1 0 [.int .i64 x, .int .i64 y] (fun j hj => by simp only [Nat.zero_add, List.getElem?_toArray])) Try.underlying26 rfl (by kernel_rfl)) (by assumption) ?_
      try change wpAnyH _ _ _ _ _ _ _ (Act.put _ (some 67) _) _
      try simp only [act_all]
      refine wpAnyH_take (i := 15) (oi := _) (v := ?_) rfl (by kernel_rfl) (by kernel_rfl) (by kernel_rfl) (fun _ _ _ h => h) (Or.inl ⟨by rfl, ?_⟩) (by assumption) ?_
      rotate_left
      · intro w hSw; obtain ⟨s0, s1, s2, s3, s4, s5⟩ := hSw; go_simp; (try with_reducible rfl)
      try change wpAnyH _ _ _ _ _ _ _ (Act.put _ (some 71) _) _
      try simp only [act_all]
      refine wpAnyH_take (i := 16) (oi := _) (v := _) rfl (by kernel_rfl) (by kernel_rfl) (by kernel_rfl) (fun _ _ _ h => h) (yieldsIf_load_mid (by rfl) 68 _ rfl b9 0 rfl ([.int .i64 W, .int .i64 H, .int .i64 M, .int .i64 B, .slice ao n cp, .map (some m)]) _ (fun w' hh => range_row hh.1 0 [.int .i64 W, .int .i64 H, .int .i64 M, .int .i64 B, .slice ao n cp, .map (some m)] (fun j hj => by simp only [Nat.zero_add, List.getElem?_toArray])) Try.underlying68 rfl (by kernel_rfl)) (by assumption) ?_
      try change wpAnyH _ _ _ _ _ _ _ (Act.put _ (some 72) _) _
      try simp only [act_all]
      refine wpAnyH_take (i := 17) (oi := _) (v := _) rfl (by kernel_rfl) (by kernel_rfl) (by kernel_rfl) (fun _ _ _ h => h) (yieldsIf_load_mid (by rfl) 26 _ rfl b13 0 rfl ([.int .i64 px, .int .i64 py]) _ (fun w' hh => range_row hh.2.2.1 0 [.int .i64 px, .int .i64 py] (fun j hj => by simp only [Nat.zero_add, List.getElem?_toArray])) Try.underlying26 rfl (by kernel_rfl)) (by assumption) ?_
      try change wpAnyH _ _ _ _ _ _ _ (Act.put _ (some 73) _) _
      try simp only [act_all]
      refine wpAnyH_take (i := 21) (oi := _) (v := ?_) rfl (by kernel_rfl) (by kernel_rfl) (by kernel_rfl) (fun _ _ _ h => h) (Or.inl ⟨by rfl, ?_⟩) (by assumption) ?_
      rotate_left
      · intro w hSw; obtain ⟨s0, s1, s2, s3, s4, s5⟩ := hSw; go_simp; (try with_reducible rfl)
      try change wpAnyH _ _ _ _ _ _ _ (Act.put _ (some 77) _) _
      try simp only [act_all]
      refine wpAnyH_take (i := 22) (oi := _) (v := ?_) rfl (by kernel_rfl) (by kernel_rfl) (by kernel_rfl) (fun _ _ _ h => h) (Or.inl ⟨by rfl, ?_⟩) (by assumption) ?_
      rotate_left
      · intro w hSw; obtain ⟨s0, s1, s2, s3, s4, s5⟩ := hSw; go_simp; (try with_reducible rfl)
      try change wpAnyH _ _ _ _ _ _ _ (Act.put _ (some 78) _) _
      try simp only [act_all]
      refine wpAnyH_take (i := 23) (oi := _) (v := ?_) rfl (by kernel_rfl) (by kernel_rfl) (by kernel_rfl) (fun _ _ _ h => h) (Or.inl ⟨by rfl, ?_⟩) (by assumption) ?_
      rotate_left
      · intro w hSw; obtain ⟨s0, s1, s2, s3, s4, s5⟩ := hSw; go_simp; (try with_reducible rfl)
      try change wpAnyH _ _ _ _ _ _ _ (Act.put _ (some 79) _) _
      try simp only [act_all]
      refine wpAnyH_ready (rs := [12]) (by kernel_rfl) (by simp) ?_
      refine AllReadyH.cons (o := _) rfl (fun K hK => ?_) AllReadyH.nil
      go_simp
      refine (index_any W H M B x y n cp m ao _ hk0 (by omega) (by omega)).mono ?_
      rw [HXY.out.2.2]
      rintro e_ t10 ⟨rfl, hb⟩
      have HQ10 : Below wd.heap.size wd t10 := HQ9.trans (hb.mono HQ9.size)
      clear hb hHeld
      refine hK.out _ _ (G0.out _ HQ10) (fun hHeld => ?_)
      clear hK K
      try simp only [act_all]
      refine wpAnyH_take (i := 13) (oi := _) (v := ?_) rfl (by kernel_rfl) (by kernel_rfl) (by kernel_rfl) (fun _ _ _ h => h) (Or.inl ⟨by rfl, ?_⟩) (by assumption) ?_
      rotate_left
      · intro w hSw; obtain ⟨s0, s1, s2, s3, s4, s5⟩ := hSw; go_simp; (try with_reducible rfl)
      try change wpAnyH _ _ _ _ _ _ _ (Act.put _ (some 69) _) _
      try simp only [act_all]
      refine wpAnyH_take (i := 14) (oi := _) (v := ?_) rfl (by kernel_rfl) (by kernel_rfl) (by kernel_rfl) (fun _ _ _ h => h) (Or.inl ⟨by rfl, ?_⟩) (by assumption) ?_
      rotate_left
      · intro w hSw; obtain ⟨s0, s1, s2, s3, s4, s5⟩ := hSw; go_simp; (try with_reducible rfl)
      try change wpAnyH _ _ _ _ _ _ _ (Act.put _ (some 70) _) _
      try simp only [act_all]
      refine wpAnyH_ready (rs := [18]) (by kernel_rfl) (by simp) ?_
      refine AllReadyH.cons (o := _) rfl (fun K hK => ?_) AllReadyH.nil
      go_simp
      refine (index_any W H M B px py n cp m ao _ hj0 (by omega) (by omega)).mono ?_
      rw [HJ.out]
      rintro e_ t11 ⟨rfl, hb⟩
      have HQ11 : Below wd.heap.size wd t11 := HQ10.trans (hb.mono HQ10.size)
      clear hb hHeld
      refine hK.out _ _ (G0.out _ HQ11) (fun hHeld => ?_)
      clear hK K
      try simp only [act_all]
      refine wpAnyH_take (i := 19) (oi := _) (v := ?_) rfl (by kernel_rfl) (by kernel_rfl) (by kernel_rfl) (fun _ _ _ h => h) (Or.inl ⟨by rfl, ?_⟩) (by assumption) ?_
      rotate_left
      · intro w hSw; obtain ⟨s0, s1, s2, s3, s4, s5⟩ := hSw; go_simp; (try with_reducible rfl)
      try change wpAnyH _ _ _ _ _ _ _ (Act.put _ (some 75) _) _
      try simp only [act_all]
      refine wpAnyH_take (i := 20) (oi := _) (v := ?_) rfl (by kernel_rfl) (by kernel_rfl) (by kernel_rfl) (fun _ _ _ h => h) (Or.inl ⟨by rfl, ?_⟩) (by assumption) ?_
      rotate_left
      · intro w hSw; obtain ⟨s0, s1, s2, s3, s4, s5⟩ := hSw; go_simp; (try with_reducible rfl)
      try change wpAnyH _ _ _ _ _ _ _ (Act.put _ (some 76) _) _
      try simp only [act_all]
      refine wpAnyH_take (i := 24) (oi := _) (v := ?_) rfl (by kernel_rfl) (by kernel_rfl) (by kernel_rfl) (fun _ _ _ h => h) (Or.inl ⟨by rfl, ?_⟩) (by assumption) ?_
      rotate_left
      · intro w hSw; obtain ⟨s0, s1, s2, s3, s4, s5⟩ := hSw; go_simp; (try with_reducible rfl)
      try change wpAnyH _ _ _ _ _ _ _ (Act.put _ (some 80) _) _
      try simp only [act_all]
      refine wpAnyH_take (i := 25) (oi := _) (v := ?_) rfl (by kernel_rfl) (by kernel_rfl) (by kernel_rfl) (fun _ _ _ h => h) (Or.inl ⟨by rfl, ?_⟩) (by assumption) ?_
      rotate_left
      · intro w hSw; obtain ⟨s0, s1, s2, s3, s4, s5⟩ := hSw; go_simp; (try with_reducible rfl)
      try change wpAnyH _ _ _ _ _ _ _ (Act.put _ (some 81) _) _
      try simp only [act_all]
      refine wpAnyH_take (i := 26) (oi := _) (v := ?_) rfl (by kernel_rfl) (by kernel_rfl) (by kernel_rfl) (fun _ _ _ h => h) (Or.inl ⟨by rfl, ?_⟩) (by assumption) ?_
      rotate_left
      · intro w hSw; obtain ⟨s0, s1, s2, s3, s4, s5⟩ := hSw; go_simp; (try with_reducible rfl)
      try change wpAnyH _ _ _ _ _ _ _ (Act.put _ (some 82) _) _
      try simp only [act_all]
      refine wpAnyH_done (by kernel_rfl) ?_ _
      clear hHeld
      rw [WR1.out]
      have hlast := HQ11
      have hz9 := HQ11.size
      go_wp2_with fail
      go_roundg (4 - (d + 1))
      case measure => have := HGD.out; omega
      case rel => exact ⟨d + 1, by go_num, by omega, Lib.hid (Nat.le_refl _), HAn, Lib.hid ((hlast.block _ (by omega)).trans KX1.out), Lib.hid ((hlast.block _ (by omega)).trans KB1.out), Lib.hid (KM1.out.keep (hlast.block _ KM1.out.lt)), Lib.hid ((hlast.block _ (by omega)).trans KC1.out), Lib.hid (HB1.out.trans (hlast.mono (by omega))), by omega⟩
end Go.Proofs.Ytkkcnhhfdicppaa
