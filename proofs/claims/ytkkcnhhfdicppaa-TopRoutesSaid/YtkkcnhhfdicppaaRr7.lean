import Derived.Test.YtkkcnhhfdicppaaRm7
import Derived.Deep.QuietTactic
import Derived.BigQuiet
namespace Go.Proofs.Ytkkcnhhfdicppaa
open Go.RowKit Lay
set_option maxRecDepth 100000 in
set_option maxHeartbeats 8000000 in
theorem place_any (W H M B x y : Int) (n cp m : Nat) (ao : Option Addr) (w : World) (hW : W ≤ 30) (hH : H ≤ 30) (h0 : 0 ≤ x) (h1 : x < W) (h2 : 0 ≤ y) (h3 : y < H) :
    Calls Try.prog 40 #[bdV W H M B ao n cp m, .agg #[.int .i64 x, .int .i64 y]] w fun e w' => e = .returned (.tuple #[.int .i64 (max (riP W H x y) 0), .bool (decide (0 ≤ riP W H x y))]) ∧ Below w.heap.size w w' := by
  by_cases k0 : y = 0
  case pos =>
    have HR : Hid (riP W H x y = x) := Lib.hid (by unfold riP; rw [if_pos k0])
    have e1 : IntKind.i64.wrap (W - 1) = W - 1 := by go_arith
    have e2 : IntKind.i64.wrap (H - 1) = H - 1 := by go_arith
    go_enter Try.func40, Try.ntmps40
    go_upto_region 1 with fail
    go_quiet (fail)
    go_wp2_with fail
    refine bodyPost_ret (v := .tuple #[.int .i64 (x), .bool true]) (by simp [results, Try.results40, go_sem]) rfl ⟨by rw [HR.out, decide_eq_true (by omega), Int.max_eq_left (by omega)], drewN_below (by go_grown)⟩
  by_cases k1 : x = W - 1
  case pos =>
    have HR : Hid (riP W H x y = W - 1 + y) := Lib.hid (by unfold riP; rw [if_neg k0]; rw [if_pos k1])
    have e1 : IntKind.i64.wrap (W - 1) = W - 1 := by go_arith
    have e2 : IntKind.i64.wrap (H - 1) = H - 1 := by go_arith
    go_enter Try.func40, Try.ntmps40
    go_upto_region 1 with fail
    go_quiet (fail)
    go_wp2_with fail
    refine bodyPost_ret (v := .tuple #[.int .i64 (W - 1 + y), .bool true]) (by simp [results, Try.results40, go_sem]) rfl ⟨by rw [HR.out, decide_eq_true (by omega), Int.max_eq_left (by omega)], drewN_below (by go_grown)⟩
  by_cases k2 : y = H - 1
  case pos =>
    have HR : Hid (riP W H x y = W - 1 + (H - 1) + (W - 1) - x) := Lib.hid (by unfold riP; rw [if_neg k0]; rw [if_neg k1]; rw [if_pos k2])
    have e1 : IntKind.i64.wrap (W - 1) = W - 1 := by go_arith
    have e2 : IntKind.i64.wrap (H - 1) = H - 1 := by go_arith
    go_enter Try.func40, Try.ntmps40
    go_upto_region 1 with fail
    go_quiet (fail)
    go_wp2_with fail
    refine bodyPost_ret (v := .tuple #[.int .i64 (W - 1 + (H - 1) + (W - 1) - x), .bool true]) (by simp [results, Try.results40, go_sem]) rfl ⟨by rw [HR.out, decide_eq_true (by omega), Int.max_eq_left (by omega)], drewN_below (by go_grown)⟩
  by_cases k3 : x = 0
  case pos =>
    have HR : Hid (riP W H x y = W - 1 + (H - 1) + (W - 1) + (H - 1) - y) := Lib.hid (by unfold riP; rw [if_neg k0]; rw [if_neg k1]; rw [if_neg k2]; rw [if_pos k3])
    have e1 : IntKind.i64.wrap (W - 1) = W - 1 := by go_arith
    have e2 : IntKind.i64.wrap (H - 1) = H - 1 := by go_arith
    go_enter Try.func40, Try.ntmps40
    go_upto_region 1 with fail
    go_quiet (fail)
    go_wp2_with fail
    refine bodyPost_ret (v := .tuple #[.int .i64 (W - 1 + (H - 1) + (W - 1) + (H - 1) - y), .bool true]) (by simp [results, Try.results40, go_sem]) rfl ⟨by rw [HR.out, decide_eq_true (by omega), Int.max_eq_left (by omega)], drewN_below (by go_grown)⟩
  have HR : Hid (riP W H x y = -1) := Lib.hid (by unfold riP; rw [if_neg k0]; rw [if_neg k1]; rw [if_neg k2]; rw [if_neg k3])
  have e1 : IntKind.i64.wrap (W - 1) = W - 1 := by go_arith
  have e2 : IntKind.i64.wrap (H - 1) = H - 1 := by go_arith
  go_enter Try.func40, Try.ntmps40
  go_upto_region 1 with fail
  go_quiet (fail)
  go_wp2_with fail
  refine bodyPost_ret (v := .tuple #[.int .i64 (0), .bool false]) (by simp [results, Try.results40, go_sem]) rfl ⟨by rw [HR.out, decide_eq_false (by omega), Int.max_eq_right (by omega)], drewN_below (by go_grown)⟩
set_option maxRecDepth 100000 in
set_option maxHeartbeats 8000000 in
theorem rHas_any (x y : Int) (n cp : Nat) (ao : Option Addr) (X Y : Nat → Int) (w : World) (hn : n ≤ 9223372036854775807) (hc : XYs w ao n X Y) :
    Calls Try.prog 80 #[.slice ao n cp, .agg #[.int .i64 x, .int .i64 y]] w fun e w' => e = .returned (.bool (blkN X Y n x y)) ∧ Below w.heap.size w w' := by
  have HC := Lib.hid hc
  clear hc
  go_enter Try.func80, Try.ntmps80
  go_wp2_with fail
  go_loopw [9] (fun iv wr => ∃ k : Nat, iv = .int .i64 k ∧ k ≤ n ∧ Hid (blkN X Y k x y = false) ∧ Hid (wr.heap[w.heap.size]? = some (.cells #[.int .i64 x, .int .i64 y] 26 (0, 0))) ∧ Hid (Below w.heap.size w wr) ∧ w.heap.size < wr.heap.size) (fun iv _ => n - (intOf iv).toNat)
  case atStart => exact ⟨0, rfl, Nat.zero_le _, Lib.hid rfl, Lib.hid (heap_alloc_new w _), Lib.hid (by go_grown), by simp⟩
  case round =>
    obtain ⟨k, rfl, hk, HV, HX, HB, hs⟩ := hrel
    obtain ⟨x0, x1⟩ : wr.cell? ⟨w.heap.size, 0, none⟩ = some (.int .i64 x) ∧ wr.cell? ⟨w.heap.size, 1, none⟩ = some (.int .i64 y) := ⟨cell_of_blk HX.out rfl, cell_of_blk HX.out rfl⟩
    have l0 : ¬ w.heap.size = wr.heap.size := by omega
    have l1 : ¬ wr.heap.size = w.heap.size := by omega
    by_cases hlt : k < n
    · obtain ⟨b, o, rfl, hcell⟩ := (HC.out.keep HB.out) (by omega)
      obtain ⟨c0, c1⟩ := hcell k hlt
      have lb : b < wr.heap.size := World.block_lt_of_cell? wr _ c0
      obtain ⟨p, hp⟩ : ∃ z, X k = z := ⟨_, rfl⟩
      obtain ⟨q, hq⟩ : ∃ z, Y k = z := ⟨_, rfl⟩
      rw [hp] at c0
      rw [hq] at c1
      have HP := Lib.hid (And.intro hp hq)
      clear hcell hp hq
      by_cases he : p = x ∧ q = y
      · have hne : ∀ w, (binOp .eql 26 (.agg #[.int .i64 p, .int .i64 q]) (.agg #[.int .i64 x, .int .i64 y])).run Try.prog w = .ok (.bool true) w := fun w => by
          have h := eqXY p q x y w
          rw [show (p == x && q == y) = true by simp [he.1, he.2]] at h
          exact h
        have HR : Hid (blkN X Y n x y = true) := Lib.hid (blkN_stop (k := k) ⟨by rw [HP.out.1]; exact he.1.symm, by rw [HP.out.2]; exact he.2.symm⟩ n hlt)
        clear he
        go_wp2_with fail
        refine bodyPost_ret (v := .bool true) (by simp [results, Try.results80, go_sem]) rfl ⟨by rw [HR.out], HB.out.alloc (by omega) _⟩
      · have hne : ∀ w, (binOp .eql 26 (.agg #[.int .i64 p, .int .i64 q]) (.agg #[.int .i64 x, .int .i64 y])).run Try.prog w = .ok (.bool false) w := fun w => by
          have h := eqXY p q x y w
          rw [show (p == x && q == y) = false from Bool.eq_false_iff.2 (fun e => he (by simpa using e))] at h
          exact h
        have HV' : Hid (blkN X Y (k + 1) x y = false) := Lib.hid (by simp only [blkN]; rw [HV.out, HP.out.1, HP.out.2, decide_eq_false (fun h => he ⟨h.1.symm, h.2.symm⟩)]; rfl)
        have hba : Below wr.heap.size wr (wr.alloc (.cells #[.int .i64 p, .int .i64 q] 26)) := bal (Below.refl _ _) _
        have HX1 : Hid ((wr.alloc (.cells #[.int .i64 p, .int .i64 q] 26)).heap[w.heap.size]? = some (.cells #[.int .i64 x, .int .i64 y] 26 (0, 0))) := Lib.hid ((hba.block _ (by omega)).trans HX.out)
        have HB1 : Hid (Below w.heap.size w (wr.alloc (.cells #[.int .i64 p, .int .i64 q] 26))) := Lib.hid (HB.out.alloc (by omega) _)
        have hs1 : w.heap.size < (wr.alloc (.cells #[.int .i64 p, .int .i64 q] 26)).heap.size := by simp; omega
        clear he hba HX HB
        go_wp2_with fail
        go_roundw
        case rel => exact ⟨k + 1, by go_num, by omega, HV', HX1, HB1, hs1⟩
        case measure => simp [intOf]; omega
    · obtain rfl : n = k := by omega
      go_wp2_with fail
      refine bodyPost_ret (v := .bool false) (by simp [results, Try.results80, go_sem]) rfl ⟨by rw [HV.out], HB.out⟩
/-- The first place of a cell in a list. -/
def IxN (X Y : Nat → Int) (n : Nat) (x y r : Int) : Prop := (r = -1 ∧ blkN X Y n x y = false) ∨ ∃ k : Nat, r = k ∧ k < n ∧ X k = x ∧ Y k = y
set_option maxRecDepth 100000 in
set_option maxHeartbeats 8000000 in
theorem rIndex_any (x y : Int) (n cp : Nat) (ao : Option Addr) (X Y : Nat → Int) (w : World) (hn : n ≤ 9223372036854775807) (hc : XYs w ao n X Y) :
    Calls Try.prog 42 #[.slice ao n cp, .agg #[.int .i64 x, .int .i64 y]] w fun e w' => (∃ r, e = .returned (.int .i64 r) ∧ IxN X Y n x y r) ∧ Below w.heap.size w w' := by
  have HC := Lib.hid hc
  clear hc
  go_enter Try.func42, Try.ntmps42
  go_wp2_with fail
  go_loopw [9] (fun iv wr => ∃ k : Nat, iv = .int .i64 k ∧ k ≤ n ∧ Hid (blkN X Y k x y = false) ∧ Hid (wr.heap[w.heap.size]? = some (.cells #[.int .i64 x, .int .i64 y] 26 (0, 0))) ∧ Hid (Below w.heap.size w wr) ∧ w.heap.size < wr.heap.size) (fun iv _ => n - (intOf iv).toNat)
  case atStart => exact ⟨0, rfl, Nat.zero_le _, Lib.hid rfl, Lib.hid (heap_alloc_new w _), Lib.hid (by go_grown), by simp⟩
  case round =>
    obtain ⟨k, rfl, hk, HV, HX, HB, hs⟩ := hrel
    obtain ⟨x0, x1⟩ : wr.cell? ⟨w.heap.size, 0, none⟩ = some (.int .i64 x) ∧ wr.cell? ⟨w.heap.size, 1, none⟩ = some (.int .i64 y) := ⟨cell_of_blk HX.out rfl, cell_of_blk HX.out rfl⟩
    have l0 : ¬ w.heap.size = wr.heap.size := by omega
    have l1 : ¬ wr.heap.size = w.heap.size := by omega
    by_cases hlt : k < n
    · obtain ⟨b, o, rfl, hcell⟩ := (HC.out.keep HB.out) (by omega)
      obtain ⟨c0, c1⟩ := hcell k hlt
      have lb : b < wr.heap.size := World.block_lt_of_cell? wr _ c0
      obtain ⟨p, hp⟩ : ∃ z, X k = z := ⟨_, rfl⟩
      obtain ⟨q, hq⟩ : ∃ z, Y k = z := ⟨_, rfl⟩
      rw [hp] at c0
      rw [hq] at c1
      have HP := Lib.hid (And.intro hp hq)
      clear hcell hp hq
      by_cases he : p = x ∧ q = y
      · have hne : ∀ w, (binOp .eql 26 (.agg #[.int .i64 p, .int .i64 q]) (.agg #[.int .i64 x, .int .i64 y])).run Try.prog w = .ok (.bool true) w := fun w => by
          have h := eqXY p q x y w
          rw [show (p == x && q == y) = true by simp [he.1, he.2]] at h
          exact h
        have HR : Hid (IxN X Y n x y k) := Lib.hid (Or.inr ⟨k, rfl, hlt, HP.out.1.trans he.1, HP.out.2.trans he.2⟩)
        clear he
        go_wp2_with fail
        refine bodyPost_ret (v := .int .i64 k) (by simp [results, Try.results42, go_sem]) rfl ⟨⟨_, rfl, HR.out⟩, HB.out.alloc (by omega) _⟩
      · have hne : ∀ w, (binOp .eql 26 (.agg #[.int .i64 p, .int .i64 q]) (.agg #[.int .i64 x, .int .i64 y])).run Try.prog w = .ok (.bool false) w := fun w => by
          have h := eqXY p q x y w
          rw [show (p == x && q == y) = false from Bool.eq_false_iff.2 (fun e => he (by simpa using e))] at h
          exact h
        have HV' : Hid (blkN X Y (k + 1) x y = false) := Lib.hid (by simp only [blkN]; rw [HV.out, HP.out.1, HP.out.2, decide_eq_false (fun h => he ⟨h.1.symm, h.2.symm⟩)]; rfl)
        have hba : Below wr.heap.size wr (wr.alloc (.cells #[.int .i64 p, .int .i64 q] 26)) := bal (Below.refl _ _) _
        have HX1 : Hid ((wr.alloc (.cells #[.int .i64 p, .int .i64 q] 26)).heap[w.heap.size]? = some (.cells #[.int .i64 x, .int .i64 y] 26 (0, 0))) := Lib.hid ((hba.block _ (by omega)).trans HX.out)
        have HB1 : Hid (Below w.heap.size w (wr.alloc (.cells #[.int .i64 p, .int .i64 q] 26))) := Lib.hid (HB.out.alloc (by omega) _)
        have hs1 : w.heap.size < (wr.alloc (.cells #[.int .i64 p, .int .i64 q] 26)).heap.size := by simp; omega
        clear he hba HX HB
        go_wp2_with fail
        go_roundw
        case rel => exact ⟨k + 1, by go_num, by omega, HV', HX1, HB1, hs1⟩
        case measure => simp [intOf]; omega
    · obtain rfl : n = k := by omega
      go_wp2_with fail
      refine bodyPost_ret (v := .int .i64 (-1)) (by simp [results, Try.results42, go_sem]) rfl ⟨⟨_, rfl, Or.inl ⟨rfl, HV.out⟩⟩, HB.out⟩
set_option maxRecDepth 100000 in
set_option maxHeartbeats 8000000 in
theorem rPut_any (x y : Int) (base : Nat) (v : Value) (l : List (Int × Int)) (w : World) (hown : w.ownsRow base 26 2 v l.length (xyC l)) (hl : l.length ≤ 10000) (hbase : base ≤ w.heap.size) :
    Calls Try.prog 69 #[v, .int .i64 x, .int .i64 y] w fun e w' => ∃ v', e = .returned v' ∧ w'.ownsRow base 26 2 v' (putL l x y).length (xyC (putL l x y)) ∧ Below base w w' := by
  obtain ⟨i0, hi, hz0, hz1', hz2'⟩ := info_parts xy_info
  have HI := Lib.hid (And.intro hi (And.intro hz0 (And.intro hz1' hz2')))
  clear hi hz0 hz1' hz2'
  obtain ⟨ao, cp, hv, hx⟩ := own_xys hown rfl
  have HO := Lib.hid hown
  have HX := Lib.hid hx
  subst hv
  clear hown hx
  obtain ⟨n, hn⟩ : ∃ n, n = l.length := ⟨_, rfl⟩
  rw [← hn] at HO HX hl ⊢
  have HN := Lib.hid hn
  clear hn
  go_enter Try.func69, Try.ntmps69
  go_wp2_with fail
  refine (rHas_any x y n cp ao _ _ _ (by omega) (HX.out.keep (by go_grown))).mono ?_
  obtain ⟨s, hs⟩ : ∃ z, blkN (fun j => (l.getD j (0, 0)).1) (fun j => (l.getD j (0, 0)).2) n x y = z := ⟨_, rfl⟩
  rw [hs]
  have HS : Hid (decide ((x, y) ∈ l) = s) := Lib.hid (by rw [← hs, HN.out]; exact blkN_mem.symm)
  clear hs
  rintro e w1 ⟨rfl, hb⟩
  have K1 : Hid (w1.heap[w.heap.size]? = some (.cells #[.int .i64 x, .int .i64 y] 26 (0, 0))) := Lib.hid ((hb.block _ (by simp)).trans (heap_alloc_new w _))
  have HB1 : Hid (Below w.heap.size w w1) := Lib.hid (Below.trans (by go_grown) (hb.mono (by simp)))
  have hz1 : w.heap.size < w1.heap.size := by have h9 := hb.size; simp at h9; omega
  have HO1 : Hid (w1.ownsRow base 26 2 (.slice ao n cp) n (xyC l)) := Lib.hid (own_below' HO.out HB1.out)
  clear hb HO
  cases s with
  | true =>
    have HP : Hid (putL l x y = l) := Lib.hid (putL_old (of_decide_eq_true HS.out))
    go_wp2_with fail
    refine bodyPost_ret (v := .slice ao n cp) (by simp [results, Try.results69, go_sem]) rfl ⟨_, rfl, by rw [HP.out, ← HN.out]; exact HO1.out, HB1.out.mono hbase⟩
  | false =>
    have HP : Hid (putL l x y = l ++ [(x, y)]) := Lib.hid (putL_new (of_decide_eq_false HS.out))
    obtain ⟨x0, x1⟩ : w1.cell? ⟨w.heap.size, 0, none⟩ = some (.int .i64 x) ∧ w1.cell? ⟨w.heap.size, 1, none⟩ = some (.int .i64 y) := ⟨cell_of_blk K1.out rfl, cell_of_blk K1.out rfl⟩
    go_upto_region 4 with fail
    refine wp_region_lit ?_
    refine wpList_step (fun K hK => ?_); go_simp; refine hK _ _ ?_; clear hK K
    refine wpList_step (fun K hK => ?_); go_simp; refine hK _ _ ?_; clear hK K
    refine wpList_step (fun K hK => ?_); go_simp; refine hK _ _ ?_; clear hK K
    have hNB : (w1.alloc (.cells #[.int .i64 x, .int .i64 y] 26)).heap[w1.heap.size]? = some (.cells #[.int .i64 x, .int .i64 y] 26 (0, 0)) := heap_alloc_new w1 _
    refine wpList_append_own _ rfl _ _ 22 rfl base 26 i0 _ 2 16 Try.underlying22 HI.out.1 HI.out.2.1 HI.out.2.2.1 HI.out.2.2.2 (by rfl) (by decide) (.slice ao n cp) n (xyC l) (by rfl) (HO1.out.alloc _) ⟨w1.heap.size, 0, none⟩ 1 1 [.int .i64 x, .int .i64 y] (by rfl) rfl (fun j u hu => World.news_of_block (cs := #[.int .i64 x, .int .i64 y]) hNB j u hu) (by intro u hu; simp only [List.mem_cons, List.not_mem_nil, or_false] at hu; rcases hu with rfl | rfl <;> rfl) (by unfold maxLen; omega) (by omega) (by simp; omega) ?_
    intro v' w9 hown' hgrow hnil
    have hlb := HO1.out.lt
    have HB9 : Hid (Below base w w9) := Lib.hid (((HB1.out.mono hbase).alloc (by omega) _).grown hgrow (by simp; omega) (fun j hj => (hlb j hj).1))
    have HO9 : Hid (w9.ownsRow base 26 2 v' (n + 1) (xyC (l ++ [(x, y)]))) := Lib.hid (by rw [xyC_snoc]; exact hown')
    clear hown' hgrow hnil hlb hNB
    refine wpList_step (fun K hK => ?_); go_simp; refine hK _ _ ?_; clear hK K
    refine wpList_nil ?_
    go_wp2_with fail
    refine bodyPost_ret (v := v') (by simp [results, Try.results69, go_sem]) rfl ⟨_, rfl, by rw [HP.out, List.length_append, ← HN.out]; exact HO9.out, HB9.out⟩
set_option maxRecDepth 100000 in
set_option maxHeartbeats 16000000 in
theorem rRim_any (W H M B : Int) (n cp : Nat) (ao : Option Addr) (w : World) (hW1 : 1 ≤ W) (hW : W ≤ 30) (hH1 : 1 ≤ H) (hH : H ≤ 30) :
    Calls Try.prog 43 #[.agg #[.int .i64 W, .int .i64 H, .int .i64 M, .int .i64 B, .slice ao n cp]] w fun e w' => ∃ v l, e = .returned v ∧ Rim W H l ∧ l.length ≤ 1000 ∧ w'.ownsRow w.heap.size 26 2 v l.length (xyC l) ∧ Below w.heap.size w w' := by
  have e1 : IntKind.i64.wrap (W - 1) = W - 1 := by go_arith
  have e2 : IntKind.i64.wrap (H - 1) = H - 1 := by go_arith
  have HE := Lib.hid (And.intro e1 e2)
  clear e1 e2
  go_enter Try.func43, Try.ntmps43
  go_wp2_with fail
  go_loopg [3, 4, 10] W.toNat (fun gg v3 v4 v10 wr => ∃ x : Int, v10 = .int .i64 x ∧ 0 ≤ x ∧ x ≤ W ∧ Hid ((W - x).toNat ≤ gg) ∧ Hid (∃ l : List (Int × Int), RI W H l ∧ (l.length : Int) = x ∧ wr.ownsRow (w.heap.size + 1) 26 2 v3 l.length (xyC l)) ∧ Hid (wr.heap[w.heap.size]? = some (.cells #[.int .i64 W, .int .i64 H, .int .i64 M, .int .i64 B, .slice ao n cp] 24 (0, 0))) ∧ Hid (Below w.heap.size w wr) ∧ w.heap.size < wr.heap.size)
  case atStart => exact ⟨0, rfl, by omega, by omega, Lib.hid (by omega), Lib.hid ⟨[], RI.nil, rfl, World.ownsRow_nil _ _ _ _⟩, Lib.hid (heap_alloc_new w _), Lib.hid (by go_grown), by simp⟩
  case round =>
    obtain ⟨x, rfl, hx0, hx, HG, HL, HK, HB, hz⟩ := hrel
    by_cases hlt : x < W
    case pos =>
      have HGG := HG
      clear HG
      obtain ⟨l, hRI, hlen, hown⟩ := HL.out
      obtain ⟨hRI2, hlen2⟩ := rim1 hRI hx0 hlt hH1 hlen
      have HN := Lib.hid (And.intro hRI2 hlen2)
      have hl9 : l.length ≤ 10000 := by omega
      have HOW := Lib.hid hown
      clear hRI hlen hRI2 hlen2 hown
      go_wp2_with fail
      refine (rPut_any x 0 (w.heap.size + 1) _ l _ HOW.out hl9 (by omega)).mono ?_
      rintro e w2 ⟨v2, rfl, hown2, hb⟩
      have HK2 : Hid (w2.heap[w.heap.size]? = some (.cells #[.int .i64 W, .int .i64 H, .int .i64 M, .int .i64 B, .slice ao n cp] 24 (0, 0))) := Lib.hid ((hb.block _ (by omega)).trans HK.out)
      have HB2 : Hid (Below w.heap.size w w2) := Lib.hid (HB.out.trans (hb.mono (by omega)))
      have hz2 : w.heap.size < w2.heap.size := by have := hb.size; omega
      have HL2 := Lib.hid hown2
      clear hb hown2
      go_wp2_with fail
      go_roundg (W - (x + 1)).toNat
      case measure => have := HGG.out; omega
      case rel => exact ⟨x + 1, by go_num, by omega, by omega, Lib.hid (Nat.le_refl _), Lib.hid ⟨_, HN.out.1, HN.out.2, HL2.out⟩, HK2, HB2, hz2⟩
    obtain rfl : x = W := by omega
    have HLw : Hid (∃ l : List (Int × Int), RI x H l ∧ (l.length : Int) = l2 x 0 ∧ wr.ownsRow (w.heap.size + 1) 26 2 u3 l.length (xyC l)) := Lib.hid (by
      obtain ⟨l, h1, h2, h3⟩ := HL.out
      exact ⟨l, h1, by unfold l2; rw [if_pos rfl]; exact h2, h3⟩)
    clear HL HG
    obtain ⟨W, hWx⟩ : ∃ z, z = x := ⟨x, rfl⟩
    subst hWx
    obtain ⟨wo, hwo⟩ : ∃ z, z = wr := ⟨wr, rfl⟩
    subst hwo
    obtain ⟨c0, c1, c2, c3, c4⟩ : wo.cell? ⟨w.heap.size, 0, none⟩ = some (.int .i64 W) ∧ wo.cell? ⟨w.heap.size, 1, none⟩ = some (.int .i64 H) ∧ wo.cell? ⟨w.heap.size, 2, none⟩ = some (.int .i64 M) ∧ wo.cell? ⟨w.heap.size, 3, none⟩ = some (.int .i64 B) ∧ wo.cell? ⟨w.heap.size, 4, none⟩ = some (.slice ao n cp) := ⟨cell_of_blk HK.out rfl, cell_of_blk HK.out rfl, cell_of_blk HK.out rfl, cell_of_blk HK.out rfl, cell_of_blk HK.out rfl⟩
    go_wp2_with fail
    clear c0 c1 c2 c3 c4
    go_loopg [3, 5, 19] H.toNat (fun gg v3 v5 v19 wr => ∃ y : Int, v19 = .int .i64 y ∧ 0 ≤ y ∧ y ≤ H ∧ Hid ((H - y).toNat ≤ gg) ∧ Hid (∃ l : List (Int × Int), RI W H l ∧ (l.length : Int) = l2 W y ∧ wr.ownsRow (w.heap.size + 1) 26 2 v3 l.length (xyC l)) ∧ Hid (wr.heap[w.heap.size]? = some (.cells #[.int .i64 W, .int .i64 H, .int .i64 M, .int .i64 B, .slice ao n cp] 24 (0, 0))) ∧ Hid (Below w.heap.size w wr) ∧ w.heap.size < wr.heap.size)
    case atStart => exact ⟨0, rfl, by omega, by omega, Lib.hid (by omega), HLw, HK, HB, hz⟩
    case round =>
      clear HLw HK HB hz
      obtain ⟨y, rfl, hy0, hy, HG, HL, HK, HB, hz⟩ := hrel
      by_cases hlt : y < H
      case pos =>
        have HGG := HG
        have e1 := HE.out.1
        clear HG
        obtain ⟨c0, c1, c2, c3, c4⟩ : wr.cell? ⟨w.heap.size, 0, none⟩ = some (.int .i64 W) ∧ wr.cell? ⟨w.heap.size, 1, none⟩ = some (.int .i64 H) ∧ wr.cell? ⟨w.heap.size, 2, none⟩ = some (.int .i64 M) ∧ wr.cell? ⟨w.heap.size, 3, none⟩ = some (.int .i64 B) ∧ wr.cell? ⟨w.heap.size, 4, none⟩ = some (.slice ao n cp) := ⟨cell_of_blk HK.out rfl, cell_of_blk HK.out rfl, cell_of_blk HK.out rfl, cell_of_blk HK.out rfl, cell_of_blk HK.out rfl⟩
        obtain ⟨l, hRI, hlen, hown⟩ := HL.out
        obtain ⟨hRI2, hlen2⟩ := rim2 hRI hy0 hlt hW1 hlen
        have HN := Lib.hid (And.intro hRI2 hlen2)
        have hl9 : l.length ≤ 10000 := by unfold l2 at hlen; split at hlen <;> omega
        have HOW := Lib.hid hown
        clear hRI hlen hRI2 hlen2 hown
        go_wp2_with fail
        refine (rPut_any (W - 1) y (w.heap.size + 1) _ l _ HOW.out hl9 (by omega)).mono ?_
        rintro e w2 ⟨v2, rfl, hown2, hb⟩
        have HK2 : Hid (w2.heap[w.heap.size]? = some (.cells #[.int .i64 W, .int .i64 H, .int .i64 M, .int .i64 B, .slice ao n cp] 24 (0, 0))) := Lib.hid ((hb.block _ (by omega)).trans HK.out)
        have HB2 : Hid (Below w.heap.size w w2) := Lib.hid (HB.out.trans (hb.mono (by omega)))
        have hz2 : w.heap.size < w2.heap.size := by have := hb.size; omega
        have HL2 := Lib.hid hown2
        clear hb hown2
        go_wp2_with fail
        go_roundg (H - (y + 1)).toNat
        case measure => have := HGG.out; omega
        case rel => exact ⟨y + 1, by go_num, by omega, by omega, Lib.hid (Nat.le_refl _), Lib.hid ⟨_, HN.out.1, HN.out.2, HL2.out⟩, HK2, HB2, hz2⟩
      obtain rfl : y = H := by omega
      have HLw : Hid (∃ l : List (Int × Int), RI W y l ∧ (l.length : Int) = l3 W y (W - 1) ∧ wr.ownsRow (w.heap.size + 1) 26 2 u3 l.length (xyC l)) := Lib.hid (by
        obtain ⟨l, h1, h2, h3⟩ := HL.out
        exact ⟨l, h1, by rw [h2]; unfold l2 l3; rw [if_neg (by omega), if_pos rfl]; split <;> omega, h3⟩)
      clear HL HG
      obtain ⟨H, hHy⟩ : ∃ z, z = y := ⟨y, rfl⟩
      subst hHy
      obtain ⟨wp, hwp⟩ : ∃ z, z = wr := ⟨wr, rfl⟩
      subst hwp
      have e1 := HE.out.1
      have e2 := HE.out.2
      obtain ⟨c0, c1, c2, c3, c4⟩ : wp.cell? ⟨w.heap.size, 0, none⟩ = some (.int .i64 W) ∧ wp.cell? ⟨w.heap.size, 1, none⟩ = some (.int .i64 H) ∧ wp.cell? ⟨w.heap.size, 2, none⟩ = some (.int .i64 M) ∧ wp.cell? ⟨w.heap.size, 3, none⟩ = some (.int .i64 B) ∧ wp.cell? ⟨w.heap.size, 4, none⟩ = some (.slice ao n cp) := ⟨cell_of_blk HK.out rfl, cell_of_blk HK.out rfl, cell_of_blk HK.out rfl, cell_of_blk HK.out rfl, cell_of_blk HK.out rfl⟩
      go_wp2_with fail
      clear c0 c1 c2 c3 c4
      go_loopg [3, 6] W.toNat (fun gg v3 v6 wr => ∃ x : Int, v6 = .int .i64 x ∧ -1 ≤ x ∧ x ≤ W - 1 ∧ Hid ((x + 1).toNat ≤ gg) ∧ Hid (∃ l : List (Int × Int), RI W H l ∧ (l.length : Int) = l3 W H x ∧ wr.ownsRow (w.heap.size + 1) 26 2 v3 l.length (xyC l)) ∧ Hid (wr.heap[w.heap.size]? = some (.cells #[.int .i64 W, .int .i64 H, .int .i64 M, .int .i64 B, .slice ao n cp] 24 (0, 0))) ∧ Hid (Below w.heap.size w wr) ∧ w.heap.size < wr.heap.size)
      case atStart => exact ⟨W - 1, rfl, by omega, by omega, Lib.hid (by omega), HLw, HK, HB, hz⟩
      case round =>
        clear HLw HK HB hz
        obtain ⟨x, rfl, hx0, hx, HG, HL, HK, HB, hz⟩ := hrel
        by_cases hlt : 0 ≤ x
        case pos =>
          have HGG := HG
          clear HG
          obtain ⟨c0, c1, c2, c3, c4⟩ : wr.cell? ⟨w.heap.size, 0, none⟩ = some (.int .i64 W) ∧ wr.cell? ⟨w.heap.size, 1, none⟩ = some (.int .i64 H) ∧ wr.cell? ⟨w.heap.size, 2, none⟩ = some (.int .i64 M) ∧ wr.cell? ⟨w.heap.size, 3, none⟩ = some (.int .i64 B) ∧ wr.cell? ⟨w.heap.size, 4, none⟩ = some (.slice ao n cp) := ⟨cell_of_blk HK.out rfl, cell_of_blk HK.out rfl, cell_of_blk HK.out rfl, cell_of_blk HK.out rfl, cell_of_blk HK.out rfl⟩
          obtain ⟨l, hRI, hlen, hown⟩ := HL.out
          obtain ⟨hRI2, hlen2⟩ := rim3 hRI hlt (by omega) hH1 hlen
          have HN := Lib.hid (And.intro hRI2 hlen2)
          have hl9 : l.length ≤ 10000 := by unfold l3 at hlen; split at hlen <;> (try split at hlen) <;> omega
          have HOW := Lib.hid hown
          clear hRI hlen hRI2 hlen2 hown
          go_wp2_with fail
          refine (rPut_any x (H - 1) (w.heap.size + 1) _ l _ HOW.out hl9 (by omega)).mono ?_
          rintro e w2 ⟨v2, rfl, hown2, hb⟩
          have HK2 : Hid (w2.heap[w.heap.size]? = some (.cells #[.int .i64 W, .int .i64 H, .int .i64 M, .int .i64 B, .slice ao n cp] 24 (0, 0))) := Lib.hid ((hb.block _ (by omega)).trans HK.out)
          have HB2 : Hid (Below w.heap.size w w2) := Lib.hid (HB.out.trans (hb.mono (by omega)))
          have hz2 : w.heap.size < w2.heap.size := by have := hb.size; omega
          have HL2 := Lib.hid hown2
          clear hb hown2
          go_wp2_with fail
          go_roundg x.toNat
          case measure => have := HGG.out; omega
          case rel => exact ⟨x - 1, by go_num, by omega, by omega, Lib.hid (by omega), Lib.hid ⟨_, HN.out.1, HN.out.2, HL2.out⟩, HK2, HB2, hz2⟩
        obtain rfl : x = -1 := by omega
        have HLw : Hid (∃ l : List (Int × Int), RI W H l ∧ (l.length : Int) = l4 W H (H - 1) ∧ wr.ownsRow (w.heap.size + 1) 26 2 u3 l.length (xyC l)) := Lib.hid (by
          obtain ⟨l, h1, h2, h3⟩ := HL.out
          exact ⟨l, h1, by rw [h2]; unfold l4; rw [if_pos (by omega)], h3⟩)
        clear HL HG
        obtain ⟨wq, hwq⟩ : ∃ z, z = wr := ⟨wr, rfl⟩
        subst hwq
        obtain ⟨c0, c1, c2, c3, c4⟩ : wq.cell? ⟨w.heap.size, 0, none⟩ = some (.int .i64 W) ∧ wq.cell? ⟨w.heap.size, 1, none⟩ = some (.int .i64 H) ∧ wq.cell? ⟨w.heap.size, 2, none⟩ = some (.int .i64 M) ∧ wq.cell? ⟨w.heap.size, 3, none⟩ = some (.int .i64 B) ∧ wq.cell? ⟨w.heap.size, 4, none⟩ = some (.slice ao n cp) := ⟨cell_of_blk HK.out rfl, cell_of_blk HK.out rfl, cell_of_blk HK.out rfl, cell_of_blk HK.out rfl, cell_of_blk HK.out rfl⟩
        go_wp2_with fail
        clear c0 c1 c2 c3 c4
        go_loopg [3, 7] H.toNat (fun gg v3 v7 wr => ∃ y : Int, v7 = .int .i64 y ∧ -1 ≤ y ∧ y ≤ H - 1 ∧ Hid ((y + 1).toNat ≤ gg) ∧ Hid (∃ l : List (Int × Int), RI W H l ∧ (l.length : Int) = l4 W H y ∧ wr.ownsRow (w.heap.size + 1) 26 2 v3 l.length (xyC l)) ∧ Hid (wr.heap[w.heap.size]? = some (.cells #[.int .i64 W, .int .i64 H, .int .i64 M, .int .i64 B, .slice ao n cp] 24 (0, 0))) ∧ Hid (Below w.heap.size w wr) ∧ w.heap.size < wr.heap.size)
        case atStart => exact ⟨H - 1, rfl, by omega, by omega, Lib.hid (by omega), HLw, HK, HB, hz⟩
        case round =>
          clear HLw HK HB hz
          obtain ⟨y, rfl, hy0, hy, HG, HL, HK, HB, hz⟩ := hrel
          by_cases hlt : 0 ≤ y
          case pos =>
            have HGG := HG
            clear HG e1 e2
            obtain ⟨l, hRI, hlen, hown⟩ := HL.out
            obtain ⟨hRI2, hlen2⟩ := rim4 hRI hlt (by omega) hW1 hlen
            have HN := Lib.hid (And.intro hRI2 hlen2)
            have hl9 : l.length ≤ 10000 := by unfold l4 l3 at hlen; split at hlen <;> (try split at hlen) <;> (try split at hlen) <;> (try split at hlen) <;> omega
            have HOW := Lib.hid hown
            clear hRI hlen hRI2 hlen2 hown
            go_wp2_with fail
            refine (rPut_any 0 y (w.heap.size + 1) _ l _ HOW.out hl9 (by omega)).mono ?_
            rintro e w2 ⟨v2, rfl, hown2, hb⟩
            have HK2 : Hid (w2.heap[w.heap.size]? = some (.cells #[.int .i64 W, .int .i64 H, .int .i64 M, .int .i64 B, .slice ao n cp] 24 (0, 0))) := Lib.hid ((hb.block _ (by omega)).trans HK.out)
            have HB2 : Hid (Below w.heap.size w w2) := Lib.hid (HB.out.trans (hb.mono (by omega)))
            have hz2 : w.heap.size < w2.heap.size := by have := hb.size; omega
            have HL2 := Lib.hid hown2
            clear hb hown2
            go_wp2_with fail
            go_roundg y.toNat
            case measure => have := HGG.out; omega
            case rel => exact ⟨y - 1, by go_num, by omega, by omega, Lib.hid (by omega), Lib.hid ⟨_, HN.out.1, HN.out.2, HL2.out⟩, HK2, HB2, hz2⟩
          obtain rfl : y = -1 := by omega
          obtain ⟨l, hRI, hlen, hown⟩ := HL.out
          have HF : Hid (Rim W H l ∧ l.length ≤ 1000 ∧ wr.ownsRow w.heap.size 26 2 u3 l.length (xyC l)) := Lib.hid ⟨⟨hRI, fun x y hon => by rw [hlen]; exact rim_all hon⟩, by unfold l4 l3 at hlen; split at hlen <;> (try split at hlen) <;> (try split at hlen) <;> (try split at hlen) <;> omega, ownsRow_base hown (by omega)⟩
          clear hRI hlen hown HL HG
          go_wp2_with fail
          refine bodyPost_ret (v := u3) (by simp [results, Try.results43, go_sem, *]) rfl (by first | exact ⟨u3, l, rfl, HF.out.1, HF.out.2.1, HF.out.2.2, HB.out⟩ | exact ⟨u3, rfl, l, HF.out.1, HF.out.2.1, HF.out.2.2, HB.out⟩)
end Go.Proofs.Ytkkcnhhfdicppaa
