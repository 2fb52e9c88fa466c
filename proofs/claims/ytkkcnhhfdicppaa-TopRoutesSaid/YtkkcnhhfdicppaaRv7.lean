import Derived.Test.YtkkcnhhfdicppaaFa7
namespace Lay
theorem blkN_stop {X Y : Nat → Int} {k : Nat} {x y : Int} (h : x = X k ∧ y = Y k) : ∀ n, k < n → blkN X Y n x y = true := by
  intro n
  induction n with
  | zero => intro h; omega
  | succ n ih =>
    intro hk
    simp only [blkN]
    by_cases e : k = n
    · subst e; simp [h]
    · rw [ih (by omega)]; rfl
/-- Small enough for a statement, if it is valid. -/
def smG (W H M B : Int) (n : Nat) (X Y : Nat → Int) : Bool := !vaG W H M B n X Y || decide (W * H ≤ 144)
theorem wh_le {W H : Int} (h1 : 1 ≤ W) (h2 : W ≤ 30) (h3 : 1 ≤ H) (h4 : H ≤ 30) : 1 ≤ W * H ∧ W * H ≤ 900 := by
  have a : W * H ≤ 30 * 30 := Int.mul_le_mul h2 h4 (by omega) (by omega)
  have b : 1 * 1 ≤ W * H := Int.mul_le_mul h1 h3 (by omega) (by omega)
  omega
end Lay
namespace Go.Proofs.Ytkkcnhhfdicppaa
open Go.RowKit Lay
set_option maxRecDepth 100000 in
set_option maxHeartbeats 1000000 in
theorem rOn_any (W H M B x y : Int) (sl : Value) (_hs : sl.oneCell' = true) (w : World) :
    Calls Try.prog 41 #[.agg #[.int .i64 W, .int .i64 H, .int .i64 M, .int .i64 B, sl], .agg #[.int .i64 x, .int .i64 y]] w fun e w' => e = .returned (.bool (onB W H x y)) ∧ Below w.heap.size w w' := by
  by_cases h1 : 0 ≤ x
  case neg =>
    go_enter Try.func41, Try.ntmps41
    go_wp2_with fail
    refine bodyPost_ret (v := .bool false) (by simp [results, Try.results41, go_sem]) rfl ⟨by simp [onB]; omega, by go_grown⟩
  by_cases h2 : x < W
  case neg =>
    go_enter Try.func41, Try.ntmps41
    go_wp2_with fail
    refine bodyPost_ret (v := .bool false) (by simp [results, Try.results41, go_sem]) rfl ⟨by simp [onB]; omega, by go_grown⟩
  by_cases h3 : 0 ≤ y
  case neg =>
    go_enter Try.func41, Try.ntmps41
    go_wp2_with fail
    refine bodyPost_ret (v := .bool false) (by simp [results, Try.results41, go_sem]) rfl ⟨by simp [onB]; omega, by go_grown⟩
  by_cases h4 : y < H
  case neg =>
    go_enter Try.func41, Try.ntmps41
    go_wp2_with fail
    refine bodyPost_ret (v := .bool false) (by simp [results, Try.results41, go_sem]) rfl ⟨by simp [onB]; omega, by go_grown⟩
  go_enter Try.func41, Try.ntmps41
  go_wp2_with fail
  refine bodyPost_ret (v := .bool true) (by simp [results, Try.results41, go_sem]) rfl ⟨by simp [onB, h1, h2, h3, h4], by go_grown⟩
set_option maxRecDepth 100000 in
set_option maxHeartbeats 8000000 in
theorem rValid_any (W H M B : Int) (n cp : Nat) (ao : Option Addr) (X Y : Nat → Int) (w : World) (hn : n ≤ 9223372036854775807) (hc : XYs w ao n X Y) :
    Calls Try.prog 32 #[.agg #[.int .i64 W, .int .i64 H, .int .i64 M, .int .i64 B, .slice ao n cp]] w fun e w' => e = .returned (.bool (vaG W H M B n X Y)) ∧ Below w.heap.size w w' := by
  have HC := Lib.hid hc
  clear hc
  by_cases k0 : 1 ≤ W
  case neg =>
    have HR : Hid (vaG W H M B n X Y = false) := Lib.hid (by unfold vaG numG; rw [decide_eq_false (by omega)]; rfl)
    go_enter Try.func32, Try.ntmps32
    go_wp2_with fail
    refine bodyPost_ret (v := .bool false) (by simp [results, Try.results32, go_sem]) rfl ⟨by rw [HR.out], by go_grown⟩
  by_cases k1 : W ≤ 30
  case neg =>
    have HR : Hid (vaG W H M B n X Y = false) := Lib.hid (by unfold vaG numG; rw [decide_eq_false (by omega)]; rfl)
    go_enter Try.func32, Try.ntmps32
    go_wp2_with fail
    refine bodyPost_ret (v := .bool false) (by simp [results, Try.results32, go_sem]) rfl ⟨by rw [HR.out], by go_grown⟩
  by_cases k2 : 1 ≤ H
  case neg =>
    have HR : Hid (vaG W H M B n X Y = false) := Lib.hid (by unfold vaG numG; rw [decide_eq_false (by omega)]; rfl)
    go_enter Try.func32, Try.ntmps32
    go_wp2_with fail
    refine bodyPost_ret (v := .bool false) (by simp [results, Try.results32, go_sem]) rfl ⟨by rw [HR.out], by go_grown⟩
  by_cases k3 : H ≤ 30
  case neg =>
    have HR : Hid (vaG W H M B n X Y = false) := Lib.hid (by unfold vaG numG; rw [decide_eq_false (by omega)]; rfl)
    go_enter Try.func32, Try.ntmps32
    go_wp2_with fail
    refine bodyPost_ret (v := .bool false) (by simp [results, Try.results32, go_sem]) rfl ⟨by rw [HR.out], by go_grown⟩
  by_cases k4 : 1 ≤ M
  case neg =>
    have HR : Hid (vaG W H M B n X Y = false) := Lib.hid (by unfold vaG numG; rw [decide_eq_false (by omega)]; rfl)
    go_enter Try.func32, Try.ntmps32
    go_wp2_with fail
    refine bodyPost_ret (v := .bool false) (by simp [results, Try.results32, go_sem]) rfl ⟨by rw [HR.out], by go_grown⟩
  by_cases k5 : M ≤ 1000
  case neg =>
    have HR : Hid (vaG W H M B n X Y = false) := Lib.hid (by unfold vaG numG; rw [decide_eq_false (by omega)]; rfl)
    go_enter Try.func32, Try.ntmps32
    go_wp2_with fail
    refine bodyPost_ret (v := .bool false) (by simp [results, Try.results32, go_sem]) rfl ⟨by rw [HR.out], by go_grown⟩
  by_cases k6 : 0 ≤ B
  case neg =>
    have HR : Hid (vaG W H M B n X Y = false) := Lib.hid (by unfold vaG numG; rw [decide_eq_false (by omega)]; rfl)
    go_enter Try.func32, Try.ntmps32
    go_wp2_with fail
    refine bodyPost_ret (v := .bool false) (by simp [results, Try.results32, go_sem]) rfl ⟨by rw [HR.out], by go_grown⟩
  by_cases k7 : B ≤ 1000
  case neg =>
    have HR : Hid (vaG W H M B n X Y = false) := Lib.hid (by unfold vaG numG; rw [decide_eq_false (by omega)]; rfl)
    go_enter Try.func32, Try.ntmps32
    go_wp2_with fail
    refine bodyPost_ret (v := .bool false) (by simp [results, Try.results32, go_sem]) rfl ⟨by rw [HR.out], by go_grown⟩
  by_cases k8 : n ≤ 900
  case neg =>
    have HR : Hid (vaG W H M B n X Y = false) := Lib.hid (by unfold vaG numG; rw [decide_eq_false (by omega)]; rfl)
    go_enter Try.func32, Try.ntmps32
    go_wp2_with fail
    refine bodyPost_ret (v := .bool false) (by simp [results, Try.results32, go_sem]) rfl ⟨by rw [HR.out], by go_grown⟩
  have HN : Hid (numG W H M B n = true) := Lib.hid (by unfold numG; rw [decide_eq_true (by omega)])
  go_enter Try.func32, Try.ntmps32
  go_wp2_with fail
  go_loopw [52] (fun iv wr => ∃ k : Nat, iv = .int .i64 k ∧ k ≤ n ∧ Hid (allOn W H X Y k = true) ∧ Hid (G5 wr w.heap.size W H M B ao n cp) ∧ Hid (Below w.heap.size w wr) ∧ w.heap.size < wr.heap.size) (fun iv _ => n - (intOf iv).toNat)
  case atStart => exact ⟨0, rfl, Nat.zero_le _, Lib.hid rfl, Lib.hid (heap_alloc_new w _), Lib.hid (by go_grown), by simp⟩
  case round =>
    obtain ⟨k, rfl, hk, HV, HG, HB, hs⟩ := hrel
    by_cases hlt : k < n
    · obtain ⟨b, o, rfl, hcell⟩ := (HC.out.keep HB.out) (by omega)
      obtain ⟨c0, c1⟩ := hcell k hlt
      obtain ⟨g0, g1, g2, g3, g4⟩ := G5.c HG.out
      have lb : b < wr.heap.size := World.block_lt_of_cell? wr _ c0
      obtain ⟨x, hx⟩ : ∃ x, X k = x := ⟨_, rfl⟩
      obtain ⟨y, hy⟩ : ∃ y, Y k = y := ⟨_, rfl⟩
      rw [hx] at c0
      rw [hy] at c1
      have HM := Lib.hid (And.intro hx hy)
      have l0 : ¬ w.heap.size = wr.heap.size := by omega
      have l1 : ¬ wr.heap.size = w.heap.size := by omega
      clear hcell hx hy
      go_wp2_with fail
      refine (rOn_any W H M B x y _ rfl _).mono ?_
      by_cases hv : onB W H x y = true
      · rw [hv]
        rintro e w1 ⟨rfl, hb⟩
        have HV' : Hid (allOn W H X Y (k + 1) = true) := Lib.hid (by simp only [allOn]; rw [HV.out, HM.out.1, HM.out.2, hv]; rfl)
        have HB1 := Lib.hid (show Below w.heap.size w w1 from (HB.out.alloc (Nat.le_of_lt hs) _).trans (hb.mono (by simp; omega)))
        have HG1 : Hid (G5 w1 w.heap.size W H M B (some ⟨b, o, none⟩) n cp) := Lib.hid ((hb.block _ (by simp; omega)).trans ((Below.heap_alloc _ _ _ hs).trans HG.out))
        have hs1 : w.heap.size < w1.heap.size := by have h9 := hb.size; (try simp at h9); omega
        clear hb c0 c1 g0 g1 g2 g3 g4 HG HB
        go_wp2_with fail
        go_roundw
        case rel => exact ⟨k + 1, by go_num, by omega, HV', HG1, HB1, hs1⟩
        case measure => simp [intOf]; omega
      · have hv' : onB W H x y = false := by simpa using hv
        have HR : Hid (vaG W H M B n X Y = false) := Lib.hid (by unfold vaG; rw [allOn_stop (by rw [HM.out.1, HM.out.2]; exact hv') n hlt]; simp)
        rw [hv']
        rintro e w1 ⟨rfl, hb⟩
        have HB1 := Lib.hid (show Below w.heap.size w w1 from (HB.out.alloc (Nat.le_of_lt hs) _).trans (hb.mono (by simp; omega)))
        clear hb c0 c1 g0 g1 g2 g3 g4 HG HB
        go_wp2_with fail
        refine bodyPost_ret (v := .bool false) (by simp [results, Try.results32, go_sem]) rfl ⟨by rw [HR.out], HB1.out⟩
    · obtain rfl : n = k := by omega
      have HR : Hid (vaG W H M B n X Y = true) := Lib.hid (by unfold vaG; rw [HN.out, HV.out]; rfl)
      go_wp2_with fail
      refine bodyPost_ret (v := .bool true) (by simp [results, Try.results32, go_sem]) rfl ⟨by rw [HR.out], HB.out⟩
set_option maxRecDepth 100000 in
set_option maxHeartbeats 8000000 in
theorem rOpen_any (W H M B x y : Int) (n cp : Nat) (ao : Option Addr) (X Y : Nat → Int) (w : World) (hn : n ≤ 9223372036854775807) (hc : XYs w ao n X Y) :
    Calls Try.prog 50 #[.agg #[.int .i64 W, .int .i64 H, .int .i64 M, .int .i64 B, .slice ao n cp], .agg #[.int .i64 x, .int .i64 y]] w fun e w' => e = .returned (.bool (opB W H (blkN X Y n) x y)) ∧ Below w.heap.size w w' := by
  have HC := Lib.hid hc
  clear hc
  go_enter Try.func50, Try.ntmps50
  go_wp2_with fail
  go_loopw [10] (fun iv wr => ∃ k : Nat, iv = .int .i64 k ∧ k ≤ n ∧ Hid (blkN X Y k x y = false) ∧ Hid (G5 wr w.heap.size W H M B ao n cp) ∧ Hid (wr.heap[w.heap.size + 1]? = some (.cells #[.int .i64 x, .int .i64 y] 26 (0, 0))) ∧ Hid (Below w.heap.size w wr) ∧ w.heap.size + 1 < wr.heap.size) (fun iv _ => n - (intOf iv).toNat)
  case atStart => exact ⟨0, rfl, Nat.zero_le _, Lib.hid rfl, Lib.hid ((Below.heap_alloc _ _ _ (by simp)).trans (heap_alloc_new w _)), Lib.hid (by have h := heap_alloc_new (w.alloc (.cells #[.int .i64 W, .int .i64 H, .int .i64 M, .int .i64 B, .slice ao n cp] 24)) (.cells #[.int .i64 x, .int .i64 y] 26); rwa [World.size_alloc] at h), Lib.hid (by go_grown), by simp⟩
  case round =>
    obtain ⟨k, rfl, hk, HV, HG, HX, HB, hs⟩ := hrel
    obtain ⟨x0, x1⟩ : wr.cell? ⟨w.heap.size + 1, 0, none⟩ = some (.int .i64 x) ∧ wr.cell? ⟨w.heap.size + 1, 1, none⟩ = some (.int .i64 y) := ⟨cell_of_blk HX.out rfl, cell_of_blk HX.out rfl⟩
    obtain ⟨g0, g1, g2, g3, g4⟩ := G5.c HG.out
    have l0 : ¬ w.heap.size = wr.heap.size := by omega
    have l1 : ¬ wr.heap.size = w.heap.size := by omega
    have l2 : ¬ w.heap.size + 1 = wr.heap.size := by omega
    have l3 : ¬ wr.heap.size = w.heap.size + 1 := by omega
    by_cases hlt : k < n
    · obtain ⟨b, o, rfl, hcell⟩ := (HC.out.keep HB.out) (by omega)
      obtain ⟨c0, c1⟩ := hcell k hlt
      have lb : b < wr.heap.size := World.block_lt_of_cell? wr _ c0
      obtain ⟨p, hp⟩ : ∃ z, X k = z := ⟨_, rfl⟩
      obtain ⟨q, hq⟩ : ∃ z, Y k = z := ⟨_, rfl⟩
      rw [hp] at c0
      rw [hq] at c1
      have HP := Lib.hid (And.intro hp hq)
      clear hcell hp hq
      by_cases he : p = x ∧ q = y
      · have hne : ∀ w, (binOp .eql 26 (.agg #[.int .i64 p, .int .i64 q]) (.agg #[.int .i64 x, .int .i64 y])).run Try.prog w = .ok (.bool true) w := fun w => by
          have h := eqXY p q x y w
          rw [show (p == x && q == y) = true by simp [he.1, he.2]] at h
          exact h
        have HR : Hid (opB W H (blkN X Y n) x y = false) := Lib.hid (by unfold opB; rw [blkN_stop (k := k) ⟨by rw [HP.out.1]; exact he.1.symm, by rw [HP.out.2]; exact he.2.symm⟩ n hlt]; simp)
        clear he
        go_wp2_with fail
        refine bodyPost_ret (v := .bool false) (by simp [results, Try.results50, go_sem]) rfl ⟨by rw [HR.out], HB.out.alloc (by omega) _⟩
      · have hne : ∀ w, (binOp .eql 26 (.agg #[.int .i64 p, .int .i64 q]) (.agg #[.int .i64 x, .int .i64 y])).run Try.prog w = .ok (.bool false) w := fun w => by
          have h := eqXY p q x y w
          rw [show (p == x && q == y) = false from Bool.eq_false_iff.2 (fun e => he (by simpa using e))] at h
          exact h
        have HV' : Hid (blkN X Y (k + 1) x y = false) := Lib.hid (by simp only [blkN]; rw [HV.out, HP.out.1, HP.out.2, decide_eq_false (fun h => he ⟨h.1.symm, h.2.symm⟩)]; rfl)
        have hba : Below wr.heap.size wr (wr.alloc (.cells #[.int .i64 p, .int .i64 q] 26)) := bal (Below.refl _ _) _
        have HG1 : Hid (G5 (wr.alloc (.cells #[.int .i64 p, .int .i64 q] 26)) w.heap.size W H M B (some ⟨b, o, none⟩) n cp) := Lib.hid ((hba.block _ (by omega)).trans HG.out)
        have HX1 : Hid ((wr.alloc (.cells #[.int .i64 p, .int .i64 q] 26)).heap[w.heap.size + 1]? = some (.cells #[.int .i64 x, .int .i64 y] 26 (0, 0))) := Lib.hid ((hba.block _ (by omega)).trans HX.out)
        have HB1 : Hid (Below w.heap.size w (wr.alloc (.cells #[.int .i64 p, .int .i64 q] 26))) := Lib.hid (HB.out.alloc (by omega) _)
        have hs1 : w.heap.size + 1 < (wr.alloc (.cells #[.int .i64 p, .int .i64 q] 26)).heap.size := by simp; omega
        clear he hba HG HX HB
        go_wp2_with fail
        go_roundw
        case rel => exact ⟨k + 1, by go_num, by omega, HV', HG1, HX1, HB1, hs1⟩
        case measure => simp [intOf]; omega
    · obtain rfl : n = k := by omega
      go_wp2_with fail
      refine (rOn_any W H M B x y _ rfl _).mono ?_
      rintro e w1 ⟨rfl, hb⟩
      have HB1 : Hid (Below w.heap.size w w1) := Lib.hid (HB.out.trans (hb.mono (by omega)))
      clear hb
      go_wp2_with fail
      refine bodyPost_ret (v := .bool (onB W H x y)) (by simp [results, Try.results50, go_sem]) rfl ⟨by unfold opB; rw [HV.out]; simp, HB1.out⟩
set_option maxRecDepth 100000 in
set_option maxHeartbeats 4000000 in
theorem small_any (W H M B : Int) (n cp : Nat) (ao : Option Addr) (X Y : Nat → Int) (w : World) (hn : n ≤ 9223372036854775807) (hc : XYs w ao n X Y) :
    Calls Try.prog 24 #[.agg #[.int .i64 W, .int .i64 H, .int .i64 M, .int .i64 B, .slice ao n cp]] w fun e w' => e = .returned (.bool (smG W H M B n X Y)) ∧ Below w.heap.size w w' := by
  have HC := Lib.hid hc
  clear hc
  go_enter Try.func24, Try.ntmps24
  go_wp2_with fail
  refine (rValid_any W H M B n cp ao X Y _ hn (HC.out.keep (by go_grown))).mono ?_
  by_cases hv : vaG W H M B n X Y = true
  · obtain ⟨hnum, _⟩ := vaG_num hv
    have hwh := wh_le hnum.1 hnum.2.1 hnum.2.2.1 hnum.2.2.2.1
    have HR : Hid (smG W H M B n X Y = decide (W * H ≤ 144)) := Lib.hid (by unfold smG; rw [hv]; rfl)
    rw [hv]
    rintro e w1 ⟨rfl, hb⟩
    have k3 : G5 w1 w.heap.size W H M B ao n cp := (hb.block _ (by simp)).trans (heap_alloc_new w _)
    have HB1 : Hid (Below w.heap.size w w1) := Lib.hid (Below.trans (by go_grown) (hb.mono (by simp)))
    obtain ⟨g0, g1, g2, g3, g4⟩ := G5.c k3
    clear hb k3 hv hnum
    by_cases h : W * H ≤ 144
    · go_wp2_with fail
      refine bodyPost_ret (v := .bool true) (by simp [results, Try.results24, go_sem]) rfl ⟨by rw [HR.out, decide_eq_true h], HB1.out⟩
    · go_wp2_with fail
      refine bodyPost_ret (v := .bool false) (by simp [results, Try.results24, go_sem]; omega) rfl ⟨by rw [HR.out, decide_eq_false (by omega)], HB1.out⟩
  · have hv' : vaG W H M B n X Y = false := by simpa using hv
    have HR : Hid (smG W H M B n X Y = true) := Lib.hid (by unfold smG; rw [hv']; rfl)
    rw [hv']
    rintro e w1 ⟨rfl, hb⟩
    have HB1 : Hid (Below w.heap.size w w1) := Lib.hid (Below.trans (by go_grown) (hb.mono (by simp)))
    clear hb hv hv'
    go_wp2_with fail
    refine bodyPost_ret (v := .bool true) (by simp [results, Try.results24, go_sem]) rfl ⟨by rw [HR.out], HB1.out⟩
end Go.Proofs.Ytkkcnhhfdicppaa
