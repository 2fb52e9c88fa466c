import Derived.Test.YtkkcnhhfdicppaaMq7
namespace Lay
/-- The first k cells are on the grid. -/
def allOn (W H : Int) (X Y : Nat → Int) : Nat → Bool
  | 0 => true
  | k + 1 => allOn W H X Y k && onB W H (X k) (Y k)
/-- A cell is among the first k. -/
def blkN (X Y : Nat → Int) : Nat → Int → Int → Bool
  | 0 => fun _ _ => false
  | k + 1 => fun p q => blkN X Y k p q || decide (p = X k ∧ q = Y k)
theorem allOn_stop {W H : Int} {X Y : Nat → Int} {k : Nat} (h : onB W H (X k) (Y k) = false) : ∀ n, k < n → allOn W H X Y n = false := by
  intro n
  induction n with
  | zero => intro h; omega
  | succ n ih =>
    intro hk
    simp only [allOn]
    by_cases e : k = n
    · subst e; rw [h]; simp
    · rw [ih (by omega)]; rfl
theorem allOn_get {W H : Int} {X Y : Nat → Int} : ∀ {n : Nat}, allOn W H X Y n = true → ∀ k, k < n → onB W H (X k) (Y k) = true := by
  intro n
  induction n with
  | zero => intro _ k hk; omega
  | succ n ih =>
    intro h k hk
    simp only [allOn, Bool.and_eq_true] at h
    by_cases e : k = n
    · subst e; exact h.2
    · exact ih h.1 k (by omega)
/-- The numbers of a grid are as they may be. -/
def numG (W H M B : Int) (n : Nat) : Bool := decide (1 ≤ W ∧ W ≤ 30 ∧ 1 ≤ H ∧ H ≤ 30 ∧ 1 ≤ M ∧ M ≤ 1000 ∧ 0 ≤ B ∧ B ≤ 1000 ∧ n ≤ 900)
/-- A grid is valid. -/
def vaG (W H M B : Int) (n : Nat) (X Y : Nat → Int) : Bool := numG W H M B n && allOn W H X Y n
theorem vaG_num {W H M B : Int} {n : Nat} {X Y : Nat → Int} (h : vaG W H M B n X Y = true) : (1 ≤ W ∧ W ≤ 30 ∧ 1 ≤ H ∧ H ≤ 30 ∧ 1 ≤ M ∧ M ≤ 1000 ∧ 0 ≤ B ∧ B ≤ 1000 ∧ n ≤ 900) ∧ allOn W H X Y n = true := by
  unfold vaG numG at h
  simp only [Bool.and_eq_true, decide_eq_true_eq] at h
  exact h
theorem onB_iff {W H x y : Int} : onB W H x y = true ↔ 0 ≤ x ∧ x < W ∧ 0 ≤ y ∧ y < H := by unfold onB; simp
end Lay
namespace Go.Proofs.Ytkkcnhhfdicppaa
open Go.RowKit Lay
def XyAt (w : World) (b o : Nat) (x y : Int) : Prop := w.cell? ⟨b, o, none⟩ = some (.int .i64 x) ∧ w.cell? ⟨b, o + 1, none⟩ = some (.int .i64 y)
/-- A slice of cells, nil and empty ones let in. -/
def XYs (w : World) (ao : Option Addr) (n : Nat) (X Y : Nat → Int) : Prop := 0 < n → ∃ b o, ao = some ⟨b, o, none⟩ ∧ ∀ i, i < n → XyAt w b (o + i * 2) (X i) (Y i)
theorem XYs.keep {w w1 : World} {ao : Option Addr} {n : Nat} {X Y : Nat → Int} (h : XYs w ao n X Y) (hb : Below w.heap.size w w1) : XYs w1 ao n X Y := by
  intro hn
  obtain ⟨b, o, e, hc⟩ := h hn
  refine ⟨b, o, e, fun i hi => ?_⟩
  obtain ⟨h0, h1⟩ := hc i hi
  have hB : b < w.heap.size := World.block_lt_of_cell? w _ h0
  exact ⟨((bcl hb).1 _ _ hB).trans h0, ((bcl hb).1 _ _ hB).trans h1⟩
/-- The grid in a block. -/
abbrev G5 (w : World) (b : Nat) (W H M B : Int) (ao : Option Addr) (n cp : Nat) : Prop := w.heap[b]? = some (.cells #[.int .i64 W, .int .i64 H, .int .i64 M, .int .i64 B, .slice ao n cp] 24 (0, 0))
theorem G5.c {w : World} {b : Nat} {W H M B : Int} {ao : Option Addr} {n cp : Nat} (h : G5 w b W H M B ao n cp) : w.cell? ⟨b, 0, none⟩ = some (.int .i64 W) ∧ w.cell? ⟨b, 1, none⟩ = some (.int .i64 H) ∧ w.cell? ⟨b, 2, none⟩ = some (.int .i64 M) ∧ w.cell? ⟨b, 3, none⟩ = some (.int .i64 B) ∧ w.cell? ⟨b, 4, none⟩ = some (.slice ao n cp) :=
  ⟨cell_of_blk h rfl, cell_of_blk h rfl, cell_of_blk h rfl, cell_of_blk h rfl, cell_of_blk h rfl⟩

set_option maxRecDepth 100000 in
set_option maxHeartbeats 8000000 in
theorem pValid_any (W H M B : Int) (n cp : Nat) (ao : Option Addr) (X Y : Nat → Int) (w : World) (hn : n ≤ 9223372036854775807) (hc : XYs w ao n X Y) :
    Calls Try.prog 68 #[.agg #[.int .i64 W, .int .i64 H, .int .i64 M, .int .i64 B, .slice ao n cp]] w fun e w' => e = .returned (.bool (vaG W H M B n X Y)) ∧ Below w.heap.size w w' := by
  have HC := Lib.hid hc
  clear hc
  by_cases k0 : 1 ≤ W
  case neg =>
    have HR : Hid (vaG W H M B n X Y = false) := Lib.hid (by unfold vaG numG; rw [decide_eq_false (by omega)]; rfl)
    go_enter Try.func68, Try.ntmps68
    go_wp2_with fail
    refine bodyPost_ret (v := .bool false) (by simp [results, Try.results68, go_sem]) rfl ⟨by rw [HR.out], by go_grown⟩
  by_cases k1 : W ≤ 30
  case neg =>
    have HR : Hid (vaG W H M B n X Y = false) := Lib.hid (by unfold vaG numG; rw [decide_eq_false (by omega)]; rfl)
    go_enter Try.func68, Try.ntmps68
    go_wp2_with fail
    refine bodyPost_ret (v := .bool false) (by simp [results, Try.results68, go_sem]) rfl ⟨by rw [HR.out], by go_grown⟩
  by_cases k2 : 1 ≤ H
  case neg =>
    have HR : Hid (vaG W H M B n X Y = false) := Lib.hid (by unfold vaG numG; rw [decide_eq_false (by omega)]; rfl)
    go_enter Try.func68, Try.ntmps68
    go_wp2_with fail
    refine bodyPost_ret (v := .bool false) (by simp [results, Try.results68, go_sem]) rfl ⟨by rw [HR.out], by go_grown⟩
  by_cases k3 : H ≤ 30
  case neg =>
    have HR : Hid (vaG W H M B n X Y = false) := Lib.hid (by unfold vaG numG; rw [decide_eq_false (by omega)]; rfl)
    go_enter Try.func68, Try.ntmps68
    go_wp2_with fail
    refine bodyPost_ret (v := .bool false) (by simp [results, Try.results68, go_sem]) rfl ⟨by rw [HR.out], by go_grown⟩
  by_cases k4 : 1 ≤ M
  case neg =>
    have HR : Hid (vaG W H M B n X Y = false) := Lib.hid (by unfold vaG numG; rw [decide_eq_false (by omega)]; rfl)
    go_enter Try.func68, Try.ntmps68
    go_wp2_with fail
    refine bodyPost_ret (v := .bool false) (by simp [results, Try.results68, go_sem]) rfl ⟨by rw [HR.out], by go_grown⟩
  by_cases k5 : M ≤ 1000
  case neg =>
    have HR : Hid (vaG W H M B n X Y = false) := Lib.hid (by unfold vaG numG; rw [decide_eq_false (by omega)]; rfl)
    go_enter Try.func68, Try.ntmps68
    go_wp2_with fail
    refine bodyPost_ret (v := .bool false) (by simp [results, Try.results68, go_sem]) rfl ⟨by rw [HR.out], by go_grown⟩
  by_cases k6 : 0 ≤ B
  case neg =>
    have HR : Hid (vaG W H M B n X Y = false) := Lib.hid (by unfold vaG numG; rw [decide_eq_false (by omega)]; rfl)
    go_enter Try.func68, Try.ntmps68
    go_wp2_with fail
    refine bodyPost_ret (v := .bool false) (by simp [results, Try.results68, go_sem]) rfl ⟨by rw [HR.out], by go_grown⟩
  by_cases k7 : B ≤ 1000
  case neg =>
    have HR : Hid (vaG W H M B n X Y = false) := Lib.hid (by unfold vaG numG; rw [decide_eq_false (by omega)]; rfl)
    go_enter Try.func68, Try.ntmps68
    go_wp2_with fail
    refine bodyPost_ret (v := .bool false) (by simp [results, Try.results68, go_sem]) rfl ⟨by rw [HR.out], by go_grown⟩
  by_cases k8 : n ≤ 900
  case neg =>
    have HR : Hid (vaG W H M B n X Y = false) := Lib.hid (by unfold vaG numG; rw [decide_eq_false (by omega)]; rfl)
    go_enter Try.func68, Try.ntmps68
    go_wp2_with fail
    refine bodyPost_ret (v := .bool false) (by simp [results, Try.results68, go_sem]) rfl ⟨by rw [HR.out], by go_grown⟩
  have HN : Hid (numG W H M B n = true) := Lib.hid (by unfold numG; rw [decide_eq_true (by omega)])
  go_enter Try.func68, Try.ntmps68
  go_wp2_with fail
  go_loopw [50] (fun iv wr => ∃ k : Nat, iv = .int .i64 k ∧ k ≤ n ∧ Hid (allOn W H X Y k = true) ∧ Hid (G5 wr w.heap.size W H M B ao n cp) ∧ Hid (Below w.heap.size w wr) ∧ w.heap.size < wr.heap.size) (fun iv _ => n - (intOf iv).toNat)
  case atStart => exact ⟨0, rfl, Nat.zero_le _, Lib.hid rfl, Lib.hid (heap_alloc_new w _), Lib.hid (by go_grown), by simp⟩
  case round =>
    obtain ⟨k, rfl, hk, HV, HG, HB, hs⟩ := hrel
    by_cases hlt : k < n
    · obtain ⟨b, o, rfl, hcell⟩ := (HC.out.keep HB.out) (by omega)
      obtain ⟨c0, c1⟩ := hcell k hlt
      obtain ⟨g0, g1, g2, g3, g4⟩ := G5.c HG.out
      have lb : b < wr.heap.size := World.block_lt_of_cell? wr _ c0
      obtain ⟨x, hx⟩ : ∃ x, X k = x := ⟨_, rfl⟩
      obtain ⟨y, hy⟩ : ∃ y, Y k = y := ⟨_, rfl⟩
      rw [hx] at c0
      rw [hy] at c1
      have HM := Lib.hid (And.intro hx hy)
      have l0 : ¬ w.heap.size = wr.heap.size := by omega
      have l1 : ¬ wr.heap.size = w.heap.size := by omega
      clear hcell hx hy
      go_wp2_with fail
      refine (isOn_any W H M B x y _ rfl _).mono ?_
      by_cases hv : onB W H x y = true
      · rw [hv]
        rintro e w1 ⟨rfl, hb⟩
        have HV' : Hid (allOn W H X Y (k + 1) = true) := Lib.hid (by simp only [allOn]; rw [HV.out, HM.out.1, HM.out.2, hv]; rfl)
        have HB1 := Lib.hid (show Below w.heap.size w w1 from (HB.out.alloc (Nat.le_of_lt hs) _).trans (hb.mono (by simp; omega)))
        have HG1 : Hid (G5 w1 w.heap.size W H M B (some ⟨b, o, none⟩) n cp) := Lib.hid ((hb.block _ (by simp; omega)).trans ((Below.heap_alloc _ _ _ hs).trans HG.out))
        have hs1 : w.heap.size < w1.heap.size := by have h9 := hb.size; (try simp at h9); omega
        clear hb c0 c1 g0 g1 g2 g3 g4 HG HB
        go_wp2_with fail
        go_roundw
        case rel => exact ⟨k + 1, by go_num, by omega, HV', HG1, HB1, hs1⟩
        case measure => simp [intOf]; omega
      · have hv' : onB W H x y = false := by simpa using hv
        have HR : Hid (vaG W H M B n X Y = false) := Lib.hid (by unfold vaG; rw [allOn_stop (by rw [HM.out.1, HM.out.2]; exact hv') n hlt]; simp)
        rw [hv']
        rintro e w1 ⟨rfl, hb⟩
        have HB1 := Lib.hid (show Below w.heap.size w w1 from (HB.out.alloc (Nat.le_of_lt hs) _).trans (hb.mono (by simp; omega)))
        clear hb c0 c1 g0 g1 g2 g3 g4 HG HB
        go_wp2_with fail
        refine bodyPost_ret (v := .bool false) (by simp [results, Try.results68, go_sem]) rfl ⟨by rw [HR.out], HB1.out⟩
    · obtain rfl : n = k := by omega
      have HR : Hid (vaG W H M B n X Y = true) := Lib.hid (by unfold vaG; rw [HN.out, HV.out]; rfl)
      go_wp2_with fail
      refine bodyPost_ret (v := .bool true) (by simp [results, Try.results68, go_sem]) rfl ⟨by rw [HR.out], HB.out⟩
end Go.Proofs.Ytkkcnhhfdicppaa
