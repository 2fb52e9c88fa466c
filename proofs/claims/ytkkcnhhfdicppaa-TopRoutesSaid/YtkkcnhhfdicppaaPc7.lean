import Derived.Test.YtkkcnhhfdicppaaPb7
namespace Lay
/-- The first error of some. -/
def erN (E : Nat → Int) : Nat → Int
  | 0 => 0
  | k + 1 => if erN E k = 0 then E k else erN E k
theorem erN_stop {E : Nat → Int} {k : Nat} (h0 : erN E k = 0) (h : E k ≠ 0) : ∀ m, k < m → erN E m = E k := by
  intro m
  induction m with
  | zero => intro h; omega
  | succ m ih =>
    intro hk
    simp only [erN]
    by_cases e : k = m
    · subst e; rw [if_pos h0]
    · rw [ih (by omega), if_neg h]
theorem erN_pre {E : Nat → Int} : ∀ {m : Nat}, erN E m = 0 → ∀ k, k ≤ m → erN E k = 0
  | 0, _, k, hk => by obtain rfl : k = 0 := by omega
                      rfl
  | m + 1, h, k, hk => by
    by_cases e : k = m + 1
    · rw [e]; exact h
    · refine erN_pre (m := m) ?_ k (by omega)
      simp only [erN] at h
      by_cases h0 : erN E m = 0
      · exact h0
      · rw [if_neg h0] at h; exact absurd h h0
theorem erN_get {E : Nat → Int} {m k : Nat} (h : erN E m = 0) (hk : k < m) : E k = 0 := by
  have h1 := erN_pre h (k + 1) (by omega)
  have h2 := erN_pre h k (by omega)
  simp only [erN] at h1
  rw [if_pos h2] at h1
  exact h1
/-- The error of a grid and of some paths. -/
def rdE (va : Bool) (m : Nat) (er : Int) : Int := if va = true then (if m ≤ 12 then er else 4) else 70
end Lay
namespace Go.Proofs.Ytkkcnhhfdicppaa
open Go.RowKit Lay
/-- A slice of slices of cells. -/
def PSl (w : World) (sa : Option Addr) (m : Nat) (A : Nat → Option Addr) (N C : Nat → Nat) (X Y : Nat → Nat → Int) : Prop :=
  0 < m → ∃ b o, sa = some ⟨b, o, none⟩ ∧ ∀ j, j < m → w.cell? ⟨b, o + j, none⟩ = some (.slice (A j) (N j) (C j)) ∧ XYs w (A j) (N j) (X j) (Y j)
theorem PSl.keep {w w' : World} {sa : Option Addr} {m : Nat} {A : Nat → Option Addr} {N C : Nat → Nat} {X Y : Nat → Nat → Int} (h : PSl w sa m A N C X Y) (hb : Below w.heap.size w w') : PSl w' sa m A N C X Y := by
  intro h0
  obtain ⟨b, o, e, hc⟩ := h h0
  refine ⟨b, o, e, fun j hj => ?_⟩
  obtain ⟨h1, h2⟩ := hc j hj
  exact ⟨(World.cell?_of_block (hb.block _ (World.block_lt_of_cell? _ _ h1))).trans h1, h2.keep hb⟩
set_option maxRecDepth 100000 in
set_option maxHeartbeats 8000000 in
theorem check_any (W H M B : Int) (nb cb m n cp : Nat) (ao ap : Option Addr) (K : Int → Int → Bool) (N9 : Nat) (X Y : Nat → Int) (w : World) (hW : W ≤ 30) (hH : H ≤ 30) (hm : BMap w m N9 K) (hn : n ≤ 1000000) (hc : XYs w ap n X Y) (hr : R2 X Y n) :
    Calls Try.prog 84 #[bdV W H M B ao nb cb m, .slice ap n cp] w fun e w' => e = .returned (.int .i64 (chE W H K X Y n)) ∧ Below w.heap.size w w' := by
  have HC := Lib.hid hc
  have HM := Lib.hid hm
  have hl := hm.lt
  have HRR := Lib.hid hr
  clear hc hm hr
  go_enter Try.func84, Try.ntmps84
  go_wp2_with fail
  refine (isPath_any n cp ap X Y _ hn (HC.out.keep (by go_grown)) HRR.out).mono ?_
  obtain ⟨pa, hpa⟩ : ∃ z, paB X Y n = z := ⟨_, rfl⟩
  rw [hpa]
  have HPA := Lib.hid hpa
  clear hpa
  rintro e w1 ⟨rfl, hb⟩
  have HB1 : Hid (Below w.heap.size w w1) := Lib.hid (Below.trans (by go_grown) (hb.mono (by simp)))
  have KB1 : Hid (w1.heap[w.heap.size]? = some (.cells #[.int .i64 W, .int .i64 H, .int .i64 M, .int .i64 B, .slice ao nb cb, .map (some m)] 68 (0, 0))) := Lib.hid ((hb.block _ (by simp)).trans (heap_alloc_new w _))
  have hz1 : w.heap.size < w1.heap.size := by have := hb.size; simp at this; omega
  clear hb
  cases pa with
  | false =>
    have HR : Hid (chE W H K X Y n = 71) := Lib.hid (by unfold chE; rw [HPA.out]; rfl)
    go_wp2_with fail
    refine bodyPost_ret (v := .int .i64 71) (by simp [results, Try.results84, go_sem]) rfl ⟨by rw [HR.out], HB1.out⟩
  | true =>
    have HR0 : Hid (chE W H K X Y n = if opA W H K X Y n = true then 0 else 72) := Lib.hid (by unfold chE; rw [HPA.out]; rfl)
    go_wp2_with fail
    go_loopw [12] (fun iv wr => ∃ k : Nat, iv = .int .i64 k ∧ k ≤ n ∧ Hid (opA W H K X Y k = true) ∧ Hid (wr.heap[w.heap.size]? = some (.cells #[.int .i64 W, .int .i64 H, .int .i64 M, .int .i64 B, .slice ao nb cb, .map (some m)] 68 (0, 0))) ∧ Hid (Below w.heap.size w wr) ∧ w.heap.size < wr.heap.size) (fun iv _ => n - (intOf iv).toNat)
    case atStart => exact ⟨0, rfl, Nat.zero_le _, Lib.hid rfl, KB1, HB1, hz1⟩
    case round =>
      obtain ⟨k, rfl, hk, HS, KB, HB, hz⟩ := hrel
      clear KB1 HB1 hz1
      by_cases hlt : k < n
      · obtain ⟨b, o, rfl, hcell⟩ := (HC.out.keep HB.out) (by omega)
        obtain ⟨c0, c1⟩ := hcell k hlt
        have lb : b < wr.heap.size := World.block_lt_of_cell? wr _ c0
        obtain ⟨x, hx⟩ : ∃ z, X k = z := ⟨_, rfl⟩
        obtain ⟨y, hy⟩ : ∃ z, Y k = z := ⟨_, rfl⟩
        rw [hx] at c0
        rw [hy] at c1
        have HXY := Lib.hid (And.intro hx hy)
        clear hx hy hcell
        obtain ⟨g0, g1, g2, g3, g4, g5⟩ : wr.cell? ⟨w.heap.size, 0, none⟩ = some (.int .i64 W) ∧ wr.cell? ⟨w.heap.size, 1, none⟩ = some (.int .i64 H) ∧ wr.cell? ⟨w.heap.size, 2, none⟩ = some (.int .i64 M) ∧ wr.cell? ⟨w.heap.size, 3, none⟩ = some (.int .i64 B) ∧ wr.cell? ⟨w.heap.size, 4, none⟩ = some (.slice ao nb cb) ∧ wr.cell? ⟨w.heap.size, 5, none⟩ = some (.map (some m)) := ⟨cell_of_blk KB.out rfl, cell_of_blk KB.out rfl, cell_of_blk KB.out rfl, cell_of_blk KB.out rfl, cell_of_blk KB.out rfl, cell_of_blk KB.out rfl⟩
        have l0 : ¬ w.heap.size = wr.heap.size := by omega
        have l1 : ¬ wr.heap.size = w.heap.size := by omega
        go_wp2_with fail
        refine (has_any W H M B x y nb cb m N9 ao K _ hW hH (HM.out.keep (Below.block ((HB.out.alloc (by omega) _)) _ hl))).mono ?_
        obtain ⟨op, hop⟩ : ∃ z, opB W H K x y = z := ⟨_, rfl⟩
        rw [hop]
        have HOP := Lib.hid hop
        clear hop
        rintro e w2 ⟨rfl, hb⟩
        have hba : Below wr.heap.size wr (wr.alloc (.cells #[.int .i64 x, .int .i64 y] 26)) := bal (Below.refl _ _) _
        have HB2 : Hid (Below w.heap.size w w2) := Lib.hid ((HB.out.alloc (by omega) _).trans (hb.mono (by simp; omega)))
        have KB2 : Hid (w2.heap[w.heap.size]? = some (.cells #[.int .i64 W, .int .i64 H, .int .i64 M, .int .i64 B, .slice ao nb cb, .map (some m)] 68 (0, 0))) := Lib.hid ((hb.block _ (by simp; omega)).trans ((hba.block _ (by omega)).trans KB.out))
        have hz2 : w.heap.size < w2.heap.size := by have := hb.size; simp at this; omega
        clear hb hba g0 g1 g2 g3 g4 g5 c0 c1 KB HB
        cases op with
        | false =>
          have HR : Hid (chE W H K X Y n = 72) := Lib.hid (by rw [HR0.out, opA_stop (k := k) (by rw [HXY.out.1, HXY.out.2]; exact HOP.out) n hlt]; rfl)
          go_wp2_with fail
          refine bodyPost_ret (v := .int .i64 72) (by simp [results, Try.results84, go_sem]) rfl ⟨by rw [HR.out], HB2.out⟩
        | true =>
          have HS' : Hid (opA W H K X Y (k + 1) = true) := Lib.hid (by simp only [opA]; rw [HS.out, HXY.out.1, HXY.out.2, HOP.out]; rfl)
          go_wp2_with fail
          go_roundw
          case rel => exact ⟨k + 1, by go_num, by omega, HS', KB2, HB2, hz2⟩
          case measure => simp [intOf]; omega
      · obtain rfl : n = k := by omega
        have HR : Hid (chE W H K X Y n = 0) := Lib.hid (by rw [HR0.out, HS.out]; rfl)
        go_wp2_with fail
        refine bodyPost_ret (v := .int .i64 0) (by simp [results, Try.results84, go_sem]) rfl ⟨by rw [HR.out], HB.out⟩
end Go.Proofs.Ytkkcnhhfdicppaa
