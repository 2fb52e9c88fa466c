import Derived.Test.YtilclpldfoifkaaEn2
import Derived.Deep.MidRow
namespace Go.Proofs.Ytilclpldfoifkaa
open Go.RowKit Encl

theorem sch_above {N i : Int} (h0 : 0 ≤ N) (h1 : N ≤ 1180591620717411303424) (h : schRes (fun t => decide (N < t * t)) 34359738369 i) : 1 ≤ i ∧ i - 1 = rtD N := by
  obtain ⟨a, b, c, d⟩ := h
  have hi : 1 ≤ i := by
    rcases d with d | d
    · omega
    · have := of_decide_eq_true d
      apply Classical.byContradiction; intro hc
      have : i = 0 := by omega
      subst this
      omega
  refine ⟨hi, rtD_eq h0 (by omega) ⟨by omega, ?_, ?_⟩⟩
  · rcases c with c | c
    · omega
    · have := of_decide_eq_false c; omega
  · rw [Int.sub_add_cancel]
    rcases d with d | d
    · subst d; omega
    · exact of_decide_eq_true d
theorem sch_from {N i : Int} (h0 : 0 ≤ N) (h1 : N ≤ 1180591620717411303424) (h : schRes (fun t => decide (N ≤ t * t)) 34359738369 i) : i = rtU N := by
  obtain ⟨a, b, c, d⟩ := h
  refine rtU_eq h0 (by omega) ⟨a, ?_, ?_⟩
  · rcases d with d | d
    · subst d; omega
    · exact of_decide_eq_true d
  · rcases c with c | c
    · exact .inl c
    · have := of_decide_eq_false c; right; omega

set_option maxRecDepth 100000 in
set_option maxHeartbeats 2000000 in
theorem rootSpan_any (a b : Int) (w : World) (h : okS ⟨a, b⟩ = true) (h0 : 0 ≤ a) :
    Calls Try.prog 71 #[.agg #[.int .i64 a, .int .i64 b]] w fun e w' => e = retS (rootS ⟨a, b⟩) ∧ Below w.heap.size w w' := by
  rw [okS_iff] at h
  have HG := Lib.hid h
  clear h
  have hmf : ∀ (fn : Fn) (first cap : Array Value) (w : World), (Instr.makeFunc fn first cap).run Try.prog w = .ok (.func fn first cap) w := fun _ _ _ _ => rfl
  go_enter Try.func71, Try.ntmps71
  go_wp2_with fail
  have hb0 : Below w.heap.size w ((w.alloc (Obj.cells #[.int .i64 a, .int .i64 b] 23)).alloc (Obj.cells #[.int .i64 0, .int .i64 0] 23)) := by go_grown
  have c0 : ((w.alloc (Obj.cells #[.int .i64 a, .int .i64 b] 23)).alloc (Obj.cells #[.int .i64 0, .int .i64 0] 23)).cell? ⟨w.heap.size, 0, none⟩ = some (.int .i64 a) := by go_cell
  have c1 : ((w.alloc (Obj.cells #[.int .i64 a, .int .i64 b] 23)).alloc (Obj.cells #[.int .i64 0, .int .i64 0] 23)).cell? ⟨w.heap.size, 1, none⟩ = some (.int .i64 b) := by go_cell
  have d0 : ((w.alloc (Obj.cells #[.int .i64 a, .int .i64 b] 23)).alloc (Obj.cells #[.int .i64 0, .int .i64 0] 23)).cell? ⟨w.heap.size + 1, 0, none⟩ = some (.int .i64 0) := by go_cell
  have d1 : ((w.alloc (Obj.cells #[.int .i64 a, .int .i64 b] 23)).alloc (Obj.cells #[.int .i64 0, .int .i64 0] 23)).cell? ⟨w.heap.size + 1, 1, none⟩ = some (.int .i64 0) := by go_cell
  have f0 : ((w.alloc (Obj.cells #[.int .i64 a, .int .i64 b] 23)).alloc (Obj.cells #[.int .i64 0, .int .i64 0] 23)).frozen? ⟨w.heap.size + 1, 0, none⟩ = false := by go_cell
  have f1 : ((w.alloc (Obj.cells #[.int .i64 a, .int .i64 b] 23)).alloc (Obj.cells #[.int .i64 0, .int .i64 0] 23)).frozen? ⟨w.heap.size + 1, 1, none⟩ = false := by go_cell
  have hz : w.heap.size + 1 < ((w.alloc (Obj.cells #[.int .i64 a, .int .i64 b] 23)).alloc (Obj.cells #[.int .i64 0, .int .i64 0] 23)).heap.size := by simp
  generalize ((w.alloc (Obj.cells #[.int .i64 a, .int .i64 b] 23)).alloc (Obj.cells #[.int .i64 0, .int .i64 0] 23)) = W at *
  have HB0 := Lib.hid hb0
  clear hb0
  refine (search_above 34359738369 w.heap.size (fun t => decide (a * 1073741824 < t * t)) W (by omega) (by omega) (fun t w1 ht0 ht1 hb => above_any t a b w.heap.size w1 ht0 (by omega) h0 (by have := HG.out; (try simp only at this); omega) (((bcl hb).1 _ _ (by omega)).trans c0))).mono ?_
  rintro e w1 ⟨i, rfl, HI, hb⟩
  have D1 := Lib.hid (HB0.out.trans (hb.mono HB0.out.size))
  have s1 : w.heap.size + 1 < w1.heap.size := by have := hb.size; omega
  obtain ⟨k1, k2⟩ := bcl hb
  have c1' := (k1 w.heap.size 1 (by omega)).trans c1
  have d0' := (k1 (w.heap.size + 1) 0 (by omega)).trans d0
  have d1' := (k1 (w.heap.size + 1) 1 (by omega)).trans d1
  have f0' := (k2 (w.heap.size + 1) 0 (by omega)).trans f0
  have f1' := (k2 (w.heap.size + 1) 1 (by omega)).trans f1
  clear hb k1 k2 c0 c1 d0 d1 f0 f1 HB0
  go_wp2_with fail
  refine (search_from 34359738369 w.heap.size (fun t => decide (b * 1073741824 ≤ t * t)) w1 (by omega) (by omega) (fun t w2 ht0 ht1 hb => from_any t a b w.heap.size w2 ht0 (by omega) (by have := HG.out; (try simp only at this); omega) (by have := HG.out; (try simp only at this); omega) (((bcl hb).1 _ _ (by omega)).trans c1'))).mono ?_
  rintro e w2 ⟨j, rfl, HJ, hb⟩
  have D2 := D1.out.trans (hb.mono D1.out.size)
  have s2 : w.heap.size + 1 < w2.heap.size := by have := hb.size; omega
  obtain ⟨k1, k2⟩ := bcl hb
  have d0'' := (k1 (w.heap.size + 1) 0 (by omega)).trans d0'
  have d1'' := (k1 (w.heap.size + 1) 1 (by omega)).trans d1'
  have f0'' := (k2 (w.heap.size + 1) 0 (by omega)).trans f0'
  have f1'' := (k2 (w.heap.size + 1) 1 (by omega)).trans f1'
  clear hb k1 k2 c1' d0' d1' f0' f1'
  have KA := Lib.hid (sch_above (by omega) (by have := HG.out; (try simp only at this); omega) HI.out)
  have KB := Lib.hid (sch_from (N := b * 1073741824) (by have := HG.out; (try simp only at this); omega) (by have := HG.out; (try simp only at this); omega) HJ.out)
  have hi1 := KA.out.1
  have hi2 := HI.out.2.1
  go_wp2_with fail
  refine bodyPost_ret (v := .agg #[.int .i64 (i - 1), .int .i64 j]) (by simp [results, Try.results71, go_sem, *]) rfl ⟨?_, by go_grown⟩
  rw [KA.out.2, KB.out]
  rfl
end Go.Proofs.Ytilclpldfoifkaa
