import Derived.Test.YtkcbkcgampoclaaT
namespace Amp
def halveS (z : Nm) (n : Int) : Nm × Int := if vld z = true then (if 0 ≤ n ∧ n ≤ 100 then made z.v (z.k + n).toNat else (N0, 2)) else (N0, 10)
theorem halveS_bad {z : Nm} {n : Int} (h : vld z = false) : halveS z n = (N0, 10) := by unfold halveS; rw [h]; rfl
theorem halveS_arg {z : Nm} {n : Int} (h : vld z = true) (hn : ¬ (0 ≤ n ∧ n ≤ 100)) : halveS z n = (N0, 2) := by unfold halveS; rw [if_pos h, if_neg hn]
theorem halveS_ok {z : Nm} {n : Int} (h : vld z = true) (hn : 0 ≤ n ∧ n ≤ 100) : halveS z n = made z.v (z.k + n).toNat := by unfold halveS; rw [if_pos h, if_pos hn]
end Amp
namespace Go.Proofs.Ytkcbkcgampoclaa
open Go.RowKit Amp
attribute [local go_sem] ix0 ix1 ix2 ix3

set_option maxHeartbeats 1000000 in
theorem Conj_any (a b c d k : Int) (w : World) :
    Calls Try.prog 43 #[.agg #[.int .i64 a, .int .i64 b, .int .i64 c, .int .i64 d, .int .i64 k]] w fun e w' => e = Ret5 (chgS ⟨⟨a, b, c, d⟩, k⟩ (conj)) ∧ Below w.heap.size w w' := by
  obtain ⟨x', y', z', u', v', er, HM⟩ := res5 (chgS ⟨⟨a, b, c, d⟩, k⟩ (conj))
  go_enter Try.func43, Try.ntmps43
  go_wp2_with fail
  refine (changed_conj _ _ _ _ _ _).mono ?_
  rintro e w1 ⟨rfl, hb1⟩
  obtain ⟨⟨q0, q1, q2, q3, q4⟩, r0, r1, r2, r3, r4⟩ : Has5 w1 (w.heap.size + 1) 0 0 0 0 0 := Has5.keep (by refine ⟨⟨?_, ?_, ?_, ?_, ?_⟩, ?_, ?_, ?_, ?_, ?_⟩ <;> go_cell) hb1 (by first | omega | (simp; done) | (simp; omega))
  have D1 : Below w.heap.size w w1 := Below.trans (by go_grown) (hb1.mono (by first | omega | (simp; done) | (simp; omega)))
  clear hb1
  rw [HM.out]
  unfold Ret5
  (try simp only)
  go_wp2_with fail
  refine bodyPost_ret (v := .tuple #[.agg #[.int .i64 x', .int .i64 y', .int .i64 z', .int .i64 u', .int .i64 v'], .int .i64 er]) (by simp [results, Try.results43, go_sem, *]) rfl ⟨by rw [HM.out]; rfl, by go_grown⟩

set_option maxHeartbeats 1000000 in
theorem Turn_any (a b c d k : Int) (n : Int) (w : World) :
    Calls Try.prog 42 #[.agg #[.int .i64 a, .int .i64 b, .int .i64 c, .int .i64 d, .int .i64 k], .int .i64 n] w fun e w' => e = Ret5 (chgS ⟨⟨a, b, c, d⟩, k⟩ (fun x => rotn (n % 8).toNat x)) ∧ Below w.heap.size w w' := by
  obtain ⟨x', y', z', u', v', er, HM⟩ := res5 (chgS ⟨⟨a, b, c, d⟩, k⟩ (fun x => rotn (n % 8).toNat x))
  go_enter Try.func42, Try.ntmps42
  go_wp2_with fail
  refine (changed_turn _ _ _ _ _ (w.heap.size + 1) n _ (by rw [World.cell?_alloc_lt _ _ _ (by simp)]; simp)).mono ?_
  rintro e w1 ⟨rfl, hb1⟩
  obtain ⟨⟨q0, q1, q2, q3, q4⟩, r0, r1, r2, r3, r4⟩ : Has5 w1 (w.heap.size + 1 + 1) 0 0 0 0 0 := Has5.keep (by refine ⟨⟨?_, ?_, ?_, ?_, ?_⟩, ?_, ?_, ?_, ?_, ?_⟩ <;> go_cell) hb1 (by first | omega | (simp; done) | (simp; omega))
  have D1 : Below w.heap.size w w1 := Below.trans (by go_grown) (hb1.mono (by first | omega | (simp; done) | (simp; omega)))
  clear hb1
  rw [HM.out]
  unfold Ret5
  (try simp only)
  go_wp2_with fail
  refine bodyPost_ret (v := .tuple #[.agg #[.int .i64 x', .int .i64 y', .int .i64 z', .int .i64 u', .int .i64 v'], .int .i64 er]) (by simp [results, Try.results42, go_sem, *]) rfl ⟨by rw [HM.out]; rfl, by go_grown⟩

end Go.Proofs.Ytkcbkcgampoclaa
