import Derived.Test.YtedfienfamplcaaEq
namespace Go.Proofs.Ytedfienfamplcaa
open Go.RowKit Amp
attribute [local go_sem] ix0 ix1 ix2 ix3 jx0 jx1 jx2 jx3
attribute [local go_sem] run_eqNum run_neNum

set_option maxHeartbeats 2000000 in
theorem Make_any (a b c d k : Int) (w : World) :
    Calls Try.prog 65 #[.agg #[.int .i64 a, .int .i64 b, .int .i64 c, .int .i64 d], .int .i64 k] w fun e w' => e = Ret5 (makeS ⟨a, b, c, d⟩ k) ∧ Below w.heap.size w w' := by
  have hbad : ¬ (big 1152921504606846976 ⟨a, b, c, d⟩ ∧ 0 ≤ k ∧ k ≤ 1000) → makeS ⟨a, b, c, d⟩ k = (N0, 2) := makeS_bad
  have HB := Lib.hid hbad
  clear hbad
  go_enter Try.func65, Try.ntmps65
  go_wp2_with fail
  refine wp_loop_rounds 5 ?_
  repeat any_goals (rw [rounds_succ]; go_wp2_with fail)
  all_goals first
    | (refine bodyPost_ret (v := .tuple #[.agg #[.int .i64 0, .int .i64 0, .int .i64 0, .int .i64 0, .int .i64 0], .int .i64 2]) (by simp [results, Try.results65, go_sem]) rfl ⟨?_, by go_grown⟩; rw [HB.out (by simp only [big, bg]; omega)]; rfl)
    | skip
  have hk : 0 ≤ k ∧ k ≤ 1000 := by omega
  have hbg : big 1152921504606846976 ⟨a, b, c, d⟩ := by simp only [big, bg]; omega
  have hbg' : big 4611686018427387903 ⟨a, b, c, d⟩ := by simp only [big, bg]; omega
  obtain ⟨j, rfl⟩ : ∃ j : Nat, k = j := ⟨k.toNat, by omega⟩
  refine (reduced_any _ _ _ _ _ _ hbg' (by omega)).mono ?_
  rintro e w1 ⟨rfl, hb1⟩
  obtain ⟨⟨q0, q1, q2, q3, q4⟩, r0, r1, r2, r3, r4⟩ : Has5 w1 (w.heap.size + 1) 0 0 0 0 0 := Has5.keep (by refine ⟨⟨?_, ?_, ?_, ?_, ?_⟩, ?_, ?_, ?_, ?_, ?_⟩ <;> go_cell) hb1 (by simp)
  have hbel1 : Below w.heap.size w w1 := Below.trans (by go_grown) (hb1.mono (by simp; omega))
  have E := Lib.hid (makeS_ok hbg hk)
  clear hb1 hbg hbg' HB
  rw [show ((j : Int).toNat) = j from rfl] at E
  generalize made ⟨a, b, c, d⟩ j = r at *
  obtain ⟨⟨⟨x, y, z, u⟩, m⟩, er⟩ := r
  unfold Ret5
  go_wp2_with fail
  refine bodyPost_ret (v := .tuple #[.agg #[.int .i64 x, .int .i64 y, .int .i64 z, .int .i64 u, .int .i64 m], .int .i64 er]) (by simp [results, Try.results65, go_sem, *]) rfl ⟨by rw [E.out]; rfl, by go_grown⟩

end Go.Proofs.Ytedfienfamplcaa
