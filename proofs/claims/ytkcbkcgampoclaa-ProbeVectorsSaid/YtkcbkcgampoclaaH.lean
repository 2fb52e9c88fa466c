import Derived.Test.YtkcbkcgampoclaaG
import Derived.Test.YtkcbkcgampoclaaSp2
import Derived.RegionTactic
namespace Go.Proofs.Ytkcbkcgampoclaa
open Go.RowKit Amp
attribute [local go_sem] ix0 ix1 ix2 ix3

set_option maxHeartbeats 1000000 in
theorem timesRoots_even (a b c d : Int) (m : Nat) (w : World) (h : big 1000000000 ⟨a, b, c, d⟩) (hm : m ≤ 20) :
    Calls Try.prog 59 #[.agg #[.int .i64 a, .int .i64 b, .int .i64 c, .int .i64 d], .int .i64 (2 * m : Nat)] w fun e w' => e = .returned (.agg #[.int .i64 (a * 2 ^ m), .int .i64 (b * 2 ^ m), .int .i64 (c * 2 ^ m), .int .i64 (d * 2 ^ m)]) ∧ Below w.heap.size w w' := by
  have hp := pow2_bd m hm
  have b0 := mul_bd h.1 hp
  have b1 := mul_bd h.2.1 hp
  have b2 := mul_bd h.2.2.1 hp
  have b3 := mul_bd h.2.2.2 hp
  unfold bg at b0 b1 b2 b3
  simp only at b0 b1 b2 b3
  have hr : (((2 * m : Nat) : Int)).tmod 2 = 0 := by rw [tmod2]; omega
  have hr' : ((((2 * m : Nat) : Int)).tmod 2 == 1) = false := by rw [hr]; rfl
  clear hr
  go_enter Try.func59, Try.ntmps59
  go_wp2_with fail
  refine wp_loop_rounds 5 ?_
  rw [rounds_succ]; go_wp2_with fail
  go_region
  go_wp2_with fail
  rw [rounds_succ]; go_wp2_with fail
  go_region
  go_wp2_with fail
  rw [rounds_succ]; go_wp2_with fail
  go_region
  go_wp2_with fail
  rw [rounds_succ]; go_wp2_with fail
  go_region
  go_wp2_with fail
  rw [rounds_succ]; go_wp2_with fail
  go_returns
  exact ⟨rfl, by go_grown⟩

set_option maxHeartbeats 1000000 in
theorem timesRoots_odd (a b c d N : Int) (m : Nat) (w : World) (h : big 1000000000 ⟨a, b, c, d⟩) (hm : m ≤ 20) (hN : Hid (N = 2 * m + 1)) :
    Calls Try.prog 59 #[.agg #[.int .i64 a, .int .i64 b, .int .i64 c, .int .i64 d], .int .i64 N] w fun e w' => e = .returned (.agg #[.int .i64 ((b - d) * 2 ^ m), .int .i64 ((a + c) * 2 ^ m), .int .i64 ((b + d) * 2 ^ m), .int .i64 ((c - a) * 2 ^ m)]) ∧ Below w.heap.size w w' := by
  have hp := pow2_bd m hm
  have h' := tr_bd h
  have b0 := mul_bd h'.1 hp
  have b1 := mul_bd h'.2.1 hp
  have b2 := mul_bd h'.2.2.1 hp
  have b3 := mul_bd h'.2.2.2 hp
  unfold bg at b0 b1 b2 b3
  simp only [tr] at b0 b1 b2 b3
  have n0 : 0 ≤ N := by have := hN.out; omega
  have n1 : N ≤ 41 := by have := hN.out; omega
  have hr' : (N % 2 == 1) = true := by have := hN.out; rw [beq_iff_eq]; omega
  have hq : N / 2 = (m : Int) := by have := hN.out; omega
  go_enter Try.func59, Try.ntmps59
  go_wp2_with fail
  have hbg : big 4611686018427387903 ⟨a, b, c, d⟩ := big_mono h (by omega)
  refine (timesRoot_any _ _ _ _ _ hbg).mono ?_
  rintro e w1 ⟨rfl, hb1⟩
  obtain ⟨⟨c0, c1, c2, c3⟩, f0, f1, f2, f3⟩ : Has4 w1 w.heap.size a b c d := Has4.keep (by refine ⟨⟨?_, ?_, ?_, ?_⟩, ?_, ?_, ?_, ?_⟩ <;> go_cell) hb1 (by simp; omega)
  obtain ⟨⟨g0, g1, g2, g3⟩, e0, e1, e2, e3⟩ : Has4 w1 (w.heap.size + 1) 0 0 0 0 := Has4.keep (by refine ⟨⟨?_, ?_, ?_, ?_⟩, ?_, ?_, ?_, ?_⟩ <;> go_cell) hb1 (by simp)
  have hbel1 : Below w.heap.size w w1 := Below.trans (by go_grown) (hb1.mono (by simp; omega))
  clear hb1 h h' hbg
  go_wp2_with fail
  have X4 : Has4 ((((w1.setCell ⟨w.heap.size, 0, none⟩ (.int .i64 (b - d))).setCell ⟨w.heap.size, 1, none⟩ (.int .i64 (a + c))).setCell ⟨w.heap.size, 2, none⟩ (.int .i64 (b + d))).setCell ⟨w.heap.size, 3, none⟩ (.int .i64 (c - a))) w.heap.size (b - d) (a + c) (b + d) (c - a) := by refine ⟨⟨?_, ?_, ?_, ?_⟩, ?_, ?_, ?_, ?_⟩ <;> go_cell
  have Y4 : Has4 ((((w1.setCell ⟨w.heap.size, 0, none⟩ (.int .i64 (b - d))).setCell ⟨w.heap.size, 1, none⟩ (.int .i64 (a + c))).setCell ⟨w.heap.size, 2, none⟩ (.int .i64 (b + d))).setCell ⟨w.heap.size, 3, none⟩ (.int .i64 (c - a))) (w.heap.size + 1) 0 0 0 0 := by refine ⟨⟨?_, ?_, ?_, ?_⟩, ?_, ?_, ?_, ?_⟩ <;> go_cell
  have hbel2 : Below w.heap.size w ((((w1.setCell ⟨w.heap.size, 0, none⟩ (.int .i64 (b - d))).setCell ⟨w.heap.size, 1, none⟩ (.int .i64 (a + c))).setCell ⟨w.heap.size, 2, none⟩ (.int .i64 (b + d))).setCell ⟨w.heap.size, 3, none⟩ (.int .i64 (c - a))) := by go_grown
  clear hbel1 c0 c1 c2 c3 f0 f1 f2 f3 g0 g1 g2 g3 e0 e1 e2 e3
  generalize ((((w1.setCell ⟨w.heap.size, 0, none⟩ (.int .i64 (b - d))).setCell ⟨w.heap.size, 1, none⟩ (.int .i64 (a + c))).setCell ⟨w.heap.size, 2, none⟩ (.int .i64 (b + d))).setCell ⟨w.heap.size, 3, none⟩ (.int .i64 (c - a))) = w2 at *
  obtain ⟨⟨c0, c1, c2, c3⟩, f0, f1, f2, f3⟩ := X4
  obtain ⟨⟨g0, g1, g2, g3⟩, e0, e1, e2, e3⟩ := Y4
  refine wp_loop_rounds 5 ?_
  rw [rounds_succ]; go_wp2_with fail
  go_region
  go_wp2_with fail
  rw [rounds_succ]; go_wp2_with fail
  go_region
  go_wp2_with fail
  rw [rounds_succ]; go_wp2_with fail
  go_region
  go_wp2_with fail
  rw [rounds_succ]; go_wp2_with fail
  go_region
  go_wp2_with fail
  have Z4 : Has4 ((((w2.setCell ⟨w.heap.size, 0, none⟩ (.int .i64 ((b - d) * 2 ^ m))).setCell ⟨w.heap.size, 1, none⟩ (.int .i64 ((a + c) * 2 ^ m))).setCell ⟨w.heap.size, 2, none⟩ (.int .i64 ((b + d) * 2 ^ m))).setCell ⟨w.heap.size, 3, none⟩ (.int .i64 ((c - a) * 2 ^ m))).drew.drew.drew.drew w.heap.size ((b - d) * 2 ^ m) ((a + c) * 2 ^ m) ((b + d) * 2 ^ m) ((c - a) * 2 ^ m) := by refine ⟨⟨?_, ?_, ?_, ?_⟩, ?_, ?_, ?_, ?_⟩ <;> go_cell
  have Y5 : Has4 ((((w2.setCell ⟨w.heap.size, 0, none⟩ (.int .i64 ((b - d) * 2 ^ m))).setCell ⟨w.heap.size, 1, none⟩ (.int .i64 ((a + c) * 2 ^ m))).setCell ⟨w.heap.size, 2, none⟩ (.int .i64 ((b + d) * 2 ^ m))).setCell ⟨w.heap.size, 3, none⟩ (.int .i64 ((c - a) * 2 ^ m))).drew.drew.drew.drew (w.heap.size + 1) 0 0 0 0 := by refine ⟨⟨?_, ?_, ?_, ?_⟩, ?_, ?_, ?_, ?_⟩ <;> go_cell
  have hbel3 : Below w.heap.size w ((((w2.setCell ⟨w.heap.size, 0, none⟩ (.int .i64 ((b - d) * 2 ^ m))).setCell ⟨w.heap.size, 1, none⟩ (.int .i64 ((a + c) * 2 ^ m))).setCell ⟨w.heap.size, 2, none⟩ (.int .i64 ((b + d) * 2 ^ m))).setCell ⟨w.heap.size, 3, none⟩ (.int .i64 ((c - a) * 2 ^ m))).drew.drew.drew.drew := by go_grown
  clear hbel2 c0 c1 c2 c3 f0 f1 f2 f3 g0 g1 g2 g3 e0 e1 e2 e3
  generalize ((((w2.setCell ⟨w.heap.size, 0, none⟩ (.int .i64 ((b - d) * 2 ^ m))).setCell ⟨w.heap.size, 1, none⟩ (.int .i64 ((a + c) * 2 ^ m))).setCell ⟨w.heap.size, 2, none⟩ (.int .i64 ((b + d) * 2 ^ m))).setCell ⟨w.heap.size, 3, none⟩ (.int .i64 ((c - a) * 2 ^ m))).drew.drew.drew.drew = w3 at *
  obtain ⟨⟨c0, c1, c2, c3⟩, f0, f1, f2, f3⟩ := Z4
  obtain ⟨⟨g0, g1, g2, g3⟩, e0, e1, e2, e3⟩ := Y5
  rw [rounds_succ]; go_wp2_with fail
  refine bodyPost_ret (v := .agg #[.int .i64 ((b - d) * 2 ^ m), .int .i64 ((a + c) * 2 ^ m), .int .i64 ((b + d) * 2 ^ m), .int .i64 ((c - a) * 2 ^ m)]) (by simp [results, Try.results59, go_sem, *]) rfl ⟨rfl, by go_grown⟩

theorem timesRoots_any (a b c d : Int) (n : Nat) (w : World) (h : big 1000000000 ⟨a, b, c, d⟩) (hn : n ≤ 40) :
    Calls Try.prog 59 #[.agg #[.int .i64 a, .int .i64 b, .int .i64 c, .int .i64 d], .int .i64 n] w fun e w' => e = .returned (.agg #[.int .i64 (trn n ⟨a, b, c, d⟩).a, .int .i64 (trn n ⟨a, b, c, d⟩).b, .int .i64 (trn n ⟨a, b, c, d⟩).c, .int .i64 (trn n ⟨a, b, c, d⟩).d]) ∧ Below w.heap.size w w' := by
  rcases Nat.mod_two_eq_zero_or_one n with e | e
  · obtain ⟨m, rfl⟩ : ∃ m, n = 2 * m := ⟨n / 2, by omega⟩
    rw [trn_even]
    exact timesRoots_even a b c d m w h (by omega)
  · obtain ⟨m, rfl⟩ : ∃ m, n = 2 * m + 1 := ⟨n / 2, by omega⟩
    rw [trn_odd]
    exact timesRoots_odd a b c d (2 * m + 1 : Nat) m w h (by omega) (by show ((2 * m + 1 : Nat) : Int) = 2 * m + 1; omega)
end Go.Proofs.Ytkcbkcgampoclaa
