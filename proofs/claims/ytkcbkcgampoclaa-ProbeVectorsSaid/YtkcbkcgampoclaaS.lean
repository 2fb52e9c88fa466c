import Derived.Test.YtkcbkcgampoclaaJ
namespace Amp
def flipV (x : C4) (k : Int) : C4 := if k % 2 = 1 then neg (flp x) else flp x
def rotn : Nat → C4 → C4
  | 0, x => x
  | n + 1, x => rot (rotn n x)
theorem rot_bd {x : C4} {B : Int} (h : big B x) : big B (rot x) := by
  obtain ⟨⟨a1, a2⟩, ⟨b1, b2⟩, ⟨c1, c2⟩, ⟨d1, d2⟩⟩ := h
  refine ⟨⟨?_, ?_⟩, ⟨?_, ?_⟩, ⟨?_, ?_⟩, ⟨?_, ?_⟩⟩ <;> simp only [rot] <;> omega
theorem rotn_bd {x : C4} {B : Int} (n : Nat) (h : big B x) : big B (rotn n x) := by
  induction n with
  | zero => exact h
  | succ n ih => exact rot_bd ih
end Amp
namespace Go.Proofs.Ytkcbkcgampoclaa
open Go.RowKit Amp
attribute [local go_sem] ix0 ix1 ix2 ix3
theorem and7 (m : Int) : bits BinOp.and IntKind.i64 m 7 = m % 8 := by
  show IntKind.i64.wrap ((BitVec.ofInt 64 m &&& BitVec.ofInt 64 7).toNat : Int) = _
  rw [BitVec.toNat_and, show (BitVec.ofInt 64 7).toNat = 2 ^ 3 - 1 from by decide, Nat.and_two_pow_sub_one_eq_mod, BitVec.toNat_ofInt, IntKind.wrap_i64]
  omega
set_option maxHeartbeats 400000 in
theorem conjugate_any (a b c d : Int) (w : World) (h : big 4611686018427387903 ⟨a, b, c, d⟩) :
    Calls Try.prog 55 #[.agg #[.int .i64 a, .int .i64 b, .int .i64 c, .int .i64 d]] w fun e w' => e = .returned (.agg #[.int .i64 a, .int .i64 (-d), .int .i64 (-c), .int .i64 (-b)]) ∧ Below w.heap.size w w' := by
  obtain ⟨⟨a1, a2⟩, ⟨b1, b2⟩, ⟨c1, c2⟩, ⟨d1, d2⟩⟩ := h
  simp only at a1 a2 b1 b2 c1 c2 d1 d2
  go_enter Try.func55, Try.ntmps55
  go_wp2
  go_returns
  exact ⟨rfl, by go_grown⟩
set_option maxHeartbeats 1000000 in
theorem turnLeaf_any (a b c d m : Int) (n : Nat) (w : World) (h : big 1000000000 ⟨a, b, c, d⟩) (hk : w.cell? ⟨n, 0, none⟩ = some (.int .i64 m)) :
    Calls Try.prog 54 #[.agg #[.int .i64 a, .int .i64 b, .int .i64 c, .int .i64 d], .pointer (some ⟨n, 0, none⟩)] w fun e w' => e = .returned (.agg #[.int .i64 (rotn (m % 8).toNat ⟨a, b, c, d⟩).a, .int .i64 (rotn (m % 8).toNat ⟨a, b, c, d⟩).b, .int .i64 (rotn (m % 8).toNat ⟨a, b, c, d⟩).c, .int .i64 (rotn (m % 8).toNat ⟨a, b, c, d⟩).d]) ∧ Below w.heap.size w w' := by
  have hlt := World.block_lt_of_cell? w _ hk
  simp only at hlt
  have hne : ¬ w.heap.size = n := by omega
  have hne2 : ¬ w.heap.size + 1 = n := by omega
  have hlt2 : n < w.heap.size + 1 := by omega
  have hlt3 : n < w.heap.size + 1 + 1 := by omega
  have h8 := and7 m
  obtain ⟨N, hN⟩ : ∃ N : Nat, Hid (m % 8 = (N : Int)) := ⟨(m % 8).toNat, by show _ = _; omega⟩
  have hN8 : N < 8 := by have := hN.out; omega
  rw [hN.out] at h8
  rw [hN.out, Int.toNat_natCast]
  have H8 := Lib.hid h8
  clear h8
  go_enter Try.func54, Try.ntmps54
  go_wp2
  rw [H8.out]
  go_loopw [6] (fun kk wr => ∃ (x y z u : Int) (j : Nat), kk = .int .i64 j ∧ j ≤ N ∧ Hid (rotn j ⟨a, b, c, d⟩ = ⟨x, y, z, u⟩) ∧ w.heap.size + 1 < wr.heap.size ∧ Has4 wr w.heap.size x y z u ∧ Has4 wr (w.heap.size + 1) 0 0 0 0 ∧ Below w.heap.size w wr)
    (fun kk _ => N - (intOf kk).toNat)
  case atStart =>
    refine ⟨a, b, c, d, 0, rfl, by omega, rfl, ?_, ?_, ?_, ?_⟩
    · simp
    · refine ⟨⟨?_, ?_, ?_, ?_⟩, ?_, ?_, ?_, ?_⟩ <;> go_cell
    · refine ⟨⟨?_, ?_, ?_, ?_⟩, ?_, ?_, ?_, ?_⟩ <;> go_cell
    · go_grown
  case round =>
    obtain ⟨x, y, z, u, j, rfl, hj, HT, hsz, H4, H5, hbel⟩ := hrel
    have bx := rotn_bd j h
    rw [HT.out] at bx
    obtain ⟨⟨a1, a2⟩, ⟨b1, b2⟩, ⟨c1, c2⟩, ⟨d1, d2⟩⟩ := bx
    simp only at a1 a2 b1 b2 c1 c2 d1 d2
    obtain ⟨⟨c0, c1, c2, c3⟩, f0, f1, f2, f3⟩ := H4
    obtain ⟨⟨g0, g1, g2, g3⟩, e0, e1, e2, e3⟩ := H5
    by_cases hlt : j < N
    · go_wp2_with fail
      go_roundw
      case rel =>
        refine ⟨-u, x, y, z, j + 1, by go_num, by omega, ?_, ?_, ?_, ?_, ?_⟩
        · show rotn (j + 1) _ = _
          rw [rotn, HT.out]; rfl
        · simp; omega
        · refine ⟨⟨?_, ?_, ?_, ?_⟩, ?_, ?_, ?_, ?_⟩ <;> go_cell
        · refine ⟨⟨?_, ?_, ?_, ?_⟩, ?_, ?_, ?_, ?_⟩ <;> go_cell
        · go_grown
      case measure => simp [intOf]; omega
    · go_wp2_with fail
      refine bodyPost_ret (v := .agg #[.int .i64 x, .int .i64 y, .int .i64 z, .int .i64 u]) (by simp [results, Try.results54, go_sem, *]) rfl ⟨?_, by go_grown⟩
      obtain rfl : j = N := by omega
      rw [HT.out]
end Go.Proofs.Ytkcbkcgampoclaa
