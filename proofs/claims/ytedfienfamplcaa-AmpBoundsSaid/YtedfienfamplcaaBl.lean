import Derived.Test.YtedfienfamplcaaBb
namespace Go.Proofs.Ytedfienfamplcaa
open Go.RowKit Amp
attribute [local go_sem] ix0 ix1 ix2 ix3 jx0 jx1 jx2 jx3

set_option maxHeartbeats 2000000 in
theorem AmpBounds_any (a b c d k n : Int) (w : World) :
    Calls Try.prog 3 #[.agg #[.int .i64 a, .int .i64 b, .int .i64 c, .int .i64 d, .int .i64 k], .int .i64 n] w fun e w' => e = .returned (.bool true) ∧ Below w.heap.size w w' := by
  obtain ⟨rl, rh, il, ih, er, H⟩ := bnd_ex ⟨⟨a, b, c, d⟩, k⟩ n
  go_enter Try.func3, Try.ntmps3
  go_wp2_with fail
  refine (Bounds_is a b c d k n rl rh il ih er _ H).mono ?_
  rintro e w1 ⟨rfl, hb⟩
  obtain ⟨⟨c0, c1, c2, c3, c4⟩, f0, f1, f2, f3, f4⟩ : Has5 w1 w.heap.size a b c d k := Has5.keep (by refine ⟨⟨?_, ?_, ?_, ?_, ?_⟩, ?_, ?_, ?_, ?_, ?_⟩ <;> go_cell) hb (by first | omega | (simp; done) | (simp; omega))
  have D1 : Below w.heap.size w w1 := Below.trans (by go_grown) (hb.mono (by first | omega | (simp; done) | (simp; omega)))
  have s1 : w.heap.size < w1.heap.size := by have := hb.size; simp at this; omega
  clear hb
  go_wp2_with fail
  refine (rBounds_is a b c d k n rl rh il ih er _ H).mono ?_
  rintro e w2 ⟨rfl, hb⟩
  obtain ⟨⟨q0, q1⟩, r0, r1⟩ : Has2 w2 w1.heap.size rl rh := Has2.keep (by refine ⟨⟨?_, ?_⟩, ?_, ?_⟩ <;> go_cell) hb (by first | omega | (simp; done) | (simp; omega))
  obtain ⟨⟨q2, q3⟩, r2, r3⟩ : Has2 w2 (w1.heap.size + 1) il ih := Has2.keep (by refine ⟨⟨?_, ?_⟩, ?_, ?_⟩ <;> go_cell) hb (by first | omega | (simp; done) | (simp; omega))
  have D2 : Below w.heap.size w w2 := Below.trans (by go_grown) (hb.mono (by first | omega | (simp; done) | (simp; omega)))
  have s2 : w1.heap.size + 1 < w2.heap.size := by have := hb.size; simp at this; omega
  have s3 : w1.heap.size < w2.heap.size := by omega
  clear hb D1 c0 c1 c2 c3 c4 f0 f1 f2 f3 f4
  go_wp2_with fail
  refine (awake_any _).mono ?_
  rintro e w3 ⟨rfl, hb⟩
  have D3 : Below w.heap.size w w3 := Below.trans (by go_grown) (hb.mono (by first | omega | (simp; done) | (simp; omega)))
  clear hb
  go_wp2_with fail
  go_returns
  exact ⟨rfl, D3⟩
end Go.Proofs.Ytedfienfamplcaa
