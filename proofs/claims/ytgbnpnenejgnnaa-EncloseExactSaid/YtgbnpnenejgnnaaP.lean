import Derived.Test.YtgbnpnenejgnnaaJ
namespace Go.Proofs.Ytgbnpnenejgnnaa
open Go.RowKit Amp
attribute [local go_sem] ix0 ix1 ix2 ix3 jx0 jx1 jx2 jx3
/-- A product of two of the elements of valid numbers. -/
def pb (n : Int) : Prop := -1000000000000000000 ≤ n ∧ n ≤ 1000000000000000000
/-- What the rounds have added up. -/
def psum (x y : C4) : Nat → C4
  | 0 => ⟨0, 0, 0, 0⟩
  | 1 => ⟨x.a * y.a, x.a * y.b, x.a * y.c, x.a * y.d⟩
  | 2 => ⟨x.a * y.a - x.b * y.d, x.a * y.b + x.b * y.a, x.a * y.c + x.b * y.b, x.a * y.d + x.b * y.c⟩
  | 3 => ⟨x.a * y.a - x.b * y.d - x.c * y.c, x.a * y.b + x.b * y.a - x.c * y.d, x.a * y.c + x.b * y.b + x.c * y.a, x.a * y.d + x.b * y.c + x.c * y.b⟩
  | _ => ⟨x.a * y.a - x.b * y.d - x.c * y.c - x.d * y.b, x.a * y.b + x.b * y.a - x.c * y.d - x.d * y.c, x.a * y.c + x.b * y.b + x.c * y.a - x.d * y.d, x.a * y.d + x.b * y.c + x.c * y.b + x.d * y.a⟩

set_option maxHeartbeats 8000000 in
theorem product_any (a b c d p q r s : Int) (w : World)
    (m0 : pb (a * p)) (m1 : pb (a * q)) (m2 : pb (a * r)) (m3 : pb (a * s)) (m4 : pb (b * p)) (m5 : pb (b * q)) (m6 : pb (b * r)) (m7 : pb (b * s))
    (m8 : pb (c * p)) (m9 : pb (c * q)) (m10 : pb (c * r)) (m11 : pb (c * s)) (m12 : pb (d * p)) (m13 : pb (d * q)) (m14 : pb (d * r)) (m15 : pb (d * s)) :
    Calls Try.prog 112 #[.agg #[.int .i64 a, .int .i64 b, .int .i64 c, .int .i64 d], .agg #[.int .i64 p, .int .i64 q, .int .i64 r, .int .i64 s]] w fun e w' => e = .returned (.agg #[.int .i64 (mul ⟨a, b, c, d⟩ ⟨p, q, r, s⟩).a, .int .i64 (mul ⟨a, b, c, d⟩ ⟨p, q, r, s⟩).b, .int .i64 (mul ⟨a, b, c, d⟩ ⟨p, q, r, s⟩).c, .int .i64 (mul ⟨a, b, c, d⟩ ⟨p, q, r, s⟩).d]) ∧ Below w.heap.size w w' := by
  unfold pb at m0 m1 m2 m3 m4 m5 m6 m7 m8 m9 m10 m11 m12 m13 m14 m15
  go_enter Try.func112, Try.ntmps112
  go_wp2_with fail
  go_loopw [8] (fun i wr => ∃ k : Nat, i = .int .i64 k ∧ k ≤ 4 ∧ Has4 wr (w.heap.size + 1 + 1 + 1) (psum ⟨a, b, c, d⟩ ⟨p, q, r, s⟩ k).a (psum ⟨a, b, c, d⟩ ⟨p, q, r, s⟩ k).b (psum ⟨a, b, c, d⟩ ⟨p, q, r, s⟩ k).c (psum ⟨a, b, c, d⟩ ⟨p, q, r, s⟩ k).d ∧ Has4 wr (w.heap.size + 1 + 1) 0 0 0 0 ∧ Has4 wr w.heap.size a b c d ∧ Has4 wr (w.heap.size + 1) p q r s ∧ w.heap.size + 3 < wr.heap.size ∧ Below w.heap.size w wr)
    (fun i _ => 4 - (intOf i).toNat)
  case atStart =>
    refine ⟨0, rfl, by omega, ?_, ?_, ?_, ?_, ?_, ?_⟩
    · simp only [psum]; refine ⟨⟨?_, ?_, ?_, ?_⟩, ?_, ?_, ?_, ?_⟩ <;> go_cell
    · refine ⟨⟨?_, ?_, ?_, ?_⟩, ?_, ?_, ?_, ?_⟩ <;> go_cell
    · refine ⟨⟨?_, ?_, ?_, ?_⟩, ?_, ?_, ?_, ?_⟩ <;> go_cell
    · refine ⟨⟨?_, ?_, ?_, ?_⟩, ?_, ?_, ?_, ?_⟩ <;> go_cell
    · simp
    · go_grown
  case round =>
    obtain ⟨k, rfl, hk, P4, R4, A4, B4, hsz, hbel⟩ := hrel
    obtain ⟨⟨g0, g1, g2, g3⟩, e0, e1, e2, e3⟩ := R4
    obtain ⟨⟨o0, o1, o2, o3⟩, t0, t1, t2, t3⟩ := A4
    obtain ⟨⟨u0, u1, u2, u3⟩, v0, v1, v2, v3⟩ := B4
    have hk5 : k = 0 ∨ k = 1 ∨ k = 2 ∨ k = 3 ∨ k = 4 := by omega
    rcases hk5 with rfl | rfl | rfl | rfl | rfl
    all_goals
      simp only [psum] at P4
      obtain ⟨⟨c0, c1, c2, c3⟩, f0, f1, f2, f3⟩ := P4
    · go_wp2_with fail
      refine wp_loop_rounds 5 ?_
      rw [rounds_succ]; go_wp2_with fail
      go_region
      go_wp2_with fail
      rw [rounds_succ]; go_wp2_with fail
      go_region
      go_wp2_with fail
      rw [rounds_succ]; go_wp2_with fail
      go_region
      go_wp2_with fail
      rw [rounds_succ]; go_wp2_with fail
      go_region
      go_wp2_with fail
      rw [rounds_succ]; go_wp2_with fail
      go_roundw
      case rel =>
        refine ⟨1, rfl, by omega, ?_, ?_, ?_, ?_, ?_, ?_⟩
        · simp only [psum]; refine ⟨⟨?_, ?_, ?_, ?_⟩, ?_, ?_, ?_, ?_⟩ <;> go_cell
        · refine ⟨⟨?_, ?_, ?_, ?_⟩, ?_, ?_, ?_, ?_⟩ <;> go_cell
        · refine ⟨⟨?_, ?_, ?_, ?_⟩, ?_, ?_, ?_, ?_⟩ <;> go_cell
        · refine ⟨⟨?_, ?_, ?_, ?_⟩, ?_, ?_, ?_, ?_⟩ <;> go_cell
        · simp; omega
        · go_grown
      case measure => simp [intOf]
    · go_wp2_with fail
      refine wp_loop_rounds 5 ?_
      rw [rounds_succ]; go_wp2_with fail
      go_region
      go_wp2_with fail
      rw [rounds_succ]; go_wp2_with fail
      go_region
      go_wp2_with fail
      rw [rounds_succ]; go_wp2_with fail
      go_region
      go_wp2_with fail
      rw [rounds_succ]; go_wp2_with fail
      go_region
      go_wp2_with fail
      rw [rounds_succ]; go_wp2_with fail
      go_roundw
      case rel =>
        refine ⟨2, rfl, by omega, ?_, ?_, ?_, ?_, ?_, ?_⟩
        · simp only [psum]; refine ⟨⟨?_, ?_, ?_, ?_⟩, ?_, ?_, ?_, ?_⟩ <;> go_cell
        · refine ⟨⟨?_, ?_, ?_, ?_⟩, ?_, ?_, ?_, ?_⟩ <;> go_cell
        · refine ⟨⟨?_, ?_, ?_, ?_⟩, ?_, ?_, ?_, ?_⟩ <;> go_cell
        · refine ⟨⟨?_, ?_, ?_, ?_⟩, ?_, ?_, ?_, ?_⟩ <;> go_cell
        · simp; omega
        · go_grown
      case measure => simp [intOf]
    · go_wp2_with fail
      refine wp_loop_rounds 5 ?_
      rw [rounds_succ]; go_wp2_with fail
      go_region
      go_wp2_with fail
      rw [rounds_succ]; go_wp2_with fail
      go_region
      go_wp2_with fail
      rw [rounds_succ]; go_wp2_with fail
      go_region
      go_wp2_with fail
      rw [rounds_succ]; go_wp2_with fail
      go_region
      go_wp2_with fail
      rw [rounds_succ]; go_wp2_with fail
      go_roundw
      case rel =>
        refine ⟨3, rfl, by omega, ?_, ?_, ?_, ?_, ?_, ?_⟩
        · simp only [psum]; refine ⟨⟨?_, ?_, ?_, ?_⟩, ?_, ?_, ?_, ?_⟩ <;> go_cell
        · refine ⟨⟨?_, ?_, ?_, ?_⟩, ?_, ?_, ?_, ?_⟩ <;> go_cell
        · refine ⟨⟨?_, ?_, ?_, ?_⟩, ?_, ?_, ?_, ?_⟩ <;> go_cell
        · refine ⟨⟨?_, ?_, ?_, ?_⟩, ?_, ?_, ?_, ?_⟩ <;> go_cell
        · simp; omega
        · go_grown
      case measure => simp [intOf]
    · go_wp2_with fail
      refine wp_loop_rounds 5 ?_
      rw [rounds_succ]; go_wp2_with fail
      go_region
      go_wp2_with fail
      rw [rounds_succ]; go_wp2_with fail
      go_region
      go_wp2_with fail
      rw [rounds_succ]; go_wp2_with fail
      go_region
      go_wp2_with fail
      rw [rounds_succ]; go_wp2_with fail
      go_region
      go_wp2_with fail
      rw [rounds_succ]; go_wp2_with fail
      go_roundw
      case rel =>
        refine ⟨4, rfl, by omega, ?_, ?_, ?_, ?_, ?_, ?_⟩
        · simp only [psum]; refine ⟨⟨?_, ?_, ?_, ?_⟩, ?_, ?_, ?_, ?_⟩ <;> go_cell
        · refine ⟨⟨?_, ?_, ?_, ?_⟩, ?_, ?_, ?_, ?_⟩ <;> go_cell
        · refine ⟨⟨?_, ?_, ?_, ?_⟩, ?_, ?_, ?_, ?_⟩ <;> go_cell
        · refine ⟨⟨?_, ?_, ?_, ?_⟩, ?_, ?_, ?_, ?_⟩ <;> go_cell
        · simp; omega
        · go_grown
      case measure => simp [intOf]
    · go_wp2_with fail
      refine bodyPost_ret (v := .agg #[.int .i64 (mul ⟨a, b, c, d⟩ ⟨p, q, r, s⟩).a, .int .i64 (mul ⟨a, b, c, d⟩ ⟨p, q, r, s⟩).b, .int .i64 (mul ⟨a, b, c, d⟩ ⟨p, q, r, s⟩).c, .int .i64 (mul ⟨a, b, c, d⟩ ⟨p, q, r, s⟩).d]) (by simp [results, Try.results112, go_sem, mul, *]) rfl ⟨rfl, by go_grown⟩
end Go.Proofs.Ytgbnpnenejgnnaa
