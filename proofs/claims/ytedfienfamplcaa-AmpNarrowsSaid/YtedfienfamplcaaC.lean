import Derived.Test.YtedfienfamplcaaB
namespace Go.Proofs.Ytedfienfamplcaa
open Go.RowKit Amp
attribute [local go_sem] ix0 ix1 ix2 ix3 jx0 jx1 jx2 jx3

set_option maxHeartbeats 400000 in
theorem rEven_any (a b c d : Int) (w : World) (h : big 4611686018427387903 ⟨a, b, c, d⟩) :
    Calls Try.prog 115 #[.agg #[.int .i64 a, .int .i64 b, .int .i64 c, .int .i64 d]] w fun e w' => e = .returned (.bool (dvb ⟨a, b, c, d⟩)) ∧ Below w.heap.size w w' := by
  obtain ⟨⟨a1, a2⟩, ⟨b1, b2⟩, ⟨c1, c2⟩, ⟨d1, d2⟩⟩ := h
  simp only at a1 a2 b1 b2 c1 c2 d1 d2
  go_enter Try.func115, Try.ntmps115
  go_wp2
  all_goals
    go_returns
    exact ⟨by simp [dvb, *], by go_grown⟩
set_option maxHeartbeats 1000000 in
theorem rSmall_any (a b c d : Int) (w : World) :
    Calls Try.prog 114 #[.agg #[.int .i64 a, .int .i64 b, .int .i64 c, .int .i64 d]] w fun e w' => e = .returned (.bool (sm ⟨a, b, c, d⟩)) ∧ Below w.heap.size w w' := by
  go_enter Try.func114, Try.ntmps114
  go_wp2
  go_rounds 5
  all_goals
    go_returns
    exact ⟨congrArg (fun x => Ending.returned (.bool x)) (by simp [sm, smI]; first | omega | (simp [*]; done) | (simp [*]; omega)), by go_grown⟩
set_option maxHeartbeats 1000000 in
theorem rValid_any (a b c d k : Int) (w : World) :
    Calls Try.prog 63 #[.agg #[.int .i64 a, .int .i64 b, .int .i64 c, .int .i64 d, .int .i64 k]] w fun e w' => e = .returned (.bool (vld ⟨⟨a, b, c, d⟩, k⟩)) ∧ Below w.heap.size w w' := by
  cases hs : sm ⟨a, b, c, d⟩
  · go_enter Try.func63, Try.ntmps63
    go_wp2_with fail
    refine (rSmall_any _ _ _ _ _).mono ?_
    rintro e w1 ⟨rfl, hb1⟩
    simp only [hs]
    go_wp2_with fail
    go_returns
    exact ⟨by simp [vld, hs], ((Below.refl _ _).alloc (Nat.le_refl _) _).trans (hb1.mono (by simp))⟩
  · have hb := (sm_iff _).1 hs
    have hb' : big 4611686018427387903 ⟨a, b, c, d⟩ := by
      obtain ⟨⟨a1, a2⟩, ⟨b1, b2⟩, ⟨c1, c2⟩, ⟨d1, d2⟩⟩ := hb
      simp only at a1 a2 b1 b2 c1 c2 d1 d2
      exact ⟨⟨by simp only; omega, by simp only; omega⟩, ⟨by simp only; omega, by simp only; omega⟩, ⟨by simp only; omega, by simp only; omega⟩, ⟨by simp only; omega, by simp only; omega⟩⟩
    go_enter Try.func63, Try.ntmps63
    go_wp2_with fail
    have A5 : Has5 (w.alloc (.cells #[.int .i64 a, .int .i64 b, .int .i64 c, .int .i64 d, .int .i64 k] 24)) w.heap.size a b c d k := by refine ⟨⟨?_, ?_, ?_, ?_, ?_⟩, ?_, ?_, ?_, ?_, ?_⟩ <;> go_cell
    refine (rSmall_any _ _ _ _ _).mono ?_
    rintro e w1 ⟨rfl, hb1⟩
    have B5 := A5.keep hb1 (by simp)
    have hsz1 : w.heap.size < w1.heap.size := by have := hb1.size; simp at this; omega
    have hbel : Below w.heap.size w w1 := ((Below.refl _ _).alloc (Nat.le_refl _) _).trans (hb1.mono (by simp))
    clear hb1 A5
    obtain ⟨⟨p0, p1, p2, p3, p4⟩, q0, q1, q2, q3, q4⟩ := B5
    simp only [hs]
    go_wp2_with (go_at_call 115; refine (rEven_any _ _ _ _ _ hb').mono ?_; rintro e w2 ⟨rfl, hb2⟩)
    all_goals
      go_returns
      refine ⟨congrArg (fun x => Ending.returned (.bool x)) ?_, by first | (with_reducible exact hbel) | exact hbel.trans (hb2.mono (by omega))⟩
      simp only [vld, hs]
      cases dvb ⟨a, b, c, d⟩ <;> simp <;> omega
end Go.Proofs.Ytedfienfamplcaa
