import Derived.Test.YtgbnpnenejgnnaaEx6
import Derived.Test.YtgbnpnenejgnnaaGw5
import Derived.Test.YtgbnpnenejgnnaaFo5
import Derived.Test.YtgbnpnenejgnnaaPw5
import Derived.Test.YtgbnpnenejgnnaaMe
/-! The contracts' answers without an error, and what EncloseExact says of them. -/
namespace Go.Proofs.Ytgbnpnenejgnnaa
open Go.RowKit Encl
open Amp (Nm isBnd)
/-- FromNum went well: the number's error is 0 and its bounds are the rectangle. -/
theorem num_ok {er : Int} {a b : Sp} {x1 x2 x3 x4 : Int} (h : OutR (numO er a b) = .returned (.tuple #[.agg #[.int .i64 x1, .int .i64 x2, .int .i64 x3, .int .i64 x4], .int .i64 0])) : er = 0 ∧ a = ⟨x1, x2⟩ ∧ b = ⟨x3, x4⟩ ∧ okR ⟨⟨x1, x2⟩, ⟨x3, x4⟩⟩ = true := by
  obtain ⟨a1, a2⟩ := a
  obtain ⟨b1, b2⟩ := b
  unfold numO at h
  split at h
  · next h1 =>
    refine ⟨h1, ?_⟩
    rw [fromR_eq] at h
    split at h
    · next h2 =>
      have h3 := Go.Ending.returned.inj h
      simp at h3
      obtain ⟨rfl, rfl, rfl, rfl⟩ := h3
      exact ⟨rfl, rfl, h2⟩
    · have h3 := Go.Ending.returned.inj h
      simp at h3
  · next h1 =>
    have h3 := Go.Ending.returned.inj h
    simp at h3
    exact absurd h3.2 h1
theorem onR2_ok {F : Rc → Rc → Out Rc} (hF : ∀ x y, Ne0 (F x y)) {x y : Rc} {c1 c2 c3 c4 : Int} (h : OutR (onR2 F x y) = .returned (.tuple #[.agg #[.int .i64 c1, .int .i64 c2, .int .i64 c3, .int .i64 c4], .int .i64 0])) : F x y = .ok ⟨⟨c1, c2⟩, ⟨c3, c4⟩⟩ := by
  unfold onR2 at h
  split at h
  · cases hr : F x y with
    | ok r =>
      obtain ⟨⟨r1, r2⟩, ⟨r3, r4⟩⟩ := r
      rw [hr] at h
      have h3 := Go.Ending.returned.inj h
      simp at h3
      obtain ⟨rfl, rfl, rfl, rfl⟩ := h3
      rfl
    | bad k =>
      rw [hr] at h
      have h3 := Go.Ending.returned.inj h
      simp at h3
      exact absurd h3.2 (hF x y k hr)
  · have h3 := Go.Ending.returned.inj h
    simp at h3
theorem powO_ok {x : Rc} {c1 c2 : Int} (h : OutS (powO x) = .returned (.tuple #[.agg #[.int .i64 c1, .int .i64 c2], .int .i64 0])) : powR x = .ok ⟨c1, c2⟩ := by
  unfold powO at h
  split at h
  · cases hr : powR x with
    | ok r =>
      obtain ⟨r1, r2⟩ := r
      rw [hr] at h
      have h3 := Go.Ending.returned.inj h
      simp at h3
      obtain ⟨rfl, rfl⟩ := h3
      rfl
    | bad k =>
      rw [hr] at h
      have h3 := Go.Ending.returned.inj h
      simp at h3
      exact absurd h3.2 (ne0_powR x k hr)
  · have h3 := Go.Ending.returned.inj h
    simp at h3
theorem said_add {x y z : Nm} {er es et : Int} {a b s t u v : Sp} {x1 x2 x3 x4 y1 y2 y3 y4 c1 c2 c3 c4 d1 d2 d3 d4 : Int} (hx : isBnd x 30 a.lo a.hi b.lo b.hi er) (hy : isBnd y 30 s.lo s.hi t.lo t.hi es) (hz : isBnd z 30 u.lo u.hi v.lo v.hi et)
    (HX : OutR (numO er a b) = .returned (.tuple #[.agg #[.int .i64 x1, .int .i64 x2, .int .i64 x3, .int .i64 x4], .int .i64 0])) (HY : OutR (numO es s t) = .returned (.tuple #[.agg #[.int .i64 y1, .int .i64 y2, .int .i64 y3, .int .i64 y4], .int .i64 0])) (HD : OutR (numO et u v) = .returned (.tuple #[.agg #[.int .i64 d1, .int .i64 d2, .int .i64 d3, .int .i64 d4], .int .i64 0]))
    (HZ : Amp.addS x y = (z, 0)) (HC : OutR (onR2 addR ⟨⟨x1, x2⟩, ⟨x3, x4⟩⟩ ⟨⟨y1, y2⟩, ⟨y3, y4⟩⟩) = .returned (.tuple #[.agg #[.int .i64 c1, .int .i64 c2, .int .i64 c3, .int .i64 c4], .int .i64 0])) : (insideS ⟨⟨d1, d2⟩, ⟨d3, d4⟩⟩ ⟨⟨c1, c2⟩, ⟨c3, c4⟩⟩).1 = true := by
  obtain ⟨rfl, rfl, rfl, _⟩ := num_ok HX
  obtain ⟨rfl, rfl, rfl, _⟩ := num_ok HY
  obtain ⟨rfl, rfl, rfl, ho⟩ := num_ok HD
  exact exact_add hx hy hz HZ (onR2_ok ne0_addR HC) ho
theorem said_sub {x y z : Nm} {er es et : Int} {a b s t u v : Sp} {x1 x2 x3 x4 y1 y2 y3 y4 c1 c2 c3 c4 d1 d2 d3 d4 : Int} (hx : isBnd x 30 a.lo a.hi b.lo b.hi er) (hy : isBnd y 30 s.lo s.hi t.lo t.hi es) (hz : isBnd z 30 u.lo u.hi v.lo v.hi et)
    (HX : OutR (numO er a b) = .returned (.tuple #[.agg #[.int .i64 x1, .int .i64 x2, .int .i64 x3, .int .i64 x4], .int .i64 0])) (HY : OutR (numO es s t) = .returned (.tuple #[.agg #[.int .i64 y1, .int .i64 y2, .int .i64 y3, .int .i64 y4], .int .i64 0])) (HD : OutR (numO et u v) = .returned (.tuple #[.agg #[.int .i64 d1, .int .i64 d2, .int .i64 d3, .int .i64 d4], .int .i64 0]))
    (HZ : Amp.subS x y = (z, 0)) (HC : OutR (onR2 subR ⟨⟨x1, x2⟩, ⟨x3, x4⟩⟩ ⟨⟨y1, y2⟩, ⟨y3, y4⟩⟩) = .returned (.tuple #[.agg #[.int .i64 c1, .int .i64 c2, .int .i64 c3, .int .i64 c4], .int .i64 0])) : (insideS ⟨⟨d1, d2⟩, ⟨d3, d4⟩⟩ ⟨⟨c1, c2⟩, ⟨c3, c4⟩⟩).1 = true := by
  obtain ⟨rfl, rfl, rfl, _⟩ := num_ok HX
  obtain ⟨rfl, rfl, rfl, _⟩ := num_ok HY
  obtain ⟨rfl, rfl, rfl, ho⟩ := num_ok HD
  exact exact_sub hx hy hz HZ (onR2_ok ne0_subR HC) ho
theorem said_mul {x y z : Nm} {er es et : Int} {a b s t u v : Sp} {x1 x2 x3 x4 y1 y2 y3 y4 c1 c2 c3 c4 d1 d2 d3 d4 : Int} (hx : isBnd x 30 a.lo a.hi b.lo b.hi er) (hy : isBnd y 30 s.lo s.hi t.lo t.hi es) (hz : isBnd z 30 u.lo u.hi v.lo v.hi et)
    (HX : OutR (numO er a b) = .returned (.tuple #[.agg #[.int .i64 x1, .int .i64 x2, .int .i64 x3, .int .i64 x4], .int .i64 0])) (HY : OutR (numO es s t) = .returned (.tuple #[.agg #[.int .i64 y1, .int .i64 y2, .int .i64 y3, .int .i64 y4], .int .i64 0])) (HD : OutR (numO et u v) = .returned (.tuple #[.agg #[.int .i64 d1, .int .i64 d2, .int .i64 d3, .int .i64 d4], .int .i64 0]))
    (HZ : Amp.mulS x y = (z, 0)) (HC : OutR (onR2 mulR ⟨⟨x1, x2⟩, ⟨x3, x4⟩⟩ ⟨⟨y1, y2⟩, ⟨y3, y4⟩⟩) = .returned (.tuple #[.agg #[.int .i64 c1, .int .i64 c2, .int .i64 c3, .int .i64 c4], .int .i64 0])) : (insideS ⟨⟨d1, d2⟩, ⟨d3, d4⟩⟩ ⟨⟨c1, c2⟩, ⟨c3, c4⟩⟩).1 = true := by
  obtain ⟨rfl, rfl, rfl, _⟩ := num_ok HX
  obtain ⟨rfl, rfl, rfl, _⟩ := num_ok HY
  obtain ⟨rfl, rfl, rfl, ho⟩ := num_ok HD
  exact exact_mul hx hy hz HZ (onR2_ok ne0_mulR HC) ho
theorem said_pow {x z : Nm} {er et : Int} {a b u v : Sp} {x1 x2 x3 x4 c1 c2 d1 d2 d3 d4 : Int} (hx : isBnd x 30 a.lo a.hi b.lo b.hi er) (hz : isBnd z 30 u.lo u.hi v.lo v.hi et)
    (HX : OutR (numO er a b) = .returned (.tuple #[.agg #[.int .i64 x1, .int .i64 x2, .int .i64 x3, .int .i64 x4], .int .i64 0])) (HD : OutR (numO et u v) = .returned (.tuple #[.agg #[.int .i64 d1, .int .i64 d2, .int .i64 d3, .int .i64 d4], .int .i64 0]))
    (HZ : Amp.powS x = (z, 0)) (HC : OutS (powO ⟨⟨x1, x2⟩, ⟨x3, x4⟩⟩) = .returned (.tuple #[.agg #[.int .i64 c1, .int .i64 c2], .int .i64 0])) : (insideS ⟨⟨d1, d2⟩, ⟨d3, d4⟩⟩ ⟨⟨c1, c2⟩, ⟨0, 0⟩⟩).1 = true := by
  obtain ⟨rfl, rfl, rfl, hk⟩ := num_ok HX
  obtain ⟨rfl, rfl, rfl, ho⟩ := num_ok HD
  exact exact_pow hx hz HZ hk (powO_ok HC) ho
theorem OutS_form2 (o : Out Sp) : ∃ p q er : Int, OutS o = .returned (.tuple #[.agg #[.int .i64 p, .int .i64 q], .int .i64 er]) := by
  cases o with
  | ok x => exact ⟨_, _, _, rfl⟩
  | bad k => exact ⟨_, _, _, rfl⟩
set_option maxRecDepth 100000 in
theorem wideX_any (p q : Int) (w : World) :
    Calls Try.prog 51 #[.agg #[.int .i64 p, .int .i64 q]] w fun e w' => e = .returned (.agg #[.int .i64 p, .int .i64 q, .int .i64 0, .int .i64 0]) ∧ Below w.heap.size w w' := by
  go_enter Try.func51, Try.ntmps51
  go_wp2_with fail
  refine bodyPost_ret (v := .agg #[.int .i64 p, .int .i64 q, .int .i64 0, .int .i64 0]) (by simp [results, Try.results51, go_sem]) rfl ⟨rfl, by go_grown⟩
end Go.Proofs.Ytgbnpnenejgnnaa
