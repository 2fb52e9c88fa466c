import Derived.Test.YtilclpldfoifkaaVd
import Derived.Test.YtilclpldfoifkaaCb0
import Derived.Test.YtilclpldfoifkaaEb
namespace Encl
def inS (x y : Sp) : Bool := decide (y.lo ≤ x.lo) && decide (x.hi ≤ y.hi)
def meetS (x y : Sp) : Sp := ⟨max x.lo y.lo, min x.hi y.hi⟩
def meetR (x y : Rc) : Rc := ⟨meetS x.re y.re, meetS x.im y.im⟩
end Encl
namespace Go.Proofs.Ytilclpldfoifkaa
open Go.RowKit Encl

set_option maxHeartbeats 1000000 in
theorem rValid_any (a b : Int) (w : World) :
    Calls Try.prog 20 #[.agg #[.int .i64 a, .int .i64 b]] w fun e w' => e = .returned (.bool (okS ⟨a, b⟩)) ∧ Below w.heap.size w w' := by
  by_cases h1 : a ≤ b
  · by_cases h2 : -1099511627776 ≤ a
    · by_cases h3 : b ≤ 1099511627776
      · have HE : Hid (okS ⟨a, b⟩ = true) := Lib.hid (by rw [okS_iff]; exact ⟨h2, h1, h3⟩)
        rw [HE.out]
        go_enter Try.func20, Try.ntmps20
        go_wp2_with fail
        go_returns
        exact ⟨rfl, by go_grown⟩
      · have HE : Hid (okS ⟨a, b⟩ = false) := Lib.hid (by rw [← Bool.not_eq_true, okS_iff]; simp only; omega)
        rw [HE.out]
        go_enter Try.func20, Try.ntmps20
        go_wp2_with fail
        go_returns
        exact ⟨rfl, by go_grown⟩
    · have HE : Hid (okS ⟨a, b⟩ = false) := Lib.hid (by rw [← Bool.not_eq_true, okS_iff]; simp only; omega)
      rw [HE.out]
      go_enter Try.func20, Try.ntmps20
      go_wp2_with fail
      go_returns
      exact ⟨rfl, by go_grown⟩
  · have HE : Hid (okS ⟨a, b⟩ = false) := Lib.hid (by rw [← Bool.not_eq_true, okS_iff]; simp only; omega)
    rw [HE.out]
    go_enter Try.func20, Try.ntmps20
    go_wp2_with fail
    go_returns
    exact ⟨rfl, by go_grown⟩

set_option maxHeartbeats 1000000 in
theorem rValidRect_any (a b c d : Int) (w : World) :
    Calls Try.prog 60 #[.agg #[.int .i64 a, .int .i64 b, .int .i64 c, .int .i64 d]] w fun e w' => e = .returned (.bool (okR ⟨⟨a, b⟩, ⟨c, d⟩⟩)) ∧ Below w.heap.size w w' := by
  obtain ⟨b1, hb1⟩ : ∃ x, okS ⟨a, b⟩ = x := ⟨_, rfl⟩
  obtain ⟨b2, hb2⟩ : ∃ x, okS ⟨c, d⟩ = x := ⟨_, rfl⟩
  have HE : Hid (okR ⟨⟨a, b⟩, ⟨c, d⟩⟩ = (b1 && b2)) := Lib.hid (by unfold okR; rw [hb1, hb2])
  rw [HE.out]
  have H1 := Lib.hid hb1
  have H2 := Lib.hid hb2
  clear hb1 hb2
  go_enter Try.func60, Try.ntmps60
  go_wp2_with fail
  refine (rValid_any a b _).mono ?_
  rw [H1.out]
  rintro e w1 ⟨rfl, hb⟩
  have D1 : Below w.heap.size w w1 := Below.trans (by go_grown) (hb.mono (by first | omega | (simp; done) | (simp; omega)))
  obtain ⟨k1, k2⟩ := bcl hb
  have c2 := (k1 w.heap.size 2 (by simp)).trans (by go_cell : _ = some (.int .i64 c))
  have c3 := (k1 w.heap.size 3 (by simp)).trans (by go_cell : _ = some (.int .i64 d))
  clear hb k1 k2
  cases b1 with
  | false =>
    go_wp2_with fail
    go_returns
    exact ⟨rfl, D1⟩
  | true =>
    go_wp2_with fail
    refine (rValid_any c d _).mono ?_
    rw [H2.out]
    rintro e w2 ⟨rfl, hb⟩
    have D2 := D1.trans (hb.mono D1.size)
    clear hb c2 c3
    go_wp2_with fail
    go_returns
    exact ⟨by cases b2 <;> rfl, D2⟩

set_option maxHeartbeats 1000000 in
theorem rIn_any (a b c d : Int) (w : World) :
    Calls Try.prog 61 #[.agg #[.int .i64 a, .int .i64 b], .agg #[.int .i64 c, .int .i64 d]] w fun e w' => e = .returned (.bool (inS ⟨a, b⟩ ⟨c, d⟩)) ∧ Below w.heap.size w w' := by
  by_cases h1 : c ≤ a
  · by_cases h2 : b ≤ d
    · have HE : Hid (inS ⟨a, b⟩ ⟨c, d⟩ = true) := Lib.hid (by simp [inS, h1, h2])
      rw [HE.out]
      go_enter Try.func61, Try.ntmps61
      go_wp2_with fail
      go_returns
      exact ⟨rfl, by go_grown⟩
    · have HE : Hid (inS ⟨a, b⟩ ⟨c, d⟩ = false) := Lib.hid (by simp [inS, h2])
      have h2' : decide (b ≤ d) = false := decide_eq_false h2
      rw [HE.out]
      go_enter Try.func61, Try.ntmps61
      go_wp2_with fail
      go_returns
      exact ⟨rfl, by go_grown⟩
  · have HE : Hid (inS ⟨a, b⟩ ⟨c, d⟩ = false) := Lib.hid (by simp [inS, h1])
    have h1' : decide (c ≤ a) = false := decide_eq_false h1
    rw [HE.out]
    go_enter Try.func61, Try.ntmps61
    go_wp2_with fail
    go_returns
    exact ⟨rfl, by go_grown⟩

set_option maxHeartbeats 1000000 in
theorem meetSpans_any (a b c d : Int) (w : World) :
    Calls Try.prog 97 #[.agg #[.int .i64 a, .int .i64 b], .agg #[.int .i64 c, .int .i64 d]] w fun e w' => e = retS (meetS ⟨a, b⟩ ⟨c, d⟩) ∧ Below w.heap.size w w' := by
  obtain ⟨p, hp⟩ : ∃ p, max a c = p := ⟨_, rfl⟩
  obtain ⟨q, hq⟩ : ∃ q, min b d = q := ⟨_, rfl⟩
  have HE : Hid (meetS ⟨a, b⟩ ⟨c, d⟩ = ⟨p, q⟩) := Lib.hid (by unfold meetS; rw [hp, hq])
  rw [HE.out]
  clear HE
  by_cases h1 : a < c
  · have hp' : p = c := by omega
    subst hp'
    clear hp
    by_cases h2 : b ≤ d
    · have hq' : q = b := by omega
      subst hq'
      clear hq
      go_enter Try.func97, Try.ntmps97
      go_wp2_with fail
      all_goals refine bodyPost_ret (v := .agg #[.int .i64 p, .int .i64 q]) (by simp [results, Try.results97, go_sem]) rfl ⟨rfl, by go_grown⟩
    · have hq' : q = d := by omega
      subst hq'
      clear hq
      have h2' : q < b := by omega
      go_enter Try.func97, Try.ntmps97
      go_wp2_with fail
      all_goals refine bodyPost_ret (v := .agg #[.int .i64 p, .int .i64 q]) (by simp [results, Try.results97, go_sem]) rfl ⟨rfl, by go_grown⟩
  · have hp' : p = a := by omega
    subst hp'
    clear hp
    have h1' : c ≤ p := by omega
    by_cases h2 : b ≤ d
    · have hq' : q = b := by omega
      subst hq'
      clear hq
      go_enter Try.func97, Try.ntmps97
      go_wp2_with fail
      all_goals refine bodyPost_ret (v := .agg #[.int .i64 p, .int .i64 q]) (by simp [results, Try.results97, go_sem]) rfl ⟨rfl, by go_grown⟩
    · have hq' : q = d := by omega
      subst hq'
      clear hq
      have h2' : q < b := by omega
      go_enter Try.func97, Try.ntmps97
      go_wp2_with fail
      all_goals refine bodyPost_ret (v := .agg #[.int .i64 p, .int .i64 q]) (by simp [results, Try.results97, go_sem]) rfl ⟨rfl, by go_grown⟩

set_option maxHeartbeats 1000000 in
theorem rCommon_any (a b c d : Int) (w : World) :
    Calls Try.prog 62 #[.agg #[.int .i64 a, .int .i64 b], .agg #[.int .i64 c, .int .i64 d]] w fun e w' => e = retS (meetS ⟨a, b⟩ ⟨c, d⟩) ∧ Below w.heap.size w w' := by
  obtain ⟨p, hp⟩ : ∃ p, max a c = p := ⟨_, rfl⟩
  obtain ⟨q, hq⟩ : ∃ q, min b d = q := ⟨_, rfl⟩
  have HE : Hid (meetS ⟨a, b⟩ ⟨c, d⟩ = ⟨p, q⟩) := Lib.hid (by unfold meetS; rw [hp, hq])
  rw [HE.out]
  clear HE
  by_cases h1 : a < c
  · have hp' : p = c := by omega
    subst hp'
    clear hp
    by_cases h2 : b ≤ d
    · have hq' : q = b := by omega
      subst hq'
      clear hq
      go_enter Try.func62, Try.ntmps62
      go_wp2_with fail
      all_goals refine bodyPost_ret (v := .agg #[.int .i64 p, .int .i64 q]) (by simp [results, Try.results62, go_sem]) rfl ⟨rfl, by go_grown⟩
    · have hq' : q = d := by omega
      subst hq'
      clear hq
      have h2' : q < b := by omega
      go_enter Try.func62, Try.ntmps62
      go_wp2_with fail
      all_goals refine bodyPost_ret (v := .agg #[.int .i64 p, .int .i64 q]) (by simp [results, Try.results62, go_sem]) rfl ⟨rfl, by go_grown⟩
  · have hp' : p = a := by omega
    subst hp'
    clear hp
    have h1' : c ≤ p := by omega
    by_cases h2 : b ≤ d
    · have hq' : q = b := by omega
      subst hq'
      clear hq
      go_enter Try.func62, Try.ntmps62
      go_wp2_with fail
      all_goals refine bodyPost_ret (v := .agg #[.int .i64 p, .int .i64 q]) (by simp [results, Try.results62, go_sem]) rfl ⟨rfl, by go_grown⟩
    · have hq' : q = d := by omega
      subst hq'
      clear hq
      have h2' : q < b := by omega
      go_enter Try.func62, Try.ntmps62
      go_wp2_with fail
      all_goals refine bodyPost_ret (v := .agg #[.int .i64 p, .int .i64 q]) (by simp [results, Try.results62, go_sem]) rfl ⟨rfl, by go_grown⟩

end Go.Proofs.Ytilclpldfoifkaa
