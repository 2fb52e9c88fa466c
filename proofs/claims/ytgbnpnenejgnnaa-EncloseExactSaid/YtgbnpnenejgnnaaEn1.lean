import Derived.Test.YtgbnpnenejgnnaaEb
namespace Go.Proofs.Ytgbnpnenejgnnaa
open Go.RowKit Encl

set_option maxHeartbeats 1000000 in
theorem whole_any (n : Int) (w : World) (h0 : -1024 ≤ n) (h1 : n ≤ 1024) :
    Calls Try.prog 92 #[.int .i64 n] w fun e w' => e = retS ⟨n * 1073741824, n * 1073741824⟩ ∧ Below w.heap.size w w' := by
  go_enter Try.func92, Try.ntmps92
  go_wp2_with fail
  refine bodyPost_ret (v := .agg #[.int .i64 (n * 1073741824), .int .i64 (n * 1073741824)]) (by simp [results, Try.results92, go_sem]) rfl ⟨rfl, by go_grown⟩

set_option maxHeartbeats 1000000 in
theorem onAxis_any (a b : Int) (w : World) :
    Calls Try.prog 90 #[.agg #[.int .i64 a, .int .i64 b]] w fun e w' => e = retR ⟨⟨a, b⟩, ⟨0, 0⟩⟩ ∧ Below w.heap.size w w' := by
  go_enter Try.func90, Try.ntmps90
  go_wp2_with fail
  refine bodyPost_ret (v := .agg #[.int .i64 a, .int .i64 b, .int .i64 0, .int .i64 0]) (by simp [results, Try.results90, go_sem]) rfl ⟨rfl, by go_grown⟩

set_option maxHeartbeats 1000000 in
theorem halfSpan_any (a b : Int) (w : World) (ha : -4611686018427387904 ≤ a ∧ a ≤ 4611686018427387904) (hb : -4611686018427387904 ≤ b ∧ b ≤ 4611686018427387904) :
    Calls Try.prog 157 #[.agg #[.int .i64 a, .int .i64 b]] w fun e w' => e = retS (halfS ⟨a, b⟩) ∧ Below w.heap.size w w' := by
  obtain ⟨ha1, ha2⟩ := ha
  obtain ⟨hb1, hb2⟩ := hb
  go_enter Try.func157, Try.ntmps157
  go_wp2_with fail
  refine bodyPost_ret (v := .agg #[.int .i64 (a / 2), .int .i64 (-(-b / 2))]) (by simp [results, Try.results157, go_sem]) rfl ⟨rfl, by go_grown⟩

def cmpI (x y : Int) : Int := if x < y then -1 else if y < x then 1 else 0
set_option maxHeartbeats 1000000 in
theorem Compare_any (x y : Int) (w : World) :
    Calls Try.prog 155 #[.int .u64 x, .int .u64 y] w fun e w' => e = .returned (.int .i64 (cmpI x y)) ∧ w' = w := by
  by_cases h1 : x < y
  · have HE : Hid (cmpI x y = -1) := Lib.hid (if_pos h1)
    rw [HE.out]
    go_enter Try.func155, Try.ntmps155
    go_wp2
    go_returns
    exact ⟨rfl, by trivial⟩
  · by_cases h2 : y < x
    · have HE : Hid (cmpI x y = 1) := Lib.hid (by unfold cmpI; rw [if_neg h1, if_pos h2])
      rw [HE.out]
      go_enter Try.func155, Try.ntmps155
      go_wp2
      go_returns
      exact ⟨rfl, by trivial⟩
    · have HE : Hid (cmpI x y = 0) := Lib.hid (by unfold cmpI; rw [if_neg h1, if_neg h2])
      rw [HE.out]
      go_enter Try.func155, Try.ntmps155
      go_wp2
      go_returns
      exact ⟨rfl, by trivial⟩

set_option maxHeartbeats 1000000 in
theorem Or_any (a b : Int) (g : Nat) (w : World) (h0 : w.cell? ⟨g, 0, none⟩ = some (.int .i64 a)) (h1 : w.cell? ⟨g, 1, none⟩ = some (.int .i64 b)) :
    Calls Try.prog 154 #[.slice (some ⟨g, 0, none⟩) 2 2] w fun e w' => e = .returned (.int .i64 (if a = 0 then b else a)) ∧ w' = w := by
  by_cases ha : a = 0
  · have HE : Hid ((if a = 0 then b else a) = b) := Lib.hid (if_pos ha)
    have ha1 : (a != 0) = false := by simp [ha]
    rw [HE.out]
    clear ha
    by_cases hb : b = 0
    · subst hb
      go_enter Try.func154, Try.ntmps154
      go_wp2_with fail
      refine wp_loop_rounds 3 ?_
      rw [rounds_succ]; go_wp2_with fail
      rw [rounds_succ]; go_wp2_with fail
      rw [rounds_succ]; go_wp2_with fail
      go_returns
      exact ⟨rfl, by trivial⟩
    · have hb1 : (b != 0) = true := by simp [hb]
      go_enter Try.func154, Try.ntmps154
      go_wp2_with fail
      refine wp_loop_rounds 3 ?_
      rw [rounds_succ]; go_wp2_with fail
      rw [rounds_succ]; go_wp2_with fail
      go_returns
      exact ⟨rfl, by trivial⟩
  · have HE : Hid ((if a = 0 then b else a) = a) := Lib.hid (if_neg ha)
    have ha1 : (a != 0) = true := by simp [ha]
    rw [HE.out]
    clear ha
    go_enter Try.func154, Try.ntmps154
    go_wp2_with fail
    refine wp_loop_rounds 3 ?_
    rw [rounds_succ]; go_wp2_with fail
    go_returns
    exact ⟨rfl, by trivial⟩
end Go.Proofs.Ytgbnpnenejgnnaa
