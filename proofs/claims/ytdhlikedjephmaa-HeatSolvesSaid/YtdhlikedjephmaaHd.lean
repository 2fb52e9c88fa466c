import Derived.Test.YtdhlikedjephmaaHc
namespace Go.Proofs.Ytdhlikedjephmaa
open Go.RowKit Heat
set_option maxRecDepth 100000 in
set_option maxHeartbeats 8000000 in
theorem listSum_any (x0 x1 x2 x3 x4 : Int) (w : World) (h0 : x0.natAbs ≤ 1000000000000000) (h1 : x1.natAbs ≤ 1000000000000000) (h2 : x2.natAbs ≤ 1000000000000000) (h3 : x3.natAbs ≤ 1000000000000000) (h4 : x4.natAbs ≤ 1000000000000000) :
    Calls Try.prog 52 #[.agg #[.int .i64 x0, .int .i64 x1, .int .i64 x2, .int .i64 x3, .int .i64 x4]] w fun e w' => e = .returned (.int .i64 (x0 + x1 + x2 + x3 + x4)) ∧ Below w.heap.size w w' := by
  have hi0 : ∀ w : World, (Instr.index 74 (.agg #[.int .i64 x0, .int .i64 x1, .int .i64 x2, .int .i64 x3, .int .i64 x4]) (.int .i64 0)).run Try.prog w = .ok (.int .i64 x0) w := fun _ => rfl
  have hi1 : ∀ w : World, (Instr.index 74 (.agg #[.int .i64 x0, .int .i64 x1, .int .i64 x2, .int .i64 x3, .int .i64 x4]) (.int .i64 1)).run Try.prog w = .ok (.int .i64 x1) w := fun _ => rfl
  have hi2 : ∀ w : World, (Instr.index 74 (.agg #[.int .i64 x0, .int .i64 x1, .int .i64 x2, .int .i64 x3, .int .i64 x4]) (.int .i64 2)).run Try.prog w = .ok (.int .i64 x2) w := fun _ => rfl
  have hi3 : ∀ w : World, (Instr.index 74 (.agg #[.int .i64 x0, .int .i64 x1, .int .i64 x2, .int .i64 x3, .int .i64 x4]) (.int .i64 3)).run Try.prog w = .ok (.int .i64 x3) w := fun _ => rfl
  have hi4 : ∀ w : World, (Instr.index 74 (.agg #[.int .i64 x0, .int .i64 x1, .int .i64 x2, .int .i64 x3, .int .i64 x4]) (.int .i64 4)).run Try.prog w = .ok (.int .i64 x4) w := fun _ => rfl
  have ws0 : wrap64 (0 + x0) = x0 := by simp only [wrap64]; omega
  have ws1 : wrap64 (x0 + x1) = x0 + x1 := by simp only [wrap64]; omega
  have ws2 : wrap64 (x0 + x1 + x2) = x0 + x1 + x2 := by simp only [wrap64]; omega
  have ws3 : wrap64 (x0 + x1 + x2 + x3) = x0 + x1 + x2 + x3 := by simp only [wrap64]; omega
  have ws4 : wrap64 (x0 + x1 + x2 + x3 + x4) = x0 + x1 + x2 + x3 + x4 := by simp only [wrap64]; omega
  have wsz : wrap64 x0 = x0 := by simp only [wrap64]; omega
  clear h0 h1 h2 h3 h4
  go_enter Try.func52, Try.ntmps52
  go_wp2_with fail
  have hb0 : Below w.heap.size w (w.alloc (Obj.cells #[.int .i64 x0, .int .i64 x1, .int .i64 x2, .int .i64 x3, .int .i64 x4] 74)) := by go_grown
  generalize (w.alloc (Obj.cells #[.int .i64 x0, .int .i64 x1, .int .i64 x2, .int .i64 x3, .int .i64 x4] 74)) = W at *
  go_loopw [3, 7] (fun sv iv wr => ∃ (s z : Int), sv = .int .i64 s ∧ iv = .int .i64 z ∧ Hid ((z = 0 ∧ 0 = s) ∨ (z = 1 ∧ x0 = s) ∨ (z = 2 ∧ x0 + x1 = s) ∨ (z = 3 ∧ x0 + x1 + x2 = s) ∨ (z = 4 ∧ x0 + x1 + x2 + x3 = s) ∨ (z = 5 ∧ x0 + x1 + x2 + x3 + x4 = s)) ∧ W = wr) (fun _ iv _ => 5 - (intOf iv).toNat)
  case atStart => exact ⟨0, 0, rfl, rfl, Lib.hid (.inl ⟨rfl, rfl⟩), by first | rfl | trivial⟩
  case round =>
    obtain ⟨s, z, rfl, rfl, HS, rfl⟩ := hrel
    rcases HS.out with ⟨rfl, rfl⟩ | ⟨rfl, rfl⟩ | ⟨rfl, rfl⟩ | ⟨rfl, rfl⟩ | ⟨rfl, rfl⟩ | ⟨rfl, rfl⟩
    · clear HS
      go_wp2_with fail
      go_roundw
      case rel => exact ⟨x0, 1, by first | rfl | rw [ws0] | go_num | (simp; done) | (simp [ws0]; done), by first | rfl | go_num, Lib.hid (.inr (.inl ⟨rfl, rfl⟩)), by first | rfl | trivial⟩
      case measure => first | (simp [intOf]; done) | (simp [intOf]; omega)
    · clear HS
      go_wp2_with fail
      go_roundw
      case rel => exact ⟨x0 + x1, 2, by first | rfl | rw [ws1] | go_num | (simp; done) | (simp [ws1]; done), by first | rfl | go_num, Lib.hid (.inr (.inr (.inl ⟨rfl, rfl⟩))), by first | rfl | trivial⟩
      case measure => first | (simp [intOf]; done) | (simp [intOf]; omega)
    · clear HS
      go_wp2_with fail
      go_roundw
      case rel => exact ⟨x0 + x1 + x2, 3, by first | rfl | rw [ws2] | go_num | (simp; done) | (simp [ws2]; done), by first | rfl | go_num, Lib.hid (.inr (.inr (.inr (.inl ⟨rfl, rfl⟩)))), by first | rfl | trivial⟩
      case measure => first | (simp [intOf]; done) | (simp [intOf]; omega)
    · clear HS
      go_wp2_with fail
      go_roundw
      case rel => exact ⟨x0 + x1 + x2 + x3, 4, by first | rfl | rw [ws3] | go_num | (simp; done) | (simp [ws3]; done), by first | rfl | go_num, Lib.hid (.inr (.inr (.inr (.inr (.inl ⟨rfl, rfl⟩))))), by first | rfl | trivial⟩
      case measure => first | (simp [intOf]; done) | (simp [intOf]; omega)
    · clear HS
      go_wp2_with fail
      go_roundw
      case rel => exact ⟨x0 + x1 + x2 + x3 + x4, 5, by first | rfl | rw [ws4] | go_num | (simp; done) | (simp [ws4]; done), by first | rfl | go_num, Lib.hid (.inr (.inr (.inr (.inr (.inr (⟨rfl, rfl⟩)))))), by first | rfl | trivial⟩
      case measure => first | (simp [intOf]; done) | (simp [intOf]; omega)
    · clear HS
      go_wp2_with fail
      refine bodyPost_ret (v := .int .i64 (x0 + x1 + x2 + x3 + x4)) (by simp [results, Try.results52, go_sem]) rfl ⟨rfl, hb0⟩

theorem sumI_bd {f : Nat → Int} {n : Nat} (h : inTo f 0 1000 n = true) : 0 ≤ sumI f n ∧ sumI f n ≤ 1000 * n := by
  rw [inTo_iff] at h
  induction n with
  | zero => simp [sumI]
  | succ n ih =>
    have := ih (fun k hk => h k (by omega))
    have := h n (by omega)
    simp only [sumI]
    omega
set_option maxRecDepth 100000 in
set_option maxHeartbeats 4000000 in
theorem rSum_any (n cap : Nat) (ao : Option Addr) (f : Nat → Int) (w : World) (hn : n ≤ 1000) (hc : Ints w ao n f) (hf : ∀ k, k < n → (f k).natAbs ≤ 1000000000000) :
    Calls Try.prog 54 #[.slice ao n cap] w fun e w' => e = .returned (.int .i64 (sumI f n)) ∧ Below w.heap.size w w' := by
  have HC := Lib.hid hc
  have HFB : Hid (∀ k, k ≤ n → (sumI f k).natAbs ≤ 1000000000000 * k) := Lib.hid (fun k => by
    induction k with
    | zero => intro _; simp [sumI]
    | succ k ih =>
      intro hk
      have := ih (by omega)
      have := hf k (by omega)
      simp only [sumI]
      omega)
  have HFN := Lib.hid hf
  clear hc hf
  go_enter Try.func54, Try.ntmps54
  go_wp2_with fail
  go_loopw [3, 4] (fun sv iv wr => ∃ (k : Nat) (s : Int), sv = .int .i64 s ∧ iv = .int .i64 k ∧ k ≤ n ∧ Hid (sumI f k = s) ∧ w = wr) (fun _ iv _ => n - (intOf iv).toNat)
  case atStart => exact ⟨0, 0, rfl, rfl, by omega, Lib.hid rfl, by first | rfl | trivial⟩
  case round =>
    obtain ⟨k, s, rfl, rfl, hk, HS, rfl⟩ := hrel
    by_cases hlt : k < n
    · have hlt' : (k : Int) < (n : Int) := by omega
      obtain ⟨b, o, rfl, hcell⟩ := HC.out (by omega)
      have g0 := hcell k hlt
      clear hcell
      have q1 := HFB.out k hk
      have q2 := HFN.out k hlt
      rw [HS.out] at q1
      obtain ⟨x, hx⟩ : ∃ x, f k = x := ⟨_, rfl⟩
      have HN : Hid (sumI f (k + 1) = s + x) := Lib.hid (by simp only [sumI]; rw [HS.out, hx])
      rw [hx] at g0 q2
      clear hx
      have wk : wrap64 ((k : Int) + 1) = (k : Int) + 1 := by simp only [wrap64]; omega
      have ws : wrap64 (s + x) = s + x := by simp only [wrap64]; omega
      clear q1 q2
      go_wp2_with fail
      go_roundw
      case rel => exact ⟨k + 1, s + x, by first | rfl | rw [ws], by go_num, by omega, HN, by first | rfl | trivial⟩
      case measure => simp [intOf]; omega
    · obtain rfl : k = n := by omega
      go_wp2_with fail
      refine bodyPost_ret (v := .int .i64 s) (by simp [results, Try.results54, go_sem]) rfl ⟨by rw [HS.out], Below.refl _ _⟩

set_option maxRecDepth 100000 in
set_option maxHeartbeats 4000000 in
theorem areSome_any (n cap : Nat) (ao : Option Addr) (f : Nat → Int) (w : World) (hn : n ≤ 9223372036854775807) (hc : Ints w ao n f) :
    Calls Try.prog 50 #[.slice ao n cap] w fun e w' => e = .returned (.bool (decide (1 ≤ n ∧ n ≤ 5) && inTo f 0 1000 n)) ∧ Below w.heap.size w w' := by
  by_cases h1 : 1 ≤ n
  · by_cases h2 : n ≤ 5
    · have HE : Hid ((decide (1 ≤ n ∧ n ≤ 5) && inTo f 0 1000 n) = inB n f n 0 1000) := Lib.hid (by unfold inB; rw [decide_eq_true ⟨h1, h2⟩, decide_eq_true rfl])
      have t1 : (1 : Int) ≤ (n : Int) := by omega
      have t2 : (n : Int) ≤ 5 := by omega
      rw [HE.out]
      have HC := Lib.hid hc
      clear hc h1 h2
      go_enter Try.func50, Try.ntmps50
      go_wp2_with fail
      refine (arePowers_any n cap ao f n _ hn HC.out).mono ?_
      rintro e w1 ⟨rfl, hb⟩
      go_wp2_with fail
      go_returns
      exact ⟨rfl, hb⟩
    · rw [decide_eq_false (show ¬ (1 ≤ n ∧ n ≤ 5) by omega), Bool.false_and]
      have t1 : (1 : Int) ≤ (n : Int) := by omega
      have t2 : ¬ (n : Int) ≤ 5 := by omega
      clear hc h1 h2
      go_enter Try.func50, Try.ntmps50
      go_wp2_with fail
      go_returns
      exact ⟨rfl, Below.refl _ _⟩
  · rw [decide_eq_false (show ¬ (1 ≤ n ∧ n ≤ 5) by omega), Bool.false_and]
    have t1 : ¬ (1 : Int) ≤ (n : Int) := by omega
    clear hc h1
    go_enter Try.func50, Try.ntmps50
    go_wp2_with fail
    go_returns
    exact ⟨rfl, Below.refl _ _⟩
end Go.Proofs.Ytdhlikedjephmaa
