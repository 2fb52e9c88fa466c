import Derived.Test.YtgbnpnenejgnnaaEu
namespace Go.Proofs.Ytgbnpnenejgnnaa
open Go.RowKit Encl

set_option maxRecDepth 100000 in
set_option maxHeartbeats 2000000 in
theorem rBelow_one (x : Int) (w : World) (h0 : -4611686018427387904 ≤ x) (h1 : x ≤ 4611686018427387904) :
    Calls Try.prog 104 #[.int .i64 x, .int .i64 1073741824] w fun e w' => e = .returned (.int .i64 (x / 1073741824)) ∧ Below w.heap.size w w' := by
  obtain ⟨q, hq⟩ : ∃ q, x.tdiv 1073741824 = q := ⟨_, rfl⟩
  obtain ⟨r, hr⟩ : ∃ r, x.tmod 1073741824 = r := ⟨_, rfl⟩
  have e : (r < 0 ∧ x / 1073741824 = q - 1) ∨ (0 ≤ r ∧ x / 1073741824 = q) := by
    by_cases hx : 0 ≤ x
    · rw [Int.tdiv_eq_ediv_of_nonneg hx] at hq
      rw [Int.tmod_eq_emod_of_nonneg hx] at hr
      omega
    · obtain ⟨y, rfl⟩ : ∃ y, x = -y := ⟨-x, by omega⟩
      rw [Int.neg_tdiv, Int.tdiv_eq_ediv_of_nonneg (show 0 ≤ y by omega)] at hq
      rw [Int.neg_tmod, Int.tmod_eq_emod_of_nonneg (show 0 ≤ y by omega)] at hr
      omega
  have w1 : wrap64 q = q := by simp only [wrap64]; omega
  have w2 : wrap64 (q - 1) = q - 1 := by simp only [wrap64]; omega
  go_enter Try.func104, Try.ntmps104
  go_wp2_with fail
  all_goals refine bodyPost_ret (v := .int .i64 (x / 1073741824)) (by simp [results, Try.results104, go_sem]; omega) rfl ⟨rfl, by go_grown⟩

set_option maxRecDepth 100000 in
set_option maxHeartbeats 2000000 in
theorem rParts_any (x : Int) (w : World) (h0 : -4611686018427387904 ≤ x) (h1 : x ≤ 4611686018427387904) :
    Calls Try.prog 156 #[.int .i64 x] w fun e w' => e = .returned (.tuple #[.int .i64 (x / 1073741824), .int .i64 (x - x / 1073741824 * 1073741824)]) ∧ Below w.heap.size w w' := by
  have w1 : wrap64 (x / 1073741824 * 1073741824) = x / 1073741824 * 1073741824 := by simp only [wrap64]; omega
  have w2 : wrap64 (x - x / 1073741824 * 1073741824) = x - x / 1073741824 * 1073741824 := by simp only [wrap64]; omega
  go_enter Try.func156, Try.ntmps156
  go_wp2_with fail
  refine (rBelow_one x _ h0 h1).mono ?_
  rintro e w1 ⟨rfl, hb⟩
  go_wp2_with fail
  refine bodyPost_ret (v := .tuple #[.int .i64 (x / 1073741824), .int .i64 (x - x / 1073741824 * 1073741824)]) (by simp [results, Try.results156, go_sem, *]) rfl ⟨rfl, by go_grown⟩

theorem mul_bd {x y : Int} {X Y : Nat} (hx : x.natAbs ≤ X) (hy : y.natAbs ≤ Y) : (x * y).natAbs ≤ X * Y := by
  rw [Int.natAbs_mul]; exact Nat.mul_le_mul hx hy
set_option maxRecDepth 100000 in
set_option maxHeartbeats 2000000 in
theorem rTimesDown_any (a b : Int) (w : World) (ha : a.natAbs ≤ 1099511627776) (hb' : b.natAbs ≤ 1099511627776) :
    Calls Try.prog 134 #[.int .i64 a, .int .i64 b] w fun e w' => e = .returned (.int .i64 (fl a b 1073741824)) ∧ Below w.heap.size w w' := by
  have HE := Lib.hid (down_eq a b)
  obtain ⟨A, hA⟩ : ∃ A, a / 1073741824 = A := ⟨_, rfl⟩
  obtain ⟨A', hA'⟩ : ∃ A', a - a / 1073741824 * 1073741824 = A' := ⟨_, rfl⟩
  obtain ⟨B, hB⟩ : ∃ B, b / 1073741824 = B := ⟨_, rfl⟩
  obtain ⟨B', hB'⟩ : ∃ B', b - b / 1073741824 * 1073741824 = B' := ⟨_, rfl⟩
  have q1 := mul_bd (x := A) (y := b) (X := 1024) (Y := 1099511627776) (by omega) (by omega)
  have q2 := mul_bd (x := A') (y := B) (X := 1073741824) (Y := 1024) (by omega) (by omega)
  have q3 := mul_bd (x := A') (y := B') (X := 1073741824) (Y := 1073741824) (by omega) (by omega)
  have q4 : 0 ≤ A' * B' := Int.mul_nonneg (by omega) (by omega)
  have HP1 : Hid (Calls Try.prog 156 #[.int .i64 a] w fun e w' => e = .returned (.tuple #[.int .i64 A, .int .i64 A']) ∧ Below w.heap.size w w') := Lib.hid (by rw [← hA, ← hA']; exact rParts_any a w (by omega) (by omega))
  have HP2 : Hid (∀ w1 : World, Calls Try.prog 156 #[.int .i64 b] w1 fun e w' => e = .returned (.tuple #[.int .i64 B, .int .i64 B']) ∧ Below w1.heap.size w1 w') := Lib.hid (fun w1 => by rw [← hB, ← hB']; exact rParts_any b w1 (by omega) (by omega))
  have HF : Hid (A * b + A' * B + A' * B' / 1073741824 = fl a b 1073741824) := Lib.hid (by rw [← HE.out, hA', hB', hA, hB])
  have w1 : wrap64 (A * b) = A * b := by simp only [wrap64]; omega
  have w2 : wrap64 (A' * B) = A' * B := by simp only [wrap64]; omega
  have w3 : wrap64 (A' * B') = A' * B' := by simp only [wrap64]; omega
  have w4 : wrap64 (A * b + A' * B) = A * b + A' * B := by simp only [wrap64]; omega
  have w5 : (A' * B').tdiv 1073741824 = A' * B' / 1073741824 := Int.tdiv_eq_ediv_of_nonneg q4
  have w6 : wrap64 (A' * B' / 1073741824) = A' * B' / 1073741824 := by simp only [wrap64]; omega
  have w7 : wrap64 (A * b + A' * B + A' * B' / 1073741824) = A * b + A' * B + A' * B' / 1073741824 := IntWalk.wrap64_in _ (by omega)
  clear hA hA' hB hB' HE q1 q2 q3 q4
  go_enter Try.func134, Try.ntmps134
  go_wp2_with fail
  refine HP1.out.mono ?_
  rintro e w1 ⟨rfl, hb⟩
  go_wp2_with fail
  refine (HP2.out w1).mono ?_
  rintro e w2 ⟨rfl, hc⟩
  have D := hb.trans (hc.mono hb.size)
  clear hb hc
  go_wp2_with fail
  refine bodyPost_ret (v := .int .i64 (A * b + A' * B + A' * B' / 1073741824)) (by simp [results, Try.results134, go_sem, *]) rfl ⟨by rw [HF.out], D⟩

set_option maxRecDepth 100000 in
set_option maxHeartbeats 2000000 in
theorem rTimesUp_any (a b : Int) (w : World) (ha : a.natAbs ≤ 1099511627776) (hb' : b.natAbs ≤ 1099511627776) :
    Calls Try.prog 133 #[.int .i64 a, .int .i64 b] w fun e w' => e = .returned (.int .i64 (ce a b 1073741824)) ∧ Below w.heap.size w w' := by
  obtain ⟨F, hF⟩ : ∃ F, fl (-a) b 1073741824 = F := ⟨_, rfl⟩
  have HF : Hid (-F = ce a b 1073741824) := Lib.hid (by rw [← hF, up_eq])
  have w0 : wrap64 (-a) = -a := by simp only [wrap64]; omega
  have q1 := mul_bd (x := -a) (y := b) (X := 1099511627776) (Y := 1099511627776) (by omega) (by omega)
  have w1 : wrap64 (-F) = -F := by unfold fl at hF; exact IntWalk.wrap64_in _ (by omega)
  have HC : Hid (∀ w1 : World, Calls Try.prog 134 #[.int .i64 (-a), .int .i64 b] w1 fun e w' => e = .returned (.int .i64 F) ∧ Below w1.heap.size w1 w') := Lib.hid (fun w1 => by rw [← hF]; exact rTimesDown_any (-a) b w1 (by omega) hb')
  clear hF q1
  go_enter Try.func133, Try.ntmps133
  go_wp2_with fail
  refine (HC.out _).mono ?_
  rintro e w1 ⟨rfl, hb⟩
  go_wp2_with fail
  refine bodyPost_ret (v := .int .i64 (-F)) (by simp [results, Try.results133, go_sem, *]) rfl ⟨by rw [HF.out], hb⟩
end Go.Proofs.Ytgbnpnenejgnnaa
