import Derived.Test.YtgbnpnenejgnnaaR5a
import Derived.Deep.DeepCutAuto
namespace Go.Proofs.Ytgbnpnenejgnnaa
open Go.RowKit Encl

set_option maxRecDepth 100000 in
set_option maxHeartbeats 2000000 in
theorem rBelow_pos (x b : Int) (w : World) (h0 : -4611686018427387904 ≤ x) (h1 : x ≤ 4611686018427387904) (h2 : 0 < b) (h3 : b ≤ 4611686018427387904) :
    Calls Try.prog 104 #[.int .i64 x, .int .i64 b] w fun e w' => e = .returned (.int .i64 (x / b)) ∧ Below w.heap.size w w' := by
  obtain ⟨q, hq⟩ : ∃ q, x.tdiv b = q := ⟨_, rfl⟩
  obtain ⟨r, hr⟩ : ∃ r, x.tmod b = r := ⟨_, rfl⟩
  have e : (r < 0 ∧ x / b = q - 1) ∨ (0 ≤ r ∧ x / b = q) := by
    have t1 := Int.mul_tdiv_add_tmod x b
    have t2 := Int.tmod_lt_of_pos x h2
    have t3 : -b < x.tmod b := Int.lt_tmod_of_pos x h2
    rw [hq, hr] at t1
    rw [hr] at t2 t3
    by_cases hs : r < 0
    · left; refine ⟨hs, ?_⟩
      have : x = (r + b) + (q - 1) * b := by grind
      rw [this, Int.add_mul_ediv_right _ _ (by omega), Int.ediv_eq_zero_of_lt (by omega) (by omega)]; omega
    · right; refine ⟨by omega, ?_⟩
      have : x = r + q * b := by grind
      rw [this, Int.add_mul_ediv_right _ _ (by omega), Int.ediv_eq_zero_of_lt (by omega) (by omega)]; omega
  have hqb : -4611686018427387904 ≤ q ∧ q ≤ 4611686018427387904 := by
    have t1 : q.natAbs ≤ x.natAbs := by rw [← hq, Int.natAbs_tdiv]; exact Nat.div_le_self _ _
    omega
  have w1 : wrap64 q = q := by simp only [wrap64]; omega
  have w2 : wrap64 (q - 1) = q - 1 := by simp only [wrap64]; omega
  have z0 : (b == 0) = false := beq_eq_false_iff_ne.2 (by omega)
  have z1 : ¬ b = 0 := by omega
  have z2 : ¬ b = -1 := by omega
  clear hqb
  go_enter Try.func104, Try.ntmps104
  go_wp2_with fail
  all_goals refine bodyPost_ret (v := .int .i64 (x / b)) (by simp [results, Try.results104, go_sem]; omega) rfl ⟨rfl, by go_grown⟩

/-- How far the two rounds have come. -/
def odAt (a b : Int) (k : Nat) (x y : Int) : Prop :=
  (k = 0 ∧ x = a / b ∧ y = a - a / b * b) ∨
  (k = 1 ∧ x = a / b * 32768 + (a - a / b * b) * 32768 / b ∧ y = (a - a / b * b) * 32768 % b) ∨
  (k = 2 ∧ x = fl a 1073741824 b)
theorem odAt_next {a b x y : Int} {k : Nat} (hb : 0 < b) (hl : k < 2) (h : odAt a b k x y) : odAt a b (k + 1) (x * 32768 + y * 32768 / b) (y * 32768 % b) := by
  rcases h with ⟨rfl, rfl, rfl⟩ | ⟨rfl, rfl, rfl⟩ | ⟨rfl, _⟩
  · exact .inr (.inl ⟨rfl, rfl, rfl⟩)
  · exact .inr (.inr ⟨rfl, od_loop hb⟩)
  · omega
theorem odAt_bd {a b x y : Int} {k : Nat} (hb : 0 < b) (hl : k < 2) (h0 : -2048 ≤ a / b) (h1 : a / b ≤ 2048) (h : odAt a b k x y) : 0 ≤ y ∧ y < b ∧ -67141632 ≤ x ∧ x ≤ 67141632 := by
  have e1 := Int.mul_ediv_add_emod a b
  have e0 : a - a / b * b = a % b := by rw [Int.mul_comm]; omega
  have l0 := Int.emod_nonneg a (show b ≠ 0 by omega)
  have l1 := Int.emod_lt_of_pos a hb
  rcases h with ⟨rfl, rfl, rfl⟩ | ⟨rfl, rfl, rfl⟩ | ⟨rfl, _⟩
  · omega
  · have l2 := Int.emod_nonneg ((a - a / b * b) * 32768) (show b ≠ 0 by omega)
    have l3 := Int.emod_lt_of_pos ((a - a / b * b) * 32768) hb
    have l4 : 0 ≤ (a - a / b * b) * 32768 / b := Int.ediv_nonneg (by omega) (by omega)
    have l5 : (a - a / b * b) * 32768 / b < 32768 := Int.ediv_lt_of_lt_mul hb (by rw [Int.mul_comm 32768 b]; omega)
    omega
  · omega

set_option maxRecDepth 100000 in
set_option maxHeartbeats 4000000 in
theorem rOverDown_any (a b : Int) (w : World) (h0 : -1099511627776 ≤ a) (h1 : a ≤ 1099511627776) (h2 : 0 < b) (h3 : b ≤ 1099511627776) :
    Calls Try.prog 152 #[.int .i64 a, .int .i64 b] w fun e w' => e = .returned (.int .i64 (odS a b)) ∧ Below w.heap.size w w' := by
  obtain ⟨q, hq⟩ : ∃ q, a / b = q := ⟨_, rfl⟩
  have hqb : q * b ≤ a ∧ a < (q + 1) * b := by
    have e1 := Int.mul_ediv_add_emod a b
    have l0 := Int.emod_nonneg a (show b ≠ 0 by omega)
    have l1 := Int.emod_lt_of_pos a h2
    rw [hq, Int.mul_comm] at e1
    have : (q + 1) * b = q * b + b := by grind
    omega
  have HSP : Hid (odS a b = if 2048 < q then far else if q < -2048 then -far else fl a 1073741824 b) := Lib.hid (by unfold odS; rw [hq])
  have HB := Lib.hid (⟨h2, hq⟩ : 0 < b ∧ a / b = q)
  rw [HSP.out]
  have hqr : -1099511627777 ≤ q ∧ q ≤ 1099511627776 := by
    constructor
    · apply Classical.byContradiction; intro hc
      have := Int.mul_le_mul_of_nonneg_right (show q + 1 ≤ -1099511627777 by omega) (show 0 ≤ b by omega)
      omega
    · apply Classical.byContradiction; intro hc
      have := Int.mul_le_mul_of_nonneg_right (show 1099511627777 ≤ q by omega) (show 0 ≤ b by omega)
      omega
  by_cases g1 : 2048 < q
  · have v1 : (if 1 < q then (1 : Int) else q) = 1 := if_pos (by omega)
    have HE : Hid ((if 2048 < q then far else if q < -2048 then -far else fl a 1073741824 b) = 35184372088832) := Lib.hid (if_pos g1)
    rw [HE.out]
    have nb : ¬ b < 0 := by omega
    go_enter Try.func152, Try.ntmps152
    go_wp2_with fail
    refine (rBelow_pos a b _ (by omega) (by omega) h2 (by omega)).mono ?_
    rw [hq]
    rintro e w1 ⟨rfl, hb⟩
    clear hqb HSP hq
    go_wp2_with fail
    refine bodyPost_ret (v := .int .i64 35184372088832) (by simp [results, Try.results152, go_sem, *]) rfl ⟨rfl, by go_grown⟩
  · by_cases g2 : q < -2048
    · have v1 : (if 1 < q then (1 : Int) else q) = q := if_neg (by omega)
      have v2 : (if q < -1 then (-1 : Int) else q) = -1 := if_pos (by omega)
      have HE : Hid ((if 2048 < q then far else if q < -2048 then -far else fl a 1073741824 b) = -35184372088832) := Lib.hid (by rw [if_neg g1, if_pos g2]; rfl)
      rw [HE.out]
      have nb : ¬ b < 0 := by omega
      go_enter Try.func152, Try.ntmps152
      go_wp2_with fail
      refine (rBelow_pos a b _ (by omega) (by omega) h2 (by omega)).mono ?_
      rw [hq]
      rintro e w1 ⟨rfl, hb⟩
      clear hqb HSP hq
      go_wp2_with fail
      refine bodyPost_ret (v := .int .i64 (-35184372088832)) (by simp [results, Try.results152, go_sem, *]) rfl ⟨rfl, by go_grown⟩
    · have HE : Hid ((if 2048 < q then far else if q < -2048 then -far else fl a 1073741824 b) = fl a 1073741824 b) := Lib.hid (by rw [if_neg g1, if_neg g2])
      rw [HE.out]
      have nb : ¬ b < 0 := by omega
      go_enter Try.func152, Try.ntmps152
      go_wp2_with fail
      refine (rBelow_pos a b _ (by omega) (by omega) h2 (by omega)).mono ?_
      rw [hq]
      rintro e w1 ⟨rfl, hb⟩
      have t1 : wrap64 (q * b) = q * b := by
        have : (q + 1) * b = q * b + b := by grind
        simp only [wrap64]; omega
      have t2 : wrap64 (a - q * b) = a - q * b := by
        have : (q + 1) * b = q * b + b := by grind
        simp only [wrap64]; omega
      have z0 : (b == 0) = false := beq_eq_false_iff_ne.2 (by omega)
      have z1 : ¬ b = 0 := by omega
      have z2 : ¬ b = -1 := by omega
      have HST : Hid (odAt a b 0 q (a - q * b)) := Lib.hid (.inl ⟨rfl, hq.symm, by rw [hq]⟩)
      have hbel := hb
      clear hqb HSP hq
      go_wp2_with fail
      go_loopw [5, 6, 31] (fun xv yv iv wr => ∃ (k : Nat) (x y : Int), xv = .int .i64 x ∧ yv = .int .i64 y ∧ iv = .int .i64 k ∧ k ≤ 2 ∧ Hid (odAt a b k x y) ∧ Below w.heap.size w wr) (fun _ _ iv _ => 2 - (intOf iv).toNat)
      case atStart => exact ⟨0, _, _, rfl, rfl, rfl, by omega, by first | exact HST | (rw [t2]; exact HST), by go_grown⟩
      case round =>
        obtain ⟨k, x, y, rfl, rfl, rfl, hk, HA, hbl⟩ := hrel
        by_cases hlt : k < 2
        · have hlt' : (k : Int) < 2 := by omega
          obtain ⟨y0, y1, x0, x1⟩ := odAt_bd h2 hlt (by rw [HB.out.2]; omega) (by rw [HB.out.2]; omega) HA.out
          have HN := Lib.hid (odAt_next h2 hlt HA.out)
          have s1 : wrap64 (y * 32768) = y * 32768 := by simp only [wrap64]; omega
          have s2 : wrap64 (x * 32768) = x * 32768 := by simp only [wrap64]; omega
          have s3 : (y * 32768).tdiv b = y * 32768 / b := Int.tdiv_eq_ediv_of_nonneg (by omega)
          have s4 : (y * 32768).tmod b = y * 32768 % b := Int.tmod_eq_emod_of_nonneg (by omega)
          have l4 : 0 ≤ y * 32768 / b := Int.ediv_nonneg (by omega) (by omega)
          have l5 : y * 32768 / b < 32768 := Int.ediv_lt_of_lt_mul h2 (by rw [Int.mul_comm 32768 b]; omega)
          have s5 : wrap64 (y * 32768 / b) = y * 32768 / b := by simp only [wrap64]; omega
          have s6 : wrap64 (x * 32768 + y * 32768 / b) = x * 32768 + y * 32768 / b := by simp only [wrap64]; omega
          go_wp2_with fail
          go_roundw
          case rel => exact ⟨k + 1, _, _, rfl, rfl, by go_num, by omega, HN, by go_grown⟩
          case measure => simp [intOf]; omega
        · obtain rfl : k = 2 := by omega
          have HX : Hid (x = fl a 1073741824 b) := Lib.hid (by rcases HA.out with ⟨h, _⟩ | ⟨h, _⟩ | ⟨_, h⟩ <;> omega)
          go_wp2_with fail
          refine bodyPost_ret (v := .int .i64 x) (by simp [results, Try.results152, go_sem, *]) rfl ⟨by rw [HX.out], by go_grown⟩

set_option maxRecDepth 100000 in
set_option maxHeartbeats 2000000 in
theorem rOverUp_any (a b : Int) (w : World) (h0 : -1099511627776 ≤ a) (h1 : a ≤ 1099511627776) (h2 : 0 < b) (h3 : b ≤ 1099511627776) :
    Calls Try.prog 153 #[.int .i64 a, .int .i64 b] w fun e w' => e = .returned (.int .i64 (ouS a b)) ∧ Below w.heap.size w w' := by
  obtain ⟨F, hF⟩ : ∃ F, odS (-a) b = F := ⟨_, rfl⟩
  have HF : Hid (-F = ouS a b) := Lib.hid (by rw [← hF]; rfl)
  have w0 : wrap64 (-a) = -a := by simp only [wrap64]; omega
  have hbd : -1000000000000000 ≤ F ∧ F ≤ 1000000000000000 := by
    rw [← hF]
    unfold odS far
    split
    · omega
    · split
      · omega
      · unfold fl
        have e1 := Int.mul_ediv_add_emod (-a) b
        have l0 := Int.emod_nonneg (-a) (show b ≠ 0 by omega)
        have l1 := Int.emod_lt_of_pos (-a) h2
        next g1 g2 =>
        constructor
        · rw [Int.le_ediv_iff_mul_le h2]
          have := Int.mul_le_mul_of_nonneg_left (show -2048 ≤ -a / b by omega) (show 0 ≤ b by omega)
          omega
        · have : -a * 1073741824 / b < 1000000000000001 := Int.ediv_lt_of_lt_mul h2 (by
            have := Int.mul_le_mul_of_nonneg_left (show -a / b ≤ 2048 by omega) (show 0 ≤ b by omega)
            omega)
          omega
  have w1 : wrap64 (-F) = -F := by simp only [wrap64]; omega
  have HC : Hid (∀ w1 : World, Calls Try.prog 152 #[.int .i64 (-a), .int .i64 b] w1 fun e w' => e = .returned (.int .i64 F) ∧ Below w1.heap.size w1 w') := Lib.hid (fun w1 => by rw [← hF]; exact rOverDown_any (-a) b w1 (by omega) (by omega) h2 h3)
  clear hF hbd
  go_enter Try.func153, Try.ntmps153
  go_wp2_with fail
  refine (HC.out _).mono ?_
  rintro e w1 ⟨rfl, hb⟩
  go_wp2_with fail
  refine bodyPost_ret (v := .int .i64 (-F)) (by simp [results, Try.results153, go_sem, *]) rfl ⟨by rw [HF.out], hb⟩
end Go.Proofs.Ytgbnpnenejgnnaa
