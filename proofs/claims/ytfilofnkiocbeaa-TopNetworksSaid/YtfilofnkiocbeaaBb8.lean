import Derived.Test.YtfilofnkiocbeaaBa8
import Derived.Test.YtfilofnkiocbeaaIb
import Derived.RegionTactic
namespace Go.Proofs.Ytfilofnkiocbeaa
open Go.RowKit Ben
set_option maxRecDepth 100000 in
set_option maxHeartbeats 4000000 in
theorem arePorts_any (n : Int) (w : World) : Calls Try.prog 47 #[.int .i64 n] w fun e w' => e = .returned (.bool (isP n)) ∧ w = w' := by
  by_cases h1 : n < 2
  · have h2 : isP n = false := by simp [isP]; omega
    have h3 : ¬ 2 ≤ n := by omega
    rw [h2]
    go_enter Try.func47, Try.ntmps47
    go_wp2_with fail
    go_ret
    exact ⟨rfl, rfl⟩
  by_cases h2 : 16 < n
  · have h3 : isP n = false := by simp [isP]; omega
    have h4 : 2 ≤ n := by omega
    have h5 : ¬ n ≤ 16 := by omega
    rw [h3]
    go_enter Try.func47, Try.ntmps47
    go_wp2_with fail
    go_ret
    exact ⟨rfl, rfl⟩
  have h : n = 2 ∨ n = 3 ∨ n = 4 ∨ n = 5 ∨ n = 6 ∨ n = 7 ∨ n = 8 ∨ n = 9 ∨ n = 10 ∨ n = 11 ∨ n = 12 ∨ n = 13 ∨ n = 14 ∨ n = 15 ∨ n = 16 := by omega
  clear h1 h2
  rcases h with rfl | rfl | rfl | rfl | rfl | rfl | rfl | rfl | rfl | rfl | rfl | rfl | rfl | rfl | rfl
  all_goals
    go_enter Try.func47, Try.ntmps47
    go_wp2_with fail
    go_ret
    exact ⟨rfl, rfl⟩
set_option maxRecDepth 100000 in
theorem isSize_any (n : Int) (w : World) : Calls Try.prog 49 #[.int .i64 n] w fun e w' => e = .returned (.bool (isP n)) ∧ w = w' := by
  by_cases h : n = 2 ∨ n = 4 ∨ n = 8 ∨ n = 16
  · rcases h with rfl | rfl | rfl | rfl
    all_goals
      go_enter Try.func49, Try.ntmps49
      go_wp2_with fail
      go_ret
      exact ⟨rfl, rfl⟩
  · have h2 : (n == 2) = false := beq_eq_false_iff_ne.2 (by omega)
    have h4 : (n == 4) = false := beq_eq_false_iff_ne.2 (by omega)
    have h8 : (n == 8) = false := beq_eq_false_iff_ne.2 (by omega)
    have h16 : (n == 16) = false := beq_eq_false_iff_ne.2 (by omega)
    have he : isP n = false := by simp only [isP, h2, h4, h8, h16, Bool.or_false]
    rw [he]
    clear h he
    go_enter Try.func49, Try.ntmps49
    go_wp2_with fail
    go_ret
    exact ⟨rfl, rfl⟩
theorem count0 (w : World) : Calls Try.prog 48 #[.int .i64 2] w fun e w' => e = .returned (.int .i64 1) ∧ w = w' := by
  go_enter Try.func48, Try.ntmps48
  go_wp2_with fail
  go_ret
  exact ⟨rfl, rfl⟩
theorem count1 (w : World) : Calls Try.prog 48 #[.int .i64 4] w fun e w' => e = .returned (.int .i64 6) ∧ w = w' := by
  go_enter Try.func48, Try.ntmps48
  go_wp2_with (refine (count0 _).mono ?_; rintro e w' ⟨rfl, rfl⟩)
  go_ret
  exact ⟨rfl, rfl⟩
theorem count2 (w : World) : Calls Try.prog 48 #[.int .i64 8] w fun e w' => e = .returned (.int .i64 20) ∧ w = w' := by
  go_enter Try.func48, Try.ntmps48
  go_wp2_with (refine (count1 _).mono ?_; rintro e w' ⟨rfl, rfl⟩)
  go_ret
  exact ⟨rfl, rfl⟩
theorem count3 (w : World) : Calls Try.prog 48 #[.int .i64 16] w fun e w' => e = .returned (.int .i64 56) ∧ w = w' := by
  go_enter Try.func48, Try.ntmps48
  go_wp2_with (refine (count2 _).mono ?_; rintro e w' ⟨rfl, rfl⟩)
  go_ret
  exact ⟨rfl, rfl⟩
theorem count_any (k : Nat) (hk : k ≤ 3) (w : World) : Calls Try.prog 48 #[.int .i64 (sz k : Int)] w fun e w' => e = .returned (.int .i64 (cn k : Int)) ∧ w = w' := by
  have h : k = 0 ∨ k = 1 ∨ k = 2 ∨ k = 3 := by omega
  rcases h with rfl | rfl | rfl | rfl
  · exact count0 w
  · exact count1 w
  · exact count2 w
  · exact count3 w
theorem switches0 (w : World) : Calls Try.prog 50 #[.int .i64 2] w fun e w' => e = .returned (.int .i64 1) ∧ w = w' := by
  go_enter Try.func50, Try.ntmps50
  go_wp2_with fail
  go_ret
  exact ⟨rfl, rfl⟩
theorem switches1 (w : World) : Calls Try.prog 50 #[.int .i64 4] w fun e w' => e = .returned (.int .i64 6) ∧ w = w' := by
  go_enter Try.func50, Try.ntmps50
  go_wp2_with (refine (switches0 _).mono ?_; rintro e w' ⟨rfl, rfl⟩)
  go_ret
  exact ⟨rfl, rfl⟩
theorem switches2 (w : World) : Calls Try.prog 50 #[.int .i64 8] w fun e w' => e = .returned (.int .i64 20) ∧ w = w' := by
  go_enter Try.func50, Try.ntmps50
  go_wp2_with (refine (switches1 _).mono ?_; rintro e w' ⟨rfl, rfl⟩)
  go_ret
  exact ⟨rfl, rfl⟩
theorem switches3 (w : World) : Calls Try.prog 50 #[.int .i64 16] w fun e w' => e = .returned (.int .i64 56) ∧ w = w' := by
  go_enter Try.func50, Try.ntmps50
  go_wp2_with (refine (switches2 _).mono ?_; rintro e w' ⟨rfl, rfl⟩)
  go_ret
  exact ⟨rfl, rfl⟩
theorem switches_any (k : Nat) (hk : k ≤ 3) (w : World) : Calls Try.prog 50 #[.int .i64 (sz k : Int)] w fun e w' => e = .returned (.int .i64 (cn k : Int)) ∧ w = w' := by
  have h : k = 0 ∨ k = 1 ∨ k = 2 ∨ k = 3 := by omega
  rcases h with rfl | rfl | rfl | rfl
  · exact switches0 w
  · exact switches1 w
  · exact switches2 w
  · exact switches3 w
theorem depth0 (w : World) : Calls Try.prog 51 #[.int .i64 2] w fun e w' => e = .returned (.int .i64 1) ∧ w = w' := by
  go_enter Try.func51, Try.ntmps51
  go_wp2_with fail
  go_ret
  exact ⟨rfl, rfl⟩
theorem depth1 (w : World) : Calls Try.prog 51 #[.int .i64 4] w fun e w' => e = .returned (.int .i64 3) ∧ w = w' := by
  go_enter Try.func51, Try.ntmps51
  go_wp2_with (refine (depth0 _).mono ?_; rintro e w' ⟨rfl, rfl⟩)
  go_ret
  exact ⟨rfl, rfl⟩
theorem depth2 (w : World) : Calls Try.prog 51 #[.int .i64 8] w fun e w' => e = .returned (.int .i64 5) ∧ w = w' := by
  go_enter Try.func51, Try.ntmps51
  go_wp2_with (refine (depth1 _).mono ?_; rintro e w' ⟨rfl, rfl⟩)
  go_ret
  exact ⟨rfl, rfl⟩
theorem depth3 (w : World) : Calls Try.prog 51 #[.int .i64 16] w fun e w' => e = .returned (.int .i64 7) ∧ w = w' := by
  go_enter Try.func51, Try.ntmps51
  go_wp2_with (refine (depth2 _).mono ?_; rintro e w' ⟨rfl, rfl⟩)
  go_ret
  exact ⟨rfl, rfl⟩
theorem depth_any (k : Nat) (hk : k ≤ 3) (w : World) : Calls Try.prog 51 #[.int .i64 (sz k : Int)] w fun e w' => e = .returned (.int .i64 (dp k : Int)) ∧ w = w' := by
  have h : k = 0 ∨ k = 1 ∨ k = 2 ∨ k = 3 := by omega
  rcases h with rfl | rfl | rfl | rfl
  · exact depth0 w
  · exact depth1 w
  · exact depth2 w
  · exact depth3 w
def szE (n : Int) : Int := if isP n = true then 0 else 2
def cnV (n : Int) : Int := if isP n = true then (cn (lv n) : Int) else 0
def dpV (n : Int) : Int := if isP n = true then (dp (lv n) : Int) else 0
set_option maxRecDepth 100000 in
theorem pCount_any (n : Int) (w : World) : Calls Try.prog 17 #[.int .i64 n] w fun e w' => e = .returned (.tuple #[.int .i64 (cnV n), .int .i64 (szE n)]) ∧ w = w' := by
  cases h : isP n with
  | false =>
    have e1 : cnV n = 0 := by unfold cnV; rw [h]; rfl
    have e2 : szE n = 2 := by unfold szE; rw [h]; rfl
    rw [e1, e2]
    clear e1 e2
    go_enter Try.func17, Try.ntmps17
    go_wp2_with fail
    refine (arePorts_any _ _).mono ?_
    rw [h]
    rintro e w' ⟨rfl, rfl⟩
    clear h
    go_wp2_with fail
    go_ret2
    exact ⟨rfl, rfl⟩
  | true =>
    obtain ⟨e0, hk⟩ := isP_sz h
    have e1 : cnV n = (cn (lv n) : Int) := by unfold cnV; rw [if_pos h]
    have e2 : szE n = 0 := by unfold szE; rw [if_pos h]
    rw [e1, e2]
    clear e1 e2
    generalize lv n = k at *
    subst e0
    go_enter Try.func17, Try.ntmps17
    go_wp2_with fail
    refine (arePorts_any _ _).mono ?_
    rw [h]
    rintro e w' ⟨rfl, rfl⟩
    clear h
    go_wp2_with fail
    refine (count_any k hk _).mono ?_
    rintro e w' ⟨rfl, rfl⟩
    go_wp2_with fail
    go_ret2
    exact ⟨rfl, rfl⟩
set_option maxRecDepth 100000 in
theorem rCount_any (n : Int) (w : World) : Calls Try.prog 18 #[.int .i64 n] w fun e w' => e = .returned (.tuple #[.int .i64 (cnV n), .int .i64 (szE n)]) ∧ w = w' := by
  cases h : isP n with
  | false =>
    have e1 : cnV n = 0 := by unfold cnV; rw [h]; rfl
    have e2 : szE n = 2 := by unfold szE; rw [h]; rfl
    rw [e1, e2]
    clear e1 e2
    go_enter Try.func18, Try.ntmps18
    go_wp2_with fail
    refine (isSize_any _ _).mono ?_
    rw [h]
    rintro e w' ⟨rfl, rfl⟩
    clear h
    go_wp2_with fail
    go_ret2
    exact ⟨rfl, rfl⟩
  | true =>
    obtain ⟨e0, hk⟩ := isP_sz h
    have e1 : cnV n = (cn (lv n) : Int) := by unfold cnV; rw [if_pos h]
    have e2 : szE n = 0 := by unfold szE; rw [if_pos h]
    rw [e1, e2]
    clear e1 e2
    generalize lv n = k at *
    subst e0
    go_enter Try.func18, Try.ntmps18
    go_wp2_with fail
    refine (isSize_any _ _).mono ?_
    rw [h]
    rintro e w' ⟨rfl, rfl⟩
    clear h
    go_wp2_with fail
    refine (switches_any k hk _).mono ?_
    rintro e w' ⟨rfl, rfl⟩
    go_wp2_with fail
    go_ret2
    exact ⟨rfl, rfl⟩
set_option maxRecDepth 100000 in
theorem pDepth_any (n : Int) (w : World) : Calls Try.prog 19 #[.int .i64 n] w fun e w' => e = .returned (.tuple #[.int .i64 (dpV n), .int .i64 (szE n)]) ∧ w = w' := by
  cases h : isP n with
  | false =>
    have e1 : dpV n = 0 := by unfold dpV; rw [h]; rfl
    have e2 : szE n = 2 := by unfold szE; rw [h]; rfl
    rw [e1, e2]
    clear e1 e2
    go_enter Try.func19, Try.ntmps19
    go_wp2_with fail
    refine (arePorts_any _ _).mono ?_
    rw [h]
    rintro e w' ⟨rfl, rfl⟩
    clear h
    go_wp2_with fail
    go_ret2
    exact ⟨rfl, rfl⟩
  | true =>
    obtain ⟨e0, hk⟩ := isP_sz h
    have e1 : dpV n = (dp (lv n) : Int) := by unfold dpV; rw [if_pos h]
    have e2 : szE n = 0 := by unfold szE; rw [if_pos h]
    rw [e1, e2]
    clear e1 e2
    generalize lv n = k at *
    subst e0
    go_enter Try.func19, Try.ntmps19
    go_wp2_with fail
    refine (arePorts_any _ _).mono ?_
    rw [h]
    rintro e w' ⟨rfl, rfl⟩
    clear h
    go_wp2_with fail
    refine (depth_any k hk _).mono ?_
    rintro e w' ⟨rfl, rfl⟩
    go_wp2_with fail
    go_ret2
    exact ⟨rfl, rfl⟩
set_option maxRecDepth 100000 in
set_option maxHeartbeats 2000000 in
theorem rDepth_any (n : Int) (w : World) : Calls Try.prog 20 #[.int .i64 n] w fun e w' => e = .returned (.tuple #[.int .i64 (dpV n), .int .i64 (szE n)]) ∧ w = w' := by
  cases h : isP n with
  | false =>
    have e1 : dpV n = 0 := by unfold dpV; rw [h]; rfl
    have e2 : szE n = 2 := by unfold szE; rw [h]; rfl
    rw [e1, e2]
    clear e1 e2
    go_enter Try.func20, Try.ntmps20
    go_wp2_with fail
    refine (isSize_any _ _).mono ?_
    rw [h]
    rintro e w' ⟨rfl, rfl⟩
    clear h
    go_wp2_with fail
    go_ret2
    exact ⟨rfl, rfl⟩
  | true =>
    have h' := isP_iff.1 h
    rcases h' with rfl | rfl | rfl | rfl
    · go_enter Try.func20, Try.ntmps20
      go_wp2_with fail
      refine (isSize_any _ _).mono ?_
      rw [h]
      rintro e w' ⟨rfl, rfl⟩
      clear h
      go_wp2_with fail
      go_rounds 1
      go_wp2_with fail
      go_ret2
      exact ⟨rfl, rfl⟩
    · go_enter Try.func20, Try.ntmps20
      go_wp2_with fail
      refine (isSize_any _ _).mono ?_
      rw [h]
      rintro e w' ⟨rfl, rfl⟩
      clear h
      go_wp2_with fail
      go_rounds 2
      go_wp2_with fail
      go_ret2
      exact ⟨rfl, rfl⟩
    · go_enter Try.func20, Try.ntmps20
      go_wp2_with fail
      refine (isSize_any _ _).mono ?_
      rw [h]
      rintro e w' ⟨rfl, rfl⟩
      clear h
      go_wp2_with fail
      go_rounds 3
      go_wp2_with fail
      go_ret2
      exact ⟨rfl, rfl⟩
    · go_enter Try.func20, Try.ntmps20
      go_wp2_with fail
      refine (isSize_any _ _).mono ?_
      rw [h]
      rintro e w' ⟨rfl, rfl⟩
      clear h
      go_wp2_with fail
      go_rounds 4
      go_wp2_with fail
      go_ret2
      exact ⟨rfl, rfl⟩
/-- The error of a number of ports and a list with m elements. -/
def ckE (n : Int) (m : Nat) : Int := if isP n = true then (if m = cn (lv n) then 0 else 80) else 2
theorem ckE_ok {n : Int} {m : Nat} (h : ckE n m = 0) : n = (sz (lv n) : Int) ∧ lv n ≤ 3 ∧ m = cn (lv n) := by
  unfold ckE at h
  split at h
  · rename_i hp
    obtain ⟨a, b⟩ := isP_sz hp
    split at h
    · rename_i hm; exact ⟨a, b, hm⟩
    · omega
  · omega
theorem ckE_cases (n : Int) (m : Nat) : ckE n m = 0 ∨ ckE n m = 80 ∨ ckE n m = 2 := by unfold ckE; split <;> (try split) <;> simp
set_option maxRecDepth 100000 in
theorem checkB_any (n : Int) (ao : Option Addr) (m cap : Nat) (w : World) (hm : m ≤ 9223372036854775807) : Calls Try.prog 52 #[.int .i64 n, .slice ao m cap] w fun e w' => e = .returned (.int .i64 (ckE n m)) ∧ w = w' := by
  cases h : isP n with
  | false =>
    have e1 : ckE n m = 2 := by unfold ckE; rw [h]; rfl
    rw [e1]
    clear e1
    go_enter Try.func52, Try.ntmps52
    go_wp2_with fail
    refine (arePorts_any _ _).mono ?_
    rw [h]
    rintro e w' ⟨rfl, rfl⟩
    clear h
    go_wp2_with fail
    go_ret
    exact ⟨rfl, rfl⟩
  | true =>
    obtain ⟨e0, hk⟩ := isP_sz h
    have e1 : ckE n m = if m = cn (lv n) then 0 else 80 := by unfold ckE; rw [if_pos h]
    rw [e1]
    clear e1
    generalize lv n = k at *
    subst e0
    by_cases hc : m = cn k
    · subst hc
      rw [if_pos rfl]
      have hne : ((cn k : Int) != (cn k : Int)) = false := by simp
      go_enter Try.func52, Try.ntmps52
      go_wp2_with fail
      refine (arePorts_any _ _).mono ?_
      rw [h]
      rintro e w' ⟨rfl, rfl⟩
      clear h
      go_wp2_with fail
      refine (count_any k hk _).mono ?_
      rintro e w' ⟨rfl, rfl⟩
      go_wp2_with fail
      go_ret
      exact ⟨rfl, rfl⟩
    · rw [if_neg hc]
      have hne : ((m : Int) != (cn k : Int)) = true := bne_iff_ne.2 (by omega)
      clear hc
      go_enter Try.func52, Try.ntmps52
      go_wp2_with fail
      refine (arePorts_any _ _).mono ?_
      rw [h]
      rintro e w' ⟨rfl, rfl⟩
      clear h
      go_wp2_with fail
      refine (count_any k hk _).mono ?_
      rintro e w' ⟨rfl, rfl⟩
      go_wp2_with fail
      go_ret
      exact ⟨rfl, rfl⟩
set_option maxRecDepth 100000 in
theorem checkI_any (n : Int) (ao : Option Addr) (m cap : Nat) (w : World) (hm : m ≤ 9223372036854775807) : Calls Try.prog 68 #[.int .i64 n, .slice ao m cap] w fun e w' => e = .returned (.int .i64 (ckE n m)) ∧ w = w' := by
  cases h : isP n with
  | false =>
    have e1 : ckE n m = 2 := by unfold ckE; rw [h]; rfl
    rw [e1]
    clear e1
    go_enter Try.func68, Try.ntmps68
    go_wp2_with fail
    refine (arePorts_any _ _).mono ?_
    rw [h]
    rintro e w' ⟨rfl, rfl⟩
    clear h
    go_wp2_with fail
    go_ret
    exact ⟨rfl, rfl⟩
  | true =>
    obtain ⟨e0, hk⟩ := isP_sz h
    have e1 : ckE n m = if m = cn (lv n) then 0 else 80 := by unfold ckE; rw [if_pos h]
    rw [e1]
    clear e1
    generalize lv n = k at *
    subst e0
    by_cases hc : m = cn k
    · subst hc
      rw [if_pos rfl]
      have hne : ((cn k : Int) != (cn k : Int)) = false := by simp
      go_enter Try.func68, Try.ntmps68
      go_wp2_with fail
      refine (arePorts_any _ _).mono ?_
      rw [h]
      rintro e w' ⟨rfl, rfl⟩
      clear h
      go_wp2_with fail
      refine (count_any k hk _).mono ?_
      rintro e w' ⟨rfl, rfl⟩
      go_wp2_with fail
      go_ret
      exact ⟨rfl, rfl⟩
    · rw [if_neg hc]
      have hne : ((m : Int) != (cn k : Int)) = true := bne_iff_ne.2 (by omega)
      clear hc
      go_enter Try.func68, Try.ntmps68
      go_wp2_with fail
      refine (arePorts_any _ _).mono ?_
      rw [h]
      rintro e w' ⟨rfl, rfl⟩
      clear h
      go_wp2_with fail
      refine (count_any k hk _).mono ?_
      rintro e w' ⟨rfl, rfl⟩
      go_wp2_with fail
      go_ret
      exact ⟨rfl, rfl⟩
set_option maxRecDepth 100000 in
theorem asked_any (n : Int) (ao : Option Addr) (m cap : Nat) (w : World) (hm : m ≤ 9223372036854775807) : Calls Try.prog 54 #[.int .i64 n, .slice ao m cap] w fun e w' => e = .returned (.int .i64 (ckE n m)) ∧ w = w' := by
  cases h : isP n with
  | false =>
    have e1 : ckE n m = 2 := by unfold ckE; rw [h]; rfl
    rw [e1]
    clear e1
    go_enter Try.func54, Try.ntmps54
    go_wp2_with fail
    refine (isSize_any _ _).mono ?_
    rw [h]
    rintro e w' ⟨rfl, rfl⟩
    clear h
    go_wp2_with fail
    go_ret
    exact ⟨rfl, rfl⟩
  | true =>
    obtain ⟨e0, hk⟩ := isP_sz h
    have e1 : ckE n m = if m = cn (lv n) then 0 else 80 := by unfold ckE; rw [if_pos h]
    rw [e1]
    clear e1
    generalize lv n = k at *
    subst e0
    by_cases hc : m = cn k
    · subst hc
      rw [if_pos rfl]
      have hne : ((cn k : Int) != (cn k : Int)) = false := by simp
      go_enter Try.func54, Try.ntmps54
      go_wp2_with fail
      refine (isSize_any _ _).mono ?_
      rw [h]
      rintro e w' ⟨rfl, rfl⟩
      clear h
      go_wp2_with fail
      refine (switches_any k hk _).mono ?_
      rintro e w' ⟨rfl, rfl⟩
      go_wp2_with fail
      go_ret
      exact ⟨rfl, rfl⟩
    · rw [if_neg hc]
      have hne : ((m : Int) != (cn k : Int)) = true := bne_iff_ne.2 (by omega)
      clear hc
      go_enter Try.func54, Try.ntmps54
      go_wp2_with fail
      refine (isSize_any _ _).mono ?_
      rw [h]
      rintro e w' ⟨rfl, rfl⟩
      clear h
      go_wp2_with fail
      refine (switches_any k hk _).mono ?_
      rintro e w' ⟨rfl, rfl⟩
      go_wp2_with fail
      go_ret
      exact ⟨rfl, rfl⟩
end Go.Proofs.Ytfilofnkiocbeaa
