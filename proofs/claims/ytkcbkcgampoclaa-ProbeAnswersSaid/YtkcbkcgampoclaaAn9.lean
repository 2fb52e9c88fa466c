import Derived.Test.YtkcbkcgampoclaaBi8
import Derived.Test.YtkcbkcgampoclaaCb8
import Derived.Test.YtkcbkcgampoclaaFv9
namespace Prb
/-- How many states there are, or the error. -/
def stV (n : Int) : Int := if n = 2 then 2 else if n = 4 then 64 else 0
def stE (n : Int) : Int := if n = 2 ∨ n = 4 then 0 else 2
def swV (n : Int) : Int := if n = 2 then 1 else 6
def knB (n : Int) : Bool := decide (n = 2 ∨ n = 4)
def isB (n s : Int) : Bool := decide (0 ≤ s ∧ s < stV n)
def fiB (n : Int) (m : Nat) (p : Int) : Bool := decide ((m : Int) = swV n ∧ 0 ≤ p ∧ p < n)
def poB (n p : Int) : Bool := decide (0 ≤ p ∧ p < n)
end Prb
namespace Go.Proofs.Ytkcbkcgampoclaa
open Go.RowKit Ben Prb
set_option maxRecDepth 100000 in
set_option maxHeartbeats 2000000 in
theorem rKnown_any (n : Int) (w : World) : Calls Try.prog 31 #[.int .i64 n] w fun e w' => e = .returned (.bool (knB n)) ∧ w = w' := by
  by_cases h2 : n = 2
  · have HE := Lib.hid (show knB n = true from decide_eq_true (Or.inl h2))
    have h2' : (n == 2) = true := beq_iff_eq.2 h2
    clear h2
    go_enter Try.func31, Try.ntmps31
    go_wp2_with fail
    go_ret
    exact ⟨by rw [HE.out] <;> rfl, by first | rfl | trivial⟩
  by_cases h4 : n = 4
  · have HE := Lib.hid (show knB n = true from decide_eq_true (Or.inr h4))
    have h2' : (n == 2) = false := beq_eq_false_iff_ne.2 h2
    have h4' : (n == 4) = true := beq_iff_eq.2 h4
    clear h2 h4
    go_enter Try.func31, Try.ntmps31
    go_wp2_with fail
    go_ret
    exact ⟨by rw [HE.out] <;> rfl, by first | rfl | trivial⟩
  have HE := Lib.hid (show knB n = false from decide_eq_false (by omega))
  have h2' : (n == 2) = false := beq_eq_false_iff_ne.2 h2
  have h4' : (n == 4) = false := beq_eq_false_iff_ne.2 h4
  clear h2 h4
  go_enter Try.func31, Try.ntmps31
  go_wp2_with fail
  go_ret
  exact ⟨by rw [HE.out] <;> rfl, by first | rfl | trivial⟩
set_option maxRecDepth 100000 in
set_option maxHeartbeats 2000000 in
theorem rSwitches_any (n : Int) (w : World) : Calls Try.prog 32 #[.int .i64 n] w fun e w' => e = .returned (.int .i64 (swV n)) ∧ w = w' := by
  by_cases h2 : n = 2
  · have HE := Lib.hid (show swV n = 1 from if_pos h2)
    have h2' : (n == 2) = true := beq_iff_eq.2 h2
    clear h2
    go_enter Try.func32, Try.ntmps32
    go_wp2_with fail
    go_ret
    exact ⟨by rw [HE.out] <;> rfl, by first | rfl | trivial⟩
  have HE := Lib.hid (show swV n = 6 from if_neg h2)
  have h2' : (n == 2) = false := beq_eq_false_iff_ne.2 h2
  clear h2
  go_enter Try.func32, Try.ntmps32
  go_wp2_with fail
  go_ret
  exact ⟨by rw [HE.out] <;> rfl, by first | rfl | trivial⟩
set_option maxRecDepth 100000 in
set_option maxHeartbeats 2000000 in
theorem rStates_no (n : Int) (h : knB n = false) (w : World) : Calls Try.prog 21 #[.int .i64 n] w fun e w' => e = .returned (.tuple #[.int .i64 0, .int .i64 2]) ∧ w = w' := by
  go_enter Try.func21, Try.ntmps21
  go_wp2_with fail
  refine (rKnown_any n _).mono ?_
  rw [h]
  rintro e w' ⟨rfl, rfl⟩
  go_wp2_with fail
  go_ret2
  exact ⟨rfl, rfl⟩
set_option maxRecDepth 100000 in
set_option maxHeartbeats 2000000 in
theorem rStates_2  (w : World) : Calls Try.prog 21 #[.int .i64 2] w fun e w' => e = .returned (.tuple #[.int .i64 2, .int .i64 0]) ∧ w = w' := by
  go_enter Try.func21, Try.ntmps21
  go_wp2_with fail
  refine (rKnown_any 2 _).mono ?_
  rw [show knB 2 = true from by decide]
  rintro e w' ⟨rfl, rfl⟩
  go_wp2_with fail
  refine (rSwitches_any 2 _).mono ?_
  rw [show swV 2 = 1 from by decide]
  rintro e w' ⟨rfl, rfl⟩
  go_wp2_with fail
  go_ret2
  exact ⟨by first | rfl | decide, rfl⟩
set_option maxRecDepth 100000 in
set_option maxHeartbeats 2000000 in
theorem pStates_2  (w : World) : Calls Try.prog 20 #[.int .i64 2] w fun e w' => e = .returned (.tuple #[.int .i64 2, .int .i64 0]) ∧ w = w' := by
  go_enter Try.func20, Try.ntmps20
  go_wp2_with fail
  refine (pCount_any 2 _).mono ?_
  rw [show cnV 2 = 1 from by decide, show szE 2 = 0 from by decide]
  rintro e w' ⟨rfl, rfl⟩
  go_wp2_with fail
  go_ret2
  exact ⟨by first | rfl | decide, rfl⟩
set_option maxRecDepth 100000 in
set_option maxHeartbeats 2000000 in
theorem rStates_4  (w : World) : Calls Try.prog 21 #[.int .i64 4] w fun e w' => e = .returned (.tuple #[.int .i64 64, .int .i64 0]) ∧ w = w' := by
  go_enter Try.func21, Try.ntmps21
  go_wp2_with fail
  refine (rKnown_any 4 _).mono ?_
  rw [show knB 4 = true from by decide]
  rintro e w' ⟨rfl, rfl⟩
  go_wp2_with fail
  refine (rSwitches_any 4 _).mono ?_
  rw [show swV 4 = 6 from by decide]
  rintro e w' ⟨rfl, rfl⟩
  go_wp2_with fail
  go_ret2
  exact ⟨by first | rfl | decide, rfl⟩
set_option maxRecDepth 100000 in
set_option maxHeartbeats 2000000 in
theorem pStates_4  (w : World) : Calls Try.prog 20 #[.int .i64 4] w fun e w' => e = .returned (.tuple #[.int .i64 64, .int .i64 0]) ∧ w = w' := by
  go_enter Try.func20, Try.ntmps20
  go_wp2_with fail
  refine (pCount_any 4 _).mono ?_
  rw [show cnV 4 = 6 from by decide, show szE 4 = 0 from by decide]
  rintro e w' ⟨rfl, rfl⟩
  go_wp2_with fail
  go_ret2
  exact ⟨by first | rfl | decide, rfl⟩
set_option maxRecDepth 100000 in
set_option maxHeartbeats 2000000 in
theorem pStates_no (n : Int) (h : knB n = false) (w : World) : Calls Try.prog 20 #[.int .i64 n] w fun e w' => e = .returned (.tuple #[.int .i64 0, .int .i64 2]) ∧ w = w' := by
  by_cases h4 : 4 < n
  · clear h
    go_enter Try.func20, Try.ntmps20
    go_wp2_with fail
    go_ret2
    exact ⟨rfl, rfl⟩
  have h5 : ¬ (n = 2 ∨ n = 4) := of_decide_eq_false h
  have HP : isP n = false := by
    unfold isP
    rw [beq_eq_false_iff_ne.2 (show ¬ n = 2 by omega), beq_eq_false_iff_ne.2 (show ¬ n = 4 by omega), beq_eq_false_iff_ne.2 (show ¬ n = 8 by omega), beq_eq_false_iff_ne.2 (show ¬ n = 16 by omega)]
    rfl
  have HC := Lib.hid (show cnV n = 0 from by unfold cnV; rw [HP]; rfl)
  have HS := Lib.hid (show szE n = 2 from by unfold szE; rw [HP]; rfl)
  clear h h5 HP
  go_enter Try.func20, Try.ntmps20
  go_wp2_with fail
  refine (pCount_any n _).mono ?_
  rw [HC.out, HS.out]
  rintro e w' ⟨rfl, rfl⟩
  go_wp2_with fail
  go_ret2
  exact ⟨rfl, rfl⟩
set_option maxRecDepth 100000 in
set_option maxHeartbeats 2000000 in
theorem rIsState_2 (s : Int) (w : World) : Calls Try.prog 37 #[.int .i64 2, .int .i64 s] w fun e w' => e = .returned (.bool (isB 2 s)) ∧ w = w' := by
  by_cases h0 : 0 ≤ s
  · have HE := Lib.hid (show isB 2 s = decide (s < 2) from by
      unfold isB
      rw [show stV 2 = 2 from by decide]
      by_cases h : s < 2
      · rw [decide_eq_true h, decide_eq_true ⟨h0, h⟩]
      · rw [decide_eq_false h, decide_eq_false fun g => h g.2])
    go_enter Try.func37, Try.ntmps37
    go_wp2_with fail
    refine (rSwitches_any 2 _).mono ?_
    rw [show swV 2 = 1 from by decide]
    rintro e w' ⟨rfl, rfl⟩
    go_wp2_with fail
    go_ret
    exact ⟨by rw [HE.out] <;> first | rfl | simp [go_sem], rfl⟩
  · have HE := Lib.hid (show isB 2 s = false from decide_eq_false fun g => h0 g.1)
    go_enter Try.func37, Try.ntmps37
    go_wp2_with fail
    go_ret
    exact ⟨by rw [HE.out] <;> rfl, rfl⟩
set_option maxRecDepth 100000 in
set_option maxHeartbeats 2000000 in
theorem rFits9_2 (m cap : Nat) (ao : Option Addr) (p : Int) (hm : m ≤ 9223372036854775807) (w : World) : Calls Try.prog 38 #[.int .i64 2, .slice ao m cap, .int .i64 p] w fun e w' => e = .returned (.bool (fiB 2 m p)) ∧ w = w' := by
  have hs : swV 2 = 1 := by decide
  by_cases h1 : m = 1
  · subst h1
    by_cases h2 : 0 ≤ p
    · have HE := Lib.hid (show fiB 2 1 p = decide (p < 2) from by
        unfold fiB
        by_cases h : p < 2
        · rw [decide_eq_true h, decide_eq_true ⟨hs.symm, h2, h⟩]
        · rw [decide_eq_false h, decide_eq_false fun g => h g.2.2])
      clear hs hm
      go_enter Try.func38, Try.ntmps38
      go_wp2_with fail
      refine (rSwitches_any 2 _).mono ?_
      rw [show swV 2 = 1 from by decide]
      rintro e w' ⟨rfl, rfl⟩
      go_wp2_with fail
      go_ret
      exact ⟨by rw [HE.out] <;> rfl, rfl⟩
    · have HE := Lib.hid (show fiB 2 1 p = false from decide_eq_false fun g => h2 g.2.1)
      clear hs hm
      go_enter Try.func38, Try.ntmps38
      go_wp2_with fail
      refine (rSwitches_any 2 _).mono ?_
      rw [show swV 2 = 1 from by decide]
      rintro e w' ⟨rfl, rfl⟩
      go_wp2_with fail
      go_ret
      exact ⟨by rw [HE.out] <;> rfl, rfl⟩
  · have HE := Lib.hid (show fiB 2 m p = false from decide_eq_false fun g => by rw [hs] at g; omega)
    have hne : ((m : Int) == 1) = false := beq_eq_false_iff_ne.2 (by omega)
    clear hs h1
    go_enter Try.func38, Try.ntmps38
    go_wp2_with fail
    refine (rSwitches_any 2 _).mono ?_
    rw [show swV 2 = 1 from by decide]
    rintro e w' ⟨rfl, rfl⟩
    go_wp2_with fail
    go_ret
    exact ⟨by rw [HE.out] <;> rfl, rfl⟩
set_option maxRecDepth 100000 in
set_option maxHeartbeats 2000000 in
theorem rIsState_4 (s : Int) (w : World) : Calls Try.prog 37 #[.int .i64 4, .int .i64 s] w fun e w' => e = .returned (.bool (isB 4 s)) ∧ w = w' := by
  by_cases h0 : 0 ≤ s
  · have HE := Lib.hid (show isB 4 s = decide (s < 64) from by
      unfold isB
      rw [show stV 4 = 64 from by decide]
      by_cases h : s < 64
      · rw [decide_eq_true h, decide_eq_true ⟨h0, h⟩]
      · rw [decide_eq_false h, decide_eq_false fun g => h g.2])
    go_enter Try.func37, Try.ntmps37
    go_wp2_with fail
    refine (rSwitches_any 4 _).mono ?_
    rw [show swV 4 = 6 from by decide]
    rintro e w' ⟨rfl, rfl⟩
    go_wp2_with fail
    go_ret
    exact ⟨by rw [HE.out] <;> first | rfl | simp [go_sem], rfl⟩
  · have HE := Lib.hid (show isB 4 s = false from decide_eq_false fun g => h0 g.1)
    go_enter Try.func37, Try.ntmps37
    go_wp2_with fail
    go_ret
    exact ⟨by rw [HE.out] <;> rfl, rfl⟩
set_option maxRecDepth 100000 in
set_option maxHeartbeats 2000000 in
theorem rFits9_4 (m cap : Nat) (ao : Option Addr) (p : Int) (hm : m ≤ 9223372036854775807) (w : World) : Calls Try.prog 38 #[.int .i64 4, .slice ao m cap, .int .i64 p] w fun e w' => e = .returned (.bool (fiB 4 m p)) ∧ w = w' := by
  have hs : swV 4 = 6 := by decide
  by_cases h1 : m = 6
  · subst h1
    by_cases h2 : 0 ≤ p
    · have HE := Lib.hid (show fiB 4 6 p = decide (p < 4) from by
        unfold fiB
        by_cases h : p < 4
        · rw [decide_eq_true h, decide_eq_true ⟨hs.symm, h2, h⟩]
        · rw [decide_eq_false h, decide_eq_false fun g => h g.2.2])
      clear hs hm
      go_enter Try.func38, Try.ntmps38
      go_wp2_with fail
      refine (rSwitches_any 4 _).mono ?_
      rw [show swV 4 = 6 from by decide]
      rintro e w' ⟨rfl, rfl⟩
      go_wp2_with fail
      go_ret
      exact ⟨by rw [HE.out] <;> rfl, rfl⟩
    · have HE := Lib.hid (show fiB 4 6 p = false from decide_eq_false fun g => h2 g.2.1)
      clear hs hm
      go_enter Try.func38, Try.ntmps38
      go_wp2_with fail
      refine (rSwitches_any 4 _).mono ?_
      rw [show swV 4 = 6 from by decide]
      rintro e w' ⟨rfl, rfl⟩
      go_wp2_with fail
      go_ret
      exact ⟨by rw [HE.out] <;> rfl, rfl⟩
  · have HE := Lib.hid (show fiB 4 m p = false from decide_eq_false fun g => by rw [hs] at g; omega)
    have hne : ((m : Int) == 6) = false := beq_eq_false_iff_ne.2 (by omega)
    clear hs h1
    go_enter Try.func38, Try.ntmps38
    go_wp2_with fail
    refine (rSwitches_any 4 _).mono ?_
    rw [show swV 4 = 6 from by decide]
    rintro e w' ⟨rfl, rfl⟩
    go_wp2_with fail
    go_ret
    exact ⟨by rw [HE.out] <;> rfl, rfl⟩
set_option maxRecDepth 100000 in
set_option maxHeartbeats 2000000 in
theorem isPort_any (n p : Int) (w : World) : Calls Try.prog 50 #[.int .i64 n, .int .i64 p] w fun e w' => e = .returned (.bool (poB n p)) ∧ w = w' := by
  by_cases h2 : 0 ≤ p
  · have HE := Lib.hid (show poB n p = decide (p < n) from by
      unfold poB
      by_cases h : p < n
      · rw [decide_eq_true h, decide_eq_true ⟨h2, h⟩]
      · rw [decide_eq_false h, decide_eq_false fun g => h g.2])
    go_enter Try.func50, Try.ntmps50
    go_wp2_with fail
    go_ret
    exact ⟨by rw [HE.out] <;> rfl, rfl⟩
  · have HE := Lib.hid (show poB n p = false from decide_eq_false fun g => h2 g.1)
    go_enter Try.func50, Try.ntmps50
    go_wp2_with fail
    go_ret
    exact ⟨by rw [HE.out] <;> rfl, rfl⟩
set_option maxRecDepth 100000 in
set_option maxHeartbeats 2000000 in
theorem pFits_2 (m cap : Nat) (ao : Option Addr) (p : Int) (hm : m ≤ 9223372036854775807) (w : World) : Calls Try.prog 34 #[.int .i64 2, .slice ao m cap, .int .i64 p] w fun e w' => e = .returned (.bool (fiB 2 m p)) ∧ w = w' := by
  have hs : swV 2 = 1 := by decide
  by_cases h1 : m = 1
  · subst h1
    have HE := Lib.hid (show fiB 2 1 p = poB 2 p from by
      unfold fiB poB
      by_cases h : 0 ≤ p ∧ p < 2
      · rw [decide_eq_true h, decide_eq_true ⟨hs.symm, h⟩]
      · rw [decide_eq_false h, decide_eq_false fun g => h g.2])
    clear hs hm
    go_enter Try.func34, Try.ntmps34
    go_wp2_with fail
    refine (pCount_any 2 _).mono ?_
    rw [show cnV 2 = 1 from by decide, show szE 2 = 0 from by decide]
    rintro e w' ⟨rfl, rfl⟩
    go_wp2_with fail
    refine (isPort_any 2 p _).mono ?_
    rintro e w' ⟨rfl, rfl⟩
    go_wp2_with fail
    go_ret
    exact ⟨by rw [HE.out] <;> rfl, rfl⟩
  · have HE := Lib.hid (show fiB 2 m p = false from decide_eq_false fun g => by rw [hs] at g; omega)
    have hne : ((m : Int) == 1) = false := beq_eq_false_iff_ne.2 (by omega)
    clear hs h1
    go_enter Try.func34, Try.ntmps34
    go_wp2_with fail
    refine (pCount_any 2 _).mono ?_
    rw [show cnV 2 = 1 from by decide, show szE 2 = 0 from by decide]
    rintro e w' ⟨rfl, rfl⟩
    go_wp2_with fail
    go_ret
    exact ⟨by rw [HE.out] <;> rfl, rfl⟩
set_option maxRecDepth 100000 in
set_option maxHeartbeats 2000000 in
theorem pFits_4 (m cap : Nat) (ao : Option Addr) (p : Int) (hm : m ≤ 9223372036854775807) (w : World) : Calls Try.prog 34 #[.int .i64 4, .slice ao m cap, .int .i64 p] w fun e w' => e = .returned (.bool (fiB 4 m p)) ∧ w = w' := by
  have hs : swV 4 = 6 := by decide
  by_cases h1 : m = 6
  · subst h1
    have HE := Lib.hid (show fiB 4 6 p = poB 4 p from by
      unfold fiB poB
      by_cases h : 0 ≤ p ∧ p < 4
      · rw [decide_eq_true h, decide_eq_true ⟨hs.symm, h⟩]
      · rw [decide_eq_false h, decide_eq_false fun g => h g.2])
    clear hs hm
    go_enter Try.func34, Try.ntmps34
    go_wp2_with fail
    refine (pCount_any 4 _).mono ?_
    rw [show cnV 4 = 6 from by decide, show szE 4 = 0 from by decide]
    rintro e w' ⟨rfl, rfl⟩
    go_wp2_with fail
    refine (isPort_any 4 p _).mono ?_
    rintro e w' ⟨rfl, rfl⟩
    go_wp2_with fail
    go_ret
    exact ⟨by rw [HE.out] <;> rfl, rfl⟩
  · have HE := Lib.hid (show fiB 4 m p = false from decide_eq_false fun g => by rw [hs] at g; omega)
    have hne : ((m : Int) == 6) = false := beq_eq_false_iff_ne.2 (by omega)
    clear hs h1
    go_enter Try.func34, Try.ntmps34
    go_wp2_with fail
    refine (pCount_any 4 _).mono ?_
    rw [show cnV 4 = 6 from by decide, show szE 4 = 0 from by decide]
    rintro e w' ⟨rfl, rfl⟩
    go_wp2_with fail
    go_ret
    exact ⟨by rw [HE.out] <;> rfl, rfl⟩
end Go.Proofs.Ytkcbkcgampoclaa
