import Derived.Test.YtkcbkcgampoclaaNb9
namespace Ben
/-- How the switches are turned by settings in a state. -/
def tsB (s : Nat → Bool) (a : Nat) : Nat → Bool := fun j => s j != bt a j
theorem bt_testBit (a j : Nat) : bt a j = a.testBit j := by
  unfold bt
  rw [Nat.testBit_eq_decide_div_mod_eq]
theorem bt_xor (a b j : Nat) : bt (a ^^^ b) j = (bt a j != bt b j) := by
  rw [bt_testBit, bt_testBit, bt_testBit, Nat.testBit_xor]
theorem xor_ofB {s : Nat → Bool} {a n j : Nat} (hj : j < n) : bt (a ^^^ ofB s n) j = tsB s a j := by
  rw [bt_xor, bt_ofB s hj]
  unfold tsB
  cases bt a j <;> cases s j <;> rfl
theorem out_xor {s : Nat → Bool} {a k i : Nat} (hi : i < sz k) : out (bt (a ^^^ ofB s (cn k))) k 0 i = out (tsB s a) k 0 i :=
  (out_congr k 0 i hi fun j _ hj => xor_ofB (by omega)).1
end Ben
namespace Go.Proofs.Ytkcbkcgampoclaa
open Go.RowKit Ben Prb
theorem xor_bits : ∀ (a b : Fin 64), bits .xor .i64 ((a.val : Nat) : Int) ((b.val : Nat) : Int) = ((a.val ^^^ b.val : Nat) : Int) := by decide +kernel
theorem xor_bit {a b : Nat} (ha : a < 64) (hb : b < 64) : bits .xor .i64 (a : Int) (b : Int) = ((a ^^^ b : Nat) : Int) := xor_bits ⟨a, ha⟩ ⟨b, hb⟩
set_option maxRecDepth 100000 in
theorem rPassed_any (t : Bool) (i : Nat) (hi : i < 2) (w : World) : Calls Try.prog 63 #[.bool t, .int .i64 i] w fun e w' => e = .returned (.int .i64 (fl t i : Nat)) ∧ w = w' := by
  have h : i = 0 ∨ i = 1 := by omega
  rcases h with rfl | rfl <;> cases t
  · go_enter Try.func63, Try.ntmps63
    go_wp2_with fail
    go_ret
    exact ⟨rfl, rfl⟩
  · go_enter Try.func63, Try.ntmps63
    go_wp2_with fail
    go_ret
    exact ⟨rfl, rfl⟩
  · go_enter Try.func63, Try.ntmps63
    go_wp2_with fail
    go_ret
    exact ⟨rfl, rfl⟩
  · go_enter Try.func63, Try.ntmps63
    go_wp2_with fail
    go_ret
    exact ⟨rfl, rfl⟩
theorem rPassed_same (t : Bool) (i : Nat) (hi : i < 2) (w : World) : Calls Try.prog 63 #[.bool t, .int .i64 i] w fun e w' => e = .returned (.int .i64 (fl t i : Nat)) ∧ w' = w :=
  (rPassed_any t i hi w).mono fun _ _ h => ⟨h.1, h.2.symm⟩
set_option maxRecDepth 100000 in
set_option maxHeartbeats 4000000 in
theorem rThrough9_any (a m cap : Nat) (ao : Option Addr) (s : Nat → Bool) (j i : Nat) (w : World) (ha : a < 64) (hm : m ≤ 6) (hj : j < m) (hi : i < 2) (hc : Bools w ao m s) :
    Calls Try.prog 52 #[.int .i64 a, .slice ao m cap, .int .i64 j, .int .i64 i] w fun e w' => e = .returned (.int .i64 (fl (tsB s a j) i : Nat)) ∧ Below w.heap.size w w' := by
  obtain ⟨b, o, rfl, hcell⟩ := hc (by omega)
  have c0 := hcell j hj
  have hab := and_bit ha (show j < 6 by omega)
  have j0 : (0 : Int) ≤ (j : Int) := by omega
  have a0 : (0 : Int) ≤ (a : Int) := by omega
  have jt : (j : Int).toNat = j := by omega
  have jm : (j : Int) < (m : Int) := by omega
  have hm64 : min j 64 = j := by omega
  have HJ := Lib.hid (And.intro hj hm)
  have HI := Lib.hid hi
  obtain ⟨t, ht⟩ : ∃ t, s j = t := ⟨_, rfl⟩
  obtain ⟨u, hu⟩ : ∃ u, bt a j = u := ⟨_, rfl⟩
  have HT : Hid (tsB s a j = (t != u)) := Lib.hid (by unfold tsB; rw [ht, hu])
  rw [ht] at c0
  rw [hu] at hab
  rw [HT.out]
  have HN9 : Hid (∀ x : Bool, x = u → fl (!t == x) i = fl (t != u) i) := Lib.hid (by intro x hx; subst hx; cases t <;> cases x <;> rfl)
  have HAB := Lib.hid hab
  clear hab hcell ha hm hj hi ht hu hc
  go_enter Try.func52, Try.ntmps52
  go_upto_region 1 with fail
  go_quiet ((go_at_call 63; exact Calls.quiet_of_same (rPassed_same _ _ HI.out _)))
  go_wp2_with fail
  go_ret
  exact ⟨congrArg (fun z : Nat => Ending.returned (.int .i64 ((z : Nat) : Int))) (HN9.out _ HAB.out), by first | exact drewN_below (Below.refl _ _) | go_grown⟩
end Go.Proofs.Ytkcbkcgampoclaa
