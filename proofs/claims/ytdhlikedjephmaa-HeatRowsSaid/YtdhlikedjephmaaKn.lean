import Derived.Test.YtdhlikedjephmaaHw
namespace Heat
/-- The nearest whole number, of two the greater one. -/
def nrS (n d : Int) : Int := (2 * n + d) / (2 * d)
theorem tm_bd (x : Int) {y : Int} (hy : 0 < y) : -y < x.tmod y ∧ x.tmod y < y := by
  have h1 := Int.natAbs_tmod x y
  have h2 := Nat.mod_lt x.natAbs (show y.natAbs > 0 by omega)
  omega
theorem fl_trunc (x : Int) {y : Int} (hy : 0 < y) : (x.tmod y < 0 → x / y = x.tdiv y - 1 ∧ x % y = x.tmod y + y) ∧ (¬ x.tmod y < 0 → x / y = x.tdiv y ∧ x % y = x.tmod y) := by
  have h1 := Int.mul_tdiv_add_tmod x y
  obtain ⟨h2, h3⟩ := tm_bd x hy
  constructor
  · intro hr
    refine (Int.ediv_emod_unique (b := y) (r := x.tmod y + y) hy).2 ⟨?_, by omega, by omega⟩
    rw [Int.mul_sub, Int.mul_one]
    omega
  · intro hr
    exact (Int.ediv_emod_unique (b := y) (r := x.tmod y) hy).2 ⟨by omega, by omega, h3⟩
theorem nr_ref {n d : Int} (h : 0 < d) : nrS n d = if d ≤ 2 * (n % d) then n / d + 1 else n / d := by
  unfold nrS
  have h1 := Int.mul_ediv_add_emod n d
  have h2 := Int.emod_nonneg n (show d ≠ 0 by omega)
  have h3 := Int.emod_lt_of_pos n h
  generalize n % d = r at *
  generalize hq : n / d = q at *
  split
  · refine ((Int.ediv_emod_unique (b := 2 * d) (r := 2 * r - d) (by omega)).2 ⟨?_, by omega, by omega⟩).1
    rw [Int.mul_add, Int.mul_assoc]; omega
  · refine ((Int.ediv_emod_unique (b := 2 * d) (r := 2 * r + d) (by omega)).2 ⟨?_, by omega, by omega⟩).1
    rw [Int.mul_assoc]; omega
theorem div_bd {x y : Int} (hy : 0 < y) : (x / y).natAbs ≤ x.natAbs + 1 := by
  have h := Int.natAbs_ediv_le_natAbs x y
  omega
theorem nr_bd {n d : Int} (hn : -1000000000000000000 ≤ n ∧ n ≤ 1000000000000000000) (h : 0 < d) (h2 : d ≤ 1000000000000000000) : (nrS n d).natAbs ≤ 4000000000000000000 := by
  have := Int.natAbs_ediv_le_natAbs (2 * n + d) (2 * d)
  unfold nrS
  omega
end Heat
namespace Go.Proofs.Ytdhlikedjephmaa
open Go.RowKit Heat
/-- A list of n ratios that came in. -/
def Rats (w : World) (ao : Option Addr) (n : Nat) (P Q : Nat → Int) : Prop := 0 < n → ∃ b o, ao = some ⟨b, o, none⟩ ∧ ∀ i, i < n → w.cell? ⟨b, o + i * 2, none⟩ = some (.int .i64 (P i)) ∧ w.cell? ⟨b, o + i * 2 + 1, none⟩ = some (.int .i64 (Q i))
theorem Rats.keep {w w1 : World} {ao : Option Addr} {n : Nat} {P Q : Nat → Int} (h : Rats w ao n P Q) (hb : Below w.heap.size w w1) : Rats w1 ao n P Q := by
  intro hn
  obtain ⟨b, o, e, hc⟩ := h hn
  have hB : b < w.heap.size := World.block_lt_of_cell? w _ (hc 0 hn).1
  exact ⟨b, o, e, fun i hi => ⟨((bcl hb).1 _ _ hB).trans (hc i hi).1, ((bcl hb).1 _ _ hB).trans (hc i hi).2⟩⟩
set_option maxRecDepth 100000 in
set_option maxHeartbeats 4000000 in
theorem nearest_any (n d : Int) (w : World) (hn : -1000000000000000000 ≤ n ∧ n ≤ 1000000000000000000) (hd : 0 < d) (hd2 : d ≤ 1000000000000000000) :
    Calls Try.prog 47 #[.agg #[.int .i64 n, .int .i64 d]] w fun e w' => e = .returned (.int .i64 (nrS n d)) ∧ Below w.heap.size w w' := by
  have HN : Hid (((2 * n + d).tmod (2 * d) < 0 → nrS n d = (2 * n + d).tdiv (2 * d) - 1) ∧ (¬ (2 * n + d).tmod (2 * d) < 0 → nrS n d = (2 * n + d).tdiv (2 * d))) :=
    Lib.hid ⟨fun h => ((fl_trunc (2 * n + d) (show 0 < 2 * d by omega)).1 h).1, fun h => ((fl_trunc (2 * n + d) (show 0 < 2 * d by omega)).2 h).1⟩
  have hqb := Int.natAbs_tdiv_le_natAbs (2 * n + d) (2 * d)
  obtain ⟨x, hx⟩ : ∃ x, 2 * n + d = x := ⟨_, rfl⟩
  obtain ⟨y, hy⟩ : ∃ y, 2 * d = y := ⟨_, rfl⟩
  have w1 : wrap64 (2 * n) = 2 * n := by simp only [wrap64]; omega
  have w2 : wrap64 (2 * n + d) = x := by simp only [wrap64]; omega
  have w3 : wrap64 (2 * d) = y := by simp only [wrap64]; omega
  rw [hx, hy] at hqb HN
  obtain ⟨q, hq⟩ : ∃ q, x.tdiv y = q := ⟨_, rfl⟩
  obtain ⟨r, hr⟩ : ∃ r, x.tmod y = r := ⟨_, rfl⟩
  rw [hq, hr] at HN
  rw [hq] at hqb
  have w4 : wrap64 q = q := by simp only [wrap64]; omega
  have w5 : wrap64 (q - 1) = q - 1 := by simp only [wrap64]; omega
  have y0 : ¬ y = 0 := by omega
  have y1 : (y == 0) = false := beq_eq_false_iff_ne.2 y0
  have ym : ¬ y = -1 := by omega
  have HB : Hid (nrS n d = (if r < 0 then q - 1 else q)) := Lib.hid (by
    by_cases h : r < 0
    · rw [if_pos h]; exact HN.out.1 h
    · rw [if_neg h]; exact HN.out.2 h)
  clear hn hd hd2 hqb HN hx hy
  by_cases hr0 : r < 0
  · rw [HB.out, if_pos hr0]
    go_enter Try.func47, Try.ntmps47
    go_wp2_with fail
    go_region
    all_goals
      go_wp2_with fail
      go_returns
      exact ⟨by show Ending.returned (Value.int .i64 (wrap64 (q - 1))) = _; rw [w5], by go_grown⟩
  · rw [HB.out, if_neg hr0]
    go_enter Try.func47, Try.ntmps47
    go_wp2_with fail
    go_region
    all_goals
      go_wp2_with fail
      go_returns
      exact ⟨by show Ending.returned (Value.int .i64 (wrap64 q)) = _; rw [w4], by go_grown⟩
end Go.Proofs.Ytdhlikedjephmaa
