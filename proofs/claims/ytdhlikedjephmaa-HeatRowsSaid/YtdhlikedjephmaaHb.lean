import Derived.Test.YtdhlikedjephmaaHa
namespace Heat
/-- The first n numbers, and zeros behind them. -/
def padI (n : Nat) (f : Nat → Int) (i : Nat) : Int := if i < n then f i else 0
end Heat
namespace Go.Proofs.Ytdhlikedjephmaa
open Go.RowKit Heat

set_option maxRecDepth 100000 in
set_option maxHeartbeats 4000000 in
theorem rAll_any (n cap : Nat) (ao : Option Addr) (f : Nat → Int) (m lo hi : Int) (w : World) (hn : n ≤ 9223372036854775807) (hc : Ints w ao n f) :
    Calls Try.prog 61 #[.slice ao n cap, .int .i64 m, .int .i64 lo, .int .i64 hi] w fun e w' => e = .returned (.bool (inB n f m lo hi)) ∧ Below w.heap.size w w' := by
  have HC := Lib.hid hc
  clear hc
  obtain ⟨bm, hbm⟩ : ∃ bm, decide ((n : Int) = m) = bm := ⟨_, rfl⟩
  have HF : Hid (inB n f m lo hi = (bm && inTo f lo hi n)) := Lib.hid (by unfold inB; rw [hbm])
  have hm : ((n : Int) == m) = bm := by rw [← hbm]; cases h : decide ((n : Int) = m) <;> simp_all
  clear hbm
  rw [HF.out]
  go_enter Try.func61, Try.ntmps61
  go_wp2_with fail
  go_loopw [9] (fun iv wr => ∃ k : Nat, iv = .int .i64 k ∧ k ≤ n ∧ Hid (inTo f lo hi k = true) ∧ Below w.heap.size w wr) (fun iv _ => n - (intOf iv).toNat)
  case atStart => exact ⟨0, rfl, by omega, Lib.hid rfl, Below.refl _ _⟩
  case round =>
    obtain ⟨k, rfl, hk, HS, hbl⟩ := hrel
    by_cases hlt : k < n
    · have hlt' : (k : Int) < (n : Int) := by omega
      obtain ⟨b, o, rfl, hcell⟩ := HC.out (by omega)
      have g0 := (hbl.cell (p := ⟨b, o + k, none⟩) (World.block_lt_of_cell? w _ (hcell k hlt))).trans (hcell k hlt)
      clear hcell
      obtain ⟨x, hx⟩ : ∃ x, f k = x := ⟨_, rfl⟩
      have HX := Lib.hid hx
      rw [hx] at g0
      clear hx
      have wk : wrap64 ((k : Int) + 1) = (k : Int) + 1 := by simp only [wrap64]; omega
      by_cases hx : lo ≤ x ∧ x ≤ hi
      · have HN : Hid (inTo f lo hi (k + 1) = true) := Lib.hid (inTo_next HS.out (by rw [HX.out]; omega) (by rw [HX.out]; omega))
        have HW : Hid ((decide (lo ≤ x) && decide (x ≤ hi)) = true) := Lib.hid (by simp [hx])
        clear hx
        go_wp2_with fail
        refine (rWithin_any lo x hi _).mono ?_
        rw [HW.out]
        rintro e w1 ⟨rfl, hb⟩
        have D1 := hbl.trans (hb.mono hbl.size)
        clear hb
        go_wp2_with fail
        go_roundw
        case rel => exact ⟨k + 1, by go_num, by omega, HN, D1⟩
        case measure => simp [intOf]; omega
      · have HN : Hid (inTo f lo hi n = false) := Lib.hid (inTo_stop (k := k) (by rw [HX.out]; exact hx) n hlt)
        have HW : Hid ((decide (lo ≤ x) && decide (x ≤ hi)) = false) := Lib.hid (by simp; omega)
        clear hx
        go_wp2_with fail
        refine (rWithin_any lo x hi _).mono ?_
        rw [HW.out]
        rintro e w1 ⟨rfl, hb⟩
        have D1 := hbl.trans (hb.mono hbl.size)
        clear hb
        go_wp2_with fail
        refine bodyPost_ret (v := .bool false) (by simp [results, Try.results61, go_sem]) rfl ⟨by rw [HN.out, Bool.and_false], D1⟩
    · obtain rfl : k = n := by omega
      go_wp2_with fail
      refine bodyPost_ret (v := .bool bm) (by simp [results, Try.results61, go_sem]) rfl ⟨by rw [HS.out, Bool.and_true], hbl⟩

set_option maxRecDepth 100000 in
theorem rIsPowers_any (n cap : Nat) (ao : Option Addr) (f : Nat → Int) (m : Int) (w : World) (hn : n ≤ 9223372036854775807) (hc : Ints w ao n f) :
    Calls Try.prog 53 #[.slice ao n cap, .int .i64 m] w fun e w' => e = .returned (.bool (inB n f m 0 1000)) ∧ Below w.heap.size w w' := by
  have HC := Lib.hid hc
  clear hc
  go_enter Try.func53, Try.ntmps53
  go_wp2_with fail
  refine (rAll_any n cap ao f m 0 1000 _ hn HC.out).mono ?_
  rintro e w1 ⟨rfl, hb⟩
  go_wp2_with fail
  go_returns
  exact ⟨rfl, hb⟩
set_option maxRecDepth 100000 in
theorem rIsPhases_any (n cap : Nat) (ao : Option Addr) (f : Nat → Int) (m : Int) (w : World) (hn : n ≤ 9223372036854775807) (hc : Ints w ao n f) :
    Calls Try.prog 64 #[.slice ao n cap, .int .i64 m] w fun e w' => e = .returned (.bool (inB n f m (-1000000) 1000000)) ∧ Below w.heap.size w w' := by
  have HC := Lib.hid hc
  clear hc
  go_enter Try.func64, Try.ntmps64
  go_wp2_with fail
  refine (rAll_any n cap ao f m (-1000000) 1000000 _ hn HC.out).mono ?_
  rintro e w1 ⟨rfl, hb⟩
  go_wp2_with fail
  go_returns
  exact ⟨rfl, hb⟩
end Go.Proofs.Ytdhlikedjephmaa
