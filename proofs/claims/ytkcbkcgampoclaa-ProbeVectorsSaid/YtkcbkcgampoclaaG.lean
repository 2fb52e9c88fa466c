import Derived.Test.YtkcbkcgampoclaaE
namespace Go.Proofs.Ytkcbkcgampoclaa
open Go.RowKit Amp
attribute [local go_sem] ix0 ix1 ix2 ix3
attribute [local go_sem high] run_eqNum run_neNum

/-- Number number i of a slice of numbers lies at b, o. -/
def NumAt (w : World) (b o : Nat) (z : Nm) : Prop :=
  w.cell? ⟨b, o, none⟩ = some (.int .i64 z.v.a) ∧ w.cell? ⟨b, o + 1, none⟩ = some (.int .i64 z.v.b) ∧ w.cell? ⟨b, o + 2, none⟩ = some (.int .i64 z.v.c) ∧ w.cell? ⟨b, o + 3, none⟩ = some (.int .i64 z.v.d) ∧ w.cell? ⟨b, o + 4, none⟩ = some (.int .i64 z.k)

def chk (f : Nat → Nm) (n : Nat) : Int := if okTo f n = true then 0 else 10
theorem chk_ok {f : Nat → Nm} {n : Nat} (h : okTo f n = true) : chk f n = 0 := by unfold chk; rw [if_pos h]
theorem chk_bad {f : Nat → Nm} {n : Nat} (h : okTo f n = false) : chk f n = 10 := by unfold chk; rw [h]; rfl
set_option maxHeartbeats 1000000 in
theorem check_any (b o n cap : Nat) (f : Nat → Nm) (w : World) (hn : n ≤ 9223372036854775807) (hc : ∀ i, i < n → NumAt w b (o + i * 5) (f i)) :
    Calls Try.prog 56 #[.slice (some ⟨b, o, none⟩) n cap] w fun e w' => e = .returned (.int .i64 (chk f n)) ∧ Below w.heap.size w w' := by
  have HC := Lib.hid hc
  clear hc
  go_enter Try.func56, Try.ntmps56
  go_wp2_with fail
  go_loopw [7] (fun i wr => ∃ k : Nat, i = .int .i64 k ∧ k ≤ n ∧ okTo f k = true ∧ Below w.heap.size w wr) (fun i _ => n - (intOf i).toNat)
  case atStart => exact ⟨0, rfl, Nat.zero_le _, rfl, Below.refl _ _⟩
  case round =>
    obtain ⟨k, rfl, hk, hok, hbel⟩ := hrel
    have hsz := hbel.size
    by_cases hlt : k < n
    · obtain ⟨c0, c1, c2, c3, c4⟩ := HC.out k hlt
      have lb : b < w.heap.size := World.block_lt_of_cell? w _ c0
      obtain ⟨k1, _⟩ := bcell hbel
      simp only [← k1 _ _ lb] at c0 c1 c2 c3 c4
      have HK := Lib.hid hok
      clear k1 hok
      cases hv : vld (f k)
      · have HF := Lib.hid (okTo_stop hv n hlt)
        go_wp2_with fail
        refine (Valid_any _ _ _ _ _ _).mono ?_
        rintro e w1 ⟨rfl, hb1⟩
        have hbel1 : Below w.heap.size w w1 := Below.trans (by go_grown) (hb1.mono (by have := hbel.size; simp; omega))
        clear hb1
        simp only [hv]
        go_wp2_with fail
        go_returns
        exact ⟨by rw [chk_bad HF.out]; rfl, hbel1⟩
      · go_wp2_with fail
        refine (Valid_any _ _ _ _ _ _).mono ?_
        rintro e w1 ⟨rfl, hb1⟩
        have hbel1 : Below w.heap.size w w1 := Below.trans (by go_grown) (hb1.mono (by have := hbel.size; simp; omega))
        clear hb1
        have HV := Lib.hid hv
        simp only [hv]
        clear hv
        go_wp2_with fail
        go_roundw
        case rel => exact ⟨k + 1, by go_num, by omega, by simp only [okTo]; rw [HK.out, HV.out]; rfl, hbel1⟩
        case measure => simp [intOf]; omega
    · have HK := Lib.hid hok
      clear hok
      go_wp2_with fail
      go_returns
      obtain rfl : k = n := by omega
      exact ⟨by rw [chk_ok HK.out]; rfl, hbel⟩
end Go.Proofs.Ytkcbkcgampoclaa
