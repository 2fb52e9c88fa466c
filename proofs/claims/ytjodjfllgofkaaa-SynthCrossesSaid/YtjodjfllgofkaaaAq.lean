import Derived.Test.YtjodjfllgofkaaaAs
namespace Go.Proofs.Ytjodjfllgofkaaa
open Go.RowKit Amp
attribute [local go_sem] ix0 ix1 ix2 ix3 jx0 jx1 jx2 jx3
attribute [local go_sem high] run_eqNum run_neNum
set_option maxHeartbeats 2000000 in
theorem placed_any (n : Nat) (kd at' m : Int) (nm : ByteArray) (w : World) (h1 : 0 < n) (hn : n ≤ 6) :
    Calls Try.prog 52 #[.slice none 0 0, .int .i64 n, .agg #[.int .i64 kd, .int .i64 at', .int .i64 m, .string nm]] w fun e w' => e = .returned (.bool (itF n ⟨kd, at', m, nm⟩)) ∧ Below w.heap.size w w' := by
  have hn6 : (n : Int) ≤ 6 := by omega
  have hn1 : 0 < (n : Int) := by omega
  cases hB : itB ⟨kd, at', m, nm⟩
  · have HR := Lib.hid (itR_no hB)
    have HF : Hid (itF n ⟨kd, at', m, nm⟩ = false) := Lib.hid (by unfold itF; rw [hB]; rfl)
    clear hB
    go_enter Try.func52, Try.ntmps52
    go_wp2_with fail
    refine (wide_any kd at' m nm _).mono ?_
    rintro e w1 ⟨rfl, hb⟩
    rw [HR.out]
    have D1 : Below w.heap.size w w1 := Below.trans (by go_grown) (hb.mono (by simp))
    clear hb
    go_wp2_with fail
    go_returns
    exact ⟨by rw [HF.out]; rfl, D1⟩
  · obtain ⟨W, hW⟩ : ∃ W, Hid (itW ⟨kd, at', m, nm⟩ = W) := ⟨_, rfl⟩
    have hR := itR_yes hB
    rw [hW.out] at hR
    have hW2 : W ≤ 2 := by rw [← hW.out]; exact (itW_bd _).2
    obtain ⟨hR1, hW0⟩ := hR
    have HR := Lib.hid hR1
    have HF : Hid (itF n ⟨kd, at', m, nm⟩ = (decide (1 ≤ at') && decide (at' ≤ (n : Int) - W + 1))) := Lib.hid (by unfold itF; rw [hB, hW.out]; rfl)
    clear hB hR1
    by_cases ha1 : 1 ≤ at'
    · by_cases ha2 : at' ≤ (n : Int) - W + 1
      · have HG : Hid (itF n ⟨kd, at', m, nm⟩ = true) := Lib.hid (by rw [HF.out, decide_eq_true ha1, decide_eq_true ha2]; rfl)
        have ha3 : at' ≤ (n : Int) := by omega
        go_enter Try.func52, Try.ntmps52
        go_wp2_with fail
        refine (wide_any kd at' m nm _).mono ?_
        rintro e w1 ⟨rfl, hb⟩
        rw [HR.out]
        have g0 : w1.cell? ⟨w.heap.size, 1, none⟩ = some (.int .i64 at') := (hb.cell (p := ⟨w.heap.size, 1, none⟩) (by simp)).trans (by go_cell)
        have D1 : Below w.heap.size w w1 := Below.trans (by go_grown) (hb.mono (by simp))
        clear hb
        go_wp2_with fail
        go_returns
        exact ⟨by rw [HG.out]; rfl, D1⟩
      · have HG : Hid (itF n ⟨kd, at', m, nm⟩ = false) := Lib.hid (by rw [HF.out, decide_eq_true ha1, decide_eq_false ha2]; rfl)
        have HD := Lib.hid (decide_eq_false ha2)
        by_cases ha3 : at' ≤ (n : Int)
        all_goals
          go_enter Try.func52, Try.ntmps52
          go_wp2_with fail
          refine (wide_any kd at' m nm _).mono ?_
          rintro e w1 ⟨rfl, hb⟩
          rw [HR.out]
          have g0 : w1.cell? ⟨w.heap.size, 1, none⟩ = some (.int .i64 at') := (hb.cell (p := ⟨w.heap.size, 1, none⟩) (by simp)).trans (by go_cell)
          have D1 : Below w.heap.size w w1 := Below.trans (by go_grown) (hb.mono (by simp))
          clear hb
          go_wp2_with fail
          go_returns
          exact ⟨by first | (rw [HG.out]; rfl) | (rw [HG.out, ← HD.out]; rfl), D1⟩
    · have HG : Hid (itF n ⟨kd, at', m, nm⟩ = false) := Lib.hid (by rw [HF.out, decide_eq_false ha1]; rfl)
      go_enter Try.func52, Try.ntmps52
      go_wp2_with fail
      refine (wide_any kd at' m nm _).mono ?_
      rintro e w1 ⟨rfl, hb⟩
      rw [HR.out]
      have g0 : w1.cell? ⟨w.heap.size, 1, none⟩ = some (.int .i64 at') := (hb.cell (p := ⟨w.heap.size, 1, none⟩) (by simp)).trans (by go_cell)
      have D1 : Below w.heap.size w w1 := Below.trans (by go_grown) (hb.mono (by simp))
      clear hb
      go_wp2_with fail
      go_returns
      exact ⟨by rw [HG.out]; rfl, D1⟩

/-- Are these flat items on N guides? -/
def flatB (N : Int) (len : Nat) (f : Nat → It) : Bool := decide (askS N len f = 0)
theorem itF_4 {n : Nat} {x : It} (h : x.kind = 4) : itF n x = false := by
  unfold itF itB
  rw [if_neg (by omega), if_neg (by omega)]; rfl
set_option maxHeartbeats 2000000 in
theorem rValidItems_any (N : Int) (len cap : Nat) (ao : Option Addr) (f : Nat → It) (w : World) (hlen : len ≤ 9223372036854775807) (hc : Its w ao len f) :
    Calls Try.prog 14 #[.int .i64 N, .slice ao len cap] w fun e w' => e = .returned (.bool (flatB N len f)) ∧ Below w.heap.size w w' := by
  have HC := Lib.hid hc
  clear hc
  by_cases h6 : 1 ≤ N ∧ N ≤ 6
  · obtain ⟨n, rfl⟩ : ∃ n : Nat, N = n := ⟨N.toNat, by omega⟩
    have HN : Hid (0 < n ∧ n ≤ 6) := Lib.hid (by omega)
    obtain ⟨h61, h62⟩ := h6
    by_cases hl : len ≤ 5000
    · have HE : Hid (flatB n len f = fitTo n f len) := Lib.hid (by
        unfold flatB askS
        rw [if_pos ⟨h61, h62⟩, Int.toNat_natCast]
        cases fitTo n f len <;> simp [hl])
      have hl' : (len : Int) ≤ 5000 := by omega
      have hl2 : ¬ (5000 : Int) < (len : Int) := by omega
      have h63 : ¬ (n : Int) < 1 := by omega
      have h64 : ¬ (6 : Int) < (n : Int) := by omega
      clear hl
      go_enter Try.func14, Try.ntmps14
      go_wp2_with fail
      go_loopw [6, 20] (fun _ i wr => ∃ k : Nat, i = .int .i64 k ∧ k ≤ len ∧ Hid (fitTo n f k = true) ∧ Below w.heap.size w wr) (fun _ i _ => len - (intOf i).toNat)
      case atStart => exact ⟨0, rfl, Nat.zero_le _, Lib.hid rfl, Below.refl _ _⟩
      case round =>
        obtain ⟨k, rfl, hk, HK, hbel⟩ := hrel
        have hsz := hbel.size
        by_cases hlt : k < len
        · obtain ⟨b, o, rfl, hcell⟩ := (Its.keep HC.out hbel) (by omega)
          have hlt' : (k : Int) < (len : Int) := by omega
          obtain ⟨⟨kd, at', m, nm⟩, hx⟩ : ∃ x : It, f k = x := ⟨_, rfl⟩
          have hz := hcell k hlt
          rw [hx] at hz
          obtain ⟨c0, c1, c2, c3, c4⟩ := hz
          simp only at c0 c1 c2 c3 c4
          have HX := Lib.hid hx
          have lb : b < wr.heap.size := World.block_lt_of_cell? wr _ c0
          have hne : ¬ wr.heap.size = b := by omega
          clear hcell hx c4
          by_cases h4 : kd = 4
          · subst h4
            have HF : Hid (fitTo n f len = false) := Lib.hid (fitTo_stop (k := k) (by rw [HX.out]; exact itF_4 rfl) len hlt)
            go_wp2_with fail
            go_returns
            exact ⟨by rw [HE.out, HF.out]; rfl, by go_grown⟩
          · have h4b : (kd == 4) = false := beq_eq_false_iff_ne.2 h4
            clear h4
            obtain ⟨B, hB⟩ : ∃ B, Hid (itF n ⟨kd, at', m, nm⟩ = B) := ⟨_, rfl⟩
            go_wp2_with fail
            refine (placed_any n kd at' m nm _ HN.out.1 HN.out.2).mono ?_
            rintro e w1 ⟨rfl, hb1⟩
            rw [hB.out]
            have hbel1 : Below w.heap.size w w1 := Below.trans (by go_grown) (hb1.mono (by first | omega | (simp; done) | (simp; omega)))
            clear hb1
            cases B
            · have HF : Hid (fitTo n f len = false) := Lib.hid (fitTo_stop (k := k) (by rw [HX.out]; exact hB.out) len hlt)
              go_wp2_with fail
              go_returns
              exact ⟨by rw [HE.out, HF.out]; rfl, hbel1⟩
            · go_wp2_with fail
              go_roundw
              case rel => exact ⟨k + 1, by go_num, by omega, Lib.hid (by simp only [fitTo]; rw [HK.out, HX.out, hB.out]; rfl), hbel1⟩
              case measure => simp [intOf]; omega
        · obtain rfl : k = len := by omega
          go_wp2_with fail
          go_returns
          exact ⟨by rw [HE.out, HK.out]; rfl, hbel⟩
    · have HE : Hid (flatB n len f = false) := Lib.hid (by
        unfold flatB askS
        rw [if_pos ⟨h61, h62⟩, if_neg (fun h => hl h.1)]; rfl)
      have hl2 : (5000 : Int) < (len : Int) := by omega
      have h63 : ¬ (n : Int) < 1 := by omega
      have h64 : ¬ (6 : Int) < (n : Int) := by omega
      clear hl
      go_enter Try.func14, Try.ntmps14
      go_wp2_with fail
      go_returns
      exact ⟨by rw [HE.out]; rfl, Below.refl _ _⟩
  · have HE : Hid (flatB N len f = false) := Lib.hid (by
      unfold flatB askS
      rw [if_neg h6]; rfl)
    by_cases h1 : N < 1
    · clear h6
      go_enter Try.func14, Try.ntmps14
      go_wp2_with fail
      go_returns
      exact ⟨by rw [HE.out]; rfl, Below.refl _ _⟩
    · have h2 : 6 < N := by omega
      clear h6
      go_enter Try.func14, Try.ntmps14
      go_wp2_with fail
      go_returns
      exact ⟨by rw [HE.out]; rfl, Below.refl _ _⟩

set_option maxHeartbeats 1000000 in
theorem asked_any (N : Int) (len cap : Nat) (ao : Option Addr) (f : Nat → It) (w : World) (hlen : len ≤ 9223372036854775807) (hc : Its w ao len f) :
    Calls Try.prog 42 #[.int .i64 N, .slice ao len cap] w fun e w' => e = .returned (.int .i64 (askS N len f)) ∧ Below w.heap.size w w' := by
  have HC := Lib.hid hc
  clear hc
  by_cases h6 : 1 ≤ N ∧ N ≤ 6
  · obtain ⟨h61, h62⟩ := h6
    have h63 : ¬ N < 1 := by omega
    have h64 : ¬ 6 < N := by omega
    cases hF : flatB N len f
    · have HE : Hid (askS N len f = 31) := Lib.hid (by
        unfold flatB at hF
        have h0 := of_decide_eq_false hF
        unfold askS at h0 ⊢
        rw [if_pos ⟨h61, h62⟩] at h0 ⊢
        split at h0
        · exact absurd rfl h0
        · next hh => rw [if_neg hh])
      have HF := Lib.hid hF
      clear hF
      go_enter Try.func42, Try.ntmps42
      go_wp2_with fail
      refine (rValidItems_any N len cap ao f _ hlen HC.out).mono ?_
      rintro e w1 ⟨rfl, hb⟩
      rw [HF.out]
      go_wp2_with fail
      go_returns
      exact ⟨by rw [HE.out]; rfl, hb⟩
    · have HE : Hid (askS N len f = 0) := Lib.hid (of_decide_eq_true hF)
      have HF := Lib.hid hF
      clear hF
      go_enter Try.func42, Try.ntmps42
      go_wp2_with fail
      refine (rValidItems_any N len cap ao f _ hlen HC.out).mono ?_
      rintro e w1 ⟨rfl, hb⟩
      rw [HF.out]
      go_wp2_with fail
      go_returns
      exact ⟨by rw [HE.out]; rfl, hb⟩
  · have HE : Hid (askS N len f = 2) := Lib.hid (by unfold askS; rw [if_neg h6])
    by_cases h1 : N < 1
    · clear h6
      go_enter Try.func42, Try.ntmps42
      go_wp2_with fail
      go_returns
      exact ⟨by rw [HE.out]; rfl, Below.refl _ _⟩
    · have h2 : 6 < N := by omega
      clear h6
      go_enter Try.func42, Try.ntmps42
      go_wp2_with fail
      go_returns
      exact ⟨by rw [HE.out]; rfl, Below.refl _ _⟩

theorem mValidItems_any (N : Int) (len cap : Nat) (ao : Option Addr) (f : Nat → It) (w : World) (hlen : len ≤ 9223372036854775807) (hc : Its w ao len f) :
    Calls Try.prog 13 #[.int .i64 N, .slice ao len cap] w fun e w' => e = .returned (.bool (flatB N len f)) ∧ Below w.heap.size w w' := by
  have HC := Lib.hid hc
  clear hc
  obtain ⟨er, hr⟩ : ∃ er, Hid (askS N len f = er) := ⟨_, rfl⟩
  have HE : Hid (flatB N len f = (er == 0)) := Lib.hid (by unfold flatB; rw [hr.out]; rfl)
  go_enter Try.func13, Try.ntmps13
  go_wp2_with fail
  refine (mcheck_any N len cap ao f _ hlen HC.out).mono ?_
  rintro e w1 ⟨rfl, hb⟩
  rw [hr.out]
  go_wp2_with fail
  go_returns
  exact ⟨by rw [HE.out]; rfl, hb⟩
end Go.Proofs.Ytjodjfllgofkaaa
