import Derived.Test.YtjodjfllgofkaaaWi
namespace Amp
/-- Is an item valid on n guides, with no cells? -/
def itF (n : Nat) (x : It) : Bool := itB x && (decide (1 ≤ x.at') && decide (x.at' ≤ (n : Int) - itW x + 1))
def fitTo (n : Nat) (f : Nat → It) : Nat → Bool
  | 0 => true
  | k + 1 => fitTo n f k && itF n (f k)
theorem fitTo_stop {n : Nat} {f : Nat → It} {k : Nat} (h : itF n (f k) = false) : ∀ m, k < m → fitTo n f m = false := by
  intro m
  induction m with
  | zero => intro h; omega
  | succ m ih =>
    intro hk
    simp only [fitTo]
    by_cases e : k = m
    · subst e; rw [h]; simp
    · rw [ih (by omega)]; rfl
theorem itW_bd (x : It) : 0 ≤ itW x ∧ itW x ≤ 2 := by unfold itW; split <;> (try split) <;> omega
def vgB (N : Int) : Bool := decide (1 ≤ N ∧ N ≤ 6)
/-- The error of flat items. -/
def askS (N : Int) (len : Nat) (f : Nat → It) : Int := if 1 ≤ N ∧ N ≤ 6 then (if len ≤ 5000 ∧ fitTo N.toNat f len = true then 0 else 31) else 2
end Amp
namespace Go.Proofs.Ytjodjfllgofkaaa
open Go.RowKit Amp
attribute [local go_sem] ix0 ix1 ix2 ix3 jx0 jx1 jx2 jx3
attribute [local go_sem high] run_eqNum run_neNum
/-- An item lies at b, o. -/
def ItAt (w : World) (b o : Nat) (x : It) : Prop :=
  w.cell? ⟨b, o, none⟩ = some (.int .i64 x.kind) ∧ w.cell? ⟨b, o + 1, none⟩ = some (.int .i64 x.at') ∧ w.cell? ⟨b, o + 2, none⟩ = some (.int .i64 x.n) ∧ w.cell? ⟨b, o + 3, none⟩ = some (.string x.name) ∧ x.name.size ≤ maxLen
/-- A slice of items, nil and empty ones let in. -/
def Its (w : World) (ao : Option Addr) (n : Nat) (f : Nat → It) : Prop := 0 < n → ∃ b o, ao = some ⟨b, o, none⟩ ∧ ∀ i, i < n → ItAt w b (o + i * 4) (f i)
theorem ItAt.keep {w w1 : World} {b o : Nat} {x : It} (h : ItAt w b o x) (hb : Below w.heap.size w w1) : ItAt w1 b o x := by
  have hB : b < w.heap.size := World.block_lt_of_cell? w _ h.1
  obtain ⟨k1, _⟩ := bcell hb
  unfold ItAt at *
  simpa only [k1 _ _ hB] using h
theorem Its.keep {w w1 : World} {ao : Option Addr} {n : Nat} {f : Nat → It} (h : Its w ao n f) (hb : Below w.heap.size w w1) : Its w1 ao n f := by
  intro hn
  obtain ⟨b, o, e, hc⟩ := h hn
  exact ⟨b, o, e, fun i hi => (hc i hi).keep hb⟩
theorem width_any (k at' m : Int) (nm : ByteArray) (w : World) (hnm : nm.size ≤ maxLen) :
    Calls Try.prog 97 #[.agg #[.int .i64 k, .int .i64 at', .int .i64 m, .string nm], .map none] w fun e w' => e = .returned (.tuple #[.int .i64 (itW ⟨k, at', m, nm⟩), .bool (itB ⟨k, at', m, nm⟩)]) ∧ Below w.heap.size w w' := by
  by_cases h1 : k = 1
  · subst h1; exact width_1 at' m nm w
  · by_cases h2 : k = 2
    · subst h2; exact width_2 at' m nm w
    · by_cases h3 : k = 3
      · subst h3; exact width_3 at' m nm w
      · have e1 : itW ⟨k, at', m, nm⟩ = 0 := by unfold itW; rw [if_neg h1, if_neg (by simp only; omega)]
        have e2 : itB ⟨k, at', m, nm⟩ = false := by unfold itB; rw [if_neg h1, if_neg (by simp only; omega)]
        rw [e1, e2]
        by_cases h4 : k = 4
        · subst h4; exact width_4 at' m nm w hnm
        · exact width_0 k at' m nm w (by omega)

set_option maxHeartbeats 2000000 in
theorem fit_any (n len cap : Nat) (ao : Option Addr) (f : Nat → It) (w : World) (h1 : 0 < n) (hn : n ≤ 6) (hlen : len ≤ 5000) (hc : Its w ao len f) :
    Calls Try.prog 85 #[.slice ao len cap, .int .i64 n, .map none] w fun e w' => e = .returned (.bool (fitTo n f len)) ∧ Below w.heap.size w w' := by
  have HC := Lib.hid hc
  have hn6 : (n : Int) ≤ 6 := by omega
  have hn1 : 0 < (n : Int) := by omega
  clear hc
  go_enter Try.func85, Try.ntmps85
  go_wp2_with fail
  go_loopw [8, 9, 10, 13] (fun _ _ _ i wr => ∃ k : Nat, i = .int .i64 k ∧ k ≤ len ∧ Hid (fitTo n f k = true) ∧ Below w.heap.size w wr) (fun _ _ _ i _ => len - (intOf i).toNat)
  case atStart => exact ⟨0, rfl, Nat.zero_le _, Lib.hid rfl, Below.refl _ _⟩
  case round =>
    obtain ⟨k, rfl, hk, HK, hbel⟩ := hrel
    have hsz := hbel.size
    by_cases hlt : k < len
    · obtain ⟨b, o, rfl, hcell⟩ := (Its.keep HC.out hbel) (by omega)
      have hlt' : (k : Int) < (len : Int) := by omega
      obtain ⟨⟨kd, at', m, nm⟩, hx⟩ : ∃ x : It, f k = x := ⟨_, rfl⟩
      have hz := hcell k hlt
      rw [hx] at hz
      obtain ⟨c0, c1, c2, c3, c4⟩ := hz
      simp only at c0 c1 c2 c3 c4
      have HNM := Lib.hid c4
      have HX := Lib.hid hx
      have lb : b < wr.heap.size := World.block_lt_of_cell? wr _ c0
      have hne : ¬ wr.heap.size = b := by omega
      obtain ⟨W, hW⟩ : ∃ W, Hid (itW ⟨kd, at', m, nm⟩ = W) := ⟨_, rfl⟩
      obtain ⟨B, hB⟩ : ∃ B, Hid (itB ⟨kd, at', m, nm⟩ = B) := ⟨_, rfl⟩
      have hW2 : 0 ≤ W ∧ W ≤ 2 := by rw [← hW.out]; exact itW_bd _
      obtain ⟨hW0, hW2⟩ := hW2
      clear hcell hx c4
      go_wp2_with fail
      refine (width_any kd at' m nm _ HNM.out).mono ?_
      rintro e w1 ⟨rfl, hb1⟩
      rw [hW.out, hB.out]
      have g0 : w1.cell? ⟨wr.heap.size, 1, none⟩ = some (.int .i64 at') := (hb1.cell (p := ⟨wr.heap.size, 1, none⟩) (by simp)).trans (by go_cell)
      have hbel1 : Below w.heap.size w w1 := Below.trans (by go_grown) (hb1.mono (by first | omega | (simp; done) | (simp; omega)))
      clear hb1 hbel c0 c1 c2 c3
      by_cases hF : B = true ∧ 1 ≤ at' ∧ at' ≤ (n : Int) - W + 1
      · obtain ⟨rfl, ha1, ha2⟩ := hF
        have HF : Hid (itF n (f k) = true) := Lib.hid (by rw [HX.out]; unfold itF; rw [hB.out, hW.out, decide_eq_true ha1, decide_eq_true ha2]; rfl)
        go_wp2_with fail
        go_roundw
        case rel => exact ⟨k + 1, by go_num, by omega, Lib.hid (by simp only [fitTo]; rw [HK.out, HF.out]; rfl), hbel1⟩
        case measure => simp [intOf]; omega
      · have HF : Hid (fitTo n f len = false) := Lib.hid (fitTo_stop (k := k) (by
          rw [HX.out]; unfold itF; rw [hB.out, hW.out]
          cases B
          · rfl
          · by_cases ha1 : 1 ≤ at'
            · by_cases ha2 : at' ≤ (n : Int) - W + 1
              · exact absurd ⟨rfl, ha1, ha2⟩ hF
              · rw [show decide (({ kind := kd, at' := at', n := m, name := nm } : It).at' ≤ (n : Int) - W + 1) = false from decide_eq_false ha2]; simp
            · rw [show decide (1 ≤ ({ kind := kd, at' := at', n := m, name := nm } : It).at') = false from decide_eq_false ha1]; simp) len hlt)
        cases B
        · clear hF
          go_wp2_with fail
          go_returns
          exact ⟨by rw [HF.out]; rfl, hbel1⟩
        · by_cases ha1 : at' < 1
          · clear hF
            go_wp2_with fail
            go_returns
            exact ⟨by rw [HF.out]; rfl, hbel1⟩
          · have ha2 : (n : Int) - W + 1 < at' := by
              have : ¬ at' ≤ (n : Int) - W + 1 := fun h => hF ⟨rfl, by omega, h⟩
              omega
            have ha1' : 1 ≤ at' := by omega
            clear hF ha1
            go_wp2_with fail
            go_returns
            exact ⟨by rw [HF.out]; rfl, hbel1⟩
    · obtain rfl : k = len := by omega
      go_wp2_with fail
      go_returns
      exact ⟨by rw [HK.out]; rfl, hbel⟩

theorem validGuides_any (N : Int) (w : World) :
    Calls Try.prog 84 #[.int .i64 N] w fun e w' => e = .returned (.bool (vgB N)) ∧ w = w' := by
  by_cases h1 : 0 < N
  · by_cases h2 : N ≤ 6
    · have HE : Hid (vgB N = true) := Lib.hid (decide_eq_true (p := 1 ≤ N ∧ N ≤ 6) ⟨by omega, h2⟩)
      go_enter Try.func84, Try.ntmps84
      go_wp2_with fail
      go_returns
      exact ⟨by rw [HE.out]; rfl, rfl⟩
    · have HE : Hid (vgB N = false) := Lib.hid (decide_eq_false (p := 1 ≤ N ∧ N ≤ 6) (by omega))
      go_enter Try.func84, Try.ntmps84
      go_wp2_with fail
      go_returns
      exact ⟨by rw [HE.out]; rfl, rfl⟩
  · have HE : Hid (vgB N = false) := Lib.hid (decide_eq_false (p := 1 ≤ N ∧ N ≤ 6) (by omega))
    go_enter Try.func84, Try.ntmps84
    go_wp2_with fail
    go_returns
    exact ⟨by rw [HE.out]; rfl, rfl⟩

set_option maxHeartbeats 2000000 in
theorem mcheck_any (N : Int) (len cap : Nat) (ao : Option Addr) (f : Nat → It) (w : World) (hlen : len ≤ 9223372036854775807) (hc : Its w ao len f) :
    Calls Try.prog 47 #[.int .i64 N, .slice ao len cap] w fun e w' => e = .returned (.int .i64 (askS N len f)) ∧ Below w.heap.size w w' := by
  have HC := Lib.hid hc
  clear hc
  by_cases h6 : 1 ≤ N ∧ N ≤ 6
  · have HV : Hid (vgB N = true) := Lib.hid (decide_eq_true (p := 1 ≤ N ∧ N ≤ 6) h6)
    obtain ⟨n, rfl⟩ : ∃ n : Nat, N = n := ⟨N.toNat, by omega⟩
    by_cases hl : len ≤ 5000
    · obtain ⟨B, hB⟩ : ∃ B, Hid (fitTo n f len = B) := ⟨_, rfl⟩
      have hl' : (len : Int) ≤ 5000 := by omega
      have hl'' : ¬ (5000 : Int) < (len : Int) := by omega
      have HN : Hid (0 < n ∧ n ≤ 6) := Lib.hid (by omega)
      have HE : Hid (askS n len f = if B = true then 0 else 31) := Lib.hid (by unfold askS; rw [if_pos h6, Int.toNat_natCast, hB.out]; cases B <;> simp [hl])
      have HL := Lib.hid hl
      clear h6 hl
      go_enter Try.func47, Try.ntmps47
      go_wp2_with fail
      refine (validGuides_any _ _).mono ?_
      rintro e w' ⟨rfl, rfl⟩
      rw [HV.out]
      go_wp2_with fail
      refine (fit_any n len cap ao f _ HN.out.1 HN.out.2 HL.out (HC.out.keep (Below.refl _ _))).mono ?_
      rintro e w1 ⟨rfl, hb⟩
      rw [hB.out]
      cases B
      · go_wp2_with fail
        go_returns
        exact ⟨by rw [HE.out]; rfl, hb⟩
      · go_wp2_with fail
        go_returns
        exact ⟨by rw [HE.out]; rfl, hb⟩
    · have hl' : (5000 : Int) < (len : Int) := by omega
      have HE : Hid (askS n len f = 31) := Lib.hid (by unfold askS; rw [if_pos h6, if_neg (fun h => hl h.1)])
      clear h6 hl
      go_enter Try.func47, Try.ntmps47
      go_wp2_with fail
      refine (validGuides_any _ _).mono ?_
      rintro e w' ⟨rfl, rfl⟩
      rw [HV.out]
      go_wp2_with fail
      go_returns
      exact ⟨by rw [HE.out]; rfl, Below.refl _ _⟩
  · have HV : Hid (vgB N = false) := Lib.hid (decide_eq_false (p := 1 ≤ N ∧ N ≤ 6) h6)
    have HE : Hid (askS N len f = 2) := Lib.hid (by unfold askS; rw [if_neg h6])
    clear h6
    go_enter Try.func47, Try.ntmps47
    go_wp2_with fail
    refine (validGuides_any _ _).mono ?_
    rintro e w' ⟨rfl, rfl⟩
    rw [HV.out]
    go_wp2_with fail
    go_returns
    exact ⟨by rw [HE.out]; rfl, Below.refl _ _⟩
end Go.Proofs.Ytjodjfllgofkaaa
