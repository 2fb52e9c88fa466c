import Derived.Test.YthbbknpkoaobmaaSpr
import Derived.Deep.QuietTactic
import Derived.BigQuiet
import Derived.WalkSpells
import Derived.Maps.OwnSet
import Derived.WalkLawsBesides
namespace Amp
def itW (x : It) : Int := if x.kind = 1 then 1 else if x.kind = 2 ∨ x.kind = 3 then 2 else 0
def itB (x : It) : Bool := if x.kind = 1 then (decide (0 < x.n) && (decide (x.n < 8) && x.name.toList.isEmpty)) else if x.kind = 2 ∨ x.kind = 3 then (decide (x.n = 0) && x.name.toList.isEmpty) else false
end Amp
namespace Go.Proofs.Ythbbknpkoaobmaa
open Go.RowKit Amp
attribute [local go_sem] ix0 ix1 ix2 ix3 jx0 jx1 jx2 jx3
attribute [local go_sem high] run_eqNum run_neNum
theorem first_drewN {B : Nat} {a w : World} (h : Below B a w) {n : Nat} : Below B a (w.drewN n) := ⟨h.os, h.tape, h.output, h.size, h.block⟩
def WidIs (w : World) (e : Ending) (a : Int) (b : Bool) (w' : World) : Prop := e = .returned (.tuple #[.int .i64 a, .bool b]) ∧ Below w.heap.size w w'
theorem width_1 (at' m : Int) (nm : ByteArray) (w : World) :
    Calls Try.prog 78 #[.agg #[.int .i64 1, .int .i64 at', .int .i64 m, .string nm], .map none] w fun e w' => WidIs w e 1 (decide (0 < m) && (decide (m < 8) && nm.toList.isEmpty)) w' := by
  by_cases h1 : 0 < m
  · by_cases h2 : m < 8
    · have HE : Hid ((decide (0 < m) && (decide (m < 8) && nm.toList.isEmpty)) = nm.toList.isEmpty) := Lib.hid (by rw [decide_eq_true h1, decide_eq_true h2]; rfl)
      rw [HE.out]
      go_enter Try.func78, Try.ntmps78
      go_wp2_with fail
      go_quiet (fail)
      go_wp2_with fail
      go_ret2
      exact ⟨rfl, first_drewN (by go_grown)⟩
    · have HE : Hid ((decide (0 < m) && (decide (m < 8) && nm.toList.isEmpty)) = false) := Lib.hid (by rw [decide_eq_true h1, decide_eq_false h2]; rfl)
      have hd : decide (m < 8) = false := decide_eq_false h2
      rw [HE.out]
      go_enter Try.func78, Try.ntmps78
      go_wp2_with fail
      go_quiet (fail)
      go_wp2_with fail
      go_ret2
      exact ⟨rfl, first_drewN (by go_grown)⟩
  · have HE : Hid ((decide (0 < m) && (decide (m < 8) && nm.toList.isEmpty)) = false) := Lib.hid (by rw [decide_eq_false h1]; rfl)
    have hd : decide (0 < m) = false := decide_eq_false h1
    rw [HE.out]
    go_enter Try.func78, Try.ntmps78
    go_wp2_with fail
    go_quiet (fail)
    go_wp2_with fail
    go_ret2
    exact ⟨rfl, first_drewN (by go_grown)⟩
theorem width_2 (at' m : Int) (nm : ByteArray) (w : World) :
    Calls Try.prog 78 #[.agg #[.int .i64 2, .int .i64 at', .int .i64 m, .string nm], .map none] w fun e w' => WidIs w e 2 (decide (m = 0) && nm.toList.isEmpty) w' := by
  by_cases h1 : m = 0
  · have HE : Hid ((decide (m = 0) && nm.toList.isEmpty) = nm.toList.isEmpty) := Lib.hid (by rw [decide_eq_true h1]; rfl)
    have hb : (m == 0) = true := beq_iff_eq.2 h1
    clear h1
    rw [HE.out]
    go_enter Try.func78, Try.ntmps78
    go_wp2_with fail
    go_quiet (fail)
    go_wp2_with fail
    go_ret2
    exact ⟨rfl, first_drewN (by go_grown)⟩
  · have HE : Hid ((decide (m = 0) && nm.toList.isEmpty) = false) := Lib.hid (by rw [decide_eq_false h1]; rfl)
    have hb : (m == 0) = false := beq_eq_false_iff_ne.2 h1
    clear h1
    rw [HE.out]
    go_enter Try.func78, Try.ntmps78
    go_wp2_with fail
    go_quiet (fail)
    go_wp2_with fail
    go_ret2
    exact ⟨rfl, first_drewN (by go_grown)⟩
theorem width_3 (at' m : Int) (nm : ByteArray) (w : World) :
    Calls Try.prog 78 #[.agg #[.int .i64 3, .int .i64 at', .int .i64 m, .string nm], .map none] w fun e w' => WidIs w e 2 (decide (m = 0) && nm.toList.isEmpty) w' := by
  by_cases h1 : m = 0
  · have HE : Hid ((decide (m = 0) && nm.toList.isEmpty) = nm.toList.isEmpty) := Lib.hid (by rw [decide_eq_true h1]; rfl)
    have hb : (m == 0) = true := beq_iff_eq.2 h1
    clear h1
    rw [HE.out]
    go_enter Try.func78, Try.ntmps78
    go_wp2_with fail
    go_quiet (fail)
    go_wp2_with fail
    go_ret2
    exact ⟨rfl, first_drewN (by go_grown)⟩
  · have HE : Hid ((decide (m = 0) && nm.toList.isEmpty) = false) := Lib.hid (by rw [decide_eq_false h1]; rfl)
    have hb : (m == 0) = false := beq_eq_false_iff_ne.2 h1
    clear h1
    rw [HE.out]
    go_enter Try.func78, Try.ntmps78
    go_wp2_with fail
    go_quiet (fail)
    go_wp2_with fail
    go_ret2
    exact ⟨rfl, first_drewN (by go_grown)⟩
set_option maxRecDepth 100000 in
set_option maxHeartbeats 1000000 in
theorem width_4 (at' m : Int) (nm : ByteArray) (w : World) (hnm : nm.size ≤ maxLen) :
    Calls Try.prog 78 #[.agg #[.int .i64 4, .int .i64 at', .int .i64 m, .string nm], .map none] w fun e w' => WidIs w e 0 false w' := by
  have hlook := fun (w : World) => Maps.look_nil (P := Try.prog) (w := w) true (Maps.string_keyed Try.underlying9) Try.underlying117 (z := .agg #[.string ⟨#[]⟩, .int .i64 0, .slice none 0 0]) (by kernel_rfl) (key := .string nm) (WideMaps.keyOf_string_mk Try.underlying9 hnm)
  simp only [if_true] at hlook
  go_enter Try.func78, Try.ntmps78
  go_wp2_with fail
  go_quiet (fail)
  go_wp2_with fail
  go_ret2
  exact ⟨rfl, first_drewN (by go_grown)⟩
theorem width_0 (k at' m : Int) (nm : ByteArray) (w : World) (h : ¬ (k = 1 ∨ k = 2 ∨ k = 3 ∨ k = 4)) :
    Calls Try.prog 78 #[.agg #[.int .i64 k, .int .i64 at', .int .i64 m, .string nm], .map none] w fun e w' => WidIs w e 0 false w' := by
  have h1 : (k == 1) = false := beq_eq_false_iff_ne.2 (by omega)
  have h2 : (k == 2) = false := beq_eq_false_iff_ne.2 (by omega)
  have h3 : (k == 3) = false := beq_eq_false_iff_ne.2 (by omega)
  have h4 : (k == 4) = false := beq_eq_false_iff_ne.2 (by omega)
  clear h
  go_enter Try.func78, Try.ntmps78
  go_wp2_with fail
  go_ret2
  exact ⟨rfl, by go_grown⟩
end Go.Proofs.Ythbbknpkoaobmaa

namespace Amp
/-- Is an item valid on n guides, with no cells? -/
def itF (n : Nat) (x : It) : Bool := itB x && (decide (1 ≤ x.at') && decide (x.at' ≤ (n : Int) - itW x + 1))
def fitTo (n : Nat) (f : Nat → It) : Nat → Bool
  | 0 => true
  | k + 1 => fitTo n f k && itF n (f k)
theorem fitTo_stop {n : Nat} {f : Nat → It} {k : Nat} (h : itF n (f k) = false) : ∀ m, k < m → fitTo n f m = false := by
  intro m
  induction m with
  | zero => intro h; omega
  | succ m ih =>
    intro hk
    simp only [fitTo]
    by_cases e : k = m
    · subst e; rw [h]; simp
    · rw [ih (by omega)]; rfl
theorem itW_bd (x : It) : 0 ≤ itW x ∧ itW x ≤ 2 := by unfold itW; split <;> (try split) <;> omega
def vgB (N : Int) : Bool := decide (1 ≤ N ∧ N ≤ 6)
/-- The error of flat items. -/
def askS (N : Int) (len : Nat) (f : Nat → It) : Int := if 1 ≤ N ∧ N ≤ 6 then (if len ≤ 5000 ∧ fitTo N.toNat f len = true then 0 else 31) else 2
end Amp
namespace Go.Proofs.Ythbbknpkoaobmaa
open Go.RowKit Amp
attribute [local go_sem] ix0 ix1 ix2 ix3 jx0 jx1 jx2 jx3
attribute [local go_sem high] run_eqNum run_neNum
/-- An item lies at b, o. -/
def ItAt (w : World) (b o : Nat) (x : It) : Prop :=
  w.cell? ⟨b, o, none⟩ = some (.int .i64 x.kind) ∧ w.cell? ⟨b, o + 1, none⟩ = some (.int .i64 x.at') ∧ w.cell? ⟨b, o + 2, none⟩ = some (.int .i64 x.n) ∧ w.cell? ⟨b, o + 3, none⟩ = some (.string x.name) ∧ x.name.size ≤ maxLen
/-- A slice of items, nil and empty ones let in. -/
def Its (w : World) (ao : Option Addr) (n : Nat) (f : Nat → It) : Prop := 0 < n → ∃ b o, ao = some ⟨b, o, none⟩ ∧ ∀ i, i < n → ItAt w b (o + i * 4) (f i)
theorem ItAt.keep {w w1 : World} {b o : Nat} {x : It} (h : ItAt w b o x) (hb : Below w.heap.size w w1) : ItAt w1 b o x := by
  have hB : b < w.heap.size := World.block_lt_of_cell? w _ h.1
  obtain ⟨k1, _⟩ := bcell hb
  unfold ItAt at *
  simpa only [k1 _ _ hB] using h
theorem Its.keep {w w1 : World} {ao : Option Addr} {n : Nat} {f : Nat → It} (h : Its w ao n f) (hb : Below w.heap.size w w1) : Its w1 ao n f := by
  intro hn
  obtain ⟨b, o, e, hc⟩ := h hn
  exact ⟨b, o, e, fun i hi => (hc i hi).keep hb⟩
theorem width_any (k at' m : Int) (nm : ByteArray) (w : World) (hnm : nm.size ≤ maxLen) :
    Calls Try.prog 78 #[.agg #[.int .i64 k, .int .i64 at', .int .i64 m, .string nm], .map none] w fun e w' => e = .returned (.tuple #[.int .i64 (itW ⟨k, at', m, nm⟩), .bool (itB ⟨k, at', m, nm⟩)]) ∧ Below w.heap.size w w' := by
  by_cases h1 : k = 1
  · subst h1; exact width_1 at' m nm w
  · by_cases h2 : k = 2
    · subst h2; exact width_2 at' m nm w
    · by_cases h3 : k = 3
      · subst h3; exact width_3 at' m nm w
      · have e1 : itW ⟨k, at', m, nm⟩ = 0 := by unfold itW; rw [if_neg h1, if_neg (by simp only; omega)]
        have e2 : itB ⟨k, at', m, nm⟩ = false := by unfold itB; rw [if_neg h1, if_neg (by simp only; omega)]
        rw [e1, e2]
        by_cases h4 : k = 4
        · subst h4; exact width_4 at' m nm w hnm
        · exact width_0 k at' m nm w (by omega)

set_option maxHeartbeats 2000000 in
theorem fit_any (n len cap : Nat) (ao : Option Addr) (f : Nat → It) (w : World) (h1 : 0 < n) (hn : n ≤ 6) (hlen : len ≤ 5000) (hc : Its w ao len f) :
    Calls Try.prog 67 #[.slice ao len cap, .int .i64 n, .map none] w fun e w' => e = .returned (.bool (fitTo n f len)) ∧ Below w.heap.size w w' := by
  have HC := Lib.hid hc
  have hn6 : (n : Int) ≤ 6 := by omega
  have hn1 : 0 < (n : Int) := by omega
  clear hc
  go_enter Try.func67, Try.ntmps67
  go_wp2_with fail
  go_loopw [8, 9, 10, 13] (fun _ _ _ i wr => ∃ k : Nat, i = .int .i64 k ∧ k ≤ len ∧ Hid (fitTo n f k = true) ∧ Below w.heap.size w wr) (fun _ _ _ i _ => len - (intOf i).toNat)
  case atStart => exact ⟨0, rfl, Nat.zero_le _, Lib.hid rfl, Below.refl _ _⟩
  case round =>
    obtain ⟨k, rfl, hk, HK, hbel⟩ := hrel
    have hsz := hbel.size
    by_cases hlt : k < len
    · obtain ⟨b, o, rfl, hcell⟩ := (Its.keep HC.out hbel) (by omega)
      have hlt' : (k : Int) < (len : Int) := by omega
      obtain ⟨⟨kd, at', m, nm⟩, hx⟩ : ∃ x : It, f k = x := ⟨_, rfl⟩
      have hz := hcell k hlt
      rw [hx] at hz
      obtain ⟨c0, c1, c2, c3, c4⟩ := hz
      simp only at c0 c1 c2 c3 c4
      have HNM := Lib.hid c4
      have HX := Lib.hid hx
      have lb : b < wr.heap.size := World.block_lt_of_cell? wr _ c0
      have hne : ¬ wr.heap.size = b := by omega
      obtain ⟨W, hW⟩ : ∃ W, Hid (itW ⟨kd, at', m, nm⟩ = W) := ⟨_, rfl⟩
      obtain ⟨B, hB⟩ : ∃ B, Hid (itB ⟨kd, at', m, nm⟩ = B) := ⟨_, rfl⟩
      have hW2 : 0 ≤ W ∧ W ≤ 2 := by rw [← hW.out]; exact itW_bd _
      obtain ⟨hW0, hW2⟩ := hW2
      clear hcell hx c4
      go_wp2_with fail
      refine (width_any kd at' m nm _ HNM.out).mono ?_
      rintro e w1 ⟨rfl, hb1⟩
      rw [hW.out, hB.out]
      have g0 : w1.cell? ⟨wr.heap.size, 1, none⟩ = some (.int .i64 at') := (hb1.cell (p := ⟨wr.heap.size, 1, none⟩) (by simp)).trans (by go_cell)
      have hbel1 : Below w.heap.size w w1 := Below.trans (by go_grown) (hb1.mono (by first | omega | (simp; done) | (simp; omega)))
      clear hb1 hbel c0 c1 c2 c3
      by_cases hF : B = true ∧ 1 ≤ at' ∧ at' ≤ (n : Int) - W + 1
      · obtain ⟨rfl, ha1, ha2⟩ := hF
        have HF : Hid (itF n (f k) = true) := Lib.hid (by rw [HX.out]; unfold itF; rw [hB.out, hW.out, decide_eq_true ha1, decide_eq_true ha2]; rfl)
        go_wp2_with fail
        go_roundw
        case rel => exact ⟨k + 1, by go_num, by omega, Lib.hid (by simp only [fitTo]; rw [HK.out, HF.out]; rfl), hbel1⟩
        case measure => simp [intOf]; omega
      · have HF : Hid (fitTo n f len = false) := Lib.hid (fitTo_stop (k := k) (by
          rw [HX.out]; unfold itF; rw [hB.out, hW.out]
          cases B
          · rfl
          · by_cases ha1 : 1 ≤ at'
            · by_cases ha2 : at' ≤ (n : Int) - W + 1
              · exact absurd ⟨rfl, ha1, ha2⟩ hF
              · rw [show decide (({ kind := kd, at' := at', n := m, name := nm } : It).at' ≤ (n : Int) - W + 1) = false from decide_eq_false ha2]; simp
            · rw [show decide (1 ≤ ({ kind := kd, at' := at', n := m, name := nm } : It).at') = false from decide_eq_false ha1]; simp) len hlt)
        cases B
        · clear hF
          go_wp2_with fail
          go_returns
          exact ⟨by rw [HF.out]; rfl, hbel1⟩
        · by_cases ha1 : at' < 1
          · clear hF
            go_wp2_with fail
            go_returns
            exact ⟨by rw [HF.out]; rfl, hbel1⟩
          · have ha2 : (n : Int) - W + 1 < at' := by
              have : ¬ at' ≤ (n : Int) - W + 1 := fun h => hF ⟨rfl, by omega, h⟩
              omega
            have ha1' : 1 ≤ at' := by omega
            clear hF ha1
            go_wp2_with fail
            go_returns
            exact ⟨by rw [HF.out]; rfl, hbel1⟩
    · obtain rfl : k = len := by omega
      go_wp2_with fail
      go_returns
      exact ⟨by rw [HK.out]; rfl, hbel⟩

theorem validGuides_any (N : Int) (w : World) :
    Calls Try.prog 66 #[.int .i64 N] w fun e w' => e = .returned (.bool (vgB N)) ∧ w = w' := by
  by_cases h1 : 0 < N
  · by_cases h2 : N ≤ 6
    · have HE : Hid (vgB N = true) := Lib.hid (decide_eq_true (p := 1 ≤ N ∧ N ≤ 6) ⟨by omega, h2⟩)
      go_enter Try.func66, Try.ntmps66
      go_wp2_with fail
      go_returns
      exact ⟨by rw [HE.out]; rfl, rfl⟩
    · have HE : Hid (vgB N = false) := Lib.hid (decide_eq_false (p := 1 ≤ N ∧ N ≤ 6) (by omega))
      go_enter Try.func66, Try.ntmps66
      go_wp2_with fail
      go_returns
      exact ⟨by rw [HE.out]; rfl, rfl⟩
  · have HE : Hid (vgB N = false) := Lib.hid (decide_eq_false (p := 1 ≤ N ∧ N ≤ 6) (by omega))
    go_enter Try.func66, Try.ntmps66
    go_wp2_with fail
    go_returns
    exact ⟨by rw [HE.out]; rfl, rfl⟩

set_option maxHeartbeats 2000000 in
theorem mcheck_any (N : Int) (len cap : Nat) (ao : Option Addr) (f : Nat → It) (w : World) (hlen : len ≤ 9223372036854775807) (hc : Its w ao len f) :
    Calls Try.prog 39 #[.int .i64 N, .slice ao len cap] w fun e w' => e = .returned (.int .i64 (askS N len f)) ∧ Below w.heap.size w w' := by
  have HC := Lib.hid hc
  clear hc
  by_cases h6 : 1 ≤ N ∧ N ≤ 6
  · have HV : Hid (vgB N = true) := Lib.hid (decide_eq_true (p := 1 ≤ N ∧ N ≤ 6) h6)
    obtain ⟨n, rfl⟩ : ∃ n : Nat, N = n := ⟨N.toNat, by omega⟩
    by_cases hl : len ≤ 5000
    · obtain ⟨B, hB⟩ : ∃ B, Hid (fitTo n f len = B) := ⟨_, rfl⟩
      have hl' : (len : Int) ≤ 5000 := by omega
      have hl'' : ¬ (5000 : Int) < (len : Int) := by omega
      have HN : Hid (0 < n ∧ n ≤ 6) := Lib.hid (by omega)
      have HE : Hid (askS n len f = if B = true then 0 else 31) := Lib.hid (by unfold askS; rw [if_pos h6, Int.toNat_natCast, hB.out]; cases B <;> simp [hl])
      have HL := Lib.hid hl
      clear h6 hl
      go_enter Try.func39, Try.ntmps39
      go_wp2_with fail
      refine (validGuides_any _ _).mono ?_
      rintro e w' ⟨rfl, rfl⟩
      rw [HV.out]
      go_wp2_with fail
      refine (fit_any n len cap ao f _ HN.out.1 HN.out.2 HL.out (HC.out.keep (Below.refl _ _))).mono ?_
      rintro e w1 ⟨rfl, hb⟩
      rw [hB.out]
      cases B
      · go_wp2_with fail
        go_returns
        exact ⟨by rw [HE.out]; rfl, hb⟩
      · go_wp2_with fail
        go_returns
        exact ⟨by rw [HE.out]; rfl, hb⟩
    · have hl' : (5000 : Int) < (len : Int) := by omega
      have HE : Hid (askS n len f = 31) := Lib.hid (by unfold askS; rw [if_pos h6, if_neg (fun h => hl h.1)])
      clear h6 hl
      go_enter Try.func39, Try.ntmps39
      go_wp2_with fail
      refine (validGuides_any _ _).mono ?_
      rintro e w' ⟨rfl, rfl⟩
      rw [HV.out]
      go_wp2_with fail
      go_returns
      exact ⟨by rw [HE.out]; rfl, Below.refl _ _⟩
  · have HV : Hid (vgB N = false) := Lib.hid (decide_eq_false (p := 1 ≤ N ∧ N ≤ 6) h6)
    have HE : Hid (askS N len f = 2) := Lib.hid (by unfold askS; rw [if_neg h6])
    clear h6
    go_enter Try.func39, Try.ntmps39
    go_wp2_with fail
    refine (validGuides_any _ _).mono ?_
    rintro e w' ⟨rfl, rfl⟩
    rw [HV.out]
    go_wp2_with fail
    go_returns
    exact ⟨by rw [HE.out]; rfl, Below.refl _ _⟩
end Go.Proofs.Ythbbknpkoaobmaa

namespace Amp
theorem fstE_all {g : Nat → Int} {n : Nat} (h : fstE g n = 0) : ∀ k, k < n → g k = 0 := by
  induction n with
  | zero => intro k hk; omega
  | succ n ih =>
    intro k hk
    unfold fstE at h
    by_cases e : fstE g n = 0
    · rw [if_pos e] at h
      by_cases e2 : k = n
      · rw [e2]; exact h
      · exact ih e k (by omega)
    · rw [if_neg e] at h; exact absurd h e
theorem vld_N0 : vld N0 = true := by decide
theorem made_vld (x : C4) (k : Nat) : vld (made x k).1 = true := by
  unfold made
  split
  · next h => exact h
  · exact vld_N0
theorem mulS_vld (x y : Nm) : vld (mulS x y).1 = true := by
  unfold mulS; split
  · exact made_vld _ _
  · exact vld_N0
theorem addS_vld (x y : Nm) : vld (addS x y).1 = true := by
  unfold addS; split
  · exact made_vld _ _
  · exact vld_N0
theorem chgS_vld (z : Nm) (g : C4 → C4) : vld (chgS z g).1 = true := by
  unfold chgS; split
  · exact made_vld _ _
  · exact vld_N0
theorem tot_vld (f : Nat → Nm) (n : Nat) : vld (tot f n).1 = true := by
  induction n with
  | zero => exact vld_N0
  | succ n ih =>
    simp only [tot, stepS]
    split
    · split
      · exact addS_vld _ _
      · exact vld_N0
    · exact ih
theorem sumS_vld (f : Nat → Nm) (n : Nat) : vld (sumS f n).1 = true := by
  unfold sumS; split
  · exact vld_N0
  · split
    · exact tot_vld _ _
    · exact vld_N0
theorem dotS_vld (x y : Nat → Nm) (n : Nat) : vld (dotS x y n).1 = true := by
  unfold dotS; split
  · exact sumS_vld _ _
  · exact vld_N0
theorem okTo_all {f : Nat → Nm} {n : Nat} (h : ∀ k, k < n → vld (f k) = true) : okTo f n = true := by
  induction n with
  | zero => rfl
  | succ n ih => simp only [okTo]; rw [ih (fun k hk => h k (by omega)), h n (by omega)]; rfl
theorem mvS_all {n : Nat} {f : Nat → Nm} (h1 : 0 < n) (h6 : n ≤ 6) (h : ∀ k, vld (f k) = true) : mvS n (n * n) f = true := by
  rw [mvS_go ⟨by omega, by omega⟩ (by rw [Int.natCast_mul])]
  exact okTo_all (fun k _ => h k)
theorem idF_vld (n k : Nat) : vld (idF n k) = true := by
  unfold idF; split
  · decide
  · decide
theorem ownF_vld (x : It) (k : Nat) : vld (ownF x k) = true := by
  unfold ownF; split
  · exact chgS_vld _ _
  · split
    · split <;> decide
    · split <;> decide
theorem sprG_vld {n a s : Nat} {sm : Nat → Nm} (h : ∀ k, vld (sm k) = true) (lim k : Nat) : vld (sprG n a s sm lim k) = true := by
  unfold sprG; split
  · exact h _
  · exact idF_vld _ _
/-- The matrix of an item on n guides. -/
def sprI (n : Nat) (x : It) : Nat → Nm := sprG n (x.at' - 1).toNat (ownS x) (ownF x) (ownS x * ownS x)
theorem sprI_vld (n : Nat) (x : It) (k : Nat) : vld (sprI n x k) = true := sprG_vld (ownF_vld x) _ _
theorem itF_own {n : Nat} {x : It} (h : itF n x = true) : (x.kind = 1 ∨ x.kind = 2 ∨ x.kind = 3) ∧ 1 ≤ x.at' ∧ (x.at' - 1).toNat + ownS x ≤ n ∧ x.at' = ((x.at' - 1).toNat : Int) + 1 ∧ 0 < ownS x := by
  unfold itF at h
  rw [Bool.and_eq_true, Bool.and_eq_true, decide_eq_true_eq, decide_eq_true_eq] at h
  obtain ⟨h1, h2, h3⟩ := h
  have hk : x.kind = 1 ∨ x.kind = 2 ∨ x.kind = 3 := by
    apply Classical.byContradiction
    intro hn
    have e : itB x = false := by unfold itB; rw [if_neg (by omega), if_neg (by omega)]
    rw [e] at h1; cases h1
  have hw : itW x = ownS x := by
    unfold itW ownS
    rcases hk with e | e | e
    · rw [if_pos e, if_pos e]; rfl
    · rw [if_neg (by omega), if_pos (by omega), if_neg (by omega)]; rfl
    · rw [if_neg (by omega), if_pos (by omega), if_neg (by omega)]; rfl
  have hp : 0 < ownS x := by unfold ownS; split <;> omega
  refine ⟨hk, h2, by omega, by omega, hp⟩
theorem fitTo_at {n : Nat} {f : Nat → It} {len : Nat} (h : fitTo n f len = true) {k : Nat} (hk : k < len) : itF n (f k) = true := by
  cases e : itF n (f k)
  · rw [fitTo_stop e len hk] at h; cases h
  · rfl
end Amp
namespace Go.Proofs.Ythbbknpkoaobmaa
open Go.RowKit Amp
attribute [local go_sem] ix0 ix1 ix2 ix3 jx0 jx1 jx2 jx3
attribute [local go_sem high] run_eqNum run_neNum

theorem mulF_vld (n : Nat) (x y : Nat → Nm) (k : Nat) : vld (mulF n x y k) = true := dotS_vld _ _ _
/-- The product of the matrices of the first k items, or the error. -/
def prodS (n : Nat) (f : Nat → It) : Nat → (Nat → Nm) × Int
  | 0 => (idF n, 0)
  | k + 1 => if (prodS n f k).2 = 0 then (mulF n (sprI n (f k)) (prodS n f k).1, mulE n (sprI n (f k)) (prodS n f k).1) else prodS n f k
theorem prodS_stay {n : Nat} {f : Nat → It} {k : Nat} (h : (prodS n f k).2 ≠ 0) : ∀ m, k ≤ m → prodS n f m = prodS n f k := by
  intro m
  induction m with
  | zero => intro hk; obtain rfl : k = 0 := (by omega); rfl
  | succ m ih =>
    intro hk
    by_cases e : k = m + 1
    · subst e; rfl
    · have := ih (by omega)
      rw [prodS, this, if_neg h]
theorem prodS_step {n : Nat} {f : Nat → It} {k : Nat} (h : (prodS n f k).2 = 0) : prodS n f (k + 1) = (mulF n (sprI n (f k)) (prodS n f k).1, mulE n (sprI n (f k)) (prodS n f k).1) := by rw [prodS, if_pos h]
theorem prodS_vld (n : Nat) (f : Nat → It) (k j : Nat) : vld ((prodS n f k).1 j) = true := by
  induction k with
  | zero => exact idF_vld _ _
  | succ k ih =>
    rw [prodS]; split
    · exact mulF_vld _ _ _ _
    · exact ih
theorem mMul_ok (n g h cap dap : Nat) (x y : Nat → Nm) (w : World) (h1 : 0 < n) (hn : n ≤ 6) (hcap : n * n ≤ cap) (hcm : cap ≤ 9223372036854775807) (hx : Numw w g (n * n) x) (hy : Numw w h (n * n) y) (hv : Hid (mvS n (n * n) x = true)) (hu : Hid (mvS n (n * n) y = true)) (he : Hid (mulE n x y = 0)) :
    Calls Try.prog 68 #[.agg #[.int .i64 n, .slice (some ⟨g, 0, none⟩) (n * n) cap], .agg #[.int .i64 n, .slice (some ⟨h, 0, none⟩) (n * n) dap]] w fun e w' => MatW w.heap.size w' e n (mulF n x y) ∧ Below w.heap.size w w' :=
  (mMul_yes n g h cap dap x y w h1 hn hcap hcm hx hy hv hu).mono fun e w' ⟨hm, hb⟩ => ⟨by
    rcases hm with ⟨_, hm⟩ | ⟨hn, _⟩
    · exact hm
    · exact absurd he.out hn, hb⟩
theorem mMul_err (n g h cap dap : Nat) (x y : Nat → Nm) (w : World) (h1 : 0 < n) (hn : n ≤ 6) (hcap : n * n ≤ cap) (hcm : cap ≤ 9223372036854775807) (hx : Numw w g (n * n) x) (hy : Numw w h (n * n) y) (hv : Hid (mvS n (n * n) x = true)) (hu : Hid (mvS n (n * n) y = true)) (he : Hid (¬ mulE n x y = 0)) :
    Calls Try.prog 68 #[.agg #[.int .i64 n, .slice (some ⟨g, 0, none⟩) (n * n) cap], .agg #[.int .i64 n, .slice (some ⟨h, 0, none⟩) (n * n) dap]] w fun e w' => e = .returned (.tuple #[.agg #[.int .i64 0, .slice none 0 0], .int .i64 (mulE n x y)]) ∧ Below w.heap.size w w' :=
  (mMul_yes n g h cap dap x y w h1 hn hcap hcm hx hy hv hu).mono fun e w' ⟨hm, hb⟩ => ⟨by
    rcases hm with ⟨hn, _⟩ | ⟨_, hm⟩
    · exact absurd hn he.out
    · exact hm, hb⟩
theorem own_any (k at' m : Int) (nm : ByteArray) (w : World) (h : k = 1 ∨ k = 2 ∨ k = 3) :
    Calls Try.prog 47 #[.agg #[.int .i64 k, .int .i64 at', .int .i64 m, .string nm], .map none] w fun e w' => OwnIs w.heap.size w' e (ownS ⟨k, at', m, nm⟩) (ownF ⟨k, at', m, nm⟩) ∧ Below w.heap.size w w' := by
  rcases h with rfl | rfl | rfl
  · exact own_phase at' m nm w
  · exact own_couple at' m nm w
  · exact own_cross at' m nm w
end Go.Proofs.Ythbbknpkoaobmaa
