import Derived.Test.YtjodjfllgofkaaaSpr
import Derived.Deep.QuietTactic
import Derived.BigQuiet
import Derived.WalkSpells
import Derived.Maps.OwnSet
import Derived.WalkLawsBesides
namespace Amp
def itW (x : It) : Int := if x.kind = 1 then 1 else if x.kind = 2 ∨ x.kind = 3 then 2 else 0
def itB (x : It) : Bool := if x.kind = 1 then (decide (0 < x.n) && (decide (x.n < 8) && x.name.toList.isEmpty)) else if x.kind = 2 ∨ x.kind = 3 then (decide (x.n = 0) && x.name.toList.isEmpty) else false
end Amp
namespace Go.Proofs.Ytjodjfllgofkaaa
open Go.RowKit Amp
attribute [local go_sem] ix0 ix1 ix2 ix3 jx0 jx1 jx2 jx3
attribute [local go_sem high] run_eqNum run_neNum
theorem first_drewN {B : Nat} {a w : World} (h : Below B a w) {n : Nat} : Below B a (w.drewN n) := ⟨h.os, h.tape, h.output, h.size, h.block⟩
def WidIs (w : World) (e : Ending) (a : Int) (b : Bool) (w' : World) : Prop := e = .returned (.tuple #[.int .i64 a, .bool b]) ∧ Below w.heap.size w w'
theorem width_1 (at' m : Int) (nm : ByteArray) (w : World) :
    Calls Try.prog 97 #[.agg #[.int .i64 1, .int .i64 at', .int .i64 m, .string nm], .map none] w fun e w' => WidIs w e 1 (decide (0 < m) && (decide (m < 8) && nm.toList.isEmpty)) w' := by
  by_cases h1 : 0 < m
  · by_cases h2 : m < 8
    · have HE : Hid ((decide (0 < m) && (decide (m < 8) && nm.toList.isEmpty)) = nm.toList.isEmpty) := Lib.hid (by rw [decide_eq_true h1, decide_eq_true h2]; rfl)
      rw [HE.out]
      go_enter Try.func97, Try.ntmps97
      go_wp2_with fail
      go_quiet (fail)
      go_wp2_with fail
      go_ret2
      exact ⟨rfl, first_drewN (by go_grown)⟩
    · have HE : Hid ((decide (0 < m) && (decide (m < 8) && nm.toList.isEmpty)) = false) := Lib.hid (by rw [decide_eq_true h1, decide_eq_false h2]; rfl)
      have hd : decide (m < 8) = false := decide_eq_false h2
      rw [HE.out]
      go_enter Try.func97, Try.ntmps97
      go_wp2_with fail
      go_quiet (fail)
      go_wp2_with fail
      go_ret2
      exact ⟨rfl, first_drewN (by go_grown)⟩
  · have HE : Hid ((decide (0 < m) && (decide (m < 8) && nm.toList.isEmpty)) = false) := Lib.hid (by rw [decide_eq_false h1]; rfl)
    have hd : decide (0 < m) = false := decide_eq_false h1
    rw [HE.out]
    go_enter Try.func97, Try.ntmps97
    go_wp2_with fail
    go_quiet (fail)
    go_wp2_with fail
    go_ret2
    exact ⟨rfl, first_drewN (by go_grown)⟩
theorem width_2 (at' m : Int) (nm : ByteArray) (w : World) :
    Calls Try.prog 97 #[.agg #[.int .i64 2, .int .i64 at', .int .i64 m, .string nm], .map none] w fun e w' => WidIs w e 2 (decide (m = 0) && nm.toList.isEmpty) w' := by
  by_cases h1 : m = 0
  · have HE : Hid ((decide (m = 0) && nm.toList.isEmpty) = nm.toList.isEmpty) := Lib.hid (by rw [decide_eq_true h1]; rfl)
    have hb : (m == 0) = true := beq_iff_eq.2 h1
    clear h1
    rw [HE.out]
    go_enter Try.func97, Try.ntmps97
    go_wp2_with fail
    go_quiet (fail)
    go_wp2_with fail
    go_ret2
    exact ⟨rfl, first_drewN (by go_grown)⟩
  · have HE : Hid ((decide (m = 0) && nm.toList.isEmpty) = false) := Lib.hid (by rw [decide_eq_false h1]; rfl)
    have hb : (m == 0) = false := beq_eq_false_iff_ne.2 h1
    clear h1
    rw [HE.out]
    go_enter Try.func97, Try.ntmps97
    go_wp2_with fail
    go_quiet (fail)
    go_wp2_with fail
    go_ret2
    exact ⟨rfl, first_drewN (by go_grown)⟩
theorem width_3 (at' m : Int) (nm : ByteArray) (w : World) :
    Calls Try.prog 97 #[.agg #[.int .i64 3, .int .i64 at', .int .i64 m, .string nm], .map none] w fun e w' => WidIs w e 2 (decide (m = 0) && nm.toList.isEmpty) w' := by
  by_cases h1 : m = 0
  · have HE : Hid ((decide (m = 0) && nm.toList.isEmpty) = nm.toList.isEmpty) := Lib.hid (by rw [decide_eq_true h1]; rfl)
    have hb : (m == 0) = true := beq_iff_eq.2 h1
    clear h1
    rw [HE.out]
    go_enter Try.func97, Try.ntmps97
    go_wp2_with fail
    go_quiet (fail)
    go_wp2_with fail
    go_ret2
    exact ⟨rfl, first_drewN (by go_grown)⟩
  · have HE : Hid ((decide (m = 0) && nm.toList.isEmpty) = false) := Lib.hid (by rw [decide_eq_false h1]; rfl)
    have hb : (m == 0) = false := beq_eq_false_iff_ne.2 h1
    clear h1
    rw [HE.out]
    go_enter Try.func97, Try.ntmps97
    go_wp2_with fail
    go_quiet (fail)
    go_wp2_with fail
    go_ret2
    exact ⟨rfl, first_drewN (by go_grown)⟩
set_option maxRecDepth 100000 in
set_option maxHeartbeats 1000000 in
theorem width_4 (at' m : Int) (nm : ByteArray) (w : World) (hnm : nm.size ≤ maxLen) :
    Calls Try.prog 97 #[.agg #[.int .i64 4, .int .i64 at', .int .i64 m, .string nm], .map none] w fun e w' => WidIs w e 0 false w' := by
  have hlook := fun (w : World) => Maps.look_nil (P := Try.prog) (w := w) true (Maps.string_keyed Try.underlying9) Try.underlying133 (z := .agg #[.string ⟨#[]⟩, .int .i64 0, .slice none 0 0]) (by kernel_rfl) (key := .string nm) (WideMaps.keyOf_string_mk Try.underlying9 hnm)
  simp only [if_true] at hlook
  go_enter Try.func97, Try.ntmps97
  go_wp2_with fail
  go_quiet (fail)
  go_wp2_with fail
  go_ret2
  exact ⟨rfl, first_drewN (by go_grown)⟩
theorem width_0 (k at' m : Int) (nm : ByteArray) (w : World) (h : ¬ (k = 1 ∨ k = 2 ∨ k = 3 ∨ k = 4)) :
    Calls Try.prog 97 #[.agg #[.int .i64 k, .int .i64 at', .int .i64 m, .string nm], .map none] w fun e w' => WidIs w e 0 false w' := by
  have h1 : (k == 1) = false := beq_eq_false_iff_ne.2 (by omega)
  have h2 : (k == 2) = false := beq_eq_false_iff_ne.2 (by omega)
  have h3 : (k == 3) = false := beq_eq_false_iff_ne.2 (by omega)
  have h4 : (k == 4) = false := beq_eq_false_iff_ne.2 (by omega)
  clear h
  go_enter Try.func97, Try.ntmps97
  go_wp2_with fail
  go_ret2
  exact ⟨rfl, by go_grown⟩
end Go.Proofs.Ytjodjfllgofkaaa
