import Derived.Test.YtjodjfllgofkaaaCk
import Derived.Test.YtjodjfllgofkaaaIb


namespace Prm
/-- The greatest of f 0, .., f n. -/
def mxTo (f : Nat → Int) : Nat → Int
  | 0 => f 0
  | n + 1 => if mxTo f n < f (n + 1) then f (n + 1) else mxTo f n
theorem mxTo_bd {f : Nat → Int} {lo hi : Int} {n : Nat} (h : ∀ i, i ≤ n → lo ≤ f i ∧ f i ≤ hi) : lo ≤ mxTo f n ∧ mxTo f n ≤ hi := by
  induction n with
  | zero => exact h 0 (Nat.le_refl 0)
  | succ n ih =>
    have h1 := ih fun i hi => h i (by omega)
    have h2 := h (n + 1) (Nat.le_refl _)
    simp only [mxTo]
    split <;> assumption
end Prm
namespace Go.Proofs.Ytjodjfllgofkaaa
open Go.RowKit Prm Amp

set_option maxRecDepth 100000 in
set_option maxHeartbeats 1000000 in
theorem guides_any (kd at' m : Int) (nm : ByteArray) (w : World) (hnm : nm.size ≤ maxLen) :
    Calls Try.prog 57 #[.agg #[.int .i64 kd, .int .i64 at', .int .i64 m, .string nm]] w fun e w' => e = .returned (.int .i64 (itW ⟨kd, at', m, nm⟩)) ∧ Below w.heap.size w w' := by
  have HN := Lib.hid hnm
  clear hnm
  go_enter Try.func57, Try.ntmps57
  go_wp2_with fail
  refine (width_any kd at' m nm _ HN.out).mono ?_
  rintro e w1 ⟨rfl, hb⟩
  have D1 : Below w.heap.size w w1 := ((Below.refl _ w).alloc (Nat.le_refl _) _).trans (hb.mono (by simp))
  clear hb
  go_wp2_with fail
  go_returns
  exact ⟨rfl, D1⟩

set_option maxRecDepth 100000 in
set_option maxHeartbeats 1000000 in
theorem max_any (n cap b o : Nat) (f : Nat → Int) (w : World) (h1 : 1 ≤ n) (hn : n ≤ 9223372036854775807) (hc : ∀ i, i < n → w.cell? ⟨b, o + i, none⟩ = some (.int .i64 (f i))) :
    Calls Try.prog 58 #[.slice (some ⟨b, o, none⟩) n cap] w fun e w' => e = .returned (.int .i64 (mxTo f (n - 1))) ∧ Below w.heap.size w w' := by
  have HC := Lib.hid hc
  have h1' : 1 ≤ (n : Int) := by omega
  have c0 : w.cell? ⟨b, o, none⟩ = some (.int .i64 (f 0)) := hc 0 (by omega)
  obtain ⟨x0, hx0⟩ : ∃ x0, f 0 = x0 := ⟨_, rfl⟩
  rw [hx0] at c0
  have HX0 := Lib.hid hx0
  clear hc hx0
  go_enter Try.func58, Try.ntmps58
  go_wp2_with fail
  go_loopw [3, 4] (fun mv i wr => ∃ (k : Nat) (y : Int), i = .int .i64 k ∧ 1 ≤ k ∧ k ≤ n ∧ mv = .int .i64 y ∧ Hid (mxTo f (k - 1) = y) ∧ Below w.heap.size w wr) (fun _ i _ => n - (intOf i).toNat)
  case atStart => exact ⟨1, x0, rfl, Nat.le_refl _, h1, rfl, HX0, by go_grown⟩
  case round =>
    obtain ⟨k, y, rfl, hk1, hk, rfl, HY, hbel⟩ := hrel
    by_cases hlt : k < n
    · have hlt' : (k : Int) < (n : Int) := by omega
      have c1 : wr.cell? ⟨b, o + k, none⟩ = some (.int .i64 (f k)) := (hbel.cell (p := ⟨b, o + k, none⟩) (World.block_lt_of_cell? w _ (HC.out k hlt))).trans (HC.out k hlt)
      obtain ⟨z, hz⟩ : ∃ z, f k = z := ⟨_, rfl⟩
      rw [hz] at c1
      have HZ : Hid (mxTo f k = if y < z then z else y) := Lib.hid (by
        obtain ⟨j, rfl⟩ : ∃ j, k = j + 1 := ⟨k - 1, by omega⟩
        have := HY.out
        simp only [Nat.add_sub_cancel] at this
        simp only [mxTo]
        rw [this, hz])
      clear hz c0
      by_cases hyz : y < z
      · have HZ2 : Hid (mxTo f (k + 1 - 1) = z) := Lib.hid (by rw [Nat.add_sub_cancel, HZ.out, if_pos hyz])
        go_wp2_with fail
        go_roundw
        case rel => exact ⟨k + 1, z, by go_num, by omega, by omega, rfl, HZ2, by go_grown⟩
        case measure => simp [intOf]; omega
      · have hyz' : z ≤ y := by omega
        have HZ2 : Hid (mxTo f (k + 1 - 1) = y) := Lib.hid (by rw [Nat.add_sub_cancel, HZ.out, if_neg hyz])
        clear hyz
        go_wp2_with fail
        go_roundw
        case rel => exact ⟨k + 1, y, by go_num, by omega, by omega, rfl, HZ2, by go_grown⟩
        case measure => simp [intOf]; omega
    · obtain rfl : k = n := by omega
      go_wp2_with fail
      go_returns
      exact ⟨by rw [HY.out] <;> rfl, hbel⟩
end Go.Proofs.Ytjodjfllgofkaaa
