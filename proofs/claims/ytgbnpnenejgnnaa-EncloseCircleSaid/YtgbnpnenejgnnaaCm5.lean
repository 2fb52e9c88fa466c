import Derived.Test.YtgbnpnenejgnnaaAw5
import Derived.Test.YtgbnpnenejgnnaaPw5
import Derived.Test.YtgbnpnenejgnnaaGw5
import Derived.Test.YtgbnpnenejgnnaaFn5
import Derived.Test.YtgbnpnenejgnnaaBl
import Derived.Test.YtgbnpnenejgnnaaU
/-! Maths of EncloseCircle. -/
namespace Go.Proofs.Ytgbnpnenejgnnaa
open Go.RowKit Encl
theorem unitGo_ok (n : Int) : ∀ (b : Nat) (z r : Rc), okR z = true → unitGo n b z = .ok r → okR r = true
  | 0, z, r, hz, h => by
    unfold unitGo at h
    injection h with h
    exact h ▸ hz
  | b + 1, z, r, hz, h => by
    unfold unitGo at h
    split at h
    · obtain ⟨z', h1, h2⟩ := bind_okI h
      exact unitGo_ok n b z' r (mulR_ok h1) h2
    · exact unitGo_ok n b z r hz h
theorem unitS_ok {n : Int} {r : Rc} (h : unitS n = .ok r) : okR r = true := unitGo_ok n 10 _ r (by decide) h
end Go.Proofs.Ytgbnpnenejgnnaa
namespace Encl
theorem bit_mod (n : Int) (b : Nat) (h : b < 10) : n % 1024 / 2 ^ b % 2 = n / 2 ^ b % 2 := by
  have : b = 0 ∨ b = 1 ∨ b = 2 ∨ b = 3 ∨ b = 4 ∨ b = 5 ∨ b = 6 ∨ b = 7 ∨ b = 8 ∨ b = 9 := by omega
  rcases this with rfl | rfl | rfl | rfl | rfl | rfl | rfl | rfl | rfl | rfl <;> simp only [show ((2 : Int) ^ 0) = 1 from rfl, show ((2 : Int) ^ 1) = 2 from rfl, show ((2 : Int) ^ 2) = 4 from rfl, show ((2 : Int) ^ 3) = 8 from rfl, show ((2 : Int) ^ 4) = 16 from rfl, show ((2 : Int) ^ 5) = 32 from rfl, show ((2 : Int) ^ 6) = 64 from rfl, show ((2 : Int) ^ 7) = 128 from rfl, show ((2 : Int) ^ 8) = 256 from rfl, show ((2 : Int) ^ 9) = 512 from rfl] <;> omega
theorem unitGo_mod (n : Int) : ∀ (b : Nat) (z : Rc), b ≤ 10 → unitGo (n % 1024) b z = unitGo n b z
  | 0, z, _ => rfl
  | b + 1, z, h => by
    unfold unitGo
    rw [bit_mod n b (by omega)]
    split
    · congr 1
      funext r
      exact unitGo_mod n b r (by omega)
    · exact unitGo_mod n b z (by omega)
def cirB (n : Int) : Bool := match unitS n with
  | .bad _ => false
  | .ok u => match powR u with
    | .bad _ => false
    | .ok p => decide (p.lo ≤ 1073741824 ∧ 1073741824 ≤ p.hi)
theorem cir_all : ∀ n : Fin 1024, cirB ((n.val : Nat) : Int) = true := by decide +kernel
theorem unit_power (n : Int) : ∃ u p, unitS n = .ok u ∧ powR u = .ok p ∧ p.lo ≤ 1073741824 ∧ 1073741824 ≤ p.hi := by
  have h := cir_all ⟨(n % 1024).toNat, by omega⟩
  simp only [cirB] at h
  rw [show (((n % 1024).toNat : Nat) : Int) = n % 1024 by omega] at h
  rw [show unitS (n % 1024) = unitS n from unitGo_mod n 10 _ (by omega)] at h
  cases hu : unitS n with
  | bad k => rw [hu] at h; cases h
  | ok u =>
    rw [hu] at h
    dsimp only at h
    cases hp : powR u with
    | bad k => rw [hp] at h; cases h
    | ok p =>
      rw [hp] at h
      exact ⟨u, p, rfl, hp, of_decide_eq_true h⟩
/-- The parts of the eighths of a turn lie in their rectangles: 759250124 < 2^30 / √2 < 759250125. -/
def octR (k : Nat) : Rc := match k with
  | 0 => ⟨⟨1073741824, 1073741824⟩, ⟨0, 0⟩⟩
  | 1 => ⟨⟨759250124, 759250125⟩, ⟨759250124, 759250125⟩⟩
  | 2 => ⟨⟨0, 0⟩, ⟨1073741824, 1073741824⟩⟩
  | 3 => ⟨⟨-759250125, -759250124⟩, ⟨759250124, 759250125⟩⟩
  | 4 => ⟨⟨-1073741824, -1073741824⟩, ⟨0, 0⟩⟩
  | 5 => ⟨⟨-759250125, -759250124⟩, ⟨-759250125, -759250124⟩⟩
  | 6 => ⟨⟨0, 0⟩, ⟨-1073741824, -1073741824⟩⟩
  | _ => ⟨⟨759250124, 759250125⟩, ⟨-759250125, -759250124⟩⟩
def octB (k : Nat) : Bool := match unitS (128 * (k : Int)) with
  | .bad _ => false
  | .ok u => decide (u.re.lo ≤ (octR k).re.lo ∧ (octR k).re.hi ≤ u.re.hi ∧ u.im.lo ≤ (octR k).im.lo ∧ (octR k).im.hi ≤ u.im.hi)
theorem oct_all : ∀ k, k < 8 → octB k = true := by decide +kernel

theorem unit_shift (n : Int) : unitS (n + 1024) = unitS n := by
  rw [← show unitS ((n + 1024) % 1024) = unitS (n + 1024) from unitGo_mod _ 10 _ (by omega), ← show unitS (n % 1024) = unitS n from unitGo_mod _ 10 _ (by omega), show (n + 1024) % 1024 = n % 1024 by omega]
theorem okR_octR : ∀ k, okR (octR k) = true
  | 0 => by decide
  | 1 => by decide
  | 2 => by decide
  | 3 => by decide
  | 4 => by decide
  | 5 => by decide
  | 6 => by decide
  | _ + 7 => by show okR (octR 7) = true; decide
theorem unit_oct (n : Int) : ∃ u, unitS (128 * n) = .ok u ∧ (insideS (octR (n % 8).toNat) u).1 = true := by
  have hk : (n % 8).toNat < 8 := by omega
  have h := oct_all (n % 8).toNat hk
  unfold octB at h
  have e : unitS (128 * ((n % 8).toNat : Int)) = unitS (128 * n) := by
    rw [← show unitS ((128 * n) % 1024) = unitS (128 * n) from unitGo_mod _ 10 _ (by omega), show (128 * n) % 1024 = 128 * ((n % 8).toNat : Int) by omega]
  rw [e] at h
  cases hu : unitS (128 * n) with
  | bad k => rw [hu] at h; cases h
  | ok u =>
    rw [hu] at h
    have h' := of_decide_eq_true h
    refine ⟨u, rfl, (inside_iff _ _).2 ⟨okR_octR _, ?_, ⟨h'.1, h'.2.1⟩, h'.2.2⟩⟩
    exact Go.Proofs.Ytgbnpnenejgnnaa.unitS_ok hu
open Amp in
instance (p q : Int) : Decidable (nn p q) := by unfold nn; infer_instance
open Amp in
instance (p q u f : Int) : Decidable (isFlu p q u f) := by unfold isFlu; infer_instance
open Amp in
instance (p q u f g : Int) : Decidable (isSp p q u f g) := by unfold isSp; infer_instance
open Amp in
instance (p q e f g : Int) : Decidable (isBd p q e f g) := by unfold isBd; infer_instance
open Amp in
theorem turn_oct (n : Int) : ∃ a b c d k : Int, chgS ⟨⟨1, 0, 0, 0⟩, 0⟩ (fun x => rotn (n % 8).toNat x) = (⟨⟨a, b, c, d⟩, k⟩, 0) ∧ isBnd ⟨⟨a, b, c, d⟩, k⟩ 30 (octR (n % 8).toNat).re.lo (octR (n % 8).toNat).re.hi (octR (n % 8).toNat).im.lo (octR (n % 8).toNat).im.hi 0 := by
  have hk : (n % 8).toNat < 8 := by omega
  generalize (n % 8).toNat = j at *
  have : j = 0 ∨ j = 1 ∨ j = 2 ∨ j = 3 ∨ j = 4 ∨ j = 5 ∨ j = 6 ∨ j = 7 := by omega
  rcases this with rfl | rfl | rfl | rfl | rfl | rfl | rfl | rfl
  · exact ⟨1, 0, 0, 0, 0, by decide, by unfold isBnd; rw [if_pos (by decide), if_pos (by decide)]; exact ⟨rfl, by decide, by decide⟩⟩
  · exact ⟨0, 1, 0, 0, 0, by decide, by unfold isBnd; rw [if_pos (by decide), if_pos (by decide)]; exact ⟨rfl, by decide, by decide⟩⟩
  · exact ⟨0, 0, 1, 0, 0, by decide, by unfold isBnd; rw [if_pos (by decide), if_pos (by decide)]; exact ⟨rfl, by decide, by decide⟩⟩
  · exact ⟨0, 0, 0, 1, 0, by decide, by unfold isBnd; rw [if_pos (by decide), if_pos (by decide)]; exact ⟨rfl, by decide, by decide⟩⟩
  · exact ⟨-1, 0, 0, 0, 0, by decide, by unfold isBnd; rw [if_pos (by decide), if_pos (by decide)]; exact ⟨rfl, by decide, by decide⟩⟩
  · exact ⟨0, -1, 0, 0, 0, by decide, by unfold isBnd; rw [if_pos (by decide), if_pos (by decide)]; exact ⟨rfl, by decide, by decide⟩⟩
  · exact ⟨0, 0, -1, 0, 0, by decide, by unfold isBnd; rw [if_pos (by decide), if_pos (by decide)]; exact ⟨rfl, by decide, by decide⟩⟩
  · exact ⟨0, 0, 0, -1, 0, by decide, by unfold isBnd; rw [if_pos (by decide), if_pos (by decide)]; exact ⟨rfl, by decide, by decide⟩⟩
theorem num_oct (j : Nat) : numO 0 (octR j).re (octR j).im = .ok (octR j) := by
  rw [show numO 0 (octR j).re (octR j).im = fromR (octR j).re (octR j).im from if_pos rfl, fromR_eq]
  exact if_pos (okR_octR j)
end Encl
