import Derived.Test.YtpjfpkhcadombaaIb
import Derived.RegionTactic
namespace Prm
/-- Is the element k of f a number from 0 to n - 1 that is not among those ahead of it? -/
def okAt (n : Nat) (f : Nat → Int) (k : Nat) : Bool := decide (0 ≤ f k ∧ f k < n ∧ ∀ j, j < k → f j ≠ f k)
def okTo (n : Nat) (f : Nat → Int) : Nat → Bool
  | 0 => true
  | k + 1 => okTo n f k && okAt n f k
theorem okTo_stop {n : Nat} {f : Nat → Int} {k : Nat} (h : okAt n f k = false) : ∀ m, k < m → okTo n f m = false := by
  intro m
  induction m with
  | zero => intro h; omega
  | succ m ih =>
    intro hk
    simp only [okTo]
    by_cases e : k = m
    · subst e; rw [h]; simp
    · rw [ih (by omega)]; rfl
theorem okTo_iff {n : Nat} {f : Nat → Int} {m : Nat} : okTo n f m = true ↔ ∀ k, k < m → (0 ≤ f k ∧ f k < n ∧ ∀ j, j < k → f j ≠ f k) := by
  induction m with
  | zero => simp [okTo]
  | succ m ih =>
    simp only [okTo, Bool.and_eq_true, ih, okAt, decide_eq_true_eq]
    constructor
    · rintro ⟨h1, h2⟩ k hk
      by_cases e : k = m
      · subst e; exact h2
      · exact h1 k (by omega)
    · intro h
      exact ⟨fun k hk => h k (by omega), h m (by omega)⟩
/-- P4.2, ValidPerm. -/
def permB (n : Nat) (f : Nat → Int) : Bool := decide (1 ≤ n ∧ n ≤ 64) && okTo n f n
theorem permB_size {n : Nat} {f : Nat → Int} (h : ¬ (1 ≤ n ∧ n ≤ 64)) : permB n f = false := by unfold permB; rw [decide_eq_false h]; rfl
theorem permB_in {n : Nat} {f : Nat → Int} (h1 : 1 ≤ n) (h2 : n ≤ 64) : permB n f = okTo n f n := by unfold permB; rw [decide_eq_true ⟨h1, h2⟩]; rfl
theorem permB_yes {n : Nat} {f : Nat → Int} (h : permB n f = true) : 1 ≤ n ∧ n ≤ 64 ∧ ∀ k, k < n → (0 ≤ f k ∧ f k < n ∧ ∀ j, j < k → f j ≠ f k) := by
  unfold permB at h
  rw [Bool.and_eq_true, decide_eq_true_eq] at h
  exact ⟨h.1.1, h.1.2, okTo_iff.1 h.2⟩
/-- Is x among the first k? -/
def usedB (f : Nat → Int) (k x : Nat) : Bool := decide (∃ j, j < k ∧ f j = x)
theorem usedB_zero (f : Nat → Int) (x : Nat) : usedB f 0 x = false := decide_eq_false (by rintro ⟨j, h, _⟩; omega)
theorem usedB_at {f : Nat → Int} {k y : Nat} (h : f k = y) : usedB f (k + 1) y = true := decide_eq_true ⟨k, by omega, h⟩
theorem usedB_ne {f : Nat → Int} {k y x : Nat} (h : f k = y) (hx : ¬ x = y) : usedB f (k + 1) x = usedB f k x := by
  unfold usedB
  rw [Bool.eq_iff_iff, decide_eq_true_eq, decide_eq_true_eq]
  constructor
  · rintro ⟨j, hj, e⟩
    by_cases ej : j = k
    · subst ej; exact absurd (by rw [h] at e; omega) hx
    · exact ⟨j, by omega, e⟩
  · rintro ⟨j, hj, e⟩; exact ⟨j, by omega, e⟩
theorem okAt_yes {n : Nat} {f : Nat → Int} {k y : Nat} (h : f k = y) (hy : y < n) (hu : usedB f k y = false) : okAt n f k = true := by
  unfold usedB at hu
  rw [decide_eq_false_iff_not] at hu
  exact decide_eq_true ⟨by omega, by omega, fun j hj e => hu ⟨j, hj, by rw [e, h]⟩⟩
theorem okAt_used {n : Nat} {f : Nat → Int} {k y : Nat} (h : f k = y) (hu : usedB f k y = true) : okAt n f k = false := by
  unfold usedB at hu
  rw [decide_eq_true_eq] at hu
  obtain ⟨j, hj, e⟩ := hu
  exact decide_eq_false fun ⟨_, _, h3⟩ => h3 j hj (by rw [e, h])
theorem okAt_out {n : Nat} {f : Nat → Int} {k : Nat} (h : ¬ (0 ≤ f k ∧ f k < n)) : okAt n f k = false := decide_eq_false fun ⟨h1, h2, _⟩ => h ⟨h1, h2⟩
end Prm
namespace Go.Proofs.Ytpjfpkhcadombaa
open Go.RowKit Prm

/-- Block B is 64 bools: which numbers are used. -/
def Used (w : World) (B : Nat) (g : Nat → Bool) : Prop := ∀ j, j < 64 → w.cell? ⟨B, j, none⟩ = some (.bool (g j)) ∧ w.frozen? ⟨B, j, none⟩ = false
theorem Used.fresh (w : World) (t : TypeId) : Used (w.alloc (.cells (Array.replicate 64 (.bool false)) t)) w.heap.size (fun _ => false) := by
  intro j hj
  have e : (w.alloc (.cells (Array.replicate 64 (.bool false)) t)).heap[w.heap.size]? = some (.cells (Array.replicate 64 (.bool false)) t (0, 0)) := by
    show (w.heap.push _)[w.heap.size]? = _
    simp
  constructor
  · unfold World.cell?
    simp only [e]
    simp [hj]
  · unfold World.frozen?
    simp only [e]
    simp
theorem Used.congr {w : World} {B : Nat} {g g' : Nat → Bool} (h : Used w B g) (e : ∀ j, j < 64 → g j = g' j) : Used w B g' := fun j hj => by rw [← e j hj]; exact h j hj
theorem Used.store {w : World} {B : Nat} {g : Nat → Bool} (h : Used w B g) {y : Nat} (hy : y < 64) : Used (w.setCell ⟨B, y, none⟩ (.bool true)) B (fun j => if j = y then true else g j) := by
  intro j hj
  obtain ⟨a0, f0⟩ := h y hy
  by_cases e : j = y
  · subst e
    dsimp only
    rw [if_pos rfl]
    exact ⟨by go_cell, by go_cell⟩
  · dsimp only
    rw [if_neg e]
    obtain ⟨b0, g0⟩ := h j hj
    have hne : ¬ y = j := fun e' => e e'.symm
    exact ⟨by go_cell, by go_cell⟩

set_option maxRecDepth 100000 in
set_option maxHeartbeats 2000000 in
theorem validPerm_any (n cap : Nat) (ao : Option Addr) (f : Nat → Int) (w : World) (hn : n ≤ 9223372036854775807) (hc : Ints w ao n f) :
    Calls Try.prog 13 #[.slice ao n cap] w fun e w' => e = .returned (.bool (permB n f)) ∧ Below w.heap.size w w' := by
  have HC := Lib.hid hc
  clear hc
  by_cases h0 : n = 0
  · have hb0 : ((n : Int) == 0) = true := by simp [h0]
    have HE : Hid (permB n f = false) := Lib.hid (permB_size (by omega))
    clear h0
    go_enter Try.func13, Try.ntmps13
    go_wp2_with fail
    go_returns
    exact ⟨by rw [HE.out] <;> rfl, by go_grown⟩
  by_cases h64 : 64 < n
  · have hb0 : ((n : Int) == 0) = false := by simp [h0]
    have h64' : 64 < (n : Int) := by omega
    have HE : Hid (permB n f = false) := Lib.hid (permB_size (by omega))
    clear h0 h64
    go_enter Try.func13, Try.ntmps13
    go_wp2_with fail
    go_returns
    exact ⟨by rw [HE.out] <;> rfl, by go_grown⟩
  have hb0 : ((n : Int) == 0) = false := by simp [h0]
  have h64' : (n : Int) ≤ 64 := by omega
  have HN : Hid (permB n f = okTo n f n) := Lib.hid (permB_in (by omega) (by omega))
  have H64 : Hid (n ≤ 64) := Lib.hid (by omega)
  clear h0 h64
  go_enter Try.func13, Try.ntmps13
  go_wp2_with fail
  go_loopw [6, 17] (fun _ i wr => ∃ k : Nat, i = .int .i64 k ∧ k ≤ n ∧ Hid (okTo n f k = true) ∧ Hid (Used wr w.heap.size (usedB f k)) ∧ Below w.heap.size w wr ∧ w.heap.size < wr.heap.size) (fun _ i _ => n - (intOf i).toNat)
  case atStart => exact ⟨0, rfl, Nat.zero_le _, Lib.hid rfl, Lib.hid ((Used.fresh w _).congr fun j _ => (usedB_zero f j).symm), by go_grown, by simp⟩
  case round =>
    obtain ⟨k, rfl, hk, HK, HU, hbel, hsz⟩ := hrel
    by_cases hlt : k < n
    · have hlt' : (k : Int) < (n : Int) := by omega
      obtain ⟨b, o, rfl, hcell⟩ := (Ints.keep HC.out (hbel)) (by omega)
      obtain ⟨x, hx⟩ : ∃ x, f k = x := ⟨_, rfl⟩
      have c0 := hcell k hlt
      rw [hx] at c0
      have HX := Lib.hid hx
      clear hcell hx
      by_cases hneg : x < 0
      · have HE : Hid (okTo n f n = false) := Lib.hid (okTo_stop (k := k) (okAt_out (by rw [HX.out]; omega)) n hlt)
        go_wp2_with fail
        go_returns
        exact ⟨by rw [HN.out, HE.out] <;> rfl, by go_grown⟩
      · by_cases hbig : (n : Int) ≤ x
        · have HE : Hid (okTo n f n = false) := Lib.hid (okTo_stop (k := k) (okAt_out (by rw [HX.out]; omega)) n hlt)
          go_wp2_with fail
          go_returns
          exact ⟨by rw [HN.out, HE.out] <;> rfl, by go_grown⟩
        · obtain ⟨y, rfl⟩ : ∃ y : Nat, x = y := ⟨x.toNat, by omega⟩
          have hyn : (y : Int) < n := by omega
          have hy64 : y < 64 := by have := H64.out; omega
          have hy64' : (y : Int) < 64 := by omega
          have hu := HU.out y hy64
          obtain ⟨u, hu'⟩ : ∃ u, usedB f k y = u := ⟨_, rfl⟩
          rw [hu'] at hu
          have HU' := Lib.hid hu'
          obtain ⟨u0, u1⟩ := hu
          clear hu' hneg hbig
          cases u with
          | true =>
            have HE : Hid (okTo n f n = false) := Lib.hid (okTo_stop (k := k) (okAt_used HX.out HU'.out) n hlt)
            go_wp2_with fail
            go_returns
            exact ⟨by rw [HN.out, HE.out] <;> rfl, by go_grown⟩
          | false =>
            have HO : Hid (okTo n f (k + 1) = true) := Lib.hid (by simp only [okTo]; rw [HK.out, okAt_yes HX.out (by omega) HU'.out]; rfl)
            have HS : Hid (Used (wr.setCell ⟨w.heap.size, y, none⟩ (.bool true)) w.heap.size (usedB f (k + 1))) := Lib.hid ((HU.out.store hy64).congr fun j _ => by
              by_cases e : j = y
              · subst e; rw [if_pos rfl, usedB_at HX.out]
              · rw [if_neg e, usedB_ne HX.out e])
            go_wp2_with fail
            go_roundw
            case rel => exact ⟨k + 1, by go_num, by omega, HO, HS, by go_grown, by simpa using hsz⟩
            case measure => simp [intOf]; omega
    · obtain rfl : k = n := by omega
      go_wp2_with fail
      go_returns
      exact ⟨by rw [HN.out, HK.out] <;> rfl, hbel⟩
end Go.Proofs.Ytpjfpkhcadombaa
