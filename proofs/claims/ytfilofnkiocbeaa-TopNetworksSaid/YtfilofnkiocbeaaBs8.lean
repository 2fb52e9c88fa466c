import Derived.Test.YtfilofnkiocbeaaBc8
import Derived.RegionTactic
namespace Prm
def sameTo (f g : Nat → Int) : Nat → Bool
  | 0 => true
  | k + 1 => sameTo f g k && decide (f k = g k)
theorem sameTo_stop {f g : Nat → Int} {k : Nat} (h : ¬ f k = g k) : ∀ m, k < m → sameTo f g m = false := by
  intro m
  induction m with
  | zero => intro h; omega
  | succ m ih =>
    intro hk
    simp only [sameTo]
    by_cases e : k = m
    · subst e; rw [decide_eq_false h]; simp
    · rw [ih (by omega)]; rfl
theorem sameTo_all {f g : Nat → Int} {n : Nat} (h : ∀ i, i < n → f i = g i) : sameTo f g n = true := by
  induction n with
  | zero => rfl
  | succ n ih => simp only [sameTo]; rw [ih fun i hi => h i (by omega), decide_eq_true (h n (by omega))]; rfl
/-- Are two lists the same? -/
def sameB (n m : Nat) (f g : Nat → Int) : Bool := decide (n = m) && sameTo f g n
theorem sameB_yes {n : Nat} {f g : Nat → Int} (h : ∀ i, i < n → f i = g i) : sameB n n f g = true := by unfold sameB; rw [decide_eq_true rfl, sameTo_all h]; rfl
end Prm
namespace Go.Proofs.Ytfilofnkiocbeaa
open Go.RowKit Prm
set_option maxRecDepth 100000 in
set_option maxHeartbeats 2000000 in
theorem same_any (n m cap dap : Nat) (ao bo : Option Addr) (f g : Nat → Int) (w : World) (hn : n ≤ 9223372036854775807) (hm : m ≤ 9223372036854775807) (hc : Ints w ao n f) (hd : Ints w bo m g) :
    Calls Try.prog 26 #[.slice ao n cap, .slice bo m dap] w fun e w' => e = .returned (.bool (sameB n m f g)) ∧ Below w.heap.size w w' := by
  have HC := Lib.hid hc
  have HD := Lib.hid hd
  clear hc hd
  by_cases hnm : n = m
  · subst hnm
    have HE : Hid (sameB n n f g = sameTo f g n) := Lib.hid (by unfold sameB; rw [decide_eq_true rfl]; rfl)
    go_enter Try.func26, Try.ntmps26
    go_wp2_with fail
    go_loopw [5] (fun i wr => ∃ k : Nat, i = .int .i64 k ∧ k ≤ n ∧ Hid (sameTo f g k = true) ∧ Below w.heap.size w wr) (fun i _ => n - (intOf i).toNat)
    case atStart => exact ⟨0, rfl, Nat.zero_le _, Lib.hid rfl, by go_grown⟩
    case round =>
      obtain ⟨k, rfl, hk, HK, hbel⟩ := hrel
      by_cases hlt : k < n
      · have hlt' : (k : Int) < (n : Int) := by omega
        obtain ⟨b, o, rfl, hcell⟩ := (Ints.keep HC.out hbel) (by omega)
        obtain ⟨b', o', rfl, hcell'⟩ := (Ints.keep HD.out hbel) (by omega)
        have c0 := hcell k hlt
        have d0 := hcell' k hlt
        obtain ⟨x, hx⟩ : ∃ x, f k = x := ⟨_, rfl⟩
        obtain ⟨y, hy⟩ : ∃ y, g k = y := ⟨_, rfl⟩
        rw [hx] at c0
        rw [hy] at d0
        have HX := Lib.hid hx
        have HY := Lib.hid hy
        clear hcell hcell' hx hy
        by_cases hxy : x = y
        · have HK2 : Hid (sameTo f g (k + 1) = true) := Lib.hid (by simp only [sameTo]; rw [HK.out, decide_eq_true (by rw [HX.out, HY.out, hxy])]; rfl)
          subst hxy
          go_wp2_with fail
          go_region
          all_goals
            go_wp2_with fail
            go_roundw
            case rel => exact ⟨k + 1, by go_num, by omega, HK2, by go_grown⟩
            case measure => simp [intOf]; omega
        · have HF : Hid (sameTo f g n = false) := Lib.hid (sameTo_stop (k := k) (by rw [HX.out, HY.out]; exact hxy) n hlt)
          have hq : (x != y) = true := bne_iff_ne.2 hxy
          have hq2 : (x == y) = false := beq_eq_false_iff_ne.2 hxy
          clear hxy
          go_wp2_with fail
          go_region
          all_goals
            go_wp2_with fail
            go_returns
            exact ⟨by rw [HE.out, HF.out] <;> rfl, by go_grown⟩
      · obtain rfl : k = n := by omega
        go_wp2_with fail
        go_returns
        exact ⟨by rw [HE.out, HK.out] <;> rfl, hbel⟩
  · have hq : ((n : Int) != (m : Int)) = true := bne_iff_ne.2 (by omega)
    have hq2 : ((n : Int) == (m : Int)) = false := beq_eq_false_iff_ne.2 (by omega)
    have HE : Hid (sameB n m f g = false) := Lib.hid (by unfold sameB; rw [decide_eq_false hnm]; rfl)
    clear hnm
    go_enter Try.func26, Try.ntmps26
    go_wp2_with fail
    go_returns
    exact ⟨by rw [HE.out] <;> rfl, by go_grown⟩
end Go.Proofs.Ytfilofnkiocbeaa
