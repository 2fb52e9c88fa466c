import Derived.Test.YtjodjfllgofkaaaMo
import Derived.RegionTactic
namespace Prm
open Amp
instance : DecidableEq Nm := fun x y => by
  obtain ⟨⟨a, b, c, d⟩, k⟩ := x
  obtain ⟨⟨a', b', c', d'⟩, k'⟩ := y
  exact if h : a = a' ∧ b = b' ∧ c = c' ∧ d = d' ∧ k = k' then isTrue (by obtain ⟨rfl, rfl, rfl, rfl, rfl⟩ := h; rfl) else isFalse (by intro e; injection e with e1 e2; injection e1 with e3 e4 e5 e6; exact h ⟨e3, e4, e5, e6, e2⟩)
/-- Are the first k numbers of two lists the same? -/
def eqTo (f g : Nat → Nm) : Nat → Bool
  | 0 => true
  | k + 1 => eqTo f g k && decide (f k = g k)
theorem eqTo_stop {f g : Nat → Nm} {k : Nat} (h : ¬ f k = g k) : ∀ m, k < m → eqTo f g m = false := by
  intro m
  induction m with
  | zero => intro h; omega
  | succ m ih =>
    intro hk
    simp only [eqTo]
    by_cases e : k = m
    · subst e; rw [decide_eq_false h]; simp
    · rw [ih (by omega)]; rfl
theorem ne5 {a b c d k a' b' c' d' k' : Int} (h : ¬ (⟨⟨a, b, c, d⟩, k⟩ : Nm) = ⟨⟨a', b', c', d'⟩, k'⟩) : (a == a' && (b == b' && (c == c' && (d == d' && k == k')))) = false := by
  cases e : (a == a' && (b == b' && (c == c' && (d == d' && k == k')))) with
  | false => rfl
  | true =>
    simp only [Bool.and_eq_true, beq_iff_eq] at e
    obtain ⟨rfl, rfl, rfl, rfl, rfl⟩ := e
    exact absurd rfl h
end Prm
namespace Go.Proofs.Ytjodjfllgofkaaa
open Go.RowKit Amp Prm
attribute [local go_sem] ix0 ix1 ix2 ix3 jx0 jx1 jx2 jx3
attribute [local go_sem high] run_eqNum run_neNum

set_option maxRecDepth 100000 in
set_option maxHeartbeats 2000000 in
theorem eqNums_any (ao bo : Option Addr) (n cap cap' : Nat) (f g : Nat → Nm) (w : World) (hn : n ≤ 9223372036854775807) (hc : Nums w ao n f) (hd : Nums w bo n g) :
    Calls Try.prog 71 #[.slice ao n cap, .slice bo n cap'] w fun e w' => e = .returned (.bool (eqTo f g n)) ∧ Below w.heap.size w w' := by
  have HC := Lib.hid hc
  have HD := Lib.hid hd
  clear hc hd
  obtain ⟨rr, hrr⟩ : ∃ rr, eqTo f g n = rr := ⟨_, rfl⟩
  have HRR := Lib.hid hrr
  rw [hrr]
  clear hrr
  go_enter Try.func71, Try.ntmps71
  go_wp2_with fail
  go_loopw [5, 13] (fun _ i wr => ∃ k : Nat, i = .int .i64 k ∧ k ≤ n ∧ Hid (eqTo f g k = true) ∧ Below w.heap.size w wr) (fun _ i _ => n - (intOf i).toNat)
  case atStart => exact ⟨0, rfl, Nat.zero_le _, Lib.hid rfl, Below.refl _ _⟩
  case round =>
    obtain ⟨k, rfl, hk, HK, hbel⟩ := hrel
    have hsz := hbel.size
    by_cases hlt : k < n
    · obtain ⟨b, o, rfl, hcell⟩ := (Nums.keep HC.out hbel) (by omega)
      obtain ⟨c0, c1, c2, c3, c4⟩ := hcell k hlt
      obtain ⟨b', o', rfl, hcell'⟩ := (Nums.keep HD.out hbel) (by omega)
      obtain ⟨d0, d1, d2, d3, d4⟩ := hcell' k hlt
      have hlt' : (k : Int) < (n : Int) := by omega
      obtain ⟨⟨⟨x0, x1, x2, x3⟩, x4⟩, hx⟩ : ∃ x, f k = x := ⟨_, rfl⟩
      obtain ⟨⟨⟨y0, y1, y2, y3⟩, y4⟩, hy⟩ : ∃ y, g k = y := ⟨_, rfl⟩
      rw [hx] at c0 c1 c2 c3 c4
      rw [hy] at d0 d1 d2 d3 d4
      simp only at c0 c1 c2 c3 c4 d0 d1 d2 d3 d4
      have HX := Lib.hid hx
      have HY := Lib.hid hy
      clear hcell hcell' hx hy
      by_cases hxy : (⟨⟨x0, x1, x2, x3⟩, x4⟩ : Nm) = ⟨⟨y0, y1, y2, y3⟩, y4⟩
      · have HK2 : Hid (eqTo f g (k + 1) = true) := Lib.hid (by simp only [eqTo]; rw [HK.out, HX.out, HY.out, hxy]; simp)
        injection hxy with e1 e2
        injection e1 with e3 e4 e5 e6
        subst e2 e3 e4 e5 e6
        go_wp2_with fail
        go_region
        all_goals
          go_wp2_with fail
          go_roundw
          case rel => exact ⟨k + 1, by go_num, by omega, HK2, by go_grown⟩
          case measure => simp [intOf]; omega
      · have HF : Hid (rr = false) := Lib.hid (by rw [← HRR.out]; exact eqTo_stop (k := k) (by rw [HX.out, HY.out]; exact hxy) n hlt)
        have hb0 := ne5 hxy
        clear hxy
        go_wp2_with fail
        go_region
        all_goals
          go_wp2_with fail
          go_returns
          exact ⟨by rw [HF.out] <;> rfl, by go_grown⟩
    · obtain rfl : k = n := by omega
      have HF : Hid (rr = true) := Lib.hid (by rw [← HRR.out]; exact HK.out)
      go_wp2_with fail
      go_returns
      exact ⟨by rw [HF.out] <;> rfl, hbel⟩

set_option maxRecDepth 100000 in
set_option maxHeartbeats 2000000 in
theorem rSame_any (N : Int) (ao bo : Option Addr) (n cap cap' : Nat) (f g : Nat → Nm) (w : World) (hn : n ≤ 9223372036854775807) (hc : Nums w ao n f) (hd : Nums w bo n g) :
    Calls Try.prog 38 #[.agg #[.int .i64 N, .slice ao n cap], .agg #[.int .i64 N, .slice bo n cap']] w fun e w' => e = .returned (.bool (eqTo f g n)) ∧ Below w.heap.size w w' := by
  have HC := Lib.hid hc
  have HD := Lib.hid hd
  clear hc hd
  obtain ⟨rr, hrr⟩ : ∃ rr, eqTo f g n = rr := ⟨_, rfl⟩
  have HRR := Lib.hid hrr
  rw [hrr]
  clear hrr
  go_enter Try.func38, Try.ntmps38
  go_wp2_with fail
  go_loopw [5] (fun i wr => ∃ k : Nat, i = .int .i64 k ∧ k ≤ n ∧ Hid (eqTo f g k = true) ∧ Below (w.heap.size + 2) ((w.alloc (.cells #[.int .i64 N, .slice ao n cap] 26)).alloc (.cells #[.int .i64 N, .slice bo n cap'] 26)) wr) (fun i _ => n - (intOf i).toNat)
  case atStart => exact ⟨0, rfl, Nat.zero_le _, Lib.hid rfl, Below.refl _ _⟩
  case round =>
    obtain ⟨k, rfl, hk, HK, hb2⟩ := hrel
    have hbel : Below w.heap.size w wr := (((Below.refl _ w).alloc (Nat.le_refl _) _).alloc (by simp) _).trans (hb2.mono (by omega))
    have HB2 := Lib.hid hb2
    have e0 := fun b j (h : b < w.heap.size + 2) => hb2.cell (p := ⟨b, j, none⟩) h
    have q0 := (e0 w.heap.size 0 (by omega)).trans (by go_cell : _ = some (.int .i64 N))
    have q1 := (e0 w.heap.size 1 (by omega)).trans (by go_cell : _ = some (.slice ao n cap))
    have r0 := (e0 (w.heap.size + 1) 0 (by omega)).trans (by go_cell : _ = some (.int .i64 N))
    have r1 := (e0 (w.heap.size + 1) 1 (by omega)).trans (by go_cell : _ = some (.slice bo n cap'))
    have HBL := Lib.hid hbel
    clear e0 hb2
    by_cases hlt : k < n
    · obtain ⟨b, o, rfl, hcell⟩ := (Nums.keep HC.out hbel) (by omega)
      obtain ⟨c0, c1, c2, c3, c4⟩ := hcell k hlt
      obtain ⟨b', o', rfl, hcell'⟩ := (Nums.keep HD.out hbel) (by omega)
      obtain ⟨d0, d1, d2, d3, d4⟩ := hcell' k hlt
      have hlt' : (k : Int) < (n : Int) := by omega
      obtain ⟨⟨⟨x0, x1, x2, x3⟩, x4⟩, hx⟩ : ∃ x, f k = x := ⟨_, rfl⟩
      obtain ⟨⟨⟨y0, y1, y2, y3⟩, y4⟩, hy⟩ : ∃ y, g k = y := ⟨_, rfl⟩
      rw [hx] at c0 c1 c2 c3 c4
      rw [hy] at d0 d1 d2 d3 d4
      simp only at c0 c1 c2 c3 c4 d0 d1 d2 d3 d4
      have HX := Lib.hid hx
      have HY := Lib.hid hy
      clear hcell hcell' hx hy hbel
      by_cases hxy : (⟨⟨x0, x1, x2, x3⟩, x4⟩ : Nm) = ⟨⟨y0, y1, y2, y3⟩, y4⟩
      · have HK2 : Hid (eqTo f g (k + 1) = true) := Lib.hid (by simp only [eqTo]; rw [HK.out, HX.out, HY.out, hxy]; simp)
        injection hxy with e1 e2
        injection e1 with e3 e4 e5 e6
        subst e2 e3 e4 e5 e6
        go_wp2_with fail
        go_region
        all_goals
          go_wp2_with fail
          go_roundw
          case rel => exact ⟨k + 1, by go_num, by omega, HK2, HB2.out.drew⟩
          case measure => simp [intOf]; omega
      · have HF : Hid (rr = false) := Lib.hid (by rw [← HRR.out]; exact eqTo_stop (k := k) (by rw [HX.out, HY.out]; exact hxy) n hlt)
        have hb0 := ne5 hxy
        clear hxy
        go_wp2_with fail
        go_region
        all_goals
          go_wp2_with fail
          go_returns
          exact ⟨by rw [HF.out] <;> rfl, HBL.out.drew⟩
    · obtain rfl : k = n := by omega
      have HF : Hid (rr = true) := Lib.hid (by rw [← HRR.out]; exact HK.out)
      clear hbel
      go_wp2_with fail
      go_returns
      exact ⟨by rw [HF.out] <;> rfl, HBL.out⟩
end Go.Proofs.Ytjodjfllgofkaaa
