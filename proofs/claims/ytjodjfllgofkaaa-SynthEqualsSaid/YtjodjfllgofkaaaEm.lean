import Derived.Test.YtjodjfllgofkaaaMo
import Derived.RegionTactic
import Derived.Test.YtjodjfllgofkaaaCi
import Derived.Test.YtjodjfllgofkaaaSm
namespace Prm
open Amp
instance : DecidableEq Nm := fun x y => by
  obtain ⟨⟨a, b, c, d⟩, k⟩ := x
  obtain ⟨⟨a', b', c', d'⟩, k'⟩ := y
  exact if h : a = a' ∧ b = b' ∧ c = c' ∧ d = d' ∧ k = k' then isTrue (by obtain ⟨rfl, rfl, rfl, rfl, rfl⟩ := h; rfl) else isFalse (by intro e; injection e with e1 e2; injection e1 with e3 e4 e5 e6; exact h ⟨e3, e4, e5, e6, e2⟩)
/-- Are the first k numbers of two lists the same? -/
def eqTo (f g : Nat → Nm) : Nat → Bool
  | 0 => true
  | k + 1 => eqTo f g k && decide (f k = g k)
theorem eqTo_stop {f g : Nat → Nm} {k : Nat} (h : ¬ f k = g k) : ∀ m, k < m → eqTo f g m = false := by
  intro m
  induction m with
  | zero => intro h; omega
  | succ m ih =>
    intro hk
    simp only [eqTo]
    by_cases e : k = m
    · subst e; rw [decide_eq_false h]; simp
    · rw [ih (by omega)]; rfl
theorem ne5 {a b c d k a' b' c' d' k' : Int} (h : ¬ (⟨⟨a, b, c, d⟩, k⟩ : Nm) = ⟨⟨a', b', c', d'⟩, k'⟩) : (a == a' && (b == b' && (c == c' && (d == d' && k == k')))) = false := by
  cases e : (a == a' && (b == b' && (c == c' && (d == d' && k == k')))) with
  | false => rfl
  | true =>
    simp only [Bool.and_eq_true, beq_iff_eq] at e
    obtain ⟨rfl, rfl, rfl, rfl, rfl⟩ := e
    exact absurd rfl h
end Prm
namespace Go.Proofs.Ytjodjfllgofkaaa
open Go.RowKit Amp Prm
attribute [local go_sem] ix0 ix1 ix2 ix3 jx0 jx1 jx2 jx3
attribute [local go_sem high] run_eqNum run_neNum

set_option maxRecDepth 100000 in
set_option maxHeartbeats 2000000 in
theorem eqNums_any (ao bo : Option Addr) (n cap cap' : Nat) (f g : Nat → Nm) (w : World) (hn : n ≤ 9223372036854775807) (hc : Nums w ao n f) (hd : Nums w bo n g) :
    Calls Try.prog 71 #[.slice ao n cap, .slice bo n cap'] w fun e w' => e = .returned (.bool (eqTo f g n)) ∧ Below w.heap.size w w' := by
  have HC := Lib.hid hc
  have HD := Lib.hid hd
  clear hc hd
  obtain ⟨rr, hrr⟩ : ∃ rr, eqTo f g n = rr := ⟨_, rfl⟩
  have HRR := Lib.hid hrr
  rw [hrr]
  clear hrr
  go_enter Try.func71, Try.ntmps71
  go_wp2_with fail
  go_loopw [5, 13] (fun _ i wr => ∃ k : Nat, i = .int .i64 k ∧ k ≤ n ∧ Hid (eqTo f g k = true) ∧ Below w.heap.size w wr) (fun _ i _ => n - (intOf i).toNat)
  case atStart => exact ⟨0, rfl, Nat.zero_le _, Lib.hid rfl, Below.refl _ _⟩
  case round =>
    obtain ⟨k, rfl, hk, HK, hbel⟩ := hrel
    have hsz := hbel.size
    by_cases hlt : k < n
    · obtain ⟨b, o, rfl, hcell⟩ := (Nums.keep HC.out hbel) (by omega)
      obtain ⟨c0, c1, c2, c3, c4⟩ := hcell k hlt
      obtain ⟨b', o', rfl, hcell'⟩ := (Nums.keep HD.out hbel) (by omega)
      obtain ⟨d0, d1, d2, d3, d4⟩ := hcell' k hlt
      have hlt' : (k : Int) < (n : Int) := by omega
      obtain ⟨⟨⟨x0, x1, x2, x3⟩, x4⟩, hx⟩ : ∃ x, f k = x := ⟨_, rfl⟩
      obtain ⟨⟨⟨y0, y1, y2, y3⟩, y4⟩, hy⟩ : ∃ y, g k = y := ⟨_, rfl⟩
      rw [hx] at c0 c1 c2 c3 c4
      rw [hy] at d0 d1 d2 d3 d4
      simp only at c0 c1 c2 c3 c4 d0 d1 d2 d3 d4
      have HX := Lib.hid hx
      have HY := Lib.hid hy
      clear hcell hcell' hx hy
      by_cases hxy : (⟨⟨x0, x1, x2, x3⟩, x4⟩ : Nm) = ⟨⟨y0, y1, y2, y3⟩, y4⟩
      · have HK2 : Hid (eqTo f g (k + 1) = true) := Lib.hid (by simp only [eqTo]; rw [HK.out, HX.out, HY.out, hxy]; simp)
        injection hxy with e1 e2
        injection e1 with e3 e4 e5 e6
        subst e2 e3 e4 e5 e6
        go_wp2_with fail
        go_region
        all_goals
          go_wp2_with fail
          go_roundw
          case rel => exact ⟨k + 1, by go_num, by omega, HK2, by go_grown⟩
          case measure => simp [intOf]; omega
      · have HF : Hid (rr = false) := Lib.hid (by rw [← HRR.out]; exact eqTo_stop (k := k) (by rw [HX.out, HY.out]; exact hxy) n hlt)
        have hb0 := ne5 hxy
        clear hxy
        go_wp2_with fail
        go_region
        all_goals
          go_wp2_with fail
          go_returns
          exact ⟨by rw [HF.out] <;> rfl, by go_grown⟩
    · obtain rfl : k = n := by omega
      have HF : Hid (rr = true) := Lib.hid (by rw [← HRR.out]; exact HK.out)
      go_wp2_with fail
      go_returns
      exact ⟨by rw [HF.out] <;> rfl, hbel⟩

set_option maxRecDepth 100000 in
set_option maxHeartbeats 2000000 in
theorem rSame_any (N : Int) (ao bo : Option Addr) (n cap cap' : Nat) (f g : Nat → Nm) (w : World) (hn : n ≤ 9223372036854775807) (hc : Nums w ao n f) (hd : Nums w bo n g) :
    Calls Try.prog 38 #[.agg #[.int .i64 N, .slice ao n cap], .agg #[.int .i64 N, .slice bo n cap']] w fun e w' => e = .returned (.bool (eqTo f g n)) ∧ Below w.heap.size w w' := by
  have HC := Lib.hid hc
  have HD := Lib.hid hd
  clear hc hd
  obtain ⟨rr, hrr⟩ : ∃ rr, eqTo f g n = rr := ⟨_, rfl⟩
  have HRR := Lib.hid hrr
  rw [hrr]
  clear hrr
  go_enter Try.func38, Try.ntmps38
  go_wp2_with fail
  go_loopw [5] (fun i wr => ∃ k : Nat, i = .int .i64 k ∧ k ≤ n ∧ Hid (eqTo f g k = true) ∧ Below (w.heap.size + 2) ((w.alloc (.cells #[.int .i64 N, .slice ao n cap] 26)).alloc (.cells #[.int .i64 N, .slice bo n cap'] 26)) wr) (fun i _ => n - (intOf i).toNat)
  case atStart => exact ⟨0, rfl, Nat.zero_le _, Lib.hid rfl, Below.refl _ _⟩
  case round =>
    obtain ⟨k, rfl, hk, HK, hb2⟩ := hrel
    have hbel : Below w.heap.size w wr := (((Below.refl _ w).alloc (Nat.le_refl _) _).alloc (by simp) _).trans (hb2.mono (by omega))
    have HB2 := Lib.hid hb2
    have e0 := fun b j (h : b < w.heap.size + 2) => hb2.cell (p := ⟨b, j, none⟩) h
    have q0 := (e0 w.heap.size 0 (by omega)).trans (by go_cell : _ = some (.int .i64 N))
    have q1 := (e0 w.heap.size 1 (by omega)).trans (by go_cell : _ = some (.slice ao n cap))
    have r0 := (e0 (w.heap.size + 1) 0 (by omega)).trans (by go_cell : _ = some (.int .i64 N))
    have r1 := (e0 (w.heap.size + 1) 1 (by omega)).trans (by go_cell : _ = some (.slice bo n cap'))
    have HBL := Lib.hid hbel
    clear e0 hb2
    by_cases hlt : k < n
    · obtain ⟨b, o, rfl, hcell⟩ := (Nums.keep HC.out hbel) (by omega)
      obtain ⟨c0, c1, c2, c3, c4⟩ := hcell k hlt
      obtain ⟨b', o', rfl, hcell'⟩ := (Nums.keep HD.out hbel) (by omega)
      obtain ⟨d0, d1, d2, d3, d4⟩ := hcell' k hlt
      have hlt' : (k : Int) < (n : Int) := by omega
      obtain ⟨⟨⟨x0, x1, x2, x3⟩, x4⟩, hx⟩ : ∃ x, f k = x := ⟨_, rfl⟩
      obtain ⟨⟨⟨y0, y1, y2, y3⟩, y4⟩, hy⟩ : ∃ y, g k = y := ⟨_, rfl⟩
      rw [hx] at c0 c1 c2 c3 c4
      rw [hy] at d0 d1 d2 d3 d4
      simp only at c0 c1 c2 c3 c4 d0 d1 d2 d3 d4
      have HX := Lib.hid hx
      have HY := Lib.hid hy
      clear hcell hcell' hx hy hbel
      by_cases hxy : (⟨⟨x0, x1, x2, x3⟩, x4⟩ : Nm) = ⟨⟨y0, y1, y2, y3⟩, y4⟩
      · have HK2 : Hid (eqTo f g (k + 1) = true) := Lib.hid (by simp only [eqTo]; rw [HK.out, HX.out, HY.out, hxy]; simp)
        injection hxy with e1 e2
        injection e1 with e3 e4 e5 e6
        subst e2 e3 e4 e5 e6
        go_wp2_with fail
        go_region
        all_goals
          go_wp2_with fail
          go_roundw
          case rel => exact ⟨k + 1, by go_num, by omega, HK2, HB2.out.drew⟩
          case measure => simp [intOf]; omega
      · have HF : Hid (rr = false) := Lib.hid (by rw [← HRR.out]; exact eqTo_stop (k := k) (by rw [HX.out, HY.out]; exact hxy) n hlt)
        have hb0 := ne5 hxy
        clear hxy
        go_wp2_with fail
        go_region
        all_goals
          go_wp2_with fail
          go_returns
          exact ⟨by rw [HF.out] <;> rfl, HBL.out.drew⟩
    · obtain rfl : k = n := by omega
      have HF : Hid (rr = true) := Lib.hid (by rw [← HRR.out]; exact HK.out)
      clear hbel
      go_wp2_with fail
      go_returns
      exact ⟨by rw [HF.out] <;> rfl, HBL.out⟩
end Go.Proofs.Ytjodjfllgofkaaa

namespace Go.Proofs.Ytjodjfllgofkaaa
open Go.RowKit Amp Prm
/-- The error of Equal. -/
def eqE (N : Int) (len len' : Nat) (f f' : Nat → It) : Int :=
  if askS N len f ≠ 0 then askS N len f else if askS N len' f' ≠ 0 then askS N len' f' else if (prodS N.toNat f len).2 ≠ 0 then (prodS N.toNat f len).2 else (prodS N.toNat f' len').2
def eqV (N : Int) (len len' : Nat) (f f' : Nat → It) : Bool := decide (eqE N len len' f f' = 0) && eqTo (prodS N.toNat f len).1 (prodS N.toNat f' len').1 (N.toNat * N.toNat)
theorem eqV_bad {N : Int} {len len' : Nat} {f f' : Nat → It} (h : eqE N len len' f f' ≠ 0) : eqV N len len' f f' = false := by unfold eqV; rw [decide_eq_false h]; rfl
theorem eqE_1 {N : Int} {len len' : Nat} {f f' : Nat → It} (h : askS N len f ≠ 0) : eqE N len len' f f' = askS N len f := by unfold eqE; rw [if_pos h]
theorem eqE_2 {N : Int} {len len' : Nat} {f f' : Nat → It} (h : askS N len f = 0) (h2 : askS N len' f' ≠ 0) : eqE N len len' f f' = askS N len' f' := by unfold eqE; rw [if_neg (fun e => e h), if_pos h2]
theorem eqE_3 {n : Nat} {len len' : Nat} {f f' : Nat → It} (h : askS n len f = 0) (h2 : askS n len' f' = 0) (h3 : (prodS n f len).2 ≠ 0) : eqE n len len' f f' = (prodS n f len).2 := by unfold eqE; rw [if_neg (fun e => e h), if_neg (fun e => e h2), Int.toNat_natCast, if_pos h3]
theorem eqE_4 {n : Nat} {len len' : Nat} {f f' : Nat → It} (h : askS n len f = 0) (h2 : askS n len' f' = 0) (h3 : (prodS n f len).2 = 0) : eqE n len len' f f' = (prodS n f' len').2 := by unfold eqE; rw [if_neg (fun e => e h), if_neg (fun e => e h2), Int.toNat_natCast, if_neg (fun e => e h3)]
theorem eqV_ok {n : Nat} {len len' : Nat} {f f' : Nat → It} (h : eqE n len len' f f' = 0) : eqV n len len' f f' = eqTo (prodS n f len).1 (prodS n f' len').1 (n * n) := by unfold eqV; rw [decide_eq_true h, Int.toNat_natCast]; rfl
attribute [local go_sem] ix0 ix1 ix2 ix3 jx0 jx1 jx2 jx3
attribute [local go_sem high] run_eqNum run_neNum

def EqIs (w : World) (e : Ending) (v : Bool) (er : Int) (w' : World) : Prop := e = .returned (.tuple #[.bool v, .int .i64 er]) ∧ Below w.heap.size w w'

set_option maxRecDepth 100000 in
set_option maxHeartbeats 4000000 in
theorem equal_bad (N : Int) (len lap len' lap' : Nat) (ao bo : Option Addr) (f f' : Nat → It) (w : World) (hlen : len ≤ 9223372036854775807) (hlen' : len' ≤ 9223372036854775807) (hc : Its w ao len f) (hd : Its w bo len' f') (hbad : ¬ (askS N len f = 0 ∧ askS N len' f' = 0)) :
    Calls Try.prog 31 #[.int .i64 N, .slice ao len lap, .slice bo len' lap'] w fun e w' => EqIs w e (eqV N len len' f f') (eqE N len len' f f') w' := by
  have HC := Lib.hid hc
  have HD := Lib.hid hd
  clear hc hd
  by_cases ha : ¬ askS N len f = 0
  · have HV : Hid (eqV N len len' f f' = false) := Lib.hid (eqV_bad (by rw [eqE_1 ha]; exact ha))
    have HE : Hid (eqE N len len' f f' = askS N len f) := Lib.hid (eqE_1 ha)
    obtain ⟨er, her⟩ : ∃ er, askS N len f = er := ⟨_, rfl⟩
    rw [her] at ha
    have HER := Lib.hid her
    have hb0 : (er == 0) = false := beq_eq_false_iff_ne.2 ha
    have hb1 : (er != 0) = true := bne_iff_ne.2 ha
    rw [HV.out, HE.out, HER.out]
    clear ha her hbad
    go_enter Try.func31, Try.ntmps31
    go_wp2_with fail
    go_loopw [9, 10, 18] (fun _ _ i wr => i = .int .i64 0 ∧ Below (w.heap.size + 1) (w.alloc (.cells #[.slice ao len lap, .slice bo len' lap'] 22)) wr) (fun _ _ _ _ => 0)
    case atStart => exact ⟨rfl, Below.refl _ _⟩
    case round =>
      obtain ⟨rfl, hb2⟩ := hrel
      have hbel : Below w.heap.size w wr := ((Below.refl _ w).alloc (Nat.le_refl _) _).trans (hb2.mono (by omega))
      have q0 := (hb2.cell (p := ⟨w.heap.size, 0, none⟩) (Nat.lt_succ_self _)).trans (by go_cell : _ = some (.slice ao len lap))
      have HBL := Lib.hid hbel
      clear hb2 hbel
      go_wp2_with fail
      refine (checkItems_any N len lap ao f _ hlen (HC.out.keep HBL.out)).mono ?_
      rw [HER.out]
      rintro e w1 ⟨rfl, hb⟩
      have D1 := HBL.out.trans (hb.mono HBL.out.size)
      clear hb
      go_wp2_with fail
      go_returns
      exact ⟨rfl, D1⟩
  have ha0 : askS N len f = 0 := Decidable.not_not.1 ha
  have hb' : ¬ askS N len' f' = 0 := fun h => hbad ⟨ha0, h⟩
  have HV : Hid (eqV N len len' f f' = false) := Lib.hid (eqV_bad (by rw [eqE_2 ha0 hb']; exact hb'))
  have HE : Hid (eqE N len len' f f' = askS N len' f') := Lib.hid (eqE_2 ha0 hb')
  have HER0 := Lib.hid ha0
  obtain ⟨er, her⟩ : ∃ er, askS N len' f' = er := ⟨_, rfl⟩
  rw [her] at hb'
  have HER := Lib.hid her
  have hb0 : (er == 0) = false := beq_eq_false_iff_ne.2 hb'
  have hb1 : (er != 0) = true := bne_iff_ne.2 hb'
  rw [HV.out, HE.out, HER.out]
  clear ha ha0 hb' her hbad
  go_enter Try.func31, Try.ntmps31
  go_wp2_with fail
  go_loopw [9, 10, 18] (fun _ _ i wr => ∃ k : Nat, i = .int .i64 k ∧ k ≤ 1 ∧ Below (w.heap.size + 1) (w.alloc (.cells #[.slice ao len lap, .slice bo len' lap'] 22)) wr) (fun _ _ i _ => 2 - (intOf i).toNat)
  case atStart => exact ⟨0, rfl, by omega, Below.refl _ _⟩
  case round =>
    obtain ⟨k, rfl, hk, hb2⟩ := hrel
    have hbel : Below w.heap.size w wr := ((Below.refl _ w).alloc (Nat.le_refl _) _).trans (hb2.mono (by omega))
    have q0 := (hb2.cell (p := ⟨w.heap.size, 0, none⟩) (Nat.lt_succ_self _)).trans (by go_cell : _ = some (.slice ao len lap))
    have q1 := (hb2.cell (p := ⟨w.heap.size, 1, none⟩) (Nat.lt_succ_self _)).trans (by go_cell : _ = some (.slice bo len' lap'))
    have HBL := Lib.hid hbel
    have HB2 := Lib.hid hb2
    clear hb2 hbel
    rcases (show k = 0 ∨ k = 1 by omega) with rfl | rfl
    · go_wp2_with fail
      refine (checkItems_any N len lap ao f _ hlen (HC.out.keep HBL.out)).mono ?_
      rw [HER0.out]
      rintro e w1 ⟨rfl, hb⟩
      have hz := HB2.out.size
      have D1 := Lib.hid (HB2.out.trans (hb.mono (by simp at hz; omega)))
      clear hb q0 q1
      go_wp2_with fail
      go_roundw
      case rel => exact ⟨1, by go_num, by omega, D1.out⟩
      case measure => simp [intOf]
    · go_wp2_with fail
      refine (checkItems_any N len' lap' bo f' _ hlen' (HD.out.keep HBL.out)).mono ?_
      rw [HER.out]
      rintro e w1 ⟨rfl, hb⟩
      have D1 := HBL.out.trans (hb.mono HBL.out.size)
      clear hb
      go_wp2_with fail
      go_returns
      exact ⟨rfl, D1⟩
end Go.Proofs.Ytjodjfllgofkaaa

namespace Go.Proofs.Ytjodjfllgofkaaa
open Go.RowKit Amp Prm
attribute [local go_sem] ix0 ix1 ix2 ix3 jx0 jx1 jx2 jx3
attribute [local go_sem high] run_eqNum run_neNum

set_option maxRecDepth 100000 in
set_option maxHeartbeats 4000000 in
theorem equal_ok (n len lap len' lap' : Nat) (ao bo : Option Addr) (f f' : Nat → It) (w : World) (hlen : len ≤ 9223372036854775807) (hlen' : len' ≤ 9223372036854775807) (hc : Its w ao len f) (hd : Its w bo len' f') (ha : askS n len f = 0) (hb : askS n len' f' = 0) :
    Calls Try.prog 31 #[.int .i64 n, .slice ao len lap, .slice bo len' lap'] w fun e w' => EqIs w e (eqV n len len' f f') (eqE n len len' f f') w' := by
  have HC := Lib.hid hc
  have HD := Lib.hid hd
  have HA := Lib.hid ha
  have HB := Lib.hid hb
  have HN : Hid (n ≤ 6) := Lib.hid (by have := askS_ok ha; omega)
  obtain ⟨er, her⟩ : ∃ er, eqE n len len' f f' = er := ⟨_, rfl⟩
  obtain ⟨ev, hev⟩ : ∃ ev, eqV n len len' f f' = ev := ⟨_, rfl⟩
  have HER := Lib.hid her
  have HEV := Lib.hid hev
  rw [her, hev]
  clear hc hd ha hb her hev
  go_enter Try.func31, Try.ntmps31
  go_wp2_with fail
  go_loopw [9, 10, 18] (fun _ _ i wr => ∃ k : Nat, i = .int .i64 k ∧ k ≤ 2 ∧ Below (w.heap.size + 1) (w.alloc (.cells #[.slice ao len lap, .slice bo len' lap'] 22)) wr) (fun _ _ i _ => 2 - (intOf i).toNat)
  case atStart => exact ⟨0, rfl, by omega, Below.refl _ _⟩
  case round =>
    obtain ⟨k, rfl, hk, hb2⟩ := hrel
    have hbel : Below w.heap.size w wr := ((Below.refl _ w).alloc (Nat.le_refl _) _).trans (hb2.mono (by omega))
    have q0 := (hb2.cell (p := ⟨w.heap.size, 0, none⟩) (Nat.lt_succ_self _)).trans (by go_cell : _ = some (.slice ao len lap))
    have q1 := (hb2.cell (p := ⟨w.heap.size, 1, none⟩) (Nat.lt_succ_self _)).trans (by go_cell : _ = some (.slice bo len' lap'))
    have HBL := Lib.hid hbel
    have HB2 := Lib.hid hb2
    clear hb2 hbel
    rcases (show k = 0 ∨ k = 1 ∨ k = 2 by omega) with rfl | rfl | rfl
    · go_wp2_with fail
      refine (checkItems_any n len lap ao f _ hlen (HC.out.keep HBL.out)).mono ?_
      rw [HA.out]
      rintro e w1 ⟨rfl, hb⟩
      have hz := HB2.out.size
      have D1 := Lib.hid (HB2.out.trans (hb.mono (by simp at hz; omega)))
      clear hb q0 q1
      go_wp2_with fail
      go_roundw
      case rel => exact ⟨1, by go_num, by omega, D1.out⟩
      case measure => simp [intOf]
    · go_wp2_with fail
      refine (checkItems_any n len' lap' bo f' _ hlen' (HD.out.keep HBL.out)).mono ?_
      rw [HB.out]
      rintro e w1 ⟨rfl, hb⟩
      have hz := HB2.out.size
      have D1 := Lib.hid (HB2.out.trans (hb.mono (by simp at hz; omega)))
      clear hb q0 q1
      go_wp2_with fail
      go_roundw
      case rel => exact ⟨2, by go_num, by omega, D1.out⟩
      case measure => simp [intOf]
    · clear q0 q1 HB2
      go_wp2_with fail
      refine (matrixOf_ok n len lap ao f _ hlen (HC.out.keep HBL.out) HA).mono ?_
      rintro e w1 ⟨h1, hb⟩
      have D1 := Lib.hid (HBL.out.trans (hb.mono HBL.out.size))
      clear hb HBL
      obtain ⟨p1, hp1⟩ : ∃ p1, (prodS n f len).2 = p1 := ⟨_, rfl⟩
      rw [hp1] at h1
      have HP1 := Lib.hid hp1
      clear hp1
      rcases h1 with ⟨rfl, g, cap, rfl, hw1, hg1, _, _⟩ | ⟨hne, rfl⟩
      · have HW1 := Lib.hid hw1
        have hgs : 0 < n → g < w1.heap.size := fun h => World.block_lt_of_cell? w1 _ (hw1 0 (Nat.mul_pos h h)).1.1
        have hsz1 := D1.out.size
        clear hw1
        go_wp2_with fail
        have D2 := Lib.hid (D1.out.alloc hsz1 (.cells #[.int .i64 n, .slice (some ⟨g, 0, none⟩) (n * n) cap] 26))
        refine (matrixOf_ok n len' lap' bo f' _ hlen' (HD.out.keep D2.out) HB).mono ?_
        rintro e w3 ⟨h3, hb⟩
        have hb0 : Below w1.heap.size w1 w3 := ((Below.refl _ w1).alloc (Nat.le_refl _) _).trans (hb.mono (by simp))
        have HW3 := Lib.hid (HW1.out.keep hb0)
        have D3 := Lib.hid (D1.out.trans (hb0.mono hsz1))
        have q0 := (hb.cell (p := ⟨w1.heap.size, 0, none⟩) (by simp)).trans (by go_cell : _ = some (.int .i64 n))
        have q1 := (hb.cell (p := ⟨w1.heap.size, 1, none⟩) (by simp)).trans (by go_cell : _ = some (.slice (some ⟨g, 0, none⟩) (n * n) cap))
        have hs3 : w1.heap.size < w3.heap.size := by have := hb.size; simp at this; omega
        have HE4 : Hid (er = (prodS n f' len').2) := Lib.hid (by rw [← HER.out, eqE_4 HA.out HB.out HP1.out])
        clear hb hb0
        obtain ⟨p2, hp2⟩ : ∃ p2, (prodS n f' len').2 = p2 := ⟨_, rfl⟩
        rw [hp2] at h3
        have HP2 := Lib.hid hp2
        clear hp2
        rcases h3 with ⟨rfl, g', cap', rfl, hw3, _, _, _⟩ | ⟨hne, rfl⟩
        · have HW4 := Lib.hid hw3
          have HE0 : Hid (er = 0) := Lib.hid (by rw [HE4.out, HP2.out])
          have HV0 : Hid (ev = eqTo (prodS n f len).1 (prodS n f' len').1 (n * n)) := Lib.hid (by rw [← HEV.out]; exact eqV_ok (by rw [HER.out]; exact HE0.out))
          have D4 := Lib.hid (D3.out.alloc D3.out.size (.cells #[.int .i64 n, .slice (some ⟨g', 0, none⟩) (n * n) cap'] 26))
          have h36 : n * n ≤ 36 := Nat.mul_le_mul HN.out HN.out
          have H36 := Lib.hid h36
          clear hw3 h36
          go_wp2_with fail
          refine (eqNums_any (some ⟨g, 0, none⟩) (some ⟨g', 0, none⟩) (n * n) cap cap' (prodS n f len).1 (prodS n f' len').1 _ (by have := H36.out; omega) (HW3.out.keep ((Below.refl _ _).alloc (Nat.le_refl _) _)).nums (HW4.out.keep ((Below.refl _ _).alloc (Nat.le_refl _) _)).nums).mono ?_
          rw [← HV0.out]
          rintro e w5 ⟨rfl, hb⟩
          have D5 := D4.out.trans (hb.mono D4.out.size)
          clear hb q0 q1
          go_wp2_with fail
          go_returns
          exact ⟨by rw [HE0.out] <;> rfl, D5⟩
        · have HE0 : Hid (er = p2) := Lib.hid (by rw [HE4.out, HP2.out])
          have HV0 : Hid (ev = false) := Lib.hid (by rw [← HEV.out]; exact eqV_bad (by rw [HER.out, HE0.out]; exact hne))
          have hb0 : (p2 == 0) = false := beq_eq_false_iff_ne.2 hne
          have hb1 : (p2 != 0) = true := bne_iff_ne.2 hne
          have D4 := Lib.hid (D3.out.alloc D3.out.size (.cells #[.int .i64 0, .slice none 0 0] 26))
          clear hne
          go_wp2_with fail
          go_returns
          exact ⟨by rw [HE0.out, HV0.out] <;> rfl, D4.out⟩
      · have HE0 : Hid (er = p1) := Lib.hid (by rw [← HER.out, eqE_3 HA.out HB.out (by rw [HP1.out]; exact hne), HP1.out])
        have HV0 : Hid (ev = false) := Lib.hid (by rw [← HEV.out]; exact eqV_bad (by rw [HER.out, HE0.out]; exact hne))
        have hb0 : (p1 == 0) = false := beq_eq_false_iff_ne.2 hne
        have hb1 : (p1 != 0) = true := bne_iff_ne.2 hne
        have D2 := Lib.hid (D1.out.alloc D1.out.size (.cells #[.int .i64 0, .slice none 0 0] 26))
        clear hne
        go_wp2_with fail
        go_returns
        exact ⟨by rw [HE0.out, HV0.out] <;> rfl, D2.out⟩

set_option maxRecDepth 100000 in
set_option maxHeartbeats 4000000 in
theorem rEqual_bad (N : Int) (len lap len' lap' : Nat) (ao bo : Option Addr) (f f' : Nat → It) (w : World) (hlen : len ≤ 9223372036854775807) (hlen' : len' ≤ 9223372036854775807) (hc : Its w ao len f) (hd : Its w bo len' f') (hbad : ¬ (askS N len f = 0 ∧ askS N len' f' = 0)) :
    Calls Try.prog 32 #[.int .i64 N, .slice ao len lap, .slice bo len' lap'] w fun e w' => EqIs w e (eqV N len len' f f') (eqE N len len' f f') w' := by
  have HC := Lib.hid hc
  have HD := Lib.hid hd
  clear hc hd
  by_cases ha : ¬ askS N len f = 0
  · have HV : Hid (eqV N len len' f f' = false) := Lib.hid (eqV_bad (by rw [eqE_1 ha]; exact ha))
    have HE : Hid (eqE N len len' f f' = askS N len f) := Lib.hid (eqE_1 ha)
    obtain ⟨er, her⟩ : ∃ er, askS N len f = er := ⟨_, rfl⟩
    rw [her] at ha
    have HER := Lib.hid her
    have hb0 : (er == 0) = false := beq_eq_false_iff_ne.2 ha
    have hb1 : (er != 0) = true := bne_iff_ne.2 ha
    rw [HV.out, HE.out, HER.out]
    clear ha her hbad
    go_enter Try.func32, Try.ntmps32
    go_wp2_with fail
    refine (rItems_any N len lap ao f _ hlen HC.out).mono ?_
    rw [HER.out]
    rintro e w1 ⟨rfl, hb⟩
    have D1 := Lib.hid hb
    clear hb
    go_wp2_with fail
    go_returns
    exact ⟨rfl, D1.out⟩
  have ha0 : askS N len f = 0 := Decidable.not_not.1 ha
  have hb' : ¬ askS N len' f' = 0 := fun h => hbad ⟨ha0, h⟩
  have HV : Hid (eqV N len len' f f' = false) := Lib.hid (eqV_bad (by rw [eqE_2 ha0 hb']; exact hb'))
  have HE : Hid (eqE N len len' f f' = askS N len' f') := Lib.hid (eqE_2 ha0 hb')
  have HER0 := Lib.hid ha0
  obtain ⟨er, her⟩ : ∃ er, askS N len' f' = er := ⟨_, rfl⟩
  rw [her] at hb'
  have HER := Lib.hid her
  have hb0 : (er == 0) = false := beq_eq_false_iff_ne.2 hb'
  have hb1 : (er != 0) = true := bne_iff_ne.2 hb'
  rw [HV.out, HE.out, HER.out]
  clear ha ha0 hb' her hbad
  go_enter Try.func32, Try.ntmps32
  go_wp2_with fail
  refine (rItems_any N len lap ao f _ hlen HC.out).mono ?_
  rw [HER0.out]
  rintro e w1 ⟨rfl, hb⟩
  have D1 := Lib.hid hb
  clear hb
  go_wp2_with fail
  refine (rItems_any N len' lap' bo f' _ hlen' (HD.out.keep D1.out)).mono ?_
  rw [HER.out]
  rintro e w2 ⟨rfl, hb⟩
  have D2 := Lib.hid (D1.out.trans (hb.mono D1.out.size))
  clear hb D1
  go_wp2_with fail
  go_returns
  exact ⟨rfl, D2.out⟩

set_option maxRecDepth 100000 in
set_option maxHeartbeats 4000000 in
theorem rEqual_ok (n len lap len' lap' : Nat) (ao bo : Option Addr) (f f' : Nat → It) (w : World) (hlen : len ≤ 9223372036854775807) (hlen' : len' ≤ 9223372036854775807) (hc : Its w ao len f) (hd : Its w bo len' f') (ha : askS n len f = 0) (hb : askS n len' f' = 0) :
    Calls Try.prog 32 #[.int .i64 n, .slice ao len lap, .slice bo len' lap'] w fun e w' => EqIs w e (eqV n len len' f f') (eqE n len len' f f') w' := by
  have HC := Lib.hid hc
  have HD := Lib.hid hd
  have HA := Lib.hid ha
  have HB := Lib.hid hb
  have HN : Hid (n ≤ 6) := Lib.hid (by have := askS_ok ha; omega)
  obtain ⟨er, her⟩ : ∃ er, eqE n len len' f f' = er := ⟨_, rfl⟩
  obtain ⟨ev, hev⟩ : ∃ ev, eqV n len len' f f' = ev := ⟨_, rfl⟩
  have HER := Lib.hid her
  have HEV := Lib.hid hev
  rw [her, hev]
  clear hc hd ha hb her hev
  go_enter Try.func32, Try.ntmps32
  go_wp2_with fail
  refine (rItems_any n len lap ao f _ hlen HC.out).mono ?_
  rw [HA.out]
  rintro e wa ⟨rfl, hb⟩
  have DA := Lib.hid hb
  clear hb
  go_wp2_with fail
  refine (rItems_any n len' lap' bo f' _ hlen' (HD.out.keep DA.out)).mono ?_
  rw [HB.out]
  rintro e wb ⟨rfl, hb⟩
  have HBL := Lib.hid (DA.out.trans (hb.mono DA.out.size))
  clear hb DA
  go_wp2_with fail
  refine (rMatrixOf_ok n len lap ao f _ hlen (HC.out.keep HBL.out) HA).mono ?_
  rintro e w1 ⟨h1, hb⟩
  have D1 := Lib.hid (HBL.out.trans (hb.mono HBL.out.size))
  clear hb HBL
  obtain ⟨p1, hp1⟩ : ∃ p1, (prodS n f len).2 = p1 := ⟨_, rfl⟩
  rw [hp1] at h1
  have HP1 := Lib.hid hp1
  clear hp1
  rcases h1 with ⟨rfl, g, cap, rfl, hw1, hg1, _, _⟩ | ⟨hne, rfl⟩
  · have HW1 := Lib.hid hw1
    have hsz1 := D1.out.size
    clear hw1
    go_wp2_with fail
    have D2 := Lib.hid (D1.out.alloc hsz1 (.cells #[.int .i64 n, .slice (some ⟨g, 0, none⟩) (n * n) cap] 26))
    refine (rMatrixOf_ok n len' lap' bo f' _ hlen' (HD.out.keep D2.out) HB).mono ?_
    rintro e w3 ⟨h3, hb⟩
    have hb0 : Below w1.heap.size w1 w3 := ((Below.refl _ w1).alloc (Nat.le_refl _) _).trans (hb.mono (by simp))
    have HW3 := Lib.hid (HW1.out.keep hb0)
    have D3 := Lib.hid (D1.out.trans (hb0.mono hsz1))
    have q0 := (hb.cell (p := ⟨w1.heap.size, 0, none⟩) (by simp)).trans (by go_cell : _ = some (.int .i64 n))
    have q1 := (hb.cell (p := ⟨w1.heap.size, 1, none⟩) (by simp)).trans (by go_cell : _ = some (.slice (some ⟨g, 0, none⟩) (n * n) cap))
    have hs3 : w1.heap.size < w3.heap.size := by have := hb.size; simp at this; omega
    have HE4 : Hid (er = (prodS n f' len').2) := Lib.hid (by rw [← HER.out, eqE_4 HA.out HB.out HP1.out])
    clear hb hb0
    obtain ⟨p2, hp2⟩ : ∃ p2, (prodS n f' len').2 = p2 := ⟨_, rfl⟩
    rw [hp2] at h3
    have HP2 := Lib.hid hp2
    clear hp2
    rcases h3 with ⟨rfl, g', cap', rfl, hw3, _, _, _⟩ | ⟨hne, rfl⟩
    · have HW4 := Lib.hid hw3
      have HE0 : Hid (er = 0) := Lib.hid (by rw [HE4.out, HP2.out])
      have HV0 : Hid (ev = eqTo (prodS n f len).1 (prodS n f' len').1 (n * n)) := Lib.hid (by rw [← HEV.out]; exact eqV_ok (by rw [HER.out]; exact HE0.out))
      have D4 := Lib.hid (D3.out.alloc D3.out.size (.cells #[.int .i64 n, .slice (some ⟨g', 0, none⟩) (n * n) cap'] 26))
      have h36 : n * n ≤ 36 := Nat.mul_le_mul HN.out HN.out
      have H36 := Lib.hid h36
      clear hw3 h36
      go_wp2_with fail
      refine (rSame_any n (some ⟨g, 0, none⟩) (some ⟨g', 0, none⟩) (n * n) cap cap' (prodS n f len).1 (prodS n f' len').1 _ (by have := H36.out; omega) (HW3.out.keep ((Below.refl _ _).alloc (Nat.le_refl _) _)).nums (HW4.out.keep ((Below.refl _ _).alloc (Nat.le_refl _) _)).nums).mono ?_
      rw [← HV0.out]
      rintro e w5 ⟨rfl, hb⟩
      have D5 := D4.out.trans (hb.mono D4.out.size)
      clear hb q0 q1
      go_wp2_with fail
      go_returns
      exact ⟨by rw [HE0.out] <;> rfl, D5⟩
    · have HE0 : Hid (er = p2) := Lib.hid (by rw [HE4.out, HP2.out])
      have HV0 : Hid (ev = false) := Lib.hid (by rw [← HEV.out]; exact eqV_bad (by rw [HER.out, HE0.out]; exact hne))
      have hb0 : (p2 == 0) = false := beq_eq_false_iff_ne.2 hne
      have hb1 : (p2 != 0) = true := bne_iff_ne.2 hne
      have D4 := Lib.hid (D3.out.alloc D3.out.size (.cells #[.int .i64 0, .slice none 0 0] 26))
      clear hne
      go_wp2_with fail
      go_returns
      exact ⟨by rw [HE0.out, HV0.out] <;> rfl, D4.out⟩
  · have HE0 : Hid (er = p1) := Lib.hid (by rw [← HER.out, eqE_3 HA.out HB.out (by rw [HP1.out]; exact hne), HP1.out])
    have HV0 : Hid (ev = false) := Lib.hid (by rw [← HEV.out]; exact eqV_bad (by rw [HER.out, HE0.out]; exact hne))
    have hb0 : (p1 == 0) = false := beq_eq_false_iff_ne.2 hne
    have hb1 : (p1 != 0) = true := bne_iff_ne.2 hne
    have D2 := Lib.hid (D1.out.alloc D1.out.size (.cells #[.int .i64 0, .slice none 0 0] 26))
    clear hne
    go_wp2_with fail
    go_returns
    exact ⟨by rw [HE0.out, HV0.out] <;> rfl, D2.out⟩
end Go.Proofs.Ytjodjfllgofkaaa
