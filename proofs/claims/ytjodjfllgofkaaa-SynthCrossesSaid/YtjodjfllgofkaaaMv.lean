import Derived.Test.YtjodjfllgofkaaaE
import Derived.Test.YtjodjfllgofkaaaG
import Derived.Test.YtjodjfllgofkaaaSp2
namespace Amp
/-- P2.2: which matrices are valid, by the number of rows, how many elements there are, and these. -/
def mvS (N : Int) (n : Nat) (f : Nat → Nm) : Bool := decide (1 ≤ N ∧ N ≤ 6 ∧ (n : Int) = N * N) && okTo f n
theorem vld_bad {a b c d k : Int} (h : ¬ (-1000000000 ≤ a ∧ a ≤ 1000000000 ∧ -1000000000 ≤ b ∧ b ≤ 1000000000 ∧ -1000000000 ≤ c ∧ c ≤ 1000000000 ∧ -1000000000 ≤ d ∧ d ≤ 1000000000 ∧ 0 ≤ k ∧ k ≤ 40)) : vld ⟨⟨a, b, c, d⟩, k⟩ = false := by
  cases hv : vld ⟨⟨a, b, c, d⟩, k⟩
  · rfl
  · exfalso
    apply h
    obtain ⟨⟨a1, a2⟩, ⟨b1, b2⟩, ⟨c1, c2⟩, ⟨d1, d2⟩⟩ := vld_sm hv
    have := vld_k hv
    simp only at a1 a2 b1 b2 c1 c2 d1 d2 this
    omega
theorem vld_in {a b c d k : Int} (h : -1000000000 ≤ a ∧ a ≤ 1000000000 ∧ -1000000000 ≤ b ∧ b ≤ 1000000000 ∧ -1000000000 ≤ c ∧ c ≤ 1000000000 ∧ -1000000000 ≤ d ∧ d ≤ 1000000000) (h0 : 0 ≤ k) (h1 : k ≤ 40) :
    vld ⟨⟨a, b, c, d⟩, k⟩ = (k == 0 || !((a + c).tmod 2 == 0 && (b + d).tmod 2 == 0)) := by
  have hs : sm ⟨a, b, c, d⟩ = true := (sm_iff _).2 (by simp only [big, bg]; omega)
  unfold vld
  rw [hs, Bool.true_and]
  by_cases hk : k = 0
  · subst hk; rfl
  · rw [show (k == 0) = false from by simp [hk], decide_eq_true (show 0 < k by omega), decide_eq_true h1]
    rfl
theorem vld_k0 {a b c d k : Int} (h : -1000000000 ≤ a ∧ a ≤ 1000000000 ∧ -1000000000 ≤ b ∧ b ≤ 1000000000 ∧ -1000000000 ≤ c ∧ c ≤ 1000000000 ∧ -1000000000 ≤ d ∧ d ≤ 1000000000) (hk : k = 0) : vld ⟨⟨a, b, c, d⟩, k⟩ = true := by
  rw [vld_in h (by omega) (by omega), hk]; rfl
theorem vld_t1 {a b c d k : Int} (h : -1000000000 ≤ a ∧ a ≤ 1000000000 ∧ -1000000000 ≤ b ∧ b ≤ 1000000000 ∧ -1000000000 ≤ c ∧ c ≤ 1000000000 ∧ -1000000000 ≤ d ∧ d ≤ 1000000000) (h0 : 0 ≤ k) (h1 : k ≤ 40) (ht : ¬ (a + c).tmod 2 = 0) : vld ⟨⟨a, b, c, d⟩, k⟩ = true := by
  rw [vld_in h h0 h1, show ((a + c).tmod 2 == 0) = false from by simp [ht]]; simp
theorem vld_t2 {a b c d k : Int} (h : -1000000000 ≤ a ∧ a ≤ 1000000000 ∧ -1000000000 ≤ b ∧ b ≤ 1000000000 ∧ -1000000000 ≤ c ∧ c ≤ 1000000000 ∧ -1000000000 ≤ d ∧ d ≤ 1000000000) (h0 : 0 ≤ k) (h1 : k ≤ 40) (ht : (a + c).tmod 2 = 0) : vld ⟨⟨a, b, c, d⟩, k⟩ = (k == 0 || (b + d).tmod 2 != 0) := by
  rw [vld_in h h0 h1, ht]; rfl
theorem mvS_no {N : Int} {n : Nat} {f : Nat → Nm} (h : ¬ (1 ≤ N ∧ N ≤ 6)) : mvS N n f = false := by
  unfold mvS; rw [decide_eq_false (by omega)]; rfl
theorem mvS_ne {N : Int} {n : Nat} {f : Nat → Nm} (h : ¬ (n : Int) = N * N) : mvS N n f = false := by
  unfold mvS; rw [decide_eq_false (fun hh => h hh.2.2)]; rfl
theorem mvS_go {N : Int} {n : Nat} {f : Nat → Nm} (h : 1 ≤ N ∧ N ≤ 6) (hn : (n : Int) = N * N) : mvS N n f = okTo f n := by
  unfold mvS; rw [decide_eq_true ⟨h.1, h.2, hn⟩]; rfl
theorem sq_bd {N : Int} (h : 1 ≤ N ∧ N ≤ 6) : 1 ≤ N * N ∧ N * N ≤ 36 := by
  rcases (show N = 1 ∨ N = 2 ∨ N = 3 ∨ N = 4 ∨ N = 5 ∨ N = 6 by omega) with rfl | rfl | rfl | rfl | rfl | rfl <;> decide
end Amp
namespace Go.Proofs.Ytjodjfllgofkaaa
open Go.RowKit Amp
attribute [local go_sem] ix0 ix1 ix2 ix3 jx0 jx1 jx2 jx3
attribute [local go_sem high] run_eqNum run_neNum
/-- A slice of numbers, nil and empty ones let in. -/
def Nums (w : World) (ao : Option Addr) (n : Nat) (f : Nat → Nm) : Prop := 0 < n → ∃ b o, ao = some ⟨b, o, none⟩ ∧ ∀ i, i < n → NumAt w b (o + i * 5) (f i)
theorem Nums.keep {w w1 : World} {ao : Option Addr} {n : Nat} {f : Nat → Nm} (h : Nums w ao n f) (hb : Below w.heap.size w w1) : Nums w1 ao n f := by
  intro hn
  obtain ⟨b, o, e, hc⟩ := h hn
  refine ⟨b, o, e, fun i hi => ?_⟩
  have h1 := hc i hi
  have hB : b < w.heap.size := World.block_lt_of_cell? w _ h1.1
  obtain ⟨k1, _⟩ := bcell hb
  unfold NumAt at *
  simpa only [k1 _ _ hB] using h1

set_option maxHeartbeats 1000000 in
theorem validNumbers_any (ao : Option Addr) (n cap : Nat) (f : Nat → Nm) (w : World) (hn : n ≤ 9223372036854775807) (hc : Nums w ao n f) :
    Calls Try.prog 112 #[.slice ao n cap] w fun e w' => e = .returned (.bool (okTo f n)) ∧ Below w.heap.size w w' := by
  have HC := Lib.hid hc
  clear hc
  go_enter Try.func112, Try.ntmps112
  go_wp2_with fail
  go_loopw [4, 7] (fun _ i wr => ∃ k : Nat, i = .int .i64 k ∧ k ≤ n ∧ okTo f k = true ∧ Below w.heap.size w wr) (fun _ i _ => n - (intOf i).toNat)
  case atStart => exact ⟨0, rfl, Nat.zero_le _, rfl, Below.refl _ _⟩
  case round =>
    obtain ⟨k, rfl, hk, hok, hbel⟩ := hrel
    have hsz := hbel.size
    by_cases hlt : k < n
    · obtain ⟨b, o, rfl, hcell⟩ := (Nums.keep HC.out hbel) (by omega)
      obtain ⟨c0, c1, c2, c3, c4⟩ := hcell k hlt
      have lb : b < wr.heap.size := World.block_lt_of_cell? wr _ c0
      have hne : ¬ wr.heap.size = b := by omega
      have HK := Lib.hid hok
      clear hok hcell
      cases hv : vld (f k)
      · have HF := Lib.hid (okTo_stop hv n hlt)
        go_wp2_with fail
        refine (Valid_any _ _ _ _ _ _).mono ?_
        rintro e w1 ⟨rfl, hb1⟩
        have hbel1 : Below w.heap.size w w1 := Below.trans (by go_grown) (hb1.mono (by first | omega | (simp; done) | (simp; omega)))
        clear hb1
        simp only [hv]
        go_wp2_with fail
        go_returns
        exact ⟨by rw [HF.out]; rfl, hbel1⟩
      · have HV := Lib.hid hv
        go_wp2_with fail
        refine (Valid_any _ _ _ _ _ _).mono ?_
        rintro e w1 ⟨rfl, hb1⟩
        have hbel1 : Below w.heap.size w w1 := Below.trans (by go_grown) (hb1.mono (by first | omega | (simp; done) | (simp; omega)))
        clear hb1
        simp only [hv]
        clear hv
        go_wp2_with fail
        go_roundw
        case rel => exact ⟨k + 1, by go_num, by omega, by simp only [okTo]; rw [HK.out, HV.out]; rfl, hbel1⟩
        case measure => simp [intOf]; omega
    · obtain rfl : k = n := by omega
      have HK := Lib.hid hok
      clear hok
      go_wp2_with fail
      go_returns
      exact ⟨by rw [HK.out]; rfl, hbel⟩

set_option maxHeartbeats 2000000 in
theorem mValid_any (N : Int) (ao : Option Addr) (n cap : Nat) (f : Nat → Nm) (w : World) (hn : n ≤ 9223372036854775807) (hc : Nums w ao n f) :
    Calls Try.prog 111 #[.agg #[.int .i64 N, .slice ao n cap]] w fun e w' => e = .returned (.bool (mvS N n f)) ∧ Below w.heap.size w w' := by
  by_cases h6 : 1 ≤ N ∧ N ≤ 6
  · by_cases hq : (n : Int) = N * N
    · have HE := Lib.hid (mvS_go (f := f) h6 hq)
      obtain ⟨q1, q2⟩ := sq_bd h6
      obtain ⟨h1, h2⟩ := h6
      have hb : ((n : Int) == N * N) = true := by rw [beq_iff_eq]; exact hq
      have hp : 0 < N := by omega
      have HC := Lib.hid hc
      clear hc hq
      go_enter Try.func111, Try.ntmps111
      go_wp2_with fail
      refine (validNumbers_any ao n cap f _ hn (HC.out.keep (by go_grown))).mono ?_
      rintro e w1 ⟨rfl, hb⟩
      have D1 : Below w.heap.size w w1 := Below.trans (by go_grown) (hb.mono (by first | omega | (simp; done) | (simp; omega)))
      clear hb
      go_wp2_with fail
      go_returns
      exact ⟨by rw [HE.out]; rfl, D1⟩
    · have HE := Lib.hid (mvS_ne (f := f) hq)
      obtain ⟨q1, q2⟩ := sq_bd h6
      obtain ⟨h1, h2⟩ := h6
      have hb : ((n : Int) == N * N) = false := by rw [beq_eq_false_iff_ne]; exact hq
      have hp : 0 < N := by omega
      clear hc hq
      go_enter Try.func111, Try.ntmps111
      go_wp2_with fail
      go_returns
      exact ⟨by rw [HE.out]; rfl, by go_grown⟩
  · have HE := Lib.hid (mvS_no (n := n) (f := f) h6)
    have hc6 : N < 1 ∨ 6 < N := by omega
    clear hc h6
    rcases hc6 with hc6 | hc6
    · have hp : ¬ 0 < N := by omega
      go_enter Try.func111, Try.ntmps111
      go_wp2_with fail
      go_returns
      exact ⟨by rw [HE.out]; rfl, by go_grown⟩
    · have hp : 0 < N := by omega
      have hp2 : ¬ N ≤ 6 := by omega
      have hp3 : ¬ N < 1 := by omega
      go_enter Try.func111, Try.ntmps111
      go_wp2_with fail
      go_returns
      exact ⟨by rw [HE.out]; rfl, by go_grown⟩

end Go.Proofs.Ytjodjfllgofkaaa
