import Derived.Test.YtgbnpnenejgnnaaE
import Derived.RegionTactic
namespace Go.Proofs.Ytgbnpnenejgnnaa
open Go.RowKit Amp
attribute [local go_sem] ix0 ix1 ix2 ix3 jx0 jx1 jx2 jx3
attribute [local go_sem high] run_eqNum run_neNum

/-- Number number i of a slice of numbers lies at b, o. -/
def NumAt (w : World) (b o : Nat) (z : Nm) : Prop :=
  w.cell? ⟨b, o, none⟩ = some (.int .i64 z.v.a) ∧ w.cell? ⟨b, o + 1, none⟩ = some (.int .i64 z.v.b) ∧ w.cell? ⟨b, o + 2, none⟩ = some (.int .i64 z.v.c) ∧ w.cell? ⟨b, o + 3, none⟩ = some (.int .i64 z.v.d) ∧ w.cell? ⟨b, o + 4, none⟩ = some (.int .i64 z.k)

def chk (f : Nat → Nm) (n : Nat) : Int := if okTo f n = true then 0 else 10
theorem chk_ok {f : Nat → Nm} {n : Nat} (h : okTo f n = true) : chk f n = 0 := by unfold chk; rw [if_pos h]
theorem chk_bad {f : Nat → Nm} {n : Nat} (h : okTo f n = false) : chk f n = 10 := by unfold chk; rw [h]; rfl
set_option maxHeartbeats 1000000 in
theorem check_any (b o n cap : Nat) (f : Nat → Nm) (w : World) (hn : n ≤ 9223372036854775807) (hc : ∀ i, i < n → NumAt w b (o + i * 5) (f i)) :
    Calls Try.prog 109 #[.slice (some ⟨b, o, none⟩) n cap] w fun e w' => e = .returned (.int .i64 (chk f n)) ∧ Below w.heap.size w w' := by
  have HC := Lib.hid hc
  clear hc
  go_enter Try.func109, Try.ntmps109
  go_wp2_with fail
  go_loopw [7] (fun i wr => ∃ k : Nat, i = .int .i64 k ∧ k ≤ n ∧ okTo f k = true ∧ Below w.heap.size w wr) (fun i _ => n - (intOf i).toNat)
  case atStart => exact ⟨0, rfl, Nat.zero_le _, rfl, Below.refl _ _⟩
  case round =>
    obtain ⟨k, rfl, hk, hok, hbel⟩ := hrel
    have hsz := hbel.size
    by_cases hlt : k < n
    · obtain ⟨c0, c1, c2, c3, c4⟩ := HC.out k hlt
      have lb : b < w.heap.size := World.block_lt_of_cell? w _ c0
      obtain ⟨k1, _⟩ := bcell hbel
      simp only [← k1 _ _ lb] at c0 c1 c2 c3 c4
      have HK := Lib.hid hok
      clear k1 hok
      cases hv : vld (f k)
      · have HF := Lib.hid (okTo_stop hv n hlt)
        go_wp2_with fail
        refine (Valid_any _ _ _ _ _ _).mono ?_
        rintro e w1 ⟨rfl, hb1⟩
        have hbel1 : Below w.heap.size w w1 := Below.trans (by go_grown) (hb1.mono (by have := hbel.size; simp; omega))
        clear hb1
        simp only [hv]
        go_wp2_with fail
        go_returns
        exact ⟨by rw [chk_bad HF.out]; rfl, hbel1⟩
      · go_wp2_with fail
        refine (Valid_any _ _ _ _ _ _).mono ?_
        rintro e w1 ⟨rfl, hb1⟩
        have hbel1 : Below w.heap.size w w1 := Below.trans (by go_grown) (hb1.mono (by have := hbel.size; simp; omega))
        clear hb1
        have HV := Lib.hid hv
        simp only [hv]
        clear hv
        go_wp2_with fail
        go_roundw
        case rel => exact ⟨k + 1, by go_num, by omega, by simp only [okTo]; rw [HK.out, HV.out]; rfl, hbel1⟩
        case measure => simp [intOf]; omega
    · have HK := Lib.hid hok
      clear hok
      go_wp2_with fail
      go_returns
      obtain rfl : k = n := by omega
      exact ⟨by rw [chk_ok HK.out]; rfl, hbel⟩
end Go.Proofs.Ytgbnpnenejgnnaa

namespace Amp
def pw (p : Int) (x : C4) : C4 := ⟨x.a * p, x.b * p, x.c * p, x.d * p⟩
theorem trn_even (m : Nat) (x : C4) : trn (2 * m) x = pw (2 ^ m) x := by
  induction m with
  | zero => simp [trn, pw]
  | succ m ih =>
    rw [show 2 * (m + 1) = (2 * m) + 1 + 1 from by omega, trn_succ, trn_succ, ih, tr_tr]
    apply C4.ext' <;> simp only [dbl, pw, Int.pow_succ] <;> grind
theorem trn_odd (m : Nat) (x : C4) : trn (2 * m + 1) x = pw (2 ^ m) (tr x) := by
  rw [show trn (2 * m + 1) x = trn (2 * m) (tr x) from rfl, trn_even]
theorem pow2_bd (m : Nat) (h : m ≤ 20) : 1 ≤ (2 : Int) ^ m ∧ (2 : Int) ^ m ≤ 1048576 := by
  have h1 : (2 : Nat) ^ m ≤ 2 ^ 20 := Nat.pow_le_pow_right (by omega) h
  have h2 : 0 < (2 : Nat) ^ m := Nat.pow_pos (by omega)
  have h3 : (2 : Int) ^ m = ((2 ^ m : Nat) : Int) := by simp
  rw [h3]
  omega
theorem mul_bd {x p B : Int} (h : bg B x) (hp : 1 ≤ p ∧ p ≤ 1048576) : bg (B * 1048576) (x * p) := by
  unfold bg at *
  have hB : 0 ≤ B := by omega
  constructor
  · have h1 : -B * p ≤ x * p := Int.mul_le_mul_of_nonneg_right h.1 (by omega)
    have h2 : B * p ≤ B * 1048576 := Int.mul_le_mul_of_nonneg_left hp.2 hB
    rw [Int.neg_mul] at h1
    omega
  · have h1 : x * p ≤ B * p := Int.mul_le_mul_of_nonneg_right h.2 (by omega)
    have h2 : B * p ≤ B * 1048576 := Int.mul_le_mul_of_nonneg_left hp.2 hB
    omega
theorem tr_bd {x : C4} {B : Int} (h : big B x) : big (2 * B) (tr x) := by
  obtain ⟨⟨a1, a2⟩, ⟨b1, b2⟩, ⟨c1, c2⟩, ⟨d1, d2⟩⟩ := h
  refine ⟨⟨?_, ?_⟩, ⟨?_, ?_⟩, ⟨?_, ?_⟩, ⟨?_, ?_⟩⟩ <;> simp only [tr] <;> omega
theorem pw_bd {x : C4} {p B : Int} (h : big B x) (hp : 1 ≤ p ∧ p ≤ 1048576) : big (B * 1048576) (pw p x) :=
  ⟨mul_bd h.1 hp, mul_bd h.2.1 hp, mul_bd h.2.2.1 hp, mul_bd h.2.2.2 hp⟩
theorem big_mono {x : C4} {B C : Int} (h : big B x) (hb : B ≤ C) : big C x := by
  obtain ⟨⟨a1, a2⟩, ⟨b1, b2⟩, ⟨c1, c2⟩, ⟨d1, d2⟩⟩ := h
  exact ⟨⟨by omega, by omega⟩, ⟨by omega, by omega⟩, ⟨by omega, by omega⟩, ⟨by omega, by omega⟩⟩
theorem trn_bd {x : C4} {n : Nat} (h : big 1000000000 x) (hn : n ≤ 40) : big 2097152000000000 (trn n x) := by
  rcases Nat.mod_two_eq_zero_or_one n with e | e
  · obtain ⟨m, rfl⟩ : ∃ m, n = 2 * m := ⟨n / 2, by omega⟩
    rw [trn_even]
    exact big_mono (pw_bd h (pow2_bd m (by omega))) (by omega)
  · obtain ⟨m, rfl⟩ : ∃ m, n = 2 * m + 1 := ⟨n / 2, by omega⟩
    rw [trn_odd]
    exact big_mono (pw_bd (tr_bd h) (pow2_bd m (by omega))) (by omega)
def smul (s : Int) (x : C4) : C4 := ⟨s * x.a, s * x.b, s * x.c, s * x.d⟩
/-- x + s y, not reduced. -/
def comb (x y : Nm) (s : Int) : C4 × Nat :=
  (add (trn (max x.k.toNat y.k.toNat - x.k.toNat) x.v) (smul s (trn (max x.k.toNat y.k.toNat - y.k.toNat) y.v)), max x.k.toNat y.k.toNat)
theorem vld_sm {z : Nm} (h : vld z = true) : big 1000000000 z.v := by
  rw [vld, Bool.and_eq_true] at h
  exact (sm_iff _).1 h.1
theorem vld_k {z : Nm} (h : vld z = true) : 0 ≤ z.k ∧ z.k ≤ 40 := by
  simp [vld] at h
  omega
end Amp

namespace Go.Proofs.Ytgbnpnenejgnnaa
open Go.RowKit Amp
attribute [local go_sem] ix0 ix1 ix2 ix3 jx0 jx1 jx2 jx3

set_option maxHeartbeats 1000000 in
theorem timesRoots_even (a b c d : Int) (m : Nat) (w : World) (h : big 1000000000 ⟨a, b, c, d⟩) (hm : m ≤ 20) :
    Calls Try.prog 150 #[.agg #[.int .i64 a, .int .i64 b, .int .i64 c, .int .i64 d], .int .i64 (2 * m : Nat)] w fun e w' => e = .returned (.agg #[.int .i64 (a * 2 ^ m), .int .i64 (b * 2 ^ m), .int .i64 (c * 2 ^ m), .int .i64 (d * 2 ^ m)]) ∧ Below w.heap.size w w' := by
  have hp := pow2_bd m hm
  have b0 := mul_bd h.1 hp
  have b1 := mul_bd h.2.1 hp
  have b2 := mul_bd h.2.2.1 hp
  have b3 := mul_bd h.2.2.2 hp
  unfold bg at b0 b1 b2 b3
  simp only at b0 b1 b2 b3
  have hr : (((2 * m : Nat) : Int)).tmod 2 = 0 := by rw [tmod2]; omega
  have hr' : ((((2 * m : Nat) : Int)).tmod 2 == 1) = false := by rw [hr]; rfl
  clear hr
  go_enter Try.func150, Try.ntmps150
  go_wp2_with fail
  refine wp_loop_rounds 5 ?_
  rw [rounds_succ]; go_wp2_with fail
  go_region
  go_wp2_with fail
  rw [rounds_succ]; go_wp2_with fail
  go_region
  go_wp2_with fail
  rw [rounds_succ]; go_wp2_with fail
  go_region
  go_wp2_with fail
  rw [rounds_succ]; go_wp2_with fail
  go_region
  go_wp2_with fail
  rw [rounds_succ]; go_wp2_with fail
  go_returns
  exact ⟨rfl, by go_grown⟩

set_option maxHeartbeats 1000000 in
theorem timesRoots_odd (a b c d N : Int) (m : Nat) (w : World) (h : big 1000000000 ⟨a, b, c, d⟩) (hm : m ≤ 20) (hN : Hid (N = 2 * m + 1)) :
    Calls Try.prog 150 #[.agg #[.int .i64 a, .int .i64 b, .int .i64 c, .int .i64 d], .int .i64 N] w fun e w' => e = .returned (.agg #[.int .i64 ((b - d) * 2 ^ m), .int .i64 ((a + c) * 2 ^ m), .int .i64 ((b + d) * 2 ^ m), .int .i64 ((c - a) * 2 ^ m)]) ∧ Below w.heap.size w w' := by
  have hp := pow2_bd m hm
  have h' := tr_bd h
  have b0 := mul_bd h'.1 hp
  have b1 := mul_bd h'.2.1 hp
  have b2 := mul_bd h'.2.2.1 hp
  have b3 := mul_bd h'.2.2.2 hp
  unfold bg at b0 b1 b2 b3
  simp only [tr] at b0 b1 b2 b3
  have n0 : 0 ≤ N := by have := hN.out; omega
  have n1 : N ≤ 41 := by have := hN.out; omega
  have hr' : (N % 2 == 1) = true := by have := hN.out; rw [beq_iff_eq]; omega
  have hq : N / 2 = (m : Int) := by have := hN.out; omega
  go_enter Try.func150, Try.ntmps150
  go_wp2_with fail
  have hbg : big 4611686018427387903 ⟨a, b, c, d⟩ := big_mono h (by omega)
  refine (timesRoot_any _ _ _ _ _ hbg).mono ?_
  rintro e w1 ⟨rfl, hb1⟩
  obtain ⟨⟨c0, c1, c2, c3⟩, f0, f1, f2, f3⟩ : Has4 w1 w.heap.size a b c d := Has4.keep (by refine ⟨⟨?_, ?_, ?_, ?_⟩, ?_, ?_, ?_, ?_⟩ <;> go_cell) hb1 (by simp; omega)
  obtain ⟨⟨g0, g1, g2, g3⟩, e0, e1, e2, e3⟩ : Has4 w1 (w.heap.size + 1) 0 0 0 0 := Has4.keep (by refine ⟨⟨?_, ?_, ?_, ?_⟩, ?_, ?_, ?_, ?_⟩ <;> go_cell) hb1 (by simp)
  have hbel1 : Below w.heap.size w w1 := Below.trans (by go_grown) (hb1.mono (by simp; omega))
  clear hb1 h h' hbg
  go_wp2_with fail
  have X4 : Has4 ((((w1.setCell ⟨w.heap.size, 0, none⟩ (.int .i64 (b - d))).setCell ⟨w.heap.size, 1, none⟩ (.int .i64 (a + c))).setCell ⟨w.heap.size, 2, none⟩ (.int .i64 (b + d))).setCell ⟨w.heap.size, 3, none⟩ (.int .i64 (c - a))) w.heap.size (b - d) (a + c) (b + d) (c - a) := by refine ⟨⟨?_, ?_, ?_, ?_⟩, ?_, ?_, ?_, ?_⟩ <;> go_cell
  have Y4 : Has4 ((((w1.setCell ⟨w.heap.size, 0, none⟩ (.int .i64 (b - d))).setCell ⟨w.heap.size, 1, none⟩ (.int .i64 (a + c))).setCell ⟨w.heap.size, 2, none⟩ (.int .i64 (b + d))).setCell ⟨w.heap.size, 3, none⟩ (.int .i64 (c - a))) (w.heap.size + 1) 0 0 0 0 := by refine ⟨⟨?_, ?_, ?_, ?_⟩, ?_, ?_, ?_, ?_⟩ <;> go_cell
  have hbel2 : Below w.heap.size w ((((w1.setCell ⟨w.heap.size, 0, none⟩ (.int .i64 (b - d))).setCell ⟨w.heap.size, 1, none⟩ (.int .i64 (a + c))).setCell ⟨w.heap.size, 2, none⟩ (.int .i64 (b + d))).setCell ⟨w.heap.size, 3, none⟩ (.int .i64 (c - a))) := by go_grown
  clear hbel1 c0 c1 c2 c3 f0 f1 f2 f3 g0 g1 g2 g3 e0 e1 e2 e3
  generalize ((((w1.setCell ⟨w.heap.size, 0, none⟩ (.int .i64 (b - d))).setCell ⟨w.heap.size, 1, none⟩ (.int .i64 (a + c))).setCell ⟨w.heap.size, 2, none⟩ (.int .i64 (b + d))).setCell ⟨w.heap.size, 3, none⟩ (.int .i64 (c - a))) = w2 at *
  obtain ⟨⟨c0, c1, c2, c3⟩, f0, f1, f2, f3⟩ := X4
  obtain ⟨⟨g0, g1, g2, g3⟩, e0, e1, e2, e3⟩ := Y4
  refine wp_loop_rounds 5 ?_
  rw [rounds_succ]; go_wp2_with fail
  go_region
  go_wp2_with fail
  rw [rounds_succ]; go_wp2_with fail
  go_region
  go_wp2_with fail
  rw [rounds_succ]; go_wp2_with fail
  go_region
  go_wp2_with fail
  rw [rounds_succ]; go_wp2_with fail
  go_region
  go_wp2_with fail
  have Z4 : Has4 ((((w2.setCell ⟨w.heap.size, 0, none⟩ (.int .i64 ((b - d) * 2 ^ m))).setCell ⟨w.heap.size, 1, none⟩ (.int .i64 ((a + c) * 2 ^ m))).setCell ⟨w.heap.size, 2, none⟩ (.int .i64 ((b + d) * 2 ^ m))).setCell ⟨w.heap.size, 3, none⟩ (.int .i64 ((c - a) * 2 ^ m))).drew.drew.drew.drew w.heap.size ((b - d) * 2 ^ m) ((a + c) * 2 ^ m) ((b + d) * 2 ^ m) ((c - a) * 2 ^ m) := by refine ⟨⟨?_, ?_, ?_, ?_⟩, ?_, ?_, ?_, ?_⟩ <;> go_cell
  have Y5 : Has4 ((((w2.setCell ⟨w.heap.size, 0, none⟩ (.int .i64 ((b - d) * 2 ^ m))).setCell ⟨w.heap.size, 1, none⟩ (.int .i64 ((a + c) * 2 ^ m))).setCell ⟨w.heap.size, 2, none⟩ (.int .i64 ((b + d) * 2 ^ m))).setCell ⟨w.heap.size, 3, none⟩ (.int .i64 ((c - a) * 2 ^ m))).drew.drew.drew.drew (w.heap.size + 1) 0 0 0 0 := by refine ⟨⟨?_, ?_, ?_, ?_⟩, ?_, ?_, ?_, ?_⟩ <;> go_cell
  have hbel3 : Below w.heap.size w ((((w2.setCell ⟨w.heap.size, 0, none⟩ (.int .i64 ((b - d) * 2 ^ m))).setCell ⟨w.heap.size, 1, none⟩ (.int .i64 ((a + c) * 2 ^ m))).setCell ⟨w.heap.size, 2, none⟩ (.int .i64 ((b + d) * 2 ^ m))).setCell ⟨w.heap.size, 3, none⟩ (.int .i64 ((c - a) * 2 ^ m))).drew.drew.drew.drew := by go_grown
  clear hbel2 c0 c1 c2 c3 f0 f1 f2 f3 g0 g1 g2 g3 e0 e1 e2 e3
  generalize ((((w2.setCell ⟨w.heap.size, 0, none⟩ (.int .i64 ((b - d) * 2 ^ m))).setCell ⟨w.heap.size, 1, none⟩ (.int .i64 ((a + c) * 2 ^ m))).setCell ⟨w.heap.size, 2, none⟩ (.int .i64 ((b + d) * 2 ^ m))).setCell ⟨w.heap.size, 3, none⟩ (.int .i64 ((c - a) * 2 ^ m))).drew.drew.drew.drew = w3 at *
  obtain ⟨⟨c0, c1, c2, c3⟩, f0, f1, f2, f3⟩ := Z4
  obtain ⟨⟨g0, g1, g2, g3⟩, e0, e1, e2, e3⟩ := Y5
  rw [rounds_succ]; go_wp2_with fail
  refine bodyPost_ret (v := .agg #[.int .i64 ((b - d) * 2 ^ m), .int .i64 ((a + c) * 2 ^ m), .int .i64 ((b + d) * 2 ^ m), .int .i64 ((c - a) * 2 ^ m)]) (by simp [results, Try.results150, go_sem, *]) rfl ⟨rfl, by go_grown⟩

theorem timesRoots_any (a b c d : Int) (n : Nat) (w : World) (h : big 1000000000 ⟨a, b, c, d⟩) (hn : n ≤ 40) :
    Calls Try.prog 150 #[.agg #[.int .i64 a, .int .i64 b, .int .i64 c, .int .i64 d], .int .i64 n] w fun e w' => e = .returned (.agg #[.int .i64 (trn n ⟨a, b, c, d⟩).a, .int .i64 (trn n ⟨a, b, c, d⟩).b, .int .i64 (trn n ⟨a, b, c, d⟩).c, .int .i64 (trn n ⟨a, b, c, d⟩).d]) ∧ Below w.heap.size w w' := by
  rcases Nat.mod_two_eq_zero_or_one n with e | e
  · obtain ⟨m, rfl⟩ : ∃ m, n = 2 * m := ⟨n / 2, by omega⟩
    rw [trn_even]
    exact timesRoots_even a b c d m w h (by omega)
  · obtain ⟨m, rfl⟩ : ∃ m, n = 2 * m + 1 := ⟨n / 2, by omega⟩
    rw [trn_odd]
    exact timesRoots_odd a b c d (2 * m + 1 : Nat) m w h (by omega) (by show ((2 * m + 1 : Nat) : Int) = 2 * m + 1; omega)
end Go.Proofs.Ytgbnpnenejgnnaa

namespace Go.Proofs.Ytgbnpnenejgnnaa
open Go.RowKit Amp
attribute [local go_sem] ix0 ix1 ix2 ix3 jx0 jx1 jx2 jx3
theorem timesRoots_int (a b c d N : Int) (w : World) (h : big 1000000000 ⟨a, b, c, d⟩) (h0 : 0 ≤ N) (hn : N ≤ 40) :
    Calls Try.prog 150 #[.agg #[.int .i64 a, .int .i64 b, .int .i64 c, .int .i64 d], .int .i64 N] w fun e w' => e = .returned (.agg #[.int .i64 (trn N.toNat ⟨a, b, c, d⟩).a, .int .i64 (trn N.toNat ⟨a, b, c, d⟩).b, .int .i64 (trn N.toNat ⟨a, b, c, d⟩).c, .int .i64 (trn N.toNat ⟨a, b, c, d⟩).d]) ∧ Below w.heap.size w w' := by
  obtain ⟨n, rfl⟩ := Int.eq_ofNat_of_zero_le h0
  rw [Int.toNat_natCast]
  exact timesRoots_any a b c d n w h (by omega)

set_option maxHeartbeats 1000000 in
theorem combined_add_le (a b c d p q r s : Int) (k l : Nat) (w : World) (hx : big 1000000000 ⟨a, b, c, d⟩) (hy : big 1000000000 ⟨p, q, r, s⟩) (hk : k ≤ 40) (hl : l ≤ 40) (ho : k < l) :
    Calls Try.prog 111 #[.agg #[.int .i64 a, .int .i64 b, .int .i64 c, .int .i64 d, .int .i64 k], .agg #[.int .i64 p, .int .i64 q, .int .i64 r, .int .i64 s, .int .i64 l], .int .i64 1] w fun e w' => e = Ret4 (comb ⟨⟨a, b, c, d⟩, k⟩ ⟨⟨p, q, r, s⟩, l⟩ 1) ∧ Below w.heap.size w w' := by
  have hoI : (k : Int) < (l : Int) := by omega
  go_enter Try.func111, Try.ntmps111
  go_wp2_with fail
  refine (timesRoots_int _ _ _ _ _ _ hx (by omega) (by omega)).mono ?_
  rintro e w1 ⟨rfl, hb1⟩
  have A1 : Has5 w1 w.heap.size a b c d k := Has5.keep (by refine ⟨⟨?_, ?_, ?_, ?_, ?_⟩, ?_, ?_, ?_, ?_, ?_⟩ <;> go_cell) hb1 (by simp; omega)
  have B1 : Has5 w1 (w.heap.size + 1) p q r s l := Has5.keep (by refine ⟨⟨?_, ?_, ?_, ?_, ?_⟩, ?_, ?_, ?_, ?_, ?_⟩ <;> go_cell) hb1 (by simp)
  have C1 : Has4 w1 (w.heap.size + 1 + 1) 0 0 0 0 := Has4.keep (by refine ⟨⟨?_, ?_, ?_, ?_⟩, ?_, ?_, ?_, ?_⟩ <;> go_cell) hb1 (by simp)
  have D1 : Below w.heap.size w w1 := Below.trans (by go_grown) (hb1.mono (by simp; omega))
  have s1 : w.heap.size + 3 ≤ w1.heap.size := by have := hb1.size; simp at this; omega
  clear hb1
  have bx := trn_bd (n := ((l : Int) - k).toNat) hx (by omega)
  have hX : Hid (trn ((l : Int) - k).toNat ⟨a, b, c, d⟩ = trn (max k l - k) ⟨a, b, c, d⟩) := by show _ = _; congr 1; omega
  generalize trn ((l : Int) - k).toNat ⟨a, b, c, d⟩ = X at *
  obtain ⟨x0, x1, x2, x3⟩ := X
  obtain ⟨⟨i0, i1⟩, ⟨i2, i3⟩, ⟨i4, i5⟩, ⟨i6, i7⟩⟩ := bx
  simp only at i0 i1 i2 i3 i4 i5 i6 i7
  have P1 := A1
  have P2 := B1
  obtain ⟨⟨c0, c1, c2, c3, c4⟩, f0, f1, f2, f3, f4⟩ := P1
  obtain ⟨⟨g0, g1, g2, g3, g4⟩, e0, e1, e2, e3, e4⟩ := P2
  have l1 : w.heap.size < w1.heap.size := by omega
  have l2 : w.heap.size + 1 < w1.heap.size := by omega
  have l3 : w.heap.size + 1 + 1 < w1.heap.size := by omega
  go_wp2_with fail
  refine (timesRoots_int _ _ _ _ _ _ hy (by omega) (by omega)).mono ?_
  rintro e w2 ⟨rfl, hb2⟩
  have A2 : Has4 w2 w1.heap.size x0 x1 x2 x3 := Has4.keep (by refine ⟨⟨?_, ?_, ?_, ?_⟩, ?_, ?_, ?_, ?_⟩ <;> go_cell) hb2 (by simp)
  have C2 : Has4 w2 (w.heap.size + 1 + 1) 0 0 0 0 := Has4.keep (by obtain ⟨⟨u0, u1, u2, u3⟩, v0, v1, v2, v3⟩ := C1; refine ⟨⟨?_, ?_, ?_, ?_⟩, ?_, ?_, ?_, ?_⟩ <;> go_cell) hb2 (by simp; omega)
  have D2 : Below w.heap.size w w2 := Below.trans (by go_grown) (hb2.mono (by simp; omega))
  have s2 : w1.heap.size + 1 ≤ w2.heap.size := by have := hb2.size; simp at this; omega
  clear hb2 A1 B1 C1 D1 c0 c1 c2 c3 c4 f0 f1 f2 f3 f4 g0 g1 g2 g3 g4 e0 e1 e2 e3 e4
  have by_ := trn_bd (n := ((0 : Int)).toNat) hy (by omega)
  have hY : Hid (trn ((0 : Int)).toNat ⟨p, q, r, s⟩ = trn (max k l - l) ⟨p, q, r, s⟩) := by show _ = _; congr 1; omega
  generalize trn ((0 : Int)).toNat ⟨p, q, r, s⟩ = Y at *
  obtain ⟨y0, y1, y2, y3⟩ := Y
  obtain ⟨⟨j0, j1⟩, ⟨j2, j3⟩, ⟨j4, j5⟩, ⟨j6, j7⟩⟩ := by_
  simp only at j0 j1 j2 j3 j4 j5 j6 j7
  have P1 := A2
  have P2 := C2
  obtain ⟨⟨c0, c1, c2, c3⟩, f0, f1, f2, f3⟩ := P1
  obtain ⟨⟨g0, g1, g2, g3⟩, e0, e1, e2, e3⟩ := P2
  have l4 : w.heap.size + 1 + 1 < w2.heap.size := by omega
  have l5 : w1.heap.size < w2.heap.size := by omega
  go_wp2_with fail
  obtain ⟨w3, hw3⟩ : ∃ w3, w3 = w2.alloc (.cells #[.int .i64 y0, .int .i64 y1, .int .i64 y2, .int .i64 y3] 67) := ⟨_, rfl⟩
  rw [← hw3]
  have A3 : Has4 w3 w1.heap.size x0 x1 x2 x3 := by rw [hw3]; refine ⟨⟨?_, ?_, ?_, ?_⟩, ?_, ?_, ?_, ?_⟩ <;> go_cell
  have C3 : Has4 w3 (w.heap.size + 1 + 1) 0 0 0 0 := by rw [hw3]; refine ⟨⟨?_, ?_, ?_, ?_⟩, ?_, ?_, ?_, ?_⟩ <;> go_cell
  have E3 : Has4 w3 w2.heap.size y0 y1 y2 y3 := by rw [hw3]; refine ⟨⟨?_, ?_, ?_, ?_⟩, ?_, ?_, ?_, ?_⟩ <;> go_cell
  have D3 : Below w.heap.size w w3 := by rw [hw3]; go_grown
  have s3 : w2.heap.size + 1 ≤ w3.heap.size := by rw [hw3]; simp
  clear hw3 A2 C2 D2 c0 c1 c2 c3 f0 f1 f2 f3 g0 g1 g2 g3 e0 e1 e2 e3
  obtain ⟨⟨c0, c1, c2, c3⟩, f0, f1, f2, f3⟩ := A3
  obtain ⟨⟨g0, g1, g2, g3⟩, e0, e1, e2, e3⟩ := C3
  obtain ⟨⟨o0, o1, o2, o3⟩, _⟩ := E3
  have n1 : ¬ w1.heap.size = w2.heap.size := by omega
  have n2 : ¬ w2.heap.size = w1.heap.size := by omega
  have n3 : ¬ w1.heap.size = w.heap.size + 1 + 1 := by omega
  have n4 : ¬ w.heap.size + 1 + 1 = w1.heap.size := by omega
  refine wp_loop_rounds 5 ?_
  rw [rounds_succ]; go_wp2_with fail
  go_region
  go_wp2_with fail
  rw [rounds_succ]; go_wp2_with fail
  go_region
  go_wp2_with fail
  rw [rounds_succ]; go_wp2_with fail
  go_region
  go_wp2_with fail
  rw [rounds_succ]; go_wp2_with fail
  go_region
  go_wp2_with fail
  have Z4 : Has4 (((((w3.setCell ⟨w1.heap.size, 0, none⟩ (.int .i64 (x0 + y0))).setCell ⟨w1.heap.size, 1, none⟩ (.int .i64 (x1 + y1))).setCell ⟨w1.heap.size, 2, none⟩ (.int .i64 (x2 + y2))).setCell ⟨w1.heap.size, 3, none⟩ (.int .i64 (x3 + y3))).drew.drew.drew.drew) w1.heap.size (x0 + y0) (x1 + y1) (x2 + y2) (x3 + y3) := by refine ⟨⟨?_, ?_, ?_, ?_⟩, ?_, ?_, ?_, ?_⟩ <;> go_cell
  have Y5 : Has4 (((((w3.setCell ⟨w1.heap.size, 0, none⟩ (.int .i64 (x0 + y0))).setCell ⟨w1.heap.size, 1, none⟩ (.int .i64 (x1 + y1))).setCell ⟨w1.heap.size, 2, none⟩ (.int .i64 (x2 + y2))).setCell ⟨w1.heap.size, 3, none⟩ (.int .i64 (x3 + y3))).drew.drew.drew.drew) (w.heap.size + 1 + 1) 0 0 0 0 := by refine ⟨⟨?_, ?_, ?_, ?_⟩, ?_, ?_, ?_, ?_⟩ <;> go_cell
  have D4 : Below w.heap.size w (((((w3.setCell ⟨w1.heap.size, 0, none⟩ (.int .i64 (x0 + y0))).setCell ⟨w1.heap.size, 1, none⟩ (.int .i64 (x1 + y1))).setCell ⟨w1.heap.size, 2, none⟩ (.int .i64 (x2 + y2))).setCell ⟨w1.heap.size, 3, none⟩ (.int .i64 (x3 + y3))).drew.drew.drew.drew) := by go_grown
  clear D3 c0 c1 c2 c3 f0 f1 f2 f3 g0 g1 g2 g3 e0 e1 e2 e3 o0 o1 o2 o3
  generalize ((((w3.setCell ⟨w1.heap.size, 0, none⟩ (.int .i64 (x0 + y0))).setCell ⟨w1.heap.size, 1, none⟩ (.int .i64 (x1 + y1))).setCell ⟨w1.heap.size, 2, none⟩ (.int .i64 (x2 + y2))).setCell ⟨w1.heap.size, 3, none⟩ (.int .i64 (x3 + y3))).drew.drew.drew.drew = w4 at *
  obtain ⟨⟨c0, c1, c2, c3⟩, f0, f1, f2, f3⟩ := Z4
  obtain ⟨⟨g0, g1, g2, g3⟩, e0, e1, e2, e3⟩ := Y5
  rw [rounds_succ]; go_wp2_with fail
  refine bodyPost_ret (v := .tuple #[.agg #[.int .i64 (x0 + y0), .int .i64 (x1 + y1), .int .i64 (x2 + y2), .int .i64 (x3 + y3)], .int .i64 l]) (by simp [results, Try.results111, go_sem, *]) rfl ⟨?_, by go_grown⟩
  unfold comb Ret4
  simp only [Int.toNat_natCast]
  rw [← hX.out, ← hY.out]
  simp only [add, smul]
  rw [show max k l = l from by omega]
  simp only [Int.one_mul]

set_option maxHeartbeats 1000000 in
theorem combined_add_gt (a b c d p q r s : Int) (k l : Nat) (w : World) (hx : big 1000000000 ⟨a, b, c, d⟩) (hy : big 1000000000 ⟨p, q, r, s⟩) (hk : k ≤ 40) (hl : l ≤ 40) (ho : l ≤ k) :
    Calls Try.prog 111 #[.agg #[.int .i64 a, .int .i64 b, .int .i64 c, .int .i64 d, .int .i64 k], .agg #[.int .i64 p, .int .i64 q, .int .i64 r, .int .i64 s, .int .i64 l], .int .i64 1] w fun e w' => e = Ret4 (comb ⟨⟨a, b, c, d⟩, k⟩ ⟨⟨p, q, r, s⟩, l⟩ 1) ∧ Below w.heap.size w w' := by
  have hoI : ¬ (k : Int) < (l : Int) := by omega
  go_enter Try.func111, Try.ntmps111
  go_wp2_with fail
  refine (timesRoots_int _ _ _ _ _ _ hx (by omega) (by omega)).mono ?_
  rintro e w1 ⟨rfl, hb1⟩
  have A1 : Has5 w1 w.heap.size a b c d k := Has5.keep (by refine ⟨⟨?_, ?_, ?_, ?_, ?_⟩, ?_, ?_, ?_, ?_, ?_⟩ <;> go_cell) hb1 (by simp; omega)
  have B1 : Has5 w1 (w.heap.size + 1) p q r s l := Has5.keep (by refine ⟨⟨?_, ?_, ?_, ?_, ?_⟩, ?_, ?_, ?_, ?_, ?_⟩ <;> go_cell) hb1 (by simp)
  have C1 : Has4 w1 (w.heap.size + 1 + 1) 0 0 0 0 := Has4.keep (by refine ⟨⟨?_, ?_, ?_, ?_⟩, ?_, ?_, ?_, ?_⟩ <;> go_cell) hb1 (by simp)
  have D1 : Below w.heap.size w w1 := Below.trans (by go_grown) (hb1.mono (by simp; omega))
  have s1 : w.heap.size + 3 ≤ w1.heap.size := by have := hb1.size; simp at this; omega
  clear hb1
  have bx := trn_bd (n := ((0 : Int)).toNat) hx (by omega)
  have hX : Hid (trn ((0 : Int)).toNat ⟨a, b, c, d⟩ = trn (max k l - k) ⟨a, b, c, d⟩) := by show _ = _; congr 1; omega
  generalize trn ((0 : Int)).toNat ⟨a, b, c, d⟩ = X at *
  obtain ⟨x0, x1, x2, x3⟩ := X
  obtain ⟨⟨i0, i1⟩, ⟨i2, i3⟩, ⟨i4, i5⟩, ⟨i6, i7⟩⟩ := bx
  simp only at i0 i1 i2 i3 i4 i5 i6 i7
  have P1 := A1
  have P2 := B1
  obtain ⟨⟨c0, c1, c2, c3, c4⟩, f0, f1, f2, f3, f4⟩ := P1
  obtain ⟨⟨g0, g1, g2, g3, g4⟩, e0, e1, e2, e3, e4⟩ := P2
  have l1 : w.heap.size < w1.heap.size := by omega
  have l2 : w.heap.size + 1 < w1.heap.size := by omega
  have l3 : w.heap.size + 1 + 1 < w1.heap.size := by omega
  go_wp2_with fail
  refine (timesRoots_int _ _ _ _ _ _ hy (by omega) (by omega)).mono ?_
  rintro e w2 ⟨rfl, hb2⟩
  have A2 : Has4 w2 w1.heap.size x0 x1 x2 x3 := Has4.keep (by refine ⟨⟨?_, ?_, ?_, ?_⟩, ?_, ?_, ?_, ?_⟩ <;> go_cell) hb2 (by simp)
  have C2 : Has4 w2 (w.heap.size + 1 + 1) 0 0 0 0 := Has4.keep (by obtain ⟨⟨u0, u1, u2, u3⟩, v0, v1, v2, v3⟩ := C1; refine ⟨⟨?_, ?_, ?_, ?_⟩, ?_, ?_, ?_, ?_⟩ <;> go_cell) hb2 (by simp; omega)
  have D2 : Below w.heap.size w w2 := Below.trans (by go_grown) (hb2.mono (by simp; omega))
  have s2 : w1.heap.size + 1 ≤ w2.heap.size := by have := hb2.size; simp at this; omega
  clear hb2 A1 B1 C1 D1 c0 c1 c2 c3 c4 f0 f1 f2 f3 f4 g0 g1 g2 g3 g4 e0 e1 e2 e3 e4
  have by_ := trn_bd (n := ((k : Int) - l).toNat) hy (by omega)
  have hY : Hid (trn ((k : Int) - l).toNat ⟨p, q, r, s⟩ = trn (max k l - l) ⟨p, q, r, s⟩) := by show _ = _; congr 1; omega
  generalize trn ((k : Int) - l).toNat ⟨p, q, r, s⟩ = Y at *
  obtain ⟨y0, y1, y2, y3⟩ := Y
  obtain ⟨⟨j0, j1⟩, ⟨j2, j3⟩, ⟨j4, j5⟩, ⟨j6, j7⟩⟩ := by_
  simp only at j0 j1 j2 j3 j4 j5 j6 j7
  have P1 := A2
  have P2 := C2
  obtain ⟨⟨c0, c1, c2, c3⟩, f0, f1, f2, f3⟩ := P1
  obtain ⟨⟨g0, g1, g2, g3⟩, e0, e1, e2, e3⟩ := P2
  have l4 : w.heap.size + 1 + 1 < w2.heap.size := by omega
  have l5 : w1.heap.size < w2.heap.size := by omega
  go_wp2_with fail
  obtain ⟨w3, hw3⟩ : ∃ w3, w3 = w2.alloc (.cells #[.int .i64 y0, .int .i64 y1, .int .i64 y2, .int .i64 y3] 67) := ⟨_, rfl⟩
  rw [← hw3]
  have A3 : Has4 w3 w1.heap.size x0 x1 x2 x3 := by rw [hw3]; refine ⟨⟨?_, ?_, ?_, ?_⟩, ?_, ?_, ?_, ?_⟩ <;> go_cell
  have C3 : Has4 w3 (w.heap.size + 1 + 1) 0 0 0 0 := by rw [hw3]; refine ⟨⟨?_, ?_, ?_, ?_⟩, ?_, ?_, ?_, ?_⟩ <;> go_cell
  have E3 : Has4 w3 w2.heap.size y0 y1 y2 y3 := by rw [hw3]; refine ⟨⟨?_, ?_, ?_, ?_⟩, ?_, ?_, ?_, ?_⟩ <;> go_cell
  have D3 : Below w.heap.size w w3 := by rw [hw3]; go_grown
  have s3 : w2.heap.size + 1 ≤ w3.heap.size := by rw [hw3]; simp
  clear hw3 A2 C2 D2 c0 c1 c2 c3 f0 f1 f2 f3 g0 g1 g2 g3 e0 e1 e2 e3
  obtain ⟨⟨c0, c1, c2, c3⟩, f0, f1, f2, f3⟩ := A3
  obtain ⟨⟨g0, g1, g2, g3⟩, e0, e1, e2, e3⟩ := C3
  obtain ⟨⟨o0, o1, o2, o3⟩, _⟩ := E3
  have n1 : ¬ w1.heap.size = w2.heap.size := by omega
  have n2 : ¬ w2.heap.size = w1.heap.size := by omega
  have n3 : ¬ w1.heap.size = w.heap.size + 1 + 1 := by omega
  have n4 : ¬ w.heap.size + 1 + 1 = w1.heap.size := by omega
  refine wp_loop_rounds 5 ?_
  rw [rounds_succ]; go_wp2_with fail
  go_region
  go_wp2_with fail
  rw [rounds_succ]; go_wp2_with fail
  go_region
  go_wp2_with fail
  rw [rounds_succ]; go_wp2_with fail
  go_region
  go_wp2_with fail
  rw [rounds_succ]; go_wp2_with fail
  go_region
  go_wp2_with fail
  have Z4 : Has4 (((((w3.setCell ⟨w1.heap.size, 0, none⟩ (.int .i64 (x0 + y0))).setCell ⟨w1.heap.size, 1, none⟩ (.int .i64 (x1 + y1))).setCell ⟨w1.heap.size, 2, none⟩ (.int .i64 (x2 + y2))).setCell ⟨w1.heap.size, 3, none⟩ (.int .i64 (x3 + y3))).drew.drew.drew.drew) w1.heap.size (x0 + y0) (x1 + y1) (x2 + y2) (x3 + y3) := by refine ⟨⟨?_, ?_, ?_, ?_⟩, ?_, ?_, ?_, ?_⟩ <;> go_cell
  have Y5 : Has4 (((((w3.setCell ⟨w1.heap.size, 0, none⟩ (.int .i64 (x0 + y0))).setCell ⟨w1.heap.size, 1, none⟩ (.int .i64 (x1 + y1))).setCell ⟨w1.heap.size, 2, none⟩ (.int .i64 (x2 + y2))).setCell ⟨w1.heap.size, 3, none⟩ (.int .i64 (x3 + y3))).drew.drew.drew.drew) (w.heap.size + 1 + 1) 0 0 0 0 := by refine ⟨⟨?_, ?_, ?_, ?_⟩, ?_, ?_, ?_, ?_⟩ <;> go_cell
  have D4 : Below w.heap.size w (((((w3.setCell ⟨w1.heap.size, 0, none⟩ (.int .i64 (x0 + y0))).setCell ⟨w1.heap.size, 1, none⟩ (.int .i64 (x1 + y1))).setCell ⟨w1.heap.size, 2, none⟩ (.int .i64 (x2 + y2))).setCell ⟨w1.heap.size, 3, none⟩ (.int .i64 (x3 + y3))).drew.drew.drew.drew) := by go_grown
  clear D3 c0 c1 c2 c3 f0 f1 f2 f3 g0 g1 g2 g3 e0 e1 e2 e3 o0 o1 o2 o3
  generalize ((((w3.setCell ⟨w1.heap.size, 0, none⟩ (.int .i64 (x0 + y0))).setCell ⟨w1.heap.size, 1, none⟩ (.int .i64 (x1 + y1))).setCell ⟨w1.heap.size, 2, none⟩ (.int .i64 (x2 + y2))).setCell ⟨w1.heap.size, 3, none⟩ (.int .i64 (x3 + y3))).drew.drew.drew.drew = w4 at *
  obtain ⟨⟨c0, c1, c2, c3⟩, f0, f1, f2, f3⟩ := Z4
  obtain ⟨⟨g0, g1, g2, g3⟩, e0, e1, e2, e3⟩ := Y5
  rw [rounds_succ]; go_wp2_with fail
  refine bodyPost_ret (v := .tuple #[.agg #[.int .i64 (x0 + y0), .int .i64 (x1 + y1), .int .i64 (x2 + y2), .int .i64 (x3 + y3)], .int .i64 k]) (by simp [results, Try.results111, go_sem, *]) rfl ⟨?_, by go_grown⟩
  unfold comb Ret4
  simp only [Int.toNat_natCast]
  rw [← hX.out, ← hY.out]
  simp only [add, smul]
  rw [show max k l = k from by omega]
  simp only [Int.one_mul]

set_option maxHeartbeats 1000000 in
theorem combined_sub_le (a b c d p q r s : Int) (k l : Nat) (w : World) (hx : big 1000000000 ⟨a, b, c, d⟩) (hy : big 1000000000 ⟨p, q, r, s⟩) (hk : k ≤ 40) (hl : l ≤ 40) (ho : k < l) :
    Calls Try.prog 111 #[.agg #[.int .i64 a, .int .i64 b, .int .i64 c, .int .i64 d, .int .i64 k], .agg #[.int .i64 p, .int .i64 q, .int .i64 r, .int .i64 s, .int .i64 l], .int .i64 (-1)] w fun e w' => e = Ret4 (comb ⟨⟨a, b, c, d⟩, k⟩ ⟨⟨p, q, r, s⟩, l⟩ (-1)) ∧ Below w.heap.size w w' := by
  have hoI : (k : Int) < (l : Int) := by omega
  go_enter Try.func111, Try.ntmps111
  go_wp2_with fail
  refine (timesRoots_int _ _ _ _ _ _ hx (by omega) (by omega)).mono ?_
  rintro e w1 ⟨rfl, hb1⟩
  have A1 : Has5 w1 w.heap.size a b c d k := Has5.keep (by refine ⟨⟨?_, ?_, ?_, ?_, ?_⟩, ?_, ?_, ?_, ?_, ?_⟩ <;> go_cell) hb1 (by simp; omega)
  have B1 : Has5 w1 (w.heap.size + 1) p q r s l := Has5.keep (by refine ⟨⟨?_, ?_, ?_, ?_, ?_⟩, ?_, ?_, ?_, ?_, ?_⟩ <;> go_cell) hb1 (by simp)
  have C1 : Has4 w1 (w.heap.size + 1 + 1) 0 0 0 0 := Has4.keep (by refine ⟨⟨?_, ?_, ?_, ?_⟩, ?_, ?_, ?_, ?_⟩ <;> go_cell) hb1 (by simp)
  have D1 : Below w.heap.size w w1 := Below.trans (by go_grown) (hb1.mono (by simp; omega))
  have s1 : w.heap.size + 3 ≤ w1.heap.size := by have := hb1.size; simp at this; omega
  clear hb1
  have bx := trn_bd (n := ((l : Int) - k).toNat) hx (by omega)
  have hX : Hid (trn ((l : Int) - k).toNat ⟨a, b, c, d⟩ = trn (max k l - k) ⟨a, b, c, d⟩) := by show _ = _; congr 1; omega
  generalize trn ((l : Int) - k).toNat ⟨a, b, c, d⟩ = X at *
  obtain ⟨x0, x1, x2, x3⟩ := X
  obtain ⟨⟨i0, i1⟩, ⟨i2, i3⟩, ⟨i4, i5⟩, ⟨i6, i7⟩⟩ := bx
  simp only at i0 i1 i2 i3 i4 i5 i6 i7
  have P1 := A1
  have P2 := B1
  obtain ⟨⟨c0, c1, c2, c3, c4⟩, f0, f1, f2, f3, f4⟩ := P1
  obtain ⟨⟨g0, g1, g2, g3, g4⟩, e0, e1, e2, e3, e4⟩ := P2
  have l1 : w.heap.size < w1.heap.size := by omega
  have l2 : w.heap.size + 1 < w1.heap.size := by omega
  have l3 : w.heap.size + 1 + 1 < w1.heap.size := by omega
  go_wp2_with fail
  refine (timesRoots_int _ _ _ _ _ _ hy (by omega) (by omega)).mono ?_
  rintro e w2 ⟨rfl, hb2⟩
  have A2 : Has4 w2 w1.heap.size x0 x1 x2 x3 := Has4.keep (by refine ⟨⟨?_, ?_, ?_, ?_⟩, ?_, ?_, ?_, ?_⟩ <;> go_cell) hb2 (by simp)
  have C2 : Has4 w2 (w.heap.size + 1 + 1) 0 0 0 0 := Has4.keep (by obtain ⟨⟨u0, u1, u2, u3⟩, v0, v1, v2, v3⟩ := C1; refine ⟨⟨?_, ?_, ?_, ?_⟩, ?_, ?_, ?_, ?_⟩ <;> go_cell) hb2 (by simp; omega)
  have D2 : Below w.heap.size w w2 := Below.trans (by go_grown) (hb2.mono (by simp; omega))
  have s2 : w1.heap.size + 1 ≤ w2.heap.size := by have := hb2.size; simp at this; omega
  clear hb2 A1 B1 C1 D1 c0 c1 c2 c3 c4 f0 f1 f2 f3 f4 g0 g1 g2 g3 g4 e0 e1 e2 e3 e4
  have by_ := trn_bd (n := ((0 : Int)).toNat) hy (by omega)
  have hY : Hid (trn ((0 : Int)).toNat ⟨p, q, r, s⟩ = trn (max k l - l) ⟨p, q, r, s⟩) := by show _ = _; congr 1; omega
  generalize trn ((0 : Int)).toNat ⟨p, q, r, s⟩ = Y at *
  obtain ⟨y0, y1, y2, y3⟩ := Y
  obtain ⟨⟨j0, j1⟩, ⟨j2, j3⟩, ⟨j4, j5⟩, ⟨j6, j7⟩⟩ := by_
  simp only at j0 j1 j2 j3 j4 j5 j6 j7
  have P1 := A2
  have P2 := C2
  obtain ⟨⟨c0, c1, c2, c3⟩, f0, f1, f2, f3⟩ := P1
  obtain ⟨⟨g0, g1, g2, g3⟩, e0, e1, e2, e3⟩ := P2
  have l4 : w.heap.size + 1 + 1 < w2.heap.size := by omega
  have l5 : w1.heap.size < w2.heap.size := by omega
  go_wp2_with fail
  obtain ⟨w3, hw3⟩ : ∃ w3, w3 = w2.alloc (.cells #[.int .i64 y0, .int .i64 y1, .int .i64 y2, .int .i64 y3] 67) := ⟨_, rfl⟩
  rw [← hw3]
  have A3 : Has4 w3 w1.heap.size x0 x1 x2 x3 := by rw [hw3]; refine ⟨⟨?_, ?_, ?_, ?_⟩, ?_, ?_, ?_, ?_⟩ <;> go_cell
  have C3 : Has4 w3 (w.heap.size + 1 + 1) 0 0 0 0 := by rw [hw3]; refine ⟨⟨?_, ?_, ?_, ?_⟩, ?_, ?_, ?_, ?_⟩ <;> go_cell
  have E3 : Has4 w3 w2.heap.size y0 y1 y2 y3 := by rw [hw3]; refine ⟨⟨?_, ?_, ?_, ?_⟩, ?_, ?_, ?_, ?_⟩ <;> go_cell
  have D3 : Below w.heap.size w w3 := by rw [hw3]; go_grown
  have s3 : w2.heap.size + 1 ≤ w3.heap.size := by rw [hw3]; simp
  clear hw3 A2 C2 D2 c0 c1 c2 c3 f0 f1 f2 f3 g0 g1 g2 g3 e0 e1 e2 e3
  obtain ⟨⟨c0, c1, c2, c3⟩, f0, f1, f2, f3⟩ := A3
  obtain ⟨⟨g0, g1, g2, g3⟩, e0, e1, e2, e3⟩ := C3
  obtain ⟨⟨o0, o1, o2, o3⟩, _⟩ := E3
  have n1 : ¬ w1.heap.size = w2.heap.size := by omega
  have n2 : ¬ w2.heap.size = w1.heap.size := by omega
  have n3 : ¬ w1.heap.size = w.heap.size + 1 + 1 := by omega
  have n4 : ¬ w.heap.size + 1 + 1 = w1.heap.size := by omega
  refine wp_loop_rounds 5 ?_
  rw [rounds_succ]; go_wp2_with fail
  go_region
  go_wp2_with fail
  rw [rounds_succ]; go_wp2_with fail
  go_region
  go_wp2_with fail
  rw [rounds_succ]; go_wp2_with fail
  go_region
  go_wp2_with fail
  rw [rounds_succ]; go_wp2_with fail
  go_region
  go_wp2_with fail
  have Z4 : Has4 (((((w3.setCell ⟨w1.heap.size, 0, none⟩ (.int .i64 (x0 + -y0))).setCell ⟨w1.heap.size, 1, none⟩ (.int .i64 (x1 + -y1))).setCell ⟨w1.heap.size, 2, none⟩ (.int .i64 (x2 + -y2))).setCell ⟨w1.heap.size, 3, none⟩ (.int .i64 (x3 + -y3))).drew.drew.drew.drew) w1.heap.size (x0 + -y0) (x1 + -y1) (x2 + -y2) (x3 + -y3) := by refine ⟨⟨?_, ?_, ?_, ?_⟩, ?_, ?_, ?_, ?_⟩ <;> go_cell
  have Y5 : Has4 (((((w3.setCell ⟨w1.heap.size, 0, none⟩ (.int .i64 (x0 + -y0))).setCell ⟨w1.heap.size, 1, none⟩ (.int .i64 (x1 + -y1))).setCell ⟨w1.heap.size, 2, none⟩ (.int .i64 (x2 + -y2))).setCell ⟨w1.heap.size, 3, none⟩ (.int .i64 (x3 + -y3))).drew.drew.drew.drew) (w.heap.size + 1 + 1) 0 0 0 0 := by refine ⟨⟨?_, ?_, ?_, ?_⟩, ?_, ?_, ?_, ?_⟩ <;> go_cell
  have D4 : Below w.heap.size w (((((w3.setCell ⟨w1.heap.size, 0, none⟩ (.int .i64 (x0 + -y0))).setCell ⟨w1.heap.size, 1, none⟩ (.int .i64 (x1 + -y1))).setCell ⟨w1.heap.size, 2, none⟩ (.int .i64 (x2 + -y2))).setCell ⟨w1.heap.size, 3, none⟩ (.int .i64 (x3 + -y3))).drew.drew.drew.drew) := by go_grown
  clear D3 c0 c1 c2 c3 f0 f1 f2 f3 g0 g1 g2 g3 e0 e1 e2 e3 o0 o1 o2 o3
  generalize ((((w3.setCell ⟨w1.heap.size, 0, none⟩ (.int .i64 (x0 + -y0))).setCell ⟨w1.heap.size, 1, none⟩ (.int .i64 (x1 + -y1))).setCell ⟨w1.heap.size, 2, none⟩ (.int .i64 (x2 + -y2))).setCell ⟨w1.heap.size, 3, none⟩ (.int .i64 (x3 + -y3))).drew.drew.drew.drew = w4 at *
  obtain ⟨⟨c0, c1, c2, c3⟩, f0, f1, f2, f3⟩ := Z4
  obtain ⟨⟨g0, g1, g2, g3⟩, e0, e1, e2, e3⟩ := Y5
  rw [rounds_succ]; go_wp2_with fail
  refine bodyPost_ret (v := .tuple #[.agg #[.int .i64 (x0 + -y0), .int .i64 (x1 + -y1), .int .i64 (x2 + -y2), .int .i64 (x3 + -y3)], .int .i64 l]) (by simp [results, Try.results111, go_sem, *]) rfl ⟨?_, by go_grown⟩
  unfold comb Ret4
  simp only [Int.toNat_natCast]
  rw [← hX.out, ← hY.out]
  simp only [add, smul]
  rw [show max k l = l from by omega]
  simp only [Int.one_mul, Int.neg_mul]

set_option maxHeartbeats 1000000 in
theorem combined_sub_gt (a b c d p q r s : Int) (k l : Nat) (w : World) (hx : big 1000000000 ⟨a, b, c, d⟩) (hy : big 1000000000 ⟨p, q, r, s⟩) (hk : k ≤ 40) (hl : l ≤ 40) (ho : l ≤ k) :
    Calls Try.prog 111 #[.agg #[.int .i64 a, .int .i64 b, .int .i64 c, .int .i64 d, .int .i64 k], .agg #[.int .i64 p, .int .i64 q, .int .i64 r, .int .i64 s, .int .i64 l], .int .i64 (-1)] w fun e w' => e = Ret4 (comb ⟨⟨a, b, c, d⟩, k⟩ ⟨⟨p, q, r, s⟩, l⟩ (-1)) ∧ Below w.heap.size w w' := by
  have hoI : ¬ (k : Int) < (l : Int) := by omega
  go_enter Try.func111, Try.ntmps111
  go_wp2_with fail
  refine (timesRoots_int _ _ _ _ _ _ hx (by omega) (by omega)).mono ?_
  rintro e w1 ⟨rfl, hb1⟩
  have A1 : Has5 w1 w.heap.size a b c d k := Has5.keep (by refine ⟨⟨?_, ?_, ?_, ?_, ?_⟩, ?_, ?_, ?_, ?_, ?_⟩ <;> go_cell) hb1 (by simp; omega)
  have B1 : Has5 w1 (w.heap.size + 1) p q r s l := Has5.keep (by refine ⟨⟨?_, ?_, ?_, ?_, ?_⟩, ?_, ?_, ?_, ?_, ?_⟩ <;> go_cell) hb1 (by simp)
  have C1 : Has4 w1 (w.heap.size + 1 + 1) 0 0 0 0 := Has4.keep (by refine ⟨⟨?_, ?_, ?_, ?_⟩, ?_, ?_, ?_, ?_⟩ <;> go_cell) hb1 (by simp)
  have D1 : Below w.heap.size w w1 := Below.trans (by go_grown) (hb1.mono (by simp; omega))
  have s1 : w.heap.size + 3 ≤ w1.heap.size := by have := hb1.size; simp at this; omega
  clear hb1
  have bx := trn_bd (n := ((0 : Int)).toNat) hx (by omega)
  have hX : Hid (trn ((0 : Int)).toNat ⟨a, b, c, d⟩ = trn (max k l - k) ⟨a, b, c, d⟩) := by show _ = _; congr 1; omega
  generalize trn ((0 : Int)).toNat ⟨a, b, c, d⟩ = X at *
  obtain ⟨x0, x1, x2, x3⟩ := X
  obtain ⟨⟨i0, i1⟩, ⟨i2, i3⟩, ⟨i4, i5⟩, ⟨i6, i7⟩⟩ := bx
  simp only at i0 i1 i2 i3 i4 i5 i6 i7
  have P1 := A1
  have P2 := B1
  obtain ⟨⟨c0, c1, c2, c3, c4⟩, f0, f1, f2, f3, f4⟩ := P1
  obtain ⟨⟨g0, g1, g2, g3, g4⟩, e0, e1, e2, e3, e4⟩ := P2
  have l1 : w.heap.size < w1.heap.size := by omega
  have l2 : w.heap.size + 1 < w1.heap.size := by omega
  have l3 : w.heap.size + 1 + 1 < w1.heap.size := by omega
  go_wp2_with fail
  refine (timesRoots_int _ _ _ _ _ _ hy (by omega) (by omega)).mono ?_
  rintro e w2 ⟨rfl, hb2⟩
  have A2 : Has4 w2 w1.heap.size x0 x1 x2 x3 := Has4.keep (by refine ⟨⟨?_, ?_, ?_, ?_⟩, ?_, ?_, ?_, ?_⟩ <;> go_cell) hb2 (by simp)
  have C2 : Has4 w2 (w.heap.size + 1 + 1) 0 0 0 0 := Has4.keep (by obtain ⟨⟨u0, u1, u2, u3⟩, v0, v1, v2, v3⟩ := C1; refine ⟨⟨?_, ?_, ?_, ?_⟩, ?_, ?_, ?_, ?_⟩ <;> go_cell) hb2 (by simp; omega)
  have D2 : Below w.heap.size w w2 := Below.trans (by go_grown) (hb2.mono (by simp; omega))
  have s2 : w1.heap.size + 1 ≤ w2.heap.size := by have := hb2.size; simp at this; omega
  clear hb2 A1 B1 C1 D1 c0 c1 c2 c3 c4 f0 f1 f2 f3 f4 g0 g1 g2 g3 g4 e0 e1 e2 e3 e4
  have by_ := trn_bd (n := ((k : Int) - l).toNat) hy (by omega)
  have hY : Hid (trn ((k : Int) - l).toNat ⟨p, q, r, s⟩ = trn (max k l - l) ⟨p, q, r, s⟩) := by show _ = _; congr 1; omega
  generalize trn ((k : Int) - l).toNat ⟨p, q, r, s⟩ = Y at *
  obtain ⟨y0, y1, y2, y3⟩ := Y
  obtain ⟨⟨j0, j1⟩, ⟨j2, j3⟩, ⟨j4, j5⟩, ⟨j6, j7⟩⟩ := by_
  simp only at j0 j1 j2 j3 j4 j5 j6 j7
  have P1 := A2
  have P2 := C2
  obtain ⟨⟨c0, c1, c2, c3⟩, f0, f1, f2, f3⟩ := P1
  obtain ⟨⟨g0, g1, g2, g3⟩, e0, e1, e2, e3⟩ := P2
  have l4 : w.heap.size + 1 + 1 < w2.heap.size := by omega
  have l5 : w1.heap.size < w2.heap.size := by omega
  go_wp2_with fail
  obtain ⟨w3, hw3⟩ : ∃ w3, w3 = w2.alloc (.cells #[.int .i64 y0, .int .i64 y1, .int .i64 y2, .int .i64 y3] 67) := ⟨_, rfl⟩
  rw [← hw3]
  have A3 : Has4 w3 w1.heap.size x0 x1 x2 x3 := by rw [hw3]; refine ⟨⟨?_, ?_, ?_, ?_⟩, ?_, ?_, ?_, ?_⟩ <;> go_cell
  have C3 : Has4 w3 (w.heap.size + 1 + 1) 0 0 0 0 := by rw [hw3]; refine ⟨⟨?_, ?_, ?_, ?_⟩, ?_, ?_, ?_, ?_⟩ <;> go_cell
  have E3 : Has4 w3 w2.heap.size y0 y1 y2 y3 := by rw [hw3]; refine ⟨⟨?_, ?_, ?_, ?_⟩, ?_, ?_, ?_, ?_⟩ <;> go_cell
  have D3 : Below w.heap.size w w3 := by rw [hw3]; go_grown
  have s3 : w2.heap.size + 1 ≤ w3.heap.size := by rw [hw3]; simp
  clear hw3 A2 C2 D2 c0 c1 c2 c3 f0 f1 f2 f3 g0 g1 g2 g3 e0 e1 e2 e3
  obtain ⟨⟨c0, c1, c2, c3⟩, f0, f1, f2, f3⟩ := A3
  obtain ⟨⟨g0, g1, g2, g3⟩, e0, e1, e2, e3⟩ := C3
  obtain ⟨⟨o0, o1, o2, o3⟩, _⟩ := E3
  have n1 : ¬ w1.heap.size = w2.heap.size := by omega
  have n2 : ¬ w2.heap.size = w1.heap.size := by omega
  have n3 : ¬ w1.heap.size = w.heap.size + 1 + 1 := by omega
  have n4 : ¬ w.heap.size + 1 + 1 = w1.heap.size := by omega
  refine wp_loop_rounds 5 ?_
  rw [rounds_succ]; go_wp2_with fail
  go_region
  go_wp2_with fail
  rw [rounds_succ]; go_wp2_with fail
  go_region
  go_wp2_with fail
  rw [rounds_succ]; go_wp2_with fail
  go_region
  go_wp2_with fail
  rw [rounds_succ]; go_wp2_with fail
  go_region
  go_wp2_with fail
  have Z4 : Has4 (((((w3.setCell ⟨w1.heap.size, 0, none⟩ (.int .i64 (x0 + -y0))).setCell ⟨w1.heap.size, 1, none⟩ (.int .i64 (x1 + -y1))).setCell ⟨w1.heap.size, 2, none⟩ (.int .i64 (x2 + -y2))).setCell ⟨w1.heap.size, 3, none⟩ (.int .i64 (x3 + -y3))).drew.drew.drew.drew) w1.heap.size (x0 + -y0) (x1 + -y1) (x2 + -y2) (x3 + -y3) := by refine ⟨⟨?_, ?_, ?_, ?_⟩, ?_, ?_, ?_, ?_⟩ <;> go_cell
  have Y5 : Has4 (((((w3.setCell ⟨w1.heap.size, 0, none⟩ (.int .i64 (x0 + -y0))).setCell ⟨w1.heap.size, 1, none⟩ (.int .i64 (x1 + -y1))).setCell ⟨w1.heap.size, 2, none⟩ (.int .i64 (x2 + -y2))).setCell ⟨w1.heap.size, 3, none⟩ (.int .i64 (x3 + -y3))).drew.drew.drew.drew) (w.heap.size + 1 + 1) 0 0 0 0 := by refine ⟨⟨?_, ?_, ?_, ?_⟩, ?_, ?_, ?_, ?_⟩ <;> go_cell
  have D4 : Below w.heap.size w (((((w3.setCell ⟨w1.heap.size, 0, none⟩ (.int .i64 (x0 + -y0))).setCell ⟨w1.heap.size, 1, none⟩ (.int .i64 (x1 + -y1))).setCell ⟨w1.heap.size, 2, none⟩ (.int .i64 (x2 + -y2))).setCell ⟨w1.heap.size, 3, none⟩ (.int .i64 (x3 + -y3))).drew.drew.drew.drew) := by go_grown
  clear D3 c0 c1 c2 c3 f0 f1 f2 f3 g0 g1 g2 g3 e0 e1 e2 e3 o0 o1 o2 o3
  generalize ((((w3.setCell ⟨w1.heap.size, 0, none⟩ (.int .i64 (x0 + -y0))).setCell ⟨w1.heap.size, 1, none⟩ (.int .i64 (x1 + -y1))).setCell ⟨w1.heap.size, 2, none⟩ (.int .i64 (x2 + -y2))).setCell ⟨w1.heap.size, 3, none⟩ (.int .i64 (x3 + -y3))).drew.drew.drew.drew = w4 at *
  obtain ⟨⟨c0, c1, c2, c3⟩, f0, f1, f2, f3⟩ := Z4
  obtain ⟨⟨g0, g1, g2, g3⟩, e0, e1, e2, e3⟩ := Y5
  rw [rounds_succ]; go_wp2_with fail
  refine bodyPost_ret (v := .tuple #[.agg #[.int .i64 (x0 + -y0), .int .i64 (x1 + -y1), .int .i64 (x2 + -y2), .int .i64 (x3 + -y3)], .int .i64 k]) (by simp [results, Try.results111, go_sem, *]) rfl ⟨?_, by go_grown⟩
  unfold comb Ret4
  simp only [Int.toNat_natCast]
  rw [← hX.out, ← hY.out]
  simp only [add, smul]
  rw [show max k l = k from by omega]
  simp only [Int.one_mul, Int.neg_mul]

theorem combined_add (a b c d k p q r s l : Int) (w : World) (hx : vld ⟨⟨a, b, c, d⟩, k⟩ = true) (hy : vld ⟨⟨p, q, r, s⟩, l⟩ = true) :
    Calls Try.prog 111 #[.agg #[.int .i64 a, .int .i64 b, .int .i64 c, .int .i64 d, .int .i64 k], .agg #[.int .i64 p, .int .i64 q, .int .i64 r, .int .i64 s, .int .i64 l], .int .i64 1] w fun e w' => e = Ret4 (comb ⟨⟨a, b, c, d⟩, k⟩ ⟨⟨p, q, r, s⟩, l⟩ 1) ∧ Below w.heap.size w w' := by
  have k1 := vld_k hx
  have k2 := vld_k hy
  have v1 := vld_sm hx
  have v2 := vld_sm hy
  simp only at k1 k2 v1 v2
  obtain ⟨k, rfl⟩ := Int.eq_ofNat_of_zero_le k1.1
  obtain ⟨l, rfl⟩ := Int.eq_ofNat_of_zero_le k2.1
  by_cases h : k < l
  · exact combined_add_le a b c d p q r s k l w v1 v2 (by omega) (by omega) h
  · exact combined_add_gt a b c d p q r s k l w v1 v2 (by omega) (by omega) (by omega)

theorem combined_sub (a b c d k p q r s l : Int) (w : World) (hx : vld ⟨⟨a, b, c, d⟩, k⟩ = true) (hy : vld ⟨⟨p, q, r, s⟩, l⟩ = true) :
    Calls Try.prog 111 #[.agg #[.int .i64 a, .int .i64 b, .int .i64 c, .int .i64 d, .int .i64 k], .agg #[.int .i64 p, .int .i64 q, .int .i64 r, .int .i64 s, .int .i64 l], .int .i64 (-1)] w fun e w' => e = Ret4 (comb ⟨⟨a, b, c, d⟩, k⟩ ⟨⟨p, q, r, s⟩, l⟩ (-1)) ∧ Below w.heap.size w w' := by
  have k1 := vld_k hx
  have k2 := vld_k hy
  have v1 := vld_sm hx
  have v2 := vld_sm hy
  simp only at k1 k2 v1 v2
  obtain ⟨k, rfl⟩ := Int.eq_ofNat_of_zero_le k1.1
  obtain ⟨l, rfl⟩ := Int.eq_ofNat_of_zero_le k2.1
  by_cases h : k < l
  · exact combined_sub_le a b c d p q r s k l w v1 v2 (by omega) (by omega) h
  · exact combined_sub_gt a b c d p q r s k l w v1 v2 (by omega) (by omega) (by omega)
end Go.Proofs.Ytgbnpnenejgnnaa
