import Derived.Test.YtkcbkcgampoclaaFl
import Derived.Test.YtkcbkcgampoclaaG
import Derived.Test.YtkcbkcgampoclaaSp2
namespace Amp
def rlTo (f : Nat → Nm) : Nat → Bool
  | 0 => true
  | n + 1 => rlTo f n && relB (f n).v
theorem rlTo_stop {f : Nat → Nm} {k : Nat} (h : relB (f k).v = false) : ∀ n, k < n → rlTo f n = false := by
  intro n
  induction n with
  | zero => intro h; omega
  | succ n ih =>
    intro hk
    simp only [rlTo]
    by_cases e : k = n
    · subst e; rw [h]; simp
    · rw [ih (by omega)]; rfl
theorem okTo_get {f : Nat → Nm} : ∀ {n : Nat}, okTo f n = true → ∀ k, k < n → vld (f k) = true := by
  intro n
  induction n with
  | zero => intro _ k hk; omega
  | succ n ih =>
    intro h k hk
    simp only [okTo, Bool.and_eq_true] at h
    by_cases e : k = n
    · subst e; exact h.2
    · exact ih h.1 k (by omega)
def chkR (f : Nat → Nm) (n : Nat) : Int := if okTo f n = true then (if rlTo f n = true then 0 else 11) else 10
theorem chkR_bad {f : Nat → Nm} {n : Nat} (h : okTo f n = false) : chkR f n = 10 := by unfold chkR; rw [h]; rfl
theorem chkR_no {f : Nat → Nm} {n : Nat} (h : okTo f n = true) (g : rlTo f n = false) : chkR f n = 11 := by unfold chkR; rw [h, g]; rfl
theorem chkR_ok {f : Nat → Nm} {n : Nat} (h : okTo f n = true) (g : rlTo f n = true) : chkR f n = 0 := by unfold chkR; rw [h, g]; rfl
theorem rel_iff {x : C4} : relB x = true ↔ x.c = 0 ∧ x.d = -x.b := by
  simp only [relB, Bool.and_eq_true, beq_iff_eq]; omega
theorem rel_tr {x : C4} (h : relB x = true) : relB (tr x) = true := by
  rw [rel_iff] at *; simp only [tr]; omega
theorem rel_trn (n : Nat) {x : C4} (h : relB x = true) : relB (trn n x) = true := by
  induction n generalizing x with
  | zero => exact h
  | succ n ih => exact ih (rel_tr h)
theorem rel_comb {x y : Nm} (hx : relB x.v = true) (hy : relB y.v = true) : relB (comb x y (-1)).1 = true := by
  have a := rel_trn (max x.k.toNat y.k.toNat - x.k.toNat) hx
  have b := rel_trn (max x.k.toNat y.k.toNat - y.k.toNat) hy
  rw [rel_iff] at *
  simp only [comb, add, smul]
  omega
theorem comb_bd2 {x y : Nm} (hx : vld x = true) (hy : vld y = true) : big 2305843009213693952 (comb x y (-1)).1 := by
  have a := trn_bd (vld_sm hx) (n := max x.k.toNat y.k.toNat - x.k.toNat) (by have := vld_k hx; have := vld_k hy; omega)
  have b := trn_bd (vld_sm hy) (n := max x.k.toNat y.k.toNat - y.k.toNat) (by have := vld_k hx; have := vld_k hy; omega)
  simp only [big, bg, comb, add, smul] at *
  omega
/-- P1.6, the order of two numbers. -/
def cmpS (x y : Nm) : Int × Int :=
  if (vld x && vld y) = true then (if (relB x.v && relB y.v) = true then (sgS (comb x y (-1)).1.a (comb x y (-1)).1.b, 0) else (0, 11)) else (0, 10)
def fst2 (x y : Nm) : Nat → Nm := fun i => if i = 0 then x else y
theorem fst2_ok (x y : Nm) : okTo (fst2 x y) 2 = (vld x && vld y) := by simp [okTo, fst2]
theorem fst2_rl (x y : Nm) : rlTo (fst2 x y) 2 = (relB x.v && relB y.v) := by simp [rlTo, fst2]
end Amp
namespace Go.Proofs.Ytkcbkcgampoclaa
open Go.RowKit Amp
attribute [local go_sem] ix0 ix1 ix2 ix3
attribute [local go_sem high] run_eqNum run_neNum run_eqArr22
theorem NumAt.held {w w1 : World} {b o : Nat} {z : Nm} (h : NumAt w b o z) (hb : Below w.heap.size w w1) (hB : b < w.heap.size) : NumAt w1 b o z := by
  obtain ⟨k1, _⟩ := bcell hb
  unfold NumAt at *
  simpa only [k1 _ _ hB] using h

set_option maxHeartbeats 2000000 in
theorem checkReal_any (b o n cap : Nat) (f : Nat → Nm) (w : World) (hn : n ≤ 9223372036854775807) (hc : ∀ i, i < n → NumAt w b (o + i * 5) (f i)) :
    Calls Try.prog 45 #[.slice (some ⟨b, o, none⟩) n cap] w fun e w' => e = .returned (.int .i64 (chkR f n)) ∧ Below w.heap.size w w' := by
  have HC := Lib.hid hc
  clear hc
  cases hk : okTo f n
  · have HK := Lib.hid (chk_bad hk)
    have HE := Lib.hid (chkR_bad hk)
    clear hk
    go_enter Try.func45, Try.ntmps45
    go_wp2_with fail
    refine (check_any b o n cap f _ hn HC.out).mono ?_
    rintro e w1 ⟨rfl, hb1⟩
    rw [HK.out]
    go_wp2_with fail
    go_returns
    exact ⟨by rw [HE.out]; rfl, hb1⟩
  · have HK := Lib.hid (chk_ok hk)
    have HO := Lib.hid hk
    clear hk
    go_enter Try.func45, Try.ntmps45
    go_wp2_with fail
    refine (check_any b o n cap f _ hn HC.out).mono ?_
    rintro e w1 ⟨rfl, hb1⟩
    rw [HK.out]
    go_wp2_with fail
    go_loopw [15] (fun i wr => ∃ k : Nat, i = .int .i64 k ∧ k ≤ n ∧ rlTo f k = true ∧ Below w.heap.size w wr) (fun i _ => n - (intOf i).toNat)
    case atStart => exact ⟨0, rfl, Nat.zero_le _, rfl, hb1⟩
    case round =>
      obtain ⟨k, rfl, hk, hok, hbel⟩ := hrel
      have hsz := hbel.size
      by_cases hlt : k < n
      · obtain ⟨c0, c1, c2, c3, c4⟩ := (HC.out k hlt).held hbel (World.block_lt_of_cell? w _ (HC.out k hlt).1)
        have lb : b < wr.heap.size := World.block_lt_of_cell? wr _ c0
        have HR := Lib.hid hok
        clear hok
        have HV := Lib.hid (show realS (f k) = (relB (f k).v, 0) from by unfold realS; rw [if_pos (okTo_get HO.out k hlt)])
        have hv' : realS ⟨⟨(f k).v.a, (f k).v.b, (f k).v.c, (f k).v.d⟩, (f k).k⟩ = (relB (f k).v, 0) := HV.out
        have HV' := Lib.hid hv'
        clear HV hv'
        cases hr : relB (f k).v
        · have HE := Lib.hid (chkR_no HO.out (rlTo_stop hr n hlt))
          rw [hr] at HV'
          clear hr
          go_wp2_with fail
          refine (Real_any _ _ _ _ _ _).mono ?_
          rintro e w2 ⟨rfl, hb2⟩
          have D2 : Below w.heap.size w w2 := Below.trans (by go_grown) (hb2.mono (by first | omega | (simp; done) | (simp; omega)))
          clear hb2
          rw [HV'.out]
          simp only
          go_wp2_with fail
          go_returns
          exact ⟨by rw [HE.out]; rfl, D2⟩
        · have HL := Lib.hid hr
          rw [hr] at HV'
          clear hr
          go_wp2_with fail
          refine (Real_any _ _ _ _ _ _).mono ?_
          rintro e w2 ⟨rfl, hb2⟩
          have D2 : Below w.heap.size w w2 := Below.trans (by go_grown) (hb2.mono (by first | omega | (simp; done) | (simp; omega)))
          clear hb2
          rw [HV'.out]
          simp only
          go_wp2_with fail
          go_roundw
          case rel => exact ⟨k + 1, by go_num, by omega, by simp only [rlTo]; rw [HR.out, HL.out]; rfl, D2⟩
          case measure => simp [intOf]; omega
      · obtain rfl : n = k := by omega
        have HE := Lib.hid (chkR_ok HO.out hok)
        clear hok
        go_wp2_with fail
        go_returns
        exact ⟨by rw [HE.out]; rfl, hbel⟩

theorem checkReal2 (b cap : Nat) (x y : Nm) (w : World) (h0 : NumAt w b 0 x) (h1 : NumAt w b 5 y) :
    Calls Try.prog 45 #[.slice (some ⟨b, 0, none⟩) 2 cap] w fun e w' => e = .returned (.int .i64 (chkR (fst2 x y) 2)) ∧ Below w.heap.size w w' :=
  checkReal_any b 0 2 cap (fst2 x y) w (by omega) (by
    intro i hi
    have hi' : i = 0 ∨ i = 1 := by omega
    rcases hi' with rfl | rfl
    · exact h0
    · exact h1)

set_option maxHeartbeats 2000000 in
theorem Cmp_any (a b c d k p q r s l : Int) (w : World) :
    Calls Try.prog 28 #[.agg #[.int .i64 a, .int .i64 b, .int .i64 c, .int .i64 d, .int .i64 k], .agg #[.int .i64 p, .int .i64 q, .int .i64 r, .int .i64 s, .int .i64 l]] w fun e w' => e = .returned (.tuple #[.int .i64 (cmpS ⟨⟨a, b, c, d⟩, k⟩ ⟨⟨p, q, r, s⟩, l⟩).1, .int .i64 (cmpS ⟨⟨a, b, c, d⟩, k⟩ ⟨⟨p, q, r, s⟩, l⟩).2]) ∧ Below w.heap.size w w' := by
  have bad : ∀ e0 : Int, e0 ≠ 0 → chkR (fst2 ⟨⟨a, b, c, d⟩, k⟩ ⟨⟨p, q, r, s⟩, l⟩) 2 = e0 → cmpS ⟨⟨a, b, c, d⟩, k⟩ ⟨⟨p, q, r, s⟩, l⟩ = (0, e0) → Calls Try.prog 28 #[.agg #[.int .i64 a, .int .i64 b, .int .i64 c, .int .i64 d, .int .i64 k], .agg #[.int .i64 p, .int .i64 q, .int .i64 r, .int .i64 s, .int .i64 l]] w fun e w' => e = .returned (.tuple #[.int .i64 (cmpS ⟨⟨a, b, c, d⟩, k⟩ ⟨⟨p, q, r, s⟩, l⟩).1, .int .i64 (cmpS ⟨⟨a, b, c, d⟩, k⟩ ⟨⟨p, q, r, s⟩, l⟩).2]) ∧ Below w.heap.size w w' := by
    intro e0 he0 hch hE
    have HE := Lib.hid hE
    have HK := Lib.hid hch
    clear hE hch
    go_enter Try.func28, Try.ntmps28
    go_wp2_with fail
    refine (checkReal2 _ _ ⟨⟨a, b, c, d⟩, k⟩ ⟨⟨p, q, r, s⟩, l⟩ _ (by refine ⟨?_, ?_, ?_, ?_, ?_⟩ <;> go_cell) (by refine ⟨?_, ?_, ?_, ?_, ?_⟩ <;> go_cell)).mono ?_
    rintro e w1 ⟨rfl, hb1⟩
    have D1 : Below w.heap.size w w1 := Below.trans (by go_grown) (hb1.mono (by first | omega | (simp; done) | (simp; omega)))
    clear hb1
    rw [HK.out]
    go_wp2_with fail
    go_returns
    exact ⟨by rw [HE.out]; rfl, D1⟩
  cases hv : (vld ⟨⟨a, b, c, d⟩, k⟩ && vld ⟨⟨p, q, r, s⟩, l⟩)
  · exact bad 10 (by omega) (chkR_bad (by rw [fst2_ok]; exact hv)) (by unfold cmpS; rw [hv]; rfl)
  cases hr : (relB ⟨a, b, c, d⟩ && relB ⟨p, q, r, s⟩)
  · exact bad 11 (by omega) (chkR_no (by rw [fst2_ok]; exact hv) (by rw [fst2_rl]; exact hr)) (by unfold cmpS; rw [hv]; simp only [hr]; rfl)
  clear bad
  have HK := Lib.hid (chkR_ok (f := fst2 ⟨⟨a, b, c, d⟩, k⟩ ⟨⟨p, q, r, s⟩, l⟩) (n := 2) (by rw [fst2_ok]; exact hv) (by rw [fst2_rl]; exact hr))
  have HE := Lib.hid (show cmpS ⟨⟨a, b, c, d⟩, k⟩ ⟨⟨p, q, r, s⟩, l⟩ = (sgS (comb ⟨⟨a, b, c, d⟩, k⟩ ⟨⟨p, q, r, s⟩, l⟩ (-1)).1.a (comb ⟨⟨a, b, c, d⟩, k⟩ ⟨⟨p, q, r, s⟩, l⟩ (-1)).1.b, 0) from by unfold cmpS; rw [hv]; simp only [hr]; rfl)
  rw [Bool.and_eq_true] at hv hr
  have HX := Lib.hid hv.1
  have HY := Lib.hid hv.2
  have HB := Lib.hid (comb_bd2 hv.1 hv.2)
  have HZ := Lib.hid (rel_iff.1 (rel_comb (x := ⟨⟨a, b, c, d⟩, k⟩) (y := ⟨⟨p, q, r, s⟩, l⟩) hr.1 hr.2))
  clear hv hr
  go_enter Try.func28, Try.ntmps28
  go_wp2_with fail
  refine (checkReal2 _ _ ⟨⟨a, b, c, d⟩, k⟩ ⟨⟨p, q, r, s⟩, l⟩ _ (by refine ⟨?_, ?_, ?_, ?_, ?_⟩ <;> go_cell) (by refine ⟨?_, ?_, ?_, ?_, ?_⟩ <;> go_cell)).mono ?_
  rintro e w1 ⟨rfl, hb1⟩
  have A1 : Has5 w1 w.heap.size a b c d k := Has5.keep (by refine ⟨⟨?_, ?_, ?_, ?_, ?_⟩, ?_, ?_, ?_, ?_, ?_⟩ <;> go_cell) hb1 (by first | omega | (simp; done) | (simp; omega))
  have B1 : Has5 w1 (w.heap.size + 1) p q r s l := Has5.keep (by refine ⟨⟨?_, ?_, ?_, ?_, ?_⟩, ?_, ?_, ?_, ?_, ?_⟩ <;> go_cell) hb1 (by first | omega | (simp; done) | (simp; omega))
  have D1 : Below w.heap.size w w1 := Below.trans (by go_grown) (hb1.mono (by first | omega | (simp; done) | (simp; omega)))
  have s1 : w.heap.size + 1 < w1.heap.size := by have := hb1.size; simp at this; omega
  clear hb1
  rw [HK.out]
  obtain ⟨⟨c0, c1, c2, c3, c4⟩, f0, f1, f2, f3, f4⟩ := A1
  obtain ⟨⟨g0, g1, g2, g3, g4⟩, e0, e1, e2, e3, e4⟩ := B1
  go_wp2_with fail
  refine (combined_sub _ _ _ _ _ _ _ _ _ _ _ HX.out HY.out).mono ?_
  rintro e w2 ⟨rfl, hb2⟩
  have D2 : Below w.heap.size w w2 := D1.trans (hb2.mono (by omega))
  clear hb2 D1 c0 c1 c2 c3 c4 f0 f1 f2 f3 f4 g0 g1 g2 g3 g4 e0 e1 e2 e3 e4
  unfold Ret4
  generalize comb ⟨⟨a, b, c, d⟩, k⟩ ⟨⟨p, q, r, s⟩, l⟩ (-1) = m at *
  obtain ⟨⟨x, y, z, u⟩, n⟩ := m
  have s2 : w.heap.size ≤ w2.heap.size := D2.size
  go_wp2_with fail
  refine (sign_any _ _ _ _ _ HZ.out.1 HZ.out.2 HB.out.1 HB.out.2.1).mono ?_
  rintro e w3 ⟨rfl, hb3⟩
  have D3 : Below w.heap.size w w3 := Below.trans (by go_grown) (hb3.mono (by first | omega | (simp; done) | (simp; omega)))
  clear hb3
  go_wp2_with fail
  go_returns
  exact ⟨by rw [HE.out]; rfl, D3⟩

end Go.Proofs.Ytkcbkcgampoclaa
