import Derived.Test.YtjodjfllgofkaaaL
namespace Go.Proofs.Ytjodjfllgofkaaa
open Go.RowKit Amp
attribute [local go_sem] ix0 ix1 ix2 ix3 jx0 jx1 jx2 jx3

set_option maxHeartbeats 1000000 in
theorem rAdd_any (a b c d k p q r s l : Int) (w : World) :
    Calls Try.prog 83 #[.agg #[.int .i64 a, .int .i64 b, .int .i64 c, .int .i64 d, .int .i64 k], .agg #[.int .i64 p, .int .i64 q, .int .i64 r, .int .i64 s, .int .i64 l]] w fun e w' => e = Ret5 (addS ⟨⟨a, b, c, d⟩, k⟩ ⟨⟨p, q, r, s⟩, l⟩) ∧ Below w.heap.size w w' := by
  cases hx : vld ⟨⟨a, b, c, d⟩, k⟩
  · have hE : addS ⟨⟨a, b, c, d⟩, k⟩ ⟨⟨p, q, r, s⟩, l⟩ = (N0, 10) := by unfold addS; rw [hx]; rfl
    have hE := Lib.hid hE
    go_enter Try.func83, Try.ntmps83
    go_wp2_with fail
    refine (rValid_any _ _ _ _ _ _).mono ?_
    rintro e w1 ⟨rfl, hb1⟩
    obtain ⟨⟨q0, q1, q2, q3, q4⟩, r0, r1, r2, r3, r4⟩ : Has5 w1 (w.heap.size + 1 + 1) 0 0 0 0 0 := Has5.keep (by refine ⟨⟨?_, ?_, ?_, ?_, ?_⟩, ?_, ?_, ?_, ?_, ?_⟩ <;> go_cell) hb1 (by simp)
    have D1 : Below w.heap.size w w1 := Below.trans (by go_grown) (hb1.mono (by simp; omega))
    clear hb1
    simp only [hx]
    go_wp2_with fail
    refine bodyPost_ret (v := .tuple #[.agg #[.int .i64 0, .int .i64 0, .int .i64 0, .int .i64 0, .int .i64 0], .int .i64 10]) (by simp [results, Try.results83, go_sem, *]) rfl ⟨by rw [hE.out]; rfl, by go_grown⟩
  · cases hy : vld ⟨⟨p, q, r, s⟩, l⟩
    · have hE : addS ⟨⟨a, b, c, d⟩, k⟩ ⟨⟨p, q, r, s⟩, l⟩ = (N0, 10) := by unfold addS; rw [hx, hy]; rfl
      have hE := Lib.hid hE
      go_enter Try.func83, Try.ntmps83
      go_wp2_with fail
      refine (rValid_any _ _ _ _ _ _).mono ?_
      rintro e w1 ⟨rfl, hb1⟩
      have B1 : Has5 w1 (w.heap.size + 1) p q r s l := Has5.keep (by refine ⟨⟨?_, ?_, ?_, ?_, ?_⟩, ?_, ?_, ?_, ?_, ?_⟩ <;> go_cell) hb1 (by simp)
      have C1 : Has5 w1 (w.heap.size + 1 + 1) 0 0 0 0 0 := Has5.keep (by refine ⟨⟨?_, ?_, ?_, ?_, ?_⟩, ?_, ?_, ?_, ?_, ?_⟩ <;> go_cell) hb1 (by simp)
      have D1 : Below w.heap.size w w1 := Below.trans (by go_grown) (hb1.mono (by simp; omega))
      have s1 : w.heap.size + 3 ≤ w1.heap.size := by have := hb1.size; simp at this; omega
      clear hb1
      simp only [hx]
      obtain ⟨⟨g0, g1, g2, g3, g4⟩, e0, e1, e2, e3, e4⟩ := B1
      go_wp2_with fail
      refine (rValid_any _ _ _ _ _ _).mono ?_
      rintro e w2 ⟨rfl, hb2⟩
      obtain ⟨⟨q0, q1, q2, q3, q4⟩, r0, r1, r2, r3, r4⟩ := C1.keep hb2 (by omega)
      have D2 : Below w.heap.size w w2 := D1.trans (hb2.mono (by omega))
      clear hb2 D1 g0 g1 g2 g3 g4 e0 e1 e2 e3 e4 C1
      simp only [hy]
      go_wp2_with fail
      refine bodyPost_ret (v := .tuple #[.agg #[.int .i64 0, .int .i64 0, .int .i64 0, .int .i64 0, .int .i64 0], .int .i64 10]) (by simp [results, Try.results83, go_sem, *]) rfl ⟨by rw [hE.out]; rfl, by go_grown⟩
    · have hE : addS ⟨⟨a, b, c, d⟩, k⟩ ⟨⟨p, q, r, s⟩, l⟩ = made (comb ⟨⟨a, b, c, d⟩, k⟩ ⟨⟨p, q, r, s⟩, l⟩ 1).1 (comb ⟨⟨a, b, c, d⟩, k⟩ ⟨⟨p, q, r, s⟩, l⟩ 1).2 := by unfold addS; rw [hx, hy]; rfl
      have hE := Lib.hid hE
      have hbd := comb_bd hx hy (s := 1) (by omega)
      go_enter Try.func83, Try.ntmps83
      go_wp2_with fail
      refine (rValid_any _ _ _ _ _ _).mono ?_
      rintro e w1 ⟨rfl, hb1⟩
      have A1 : Has5 w1 w.heap.size a b c d k := Has5.keep (by refine ⟨⟨?_, ?_, ?_, ?_, ?_⟩, ?_, ?_, ?_, ?_, ?_⟩ <;> go_cell) hb1 (by simp; omega)
      have B1 : Has5 w1 (w.heap.size + 1) p q r s l := Has5.keep (by refine ⟨⟨?_, ?_, ?_, ?_, ?_⟩, ?_, ?_, ?_, ?_, ?_⟩ <;> go_cell) hb1 (by simp)
      have C1 : Has5 w1 (w.heap.size + 1 + 1) 0 0 0 0 0 := Has5.keep (by refine ⟨⟨?_, ?_, ?_, ?_, ?_⟩, ?_, ?_, ?_, ?_, ?_⟩ <;> go_cell) hb1 (by simp)
      have D1 : Below w.heap.size w w1 := Below.trans (by go_grown) (hb1.mono (by simp; omega))
      have s1 : w.heap.size + 3 ≤ w1.heap.size := by have := hb1.size; simp at this; omega
      clear hb1
      simp only [hx]
      have P1 := B1
      obtain ⟨⟨g0, g1, g2, g3, g4⟩, e0, e1, e2, e3, e4⟩ := P1
      have HX := Lib.hid hx
      clear hx
      go_wp2_with fail
      refine (rValid_any _ _ _ _ _ _).mono ?_
      rintro e w2 ⟨rfl, hb2⟩
      have A2 := A1.keep hb2 (by omega)
      have B2 := B1.keep hb2 (by omega)
      have C2 := C1.keep hb2 (by omega)
      have D2 : Below w.heap.size w w2 := D1.trans (hb2.mono (by omega))
      have s2 : w.heap.size + 3 ≤ w2.heap.size := by have := hb2.size; omega
      clear hb2 A1 B1 C1 D1 g0 g1 g2 g3 g4 e0 e1 e2 e3 e4
      simp only [hy]
      have HY := Lib.hid hy
      clear hy
      obtain ⟨⟨c0, c1, c2, c3, c4⟩, f0, f1, f2, f3, f4⟩ := A2
      obtain ⟨⟨g0, g1, g2, g3, g4⟩, e0, e1, e2, e3, e4⟩ := B2
      go_wp2_with fail
      refine (rCombined_add _ _ _ _ _ _ _ _ _ _ _ HX.out HY.out).mono ?_
      rintro e w3 ⟨rfl, hb3⟩
      have C3 := C2.keep hb3 (by omega)
      have D3 : Below w.heap.size w w3 := D2.trans (hb3.mono (by omega))
      have s3 : w.heap.size + 3 ≤ w3.heap.size := by have := hb3.size; omega
      clear hb3 C2 D2 c0 c1 c2 c3 c4 f0 f1 f2 f3 f4 g0 g1 g2 g3 g4 e0 e1 e2 e3 e4
      unfold Ret4
      generalize comb ⟨⟨a, b, c, d⟩, k⟩ ⟨⟨p, q, r, s⟩, l⟩ 1 = m at *
      obtain ⟨⟨x, y, z, u⟩, n⟩ := m
      simp only at hE hbd
      go_wp2_with fail
      refine (rMade_any _ _ _ _ _ _ hbd.1 hbd.2).mono ?_
      rintro e w4 ⟨rfl, hb4⟩
      have C4 := C3.keep hb4 (by omega)
      have D4 : Below w.heap.size w w4 := D3.trans (hb4.mono (by omega))
      clear hb4 C3 D3
      obtain ⟨⟨q0, q1, q2, q3, q4⟩, r0, r1, r2, r3, r4⟩ := C4
      obtain ⟨x', y', z', u', v', er, HM⟩ := res5 (made ⟨x, y, z, u⟩ n)
      rw [HM.out]
      unfold Ret5
      simp only
      go_wp2_with fail
      refine bodyPost_ret (v := .tuple #[.agg #[.int .i64 x', .int .i64 y', .int .i64 z', .int .i64 u', .int .i64 v'], .int .i64 er]) (by simp [results, Try.results83, go_sem, *]) rfl ⟨?_, by go_grown⟩
      rw [hE.out, HM.out]; rfl

end Go.Proofs.Ytjodjfllgofkaaa

namespace Amp
def stepS (t : Nm × Int) (z : Nm) : Nm × Int := if t.2 = 0 then (if (addS t.1 z).2 = 0 then addS t.1 z else (N0, (addS t.1 z).2)) else t
def tot (f : Nat → Nm) : Nat → Nm × Int
  | 0 => (N0, 0)
  | n + 1 => stepS (tot f n) (f n)
theorem tot_stop {f : Nat → Nm} {k : Nat} (h : (tot f k).2 ≠ 0) : ∀ n, k ≤ n → tot f n = tot f k := by
  intro n
  induction n with
  | zero => intro hk; obtain rfl : k = 0 := (by omega); rfl
  | succ n ih =>
    intro hk
    by_cases e : k = n + 1
    · subst e; rfl
    · have := ih (by omega)
      simp only [tot, stepS]
      rw [this, if_neg h]
theorem tot_bad {f : Nat → Nm} {k : Nat} {x y : Nm} {e : Int} (h : tot f k = (x, 0)) (ha : addS x (f k) = (y, e)) (he : e ≠ 0) (n : Nat) (hk : k < n) : tot f n = (N0, e) := by
  have h1 : tot f (k + 1) = (N0, e) := by simp only [tot, stepS]; rw [h]; simp only [ha]; simp [he]
  rw [tot_stop (k := k + 1) (by rw [h1]; exact he) n (by omega), h1]
theorem tot_good {f : Nat → Nm} {k : Nat} {x y : Nm} (h : tot f k = (x, 0)) (ha : addS x (f k) = (y, 0)) : tot f (k + 1) = (y, 0) := by
  simp only [tot, stepS]; rw [h]; simp [ha]
/-- P1.3, the sum of a list. -/
def sumS (f : Nat → Nm) (n : Nat) : Nm × Int := if 1000 < n then (N0, 2) else if okTo f n = true then tot f n else (N0, 10)
theorem sumS_long {f : Nat → Nm} {n : Nat} (h : 1000 < n) : sumS f n = (N0, 2) := by unfold sumS; rw [if_pos h]
theorem sumS_bad {f : Nat → Nm} {n : Nat} (h : ¬ 1000 < n) (hk : okTo f n = false) : sumS f n = (N0, 10) := by unfold sumS; rw [if_neg h, hk]; rfl
theorem sumS_ok {f : Nat → Nm} {n : Nat} (h : ¬ 1000 < n) (hk : okTo f n = true) : sumS f n = tot f n := by unfold sumS; rw [if_neg h, if_pos hk]
theorem sumS_nil (f : Nat → Nm) : sumS f 0 = (N0, 0) := rfl
end Amp
namespace Go.Proofs.Ytjodjfllgofkaaa
open Go.RowKit Amp
attribute [local go_sem] ix0 ix1 ix2 ix3 jx0 jx1 jx2 jx3
attribute [local go_sem high] run_eqNum run_neNum
theorem NumAt.keep {w w1 : World} {b o : Nat} {z : Nm} (h : NumAt w b o z) (hb : Below w.heap.size w w1) (hB : b < w.heap.size) : NumAt w1 b o z := by
  obtain ⟨k1, _⟩ := bcell hb
  unfold NumAt at *
  simpa only [k1 _ _ hB] using h

set_option maxHeartbeats 1000000 in
theorem check_nil (ao : Option Addr) (cap : Nat) (w : World) :
    Calls Try.prog 123 #[.slice ao 0 cap] w fun e w' => e = .returned (.int .i64 0) ∧ Below w.heap.size w w' := by
  go_enter Try.func123, Try.ntmps123
  go_wp2_with fail
  go_rounds 1
  go_returns
  exact ⟨rfl, Below.refl _ _⟩

set_option maxHeartbeats 1000000 in
theorem Sum_nil (ao : Option Addr) (cap : Nat) (w : World) :
    Calls Try.prog 114 #[.slice ao 0 cap] w fun e w' => e = Ret5 (N0, 0) ∧ Below w.heap.size w w' := by
  go_enter Try.func114, Try.ntmps114
  go_wp2_with fail
  refine (check_nil _ _ _).mono ?_
  rintro e w1 ⟨rfl, hb1⟩
  obtain ⟨⟨q0, q1, q2, q3, q4⟩, r0, r1, r2, r3, r4⟩ : Has5 w1 w.heap.size 0 0 0 0 0 := Has5.keep (by refine ⟨⟨?_, ?_, ?_, ?_, ?_⟩, ?_, ?_, ?_, ?_, ?_⟩ <;> go_cell) hb1 (by first | omega | (simp; done) | (simp; omega))
  have s1 : w.heap.size < w1.heap.size := by have := hb1.size; simp at this; omega
  have D1 : Below w.heap.size w w1 := Below.trans (by go_grown) (hb1.mono (by first | omega | (simp; done) | (simp; omega)))
  clear hb1
  go_wp2_with fail
  go_rounds 1
  refine bodyPost_ret (v := .tuple #[.agg #[.int .i64 0, .int .i64 0, .int .i64 0, .int .i64 0, .int .i64 0], .int .i64 0]) (by simp [results, Try.results114, go_sem, *]) rfl ⟨rfl, by go_grown⟩

set_option maxHeartbeats 2000000 in
theorem Sum_any (b o n cap : Nat) (f : Nat → Nm) (w : World) (hn : n ≤ 9223372036854775807) (hc : ∀ i, i < n → NumAt w b (o + i * 5) (f i)) :
    Calls Try.prog 114 #[.slice (some ⟨b, o, none⟩) n cap] w fun e w' => e = Ret5 (sumS f n) ∧ Below w.heap.size w w' := by
  have HC := Lib.hid hc
  clear hc
  by_cases hl : 1000 < n
  · have hl' : (1000 : Int) < n := by omega
    have HE := Lib.hid (sumS_long (f := f) hl)
    go_enter Try.func114, Try.ntmps114
    go_wp2_with fail
    refine bodyPost_ret (v := .tuple #[.agg #[.int .i64 0, .int .i64 0, .int .i64 0, .int .i64 0, .int .i64 0], .int .i64 2]) (by simp [results, Try.results114, go_sem, *]) rfl ⟨by rw [HE.out]; rfl, by go_grown⟩
  · have hl' : ¬ (1000 : Int) < n := by omega
    cases hk : okTo f n
    · have HE := Lib.hid (sumS_bad hl hk)
      have HK := Lib.hid (chk_bad hk)
      clear hk
      go_enter Try.func114, Try.ntmps114
      go_wp2_with fail
      refine (check_any b o n cap f _ hn (by intro i hi; exact NumAt.keep (HC.out i hi) ((Below.refl _ _).alloc (Nat.le_refl _) _) (World.block_lt_of_cell? w _ (HC.out i hi).1))).mono ?_
      rintro e w1 ⟨rfl, hb1⟩
      obtain ⟨⟨q0, q1, q2, q3, q4⟩, r0, r1, r2, r3, r4⟩ : Has5 w1 w.heap.size 0 0 0 0 0 := Has5.keep (by refine ⟨⟨?_, ?_, ?_, ?_, ?_⟩, ?_, ?_, ?_, ?_, ?_⟩ <;> go_cell) hb1 (by first | omega | (simp; done) | (simp; omega))
      have s1 : w.heap.size < w1.heap.size := by have := hb1.size; simp at this; omega
      have D1 : Below w.heap.size w w1 := Below.trans (by go_grown) (hb1.mono (by first | omega | (simp; done) | (simp; omega)))
      clear hb1
      rw [HK.out]
      go_wp2_with fail
      refine bodyPost_ret (v := .tuple #[.agg #[.int .i64 0, .int .i64 0, .int .i64 0, .int .i64 0, .int .i64 0], .int .i64 10]) (by simp [results, Try.results114, go_sem, *]) rfl ⟨by rw [HE.out]; rfl, by go_grown⟩
    · have HE := Lib.hid (sumS_ok hl hk)
      have HK := Lib.hid (chk_ok hk)
      clear hk
      go_enter Try.func114, Try.ntmps114
      go_wp2_with fail
      refine (check_any b o n cap f _ hn (by intro i hi; exact NumAt.keep (HC.out i hi) ((Below.refl _ _).alloc (Nat.le_refl _) _) (World.block_lt_of_cell? w _ (HC.out i hi).1))).mono ?_
      rintro e w1 ⟨rfl, hb1⟩
      have C1 : Has5 w1 w.heap.size 0 0 0 0 0 := Has5.keep (by refine ⟨⟨?_, ?_, ?_, ?_, ?_⟩, ?_, ?_, ?_, ?_, ?_⟩ <;> go_cell) hb1 (by first | omega | (simp; done) | (simp; omega))
      have s1 : w.heap.size < w1.heap.size := by have := hb1.size; simp at this; omega
      have D1 : Below w.heap.size w w1 := Below.trans (by go_grown) (hb1.mono (by first | omega | (simp; done) | (simp; omega)))
      clear hb1
      rw [HK.out]
      go_wp2_with fail
      go_loopw [22] (fun i wr => ∃ (k : Nat) (x y z u v : Int), i = .int .i64 k ∧ k ≤ n ∧ tot f k = (⟨⟨x, y, z, u⟩, v⟩, 0) ∧ w1.heap.size < wr.heap.size ∧ Below w.heap.size w wr ∧ Has5 wr w.heap.size 0 0 0 0 0 ∧ Has5 wr w1.heap.size x y z u v) (fun i _ => n - (intOf i).toNat)
      case atStart =>
        obtain ⟨⟨q0, q1, q2, q3, q4⟩, r0, r1, r2, r3, r4⟩ := C1
        exact ⟨0, 0, 0, 0, 0, 0, rfl, Nat.zero_le _, rfl, (by first | omega | (simp; done) | (simp; omega)), by go_grown, by refine ⟨⟨?_, ?_, ?_, ?_, ?_⟩, ?_, ?_, ?_, ?_, ?_⟩ <;> go_cell, by refine ⟨⟨?_, ?_, ?_, ?_, ?_⟩, ?_, ?_, ?_, ?_, ?_⟩ <;> go_cell⟩
      case round =>
        obtain ⟨k, x, y, z, u, v, rfl, hk, htot, hsz, hbel, hout, hval⟩ := hrel
        have HT := Lib.hid htot
        clear htot
        have hne : ¬ w1.heap.size = w.heap.size := by omega
        have hsz0 : w.heap.size < wr.heap.size := by omega
        by_cases hlt : k < n
        · obtain ⟨c0, c1, c2, c3, c4⟩ := (HC.out k hlt).keep hbel (World.block_lt_of_cell? w _ (HC.out k hlt).1)
          have lb : b < wr.heap.size := World.block_lt_of_cell? wr _ c0
          obtain ⟨x', y', z', u', v', er, HM⟩ := res5 (addS ⟨⟨x, y, z, u⟩, v⟩ (f k))
          have hval' := hval
          obtain ⟨⟨p0, p1, p2, p3, p4⟩, g0, g1, g2, g3, g4⟩ := hval'
          go_wp2_with fail
          refine (Add_any _ _ _ _ _ _ _ _ _ _ _).mono ?_
          rintro e w2 ⟨rfl, hb2⟩
          have E2 : Has5 w2 w1.heap.size x y z u v := Has5.keep (by refine ⟨⟨?_, ?_, ?_, ?_, ?_⟩, ?_, ?_, ?_, ?_, ?_⟩ <;> go_cell) hb2 (by first | omega | (simp; done) | (simp; omega))
          have C2 : Has5 w2 w.heap.size 0 0 0 0 0 := Has5.keep (by obtain ⟨⟨q0, q1, q2, q3, q4⟩, r0, r1, r2, r3, r4⟩ := hout; refine ⟨⟨?_, ?_, ?_, ?_, ?_⟩, ?_, ?_, ?_, ?_, ?_⟩ <;> go_cell) hb2 (by first | omega | (simp; done) | (simp; omega))
          have s2 : w1.heap.size < w2.heap.size := by have := hb2.size; simp at this; omega
          have s20 : w.heap.size < w2.heap.size := by omega
          have D2 : Below w.heap.size w w2 := Below.trans (by go_grown) (hb2.mono (by first | omega | (simp; done) | (simp; omega)))
          clear hb2 p0 p1 p2 p3 p4 g0 g1 g2 g3 g4 hval hout c0 c1 c2 c3 c4 hbel
          have HM2 : addS ⟨⟨x, y, z, u⟩, v⟩ ⟨⟨(f k).v.a, (f k).v.b, (f k).v.c, (f k).v.d⟩, (f k).k⟩ = (⟨⟨x', y', z', u'⟩, v'⟩, er) := HM.out
          rw [HM2]
          unfold Ret5
          simp only
          clear HM2
          obtain ⟨⟨p0, p1, p2, p3, p4⟩, g0, g1, g2, g3, g4⟩ := E2
          obtain ⟨⟨q0, q1, q2, q3, q4⟩, r0, r1, r2, r3, r4⟩ := C2
          by_cases her : er = 0
          · subst her
            go_wp2_with fail
            go_roundw
            case rel => exact ⟨k + 1, x', y', z', u', v', by go_num, by omega, tot_good HT.out HM.out, by simp; omega, by go_grown, by refine ⟨⟨?_, ?_, ?_, ?_, ?_⟩, ?_, ?_, ?_, ?_, ?_⟩ <;> go_cell, by refine ⟨⟨?_, ?_, ?_, ?_, ?_⟩, ?_, ?_, ?_, ?_, ?_⟩ <;> go_cell⟩
            case measure => simp [intOf]; omega
          · have HF := Lib.hid (tot_bad HT.out HM.out her n hlt)
            go_wp2_with fail
            refine bodyPost_ret (v := .tuple #[.agg #[.int .i64 0, .int .i64 0, .int .i64 0, .int .i64 0, .int .i64 0], .int .i64 er]) (by simp [results, Try.results114, go_sem, *]) rfl ⟨by rw [HE.out, HF.out]; rfl, by go_grown⟩
        · obtain rfl : n = k := by omega
          clear hlt
          obtain ⟨⟨p0, p1, p2, p3, p4⟩, g0, g1, g2, g3, g4⟩ := hval
          obtain ⟨⟨q0, q1, q2, q3, q4⟩, r0, r1, r2, r3, r4⟩ := hout
          go_wp2_with fail
          refine bodyPost_ret (v := .tuple #[.agg #[.int .i64 x, .int .i64 y, .int .i64 z, .int .i64 u, .int .i64 v], .int .i64 0]) (by simp [results, Try.results114, go_sem, *]) rfl ⟨by rw [HE.out, HT.out]; rfl, by go_grown⟩

end Go.Proofs.Ytjodjfllgofkaaa
