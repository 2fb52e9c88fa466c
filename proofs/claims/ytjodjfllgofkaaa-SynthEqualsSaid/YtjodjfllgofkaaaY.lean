import Derived.Test.YtjodjfllgofkaaaR
import Derived.Test.YtjodjfllgofkaaaU
import Derived.Deep.RegionHeld3
namespace Amp
theorem eqv_iff {x y : C4} {k l : Nat} (N : Nat) (hk : k ≤ N) (hl : l ≤ N) : eqv x k y l ↔ trn (N - k) x = trn (N - l) y := by
  have e1 : trn (k + l) (trn (N - k) x) = trn N (trn l x) := by
    rw [← trn_add, ← trn_add]; congr 1; omega
  have e2 : trn (k + l) (trn (N - l) y) = trn N (trn k y) := by
    rw [← trn_add, ← trn_add]; congr 1; omega
  constructor
  · intro h
    apply trn_inj (n := k + l)
    rw [e1, e2, h]
  · intro h
    apply trn_inj (n := N)
    rw [← e1, ← e2, h]
/-- The sum of a number over the divisor r^N. -/
def sc (N : Nat) (z : Nm) : C4 := trn (N - z.k.toNat) z.v
theorem trn_smul (n : Nat) (s : Int) (x : C4) : trn n (smul s x) = smul s (trn n x) := by
  induction n with
  | zero => rfl
  | succ n ih =>
    rw [trn_succ, ih, trn_succ]
    apply C4.ext' <;> simp only [tr, smul] <;> grind
theorem comb_sc (N : Nat) (x y : Nm) (s : Int) (hx : x.k.toNat ≤ N) (hy : y.k.toNat ≤ N) :
    trn (N - (comb x y s).2) (comb x y s).1 = add (sc N x) (smul s (sc N y)) := by
  unfold comb sc
  simp only
  rw [trn_addd, trn_smul, ← trn_add, ← trn_add]
  congr 2
  · congr 1; omega
  · congr 2; omega
theorem mul_sc (N : Nat) (x y : Nm) (hx : x.k.toNat ≤ N) (hy : y.k.toNat ≤ N) (h0 : 0 ≤ x.k) (h1 : 0 ≤ y.k) :
    trn (N + N - (x.k + y.k).toNat) (mul x.v y.v) = mul (sc N x) (sc N y) := by
  unfold sc
  rw [← trn_mul, ← trn_mul', ← trn_add]
  congr 1; omega
theorem vld_red {z : Nm} (h : vld z = true) : red z.v z.k.toNat = (z.v, z.k.toNat) := by
  apply red_of_form
  rw [vld, Bool.and_eq_true] at h
  have h2 := h.2
  simp at h2
  rcases h2 with h2 | ⟨_, h2⟩
  · left; omega
  · right; exact h2
theorem vld_eq {z z' : Nm} (h : vld z = true) (h' : vld z' = true) (he : eqv z.v z.k.toNat z'.v z'.k.toNat) : z = z' := by
  have e := red_of_eqv he
  rw [vld_red h, vld_red h'] at e
  have k1 := vld_k h
  have k2 := vld_k h'
  simp only [Prod.mk.injEq] at e
  exact Nm.ext' e.1 (by omega)
theorem made_zero {x : C4} {k : Nat} {z : Nm} (h : made x k = (z, 0)) : vld z = true ∧ eqv z.v z.k.toNat x k := by
  unfold made at h
  split at h
  · next hv =>
    simp only [Prod.mk.injEq, and_true] at h
    subst h
    exact ⟨hv, by simpa using eqv_red x k⟩
  · simp at h
theorem made_of_eqv {x : C4} {k : Nat} {z : Nm} (h : vld z = true) (he : eqv x k z.v z.k.toNat) : made x k = (z, 0) := by
  have e := red_of_eqv he
  rw [vld_red h] at e
  have k1 := vld_k h
  unfold made
  rw [e]
  have hz : (⟨z.v, ((z.k.toNat : Nat) : Int)⟩ : Nm) = z := Nm.ext' rfl (by simp only; omega)
  simp only [hz, h, if_true]
theorem made_code {x : C4} {k : Nat} : (made x k).2 = 0 ∨ made x k = (N0, 4) := by
  unfold made; split
  · exact Or.inl rfl
  · exact Or.inr rfl
theorem comb_comm (x y : Nm) : comb x y 1 = comb y x 1 := by
  unfold comb
  rw [Nat.max_comm]
  simp only [Prod.mk.injEq, and_true]
  apply C4.ext' <;> simp only [add, smul] <;> omega
theorem addS_comm (x y : Nm) : addS x y = addS y x := by
  unfold addS; rw [Bool.and_comm, comb_comm]
theorem mulS_comm (x y : Nm) : mulS x y = mulS y x := by
  unfold mulS; rw [Bool.and_comm, mul_comm, Int.add_comm]
theorem addS_zero {x y s : Nm} (h : addS x y = (s, 0)) : vld x = true ∧ vld y = true ∧ vld s = true ∧ ∀ N, x.k.toNat ≤ N → y.k.toNat ≤ N → s.k.toNat ≤ N → sc N s = add (sc N x) (sc N y) := by
  unfold addS at h
  split at h
  · next hv =>
    rw [Bool.and_eq_true] at hv
    obtain ⟨h1, h2⟩ := made_zero h
    refine ⟨hv.1, hv.2, h1, fun N hx hy hs => ?_⟩
    rw [eqv_iff N hs (by unfold comb; simp only; omega), comb_sc N x y 1 hx hy] at h2
    rw [show sc N s = _ from h2]
    congr 1
    apply C4.ext' <;> simp [smul]
  · simp at h
theorem addS_bad {x y s : Nm} {e : Int} (h : addS x y = (s, e)) (he : e ≠ 0) : s = N0 := by
  unfold addS at h
  split at h
  · rcases made_code (x := (comb x y 1).1) (k := (comb x y 1).2) with h1 | h1
    · rw [h] at h1; exact absurd h1 he
    · rw [h1] at h; simp at h; exact h.1.symm
  · simp at h; exact h.1.symm
theorem mulS_zero {x y s : Nm} (h : mulS x y = (s, 0)) : vld x = true ∧ vld y = true ∧ vld s = true ∧ ∀ N, x.k.toNat ≤ N → y.k.toNat ≤ N → s.k.toNat ≤ N + N → sc (N + N) s = mul (sc N x) (sc N y) := by
  unfold mulS at h
  split at h
  · next hv =>
    rw [Bool.and_eq_true] at hv
    obtain ⟨h1, h2⟩ := made_zero h
    have k1 := vld_k hv.1
    have k2 := vld_k hv.2
    refine ⟨hv.1, hv.2, h1, fun N hx hy hs => ?_⟩
    rw [eqv_iff (N + N) hs (by omega), mul_sc N x y hx hy k1.1 k2.1] at h2
    exact h2
  · simp at h
theorem sub_undoes {x y s : Nm} (h : addS x y = (s, 0)) : subS s y = (x, 0) := by
  obtain ⟨hx, hy, hs, hN⟩ := addS_zero h
  have h1 := vld_k hx
  have h2 := vld_k hy
  have h3 := vld_k hs
  unfold subS
  rw [hs, hy]
  apply made_of_eqv hx
  rw [eqv_iff 40 (by unfold comb; simp only; omega) (by omega), comb_sc 40 s y (-1) (by omega) (by omega), hN 40 (by omega) (by omega) (by omega)]
  show _ = sc 40 x
  generalize sc 40 x = X
  generalize sc 40 y = Y
  apply C4.ext' <;> simp only [add, smul] <;> omega
theorem distrib {x y z s p q l r : Nm} (h : addS x y = (s, 0)) (hl : mulS s z = (l, 0)) (hp : mulS x z = (p, 0)) (hq : mulS y z = (q, 0)) (hr : addS p q = (r, 0)) : l = r := by
  obtain ⟨hx, hy, hs, h1⟩ := addS_zero h
  obtain ⟨_, hz, hl', h2⟩ := mulS_zero hl
  obtain ⟨_, _, hp', h3⟩ := mulS_zero hp
  obtain ⟨_, _, hq', h4⟩ := mulS_zero hq
  obtain ⟨_, _, hr', h5⟩ := addS_zero hr
  have k1 := vld_k hx
  have k2 := vld_k hy
  have k3 := vld_k hz
  have k4 := vld_k hs
  have k5 := vld_k hl'
  have k6 := vld_k hp'
  have k7 := vld_k hq'
  have k8 := vld_k hr'
  apply vld_eq hl' hr'
  rw [eqv_iff (40 + 40) (by omega) (by omega)]
  show sc (40 + 40) l = sc (40 + 40) r
  rw [h2 40 (by omega) (by omega) (by omega), h5 (40 + 40) (by omega) (by omega) (by omega), h3 40 (by omega) (by omega) (by omega), h4 40 (by omega) (by omega) (by omega), h1 40 (by omega) (by omega) (by omega), mul_add]
end Amp

namespace Amp
def setS (z : Nm) (v : C4) : Nm × Int := if vld z = true then (⟨v, z.k⟩, 0) else (N0, 10)
theorem setS_bad {z : Nm} {v : C4} (h : vld z = false) : setS z v = (N0, 10) := by unfold setS; rw [h]; rfl
theorem setS_ok {z : Nm} {v : C4} (h : vld z = true) : setS z v = (⟨v, z.k⟩, 0) := by unfold setS; rw [h]; rfl
theorem tmod8 (n : Int) : (-7 ≤ n.tmod 8 ∧ n.tmod 8 ≤ 7) ∧ (n.tmod 8 + 8) % 8 = n % 8 := by
  rw [Int.tmod_eq_emod]; split <;> omega
theorem made_form {z : Nm} {v : C4} (hz : vld z = true) (hv : vld ⟨v, z.k⟩ = true) : made v z.k.toNat = (⟨v, z.k⟩, 0) := by
  have k1 := vld_k hz
  have e := vld_red hv
  simp only at e
  unfold made
  rw [e]
  have hk : ((z.k.toNat : Nat) : Int) = z.k := by omega
  simp only [hk, hv, if_true]
theorem chg_set {z : Nm} {g : C4 → C4} (h : vld z = true → vld ⟨g z.v, z.k⟩ = true) : chgS z g = setS z (g z.v) := by
  unfold chgS setS
  split
  · next hz => exact made_form hz (h hz)
  · rfl
theorem vld_form {z : Nm} {v : C4} (hz : vld z = true) (hs : big 1000000000 v) (hd : dvb v = dvb z.v) : vld ⟨v, z.k⟩ = true := by
  unfold vld at hz ⊢
  rw [Bool.and_eq_true] at hz ⊢
  refine ⟨(sm_iff _).2 hs, ?_⟩
  simp only [hd]
  exact hz.2
theorem dvb_rot (x : C4) : dvb (rot x) = dvb x := by
  rw [Bool.eq_iff_iff, dvb_iff, dvb_iff]; simp only [rot]; omega
theorem dvb_rotn (n : Nat) (x : C4) : dvb (rotn n x) = dvb x := by
  induction n with
  | zero => rfl
  | succ n ih => rw [rotn, dvb_rot, ih]
theorem dvb_neg (x : C4) : dvb (neg x) = dvb x := by
  rw [Bool.eq_iff_iff, dvb_iff, dvb_iff]; simp only [neg]; omega
theorem dvb_conj (x : C4) : dvb (conj x) = dvb x := by
  rw [Bool.eq_iff_iff, dvb_iff, dvb_iff]; simp only [conj]; omega
theorem dvb_flp (x : C4) : dvb (flp x) = dvb x := by
  rw [Bool.eq_iff_iff, dvb_iff, dvb_iff]; simp only [flp]; omega
theorem dvb_flip (x : C4) (k : Int) : dvb (flipV x k) = dvb x := by
  unfold flipV; split
  · rw [dvb_neg, dvb_flp]
  · exact dvb_flp x
theorem rot4 (x : C4) : rotn 4 x = neg x := by
  apply C4.ext' <;> simp [rotn, rot, neg]
theorem neg_set (z : Nm) : chgS z neg = setS z (rotn 4 z.v) := by
  rw [chg_set (fun h => vld_form h (neg_bd (vld_sm h)) (dvb_neg _)), rot4]
theorem conj_set (z : Nm) : chgS z conj = setS z (conj z.v) := chg_set (fun h => vld_form h (conj_bd (vld_sm h)) (dvb_conj _))
theorem flip_set (z : Nm) (k : Int) : chgS z (fun x => flipV x k) = setS z (flipV z.v k) := chg_set (fun h => vld_form h (flip_bd (vld_sm h)) (dvb_flip _ _))
theorem turn_set (z : Nm) (n : Int) : chgS z (fun x => rotn (n % 8).toNat x) = setS z (rotn (n % 8).toNat z.v) := chg_set (fun h => vld_form h (rotn_bd _ (vld_sm h)) (dvb_rotn _ _))
end Amp
namespace Go.Proofs.Ytjodjfllgofkaaa
open Go.RowKit Amp
attribute [local go_sem] ix0 ix1 ix2 ix3 jx0 jx1 jx2 jx3

set_option maxHeartbeats 2000000 in
theorem rTurn_any (a b c d k : Int) (n : Int) (w : World) :
    Calls Try.prog 88 #[.agg #[.int .i64 a, .int .i64 b, .int .i64 c, .int .i64 d, .int .i64 k], .int .i64 n] w fun e w' => e = Ret5 (setS ⟨⟨a, b, c, d⟩, k⟩ (rotn (n % 8).toNat ⟨a, b, c, d⟩)) ∧ Below w.heap.size w w' := by
  obtain ⟨⟨t0, t1⟩, t2⟩ := tmod8 n
  obtain ⟨N, hN⟩ : ∃ N : Nat, Hid (n % 8 = (N : Int)) := ⟨(n % 8).toNat, by show _ = _; omega⟩
  have hN8 : N < 8 := by have := hN.out; omega
  rw [hN.out] at t2
  rw [hN.out, Int.toNat_natCast]
  have T2 := Lib.hid t2
  clear t2
  cases hv : vld ⟨⟨a, b, c, d⟩, k⟩
  · go_enter Try.func88, Try.ntmps88
    go_wp2_with fail
    refine (rValid_any _ _ _ _ _ _).mono ?_
    rintro e w1 ⟨rfl, hb1⟩
    obtain ⟨⟨q0, q1, q2, q3, q4⟩, r0, r1, r2, r3, r4⟩ : Has5 w1 (w.heap.size + 1) 0 0 0 0 0 := Has5.keep (by refine ⟨⟨?_, ?_, ?_, ?_, ?_⟩, ?_, ?_, ?_, ?_, ?_⟩ <;> go_cell) hb1 (by first | omega | (simp; done) | (simp; omega))
    have D1 : Below w.heap.size w w1 := Below.trans (by go_grown) (hb1.mono (by first | omega | (simp; done) | (simp; omega)))
    clear hb1
    simp only [hv]
    go_wp2_with fail
    refine bodyPost_ret (v := .tuple #[.agg #[.int .i64 0, .int .i64 0, .int .i64 0, .int .i64 0, .int .i64 0], .int .i64 10]) (by simp [results, Try.results88, go_sem, *]) rfl ⟨?_, by go_grown⟩
    rw [setS_bad hv]; rfl
  · have HX := vld_sm hv
    have hk0 := (vld_k hv).1
    have hk1 := (vld_k hv).2
    simp only at hk0 hk1 HX
    have HV := Lib.hid hv
    go_enter Try.func88, Try.ntmps88
    go_wp2_with fail
    refine (rValid_any _ _ _ _ _ _).mono ?_
    rintro e w1 ⟨rfl, hb1⟩
    have A1 : Has5 w1 w.heap.size a b c d k := Has5.keep (by refine ⟨⟨?_, ?_, ?_, ?_, ?_⟩, ?_, ?_, ?_, ?_, ?_⟩ <;> go_cell) hb1 (by first | omega | (simp; done) | (simp; omega))
    have C1 : Has5 w1 (w.heap.size + 1) 0 0 0 0 0 := Has5.keep (by refine ⟨⟨?_, ?_, ?_, ?_, ?_⟩, ?_, ?_, ?_, ?_, ?_⟩ <;> go_cell) hb1 (by first | omega | (simp; done) | (simp; omega))
    have D1 : Below w.heap.size w w1 := Below.trans (by go_grown) (hb1.mono (by first | omega | (simp; done) | (simp; omega)))
    have s1 : w.heap.size + 1 < w1.heap.size := by have := hb1.size; simp at this; omega
    have s0 : w.heap.size < w1.heap.size := by omega
    clear hb1
    simp only [hv]
    clear hv
    obtain ⟨⟨c0, c1, c2, c3, c4⟩, f0, f1, f2, f3, f4⟩ := A1
    have A1' : Has5 w1 w.heap.size a b c d k := ⟨⟨c0, c1, c2, c3, c4⟩, f0, f1, f2, f3, f4⟩
    go_wp2_with fail
    clear c0 c1 c2 c3 c4 f0 f1 f2 f3 f4
    rw [T2.out]
    go_loopw [15] (fun kk wr => ∃ (x y z u : Int) (j : Nat), kk = .int .i64 j ∧ j ≤ N ∧ Hid (rotn j ⟨a, b, c, d⟩ = ⟨x, y, z, u⟩) ∧ w.heap.size + 1 < wr.heap.size ∧ Has5 wr w.heap.size x y z u k ∧ Has5 wr (w.heap.size + 1) 0 0 0 0 0 ∧ Below w.heap.size w wr)
      (fun kk _ => N - (intOf kk).toNat)
    case atStart => exact ⟨a, b, c, d, 0, rfl, by omega, rfl, s1, A1', C1, D1⟩
    case round =>
      obtain ⟨x, y, z, u, j, rfl, hj, HT, hsz, H4, H5, hbel⟩ := hrel
      have bx := rotn_bd j HX
      rw [HT.out] at bx
      obtain ⟨⟨a1, a2⟩, ⟨b1, b2⟩, ⟨c1, c2⟩, ⟨d1, d2⟩⟩ := bx
      simp only at a1 a2 b1 b2 c1 c2 d1 d2
      obtain ⟨⟨o0, o1, o2, o3, o4⟩, f0, f1, f2, f3, f4⟩ := H4
      obtain ⟨⟨g0, g1, g2, g3, g4⟩, e0, e1, e2, e3, e4⟩ := H5
      by_cases hlt : j < N
      · go_wp2_with fail
        go_roundw
        case rel =>
          refine ⟨-u, x, y, z, j + 1, by go_num, by omega, ?_, ?_, ?_, ?_, ?_⟩
          · show rotn (j + 1) _ = _
            rw [rotn, HT.out]; rfl
          · simp; omega
          · refine ⟨⟨?_, ?_, ?_, ?_, ?_⟩, ?_, ?_, ?_, ?_, ?_⟩ <;> go_cell
          · refine ⟨⟨?_, ?_, ?_, ?_, ?_⟩, ?_, ?_, ?_, ?_, ?_⟩ <;> go_cell
          · go_grown
        case measure => simp [intOf]; omega
      · go_wp2_with fail
        refine bodyPost_ret (v := .tuple #[.agg #[.int .i64 x, .int .i64 y, .int .i64 z, .int .i64 u, .int .i64 k], .int .i64 0]) (by simp [results, Try.results88, go_sem, *]) rfl ⟨?_, by go_grown⟩
        obtain rfl : j = N := by omega
        rw [HT.out, setS_ok HV.out]; rfl

end Go.Proofs.Ytjodjfllgofkaaa

namespace Amp
def powS (z : Nm) : Nm × Int := if vld z = true then made (mul z.v (conj z.v)) (2 * z.k).toNat else (N0, 10)
end Amp
namespace Go.Proofs.Ytjodjfllgofkaaa
open Go.RowKit Amp
attribute [local go_sem] ix0 ix1 ix2 ix3 jx0 jx1 jx2 jx3

end Go.Proofs.Ytjodjfllgofkaaa

namespace Go.Proofs.Ytjodjfllgofkaaa
open Go.RowKit Amp
attribute [local go_sem] ix0 ix1 ix2 ix3 jx0 jx1 jx2 jx3

set_option maxHeartbeats 1000000 in
theorem rMul_any (a b c d k p q r s l : Int) (w : World) :
    Calls Try.prog 82 #[.agg #[.int .i64 a, .int .i64 b, .int .i64 c, .int .i64 d, .int .i64 k], .agg #[.int .i64 p, .int .i64 q, .int .i64 r, .int .i64 s, .int .i64 l]] w fun e w' => e = Ret5 (mulS ⟨⟨a, b, c, d⟩, k⟩ ⟨⟨p, q, r, s⟩, l⟩) ∧ Below w.heap.size w w' := by
  cases hx : vld ⟨⟨a, b, c, d⟩, k⟩
  · have hE : mulS ⟨⟨a, b, c, d⟩, k⟩ ⟨⟨p, q, r, s⟩, l⟩ = (N0, 10) := by unfold mulS; rw [hx]; rfl
    have hE := Lib.hid hE
    go_enter Try.func82, Try.ntmps82
    go_wp2_with fail
    refine (rValid_any _ _ _ _ _ _).mono ?_
    rintro e w1 ⟨rfl, hb1⟩
    obtain ⟨⟨q0, q1, q2, q3, q4⟩, r0, r1, r2, r3, r4⟩ : Has5 w1 (w.heap.size + 1 + 1) 0 0 0 0 0 := Has5.keep (by refine ⟨⟨?_, ?_, ?_, ?_, ?_⟩, ?_, ?_, ?_, ?_, ?_⟩ <;> go_cell) hb1 (by simp)
    have D1 : Below w.heap.size w w1 := Below.trans (by go_grown) (hb1.mono (by simp; omega))
    clear hb1
    simp only [hx]
    go_wp2_with fail
    refine bodyPost_ret (v := .tuple #[.agg #[.int .i64 0, .int .i64 0, .int .i64 0, .int .i64 0, .int .i64 0], .int .i64 10]) (by simp [results, Try.results82, go_sem, *]) rfl ⟨by rw [hE.out]; rfl, by go_grown⟩
  · cases hy : vld ⟨⟨p, q, r, s⟩, l⟩
    · have hE : mulS ⟨⟨a, b, c, d⟩, k⟩ ⟨⟨p, q, r, s⟩, l⟩ = (N0, 10) := by unfold mulS; rw [hx, hy]; rfl
      have hE := Lib.hid hE
      go_enter Try.func82, Try.ntmps82
      go_wp2_with fail
      refine (rValid_any _ _ _ _ _ _).mono ?_
      rintro e w1 ⟨rfl, hb1⟩
      have B1 : Has5 w1 (w.heap.size + 1) p q r s l := Has5.keep (by refine ⟨⟨?_, ?_, ?_, ?_, ?_⟩, ?_, ?_, ?_, ?_, ?_⟩ <;> go_cell) hb1 (by simp)
      have C1 : Has5 w1 (w.heap.size + 1 + 1) 0 0 0 0 0 := Has5.keep (by refine ⟨⟨?_, ?_, ?_, ?_, ?_⟩, ?_, ?_, ?_, ?_, ?_⟩ <;> go_cell) hb1 (by simp)
      have D1 : Below w.heap.size w w1 := Below.trans (by go_grown) (hb1.mono (by simp; omega))
      have s1 : w.heap.size + 3 ≤ w1.heap.size := by have := hb1.size; simp at this; omega
      clear hb1
      simp only [hx]
      obtain ⟨⟨g0, g1, g2, g3, g4⟩, e0, e1, e2, e3, e4⟩ := B1
      go_wp2_with fail
      refine (rValid_any _ _ _ _ _ _).mono ?_
      rintro e w2 ⟨rfl, hb2⟩
      obtain ⟨⟨q0, q1, q2, q3, q4⟩, r0, r1, r2, r3, r4⟩ := C1.keep hb2 (by omega)
      have D2 : Below w.heap.size w w2 := D1.trans (hb2.mono (by omega))
      clear hb2 D1 g0 g1 g2 g3 g4 e0 e1 e2 e3 e4 C1
      simp only [hy]
      go_wp2_with fail
      refine bodyPost_ret (v := .tuple #[.agg #[.int .i64 0, .int .i64 0, .int .i64 0, .int .i64 0, .int .i64 0], .int .i64 10]) (by simp [results, Try.results82, go_sem, *]) rfl ⟨by rw [hE.out]; rfl, by go_grown⟩
    · have hE : mulS ⟨⟨a, b, c, d⟩, k⟩ ⟨⟨p, q, r, s⟩, l⟩ = made (mul ⟨a, b, c, d⟩ ⟨p, q, r, s⟩) (k + l).toNat := by unfold mulS; rw [hx, hy]; rfl
      have hE := Lib.hid hE
      have hbd := mul_bdd (vld_sm hx) (vld_sm hy)
      have HX := Lib.hid (vld_sm hx)
      have HY := Lib.hid (vld_sm hy)
      have hk := vld_k hx
      have hl := vld_k hy
      simp only at hk hl hbd HX HY
      have HK : (k + l).toNat ≤ 10000 := by omega
      go_enter Try.func82, Try.ntmps82
      go_wp2_with fail
      refine (rValid_any _ _ _ _ _ _).mono ?_
      rintro e w1 ⟨rfl, hb1⟩
      have A1 : Has5 w1 w.heap.size a b c d k := Has5.keep (by refine ⟨⟨?_, ?_, ?_, ?_, ?_⟩, ?_, ?_, ?_, ?_, ?_⟩ <;> go_cell) hb1 (by simp; omega)
      have B1 : Has5 w1 (w.heap.size + 1) p q r s l := Has5.keep (by refine ⟨⟨?_, ?_, ?_, ?_, ?_⟩, ?_, ?_, ?_, ?_, ?_⟩ <;> go_cell) hb1 (by simp)
      have C1 : Has5 w1 (w.heap.size + 1 + 1) 0 0 0 0 0 := Has5.keep (by refine ⟨⟨?_, ?_, ?_, ?_, ?_⟩, ?_, ?_, ?_, ?_, ?_⟩ <;> go_cell) hb1 (by simp)
      have D1 : Below w.heap.size w w1 := Below.trans (by go_grown) (hb1.mono (by simp; omega))
      have s1 : w.heap.size + 3 ≤ w1.heap.size := by have := hb1.size; simp at this; omega
      clear hb1
      simp only [hx]
      clear hx
      have P1 := B1
      obtain ⟨⟨g0, g1, g2, g3, g4⟩, e0, e1, e2, e3, e4⟩ := P1
      go_wp2_with fail
      refine (rValid_any _ _ _ _ _ _).mono ?_
      rintro e w2 ⟨rfl, hb2⟩
      have A1 := A1.keep hb2 (by omega)
      have B1 := B1.keep hb2 (by omega)
      have C1 := C1.keep hb2 (by omega)
      have D1 : Below w.heap.size w w2 := D1.trans (hb2.mono (by omega))
      have s2 : w.heap.size + 3 ≤ w2.heap.size := by have := hb2.size; omega
      clear hb2 g0 g1 g2 g3 g4 e0 e1 e2 e3 e4 s1
      simp only [hy]
      clear hy
      go_wp2_with fail
      have G0 : ∀ w', Below (w.heap.size + 1 + 1) w2 w' → w'.cell? ⟨w.heap.size, 0, none⟩ = some (.int .i64 a) ∧ w'.cell? ⟨w.heap.size, 1, none⟩ = some (.int .i64 b) ∧ w'.cell? ⟨w.heap.size, 2, none⟩ = some (.int .i64 c) ∧ w'.cell? ⟨w.heap.size, 3, none⟩ = some (.int .i64 d) ∧ w'.cell? ⟨w.heap.size, 4, none⟩ = some (.int .i64 k) ∧ w'.cell? ⟨w.heap.size + 1, 0, none⟩ = some (.int .i64 p) ∧ w'.cell? ⟨w.heap.size + 1, 1, none⟩ = some (.int .i64 q) ∧ w'.cell? ⟨w.heap.size + 1, 2, none⟩ = some (.int .i64 r) ∧ w'.cell? ⟨w.heap.size + 1, 3, none⟩ = some (.int .i64 s) ∧ w'.cell? ⟨w.heap.size + 1, 4, none⟩ = some (.int .i64 l) := by
        intro w' hb
        obtain ⟨⟨a0, a1, a2, a3, a4⟩, _⟩ := A1
        obtain ⟨⟨b0, b1, b2, b3, b4⟩, _⟩ := B1
        have e := fun o => hb.cell (p := ⟨w.heap.size, o, none⟩) (by simp only; omega)
        have e' := fun o => hb.cell (p := ⟨w.heap.size + 1, o, none⟩) (by simp only; omega)
        exact ⟨(e 0).trans a0, (e 1).trans a1, (e 2).trans a2, (e 3).trans a3, (e 4).trans a4, (e' 0).trans b0, (e' 1).trans b1, (e' 2).trans b2, (e' 3).trans b3, (e' 4).trans b4⟩
      have G1 : ∀ w', Below w2.heap.size w2 w' → Has5 w' (w.heap.size + 1 + 1) 0 0 0 0 0 := fun w' hb => C1.keep hb (by omega)
      have G0 := Lib.hid G0
      have G1 := Lib.hid G1
      have M := mul_pbs HX.out HY.out
      obtain ⟨m0, m1, m2, m3, m4, m5, m6, m7, m8, m9, m10, m11, m12, m13, m14, m15⟩ := M
      have M0 := Lib.hid m0; have M1 := Lib.hid m1; have M2 := Lib.hid m2; have M3 := Lib.hid m3; have M4 := Lib.hid m4; have M5 := Lib.hid m5; have M6 := Lib.hid m6; have M7 := Lib.hid m7
      have M8 := Lib.hid m8; have M9 := Lib.hid m9; have M10 := Lib.hid m10; have M11 := Lib.hid m11; have M12 := Lib.hid m12; have M13 := Lib.hid m13; have M14 := Lib.hid m14; have M15 := Lib.hid m15
      clear m0 m1 m2 m3 m4 m5 m6 m7 m8 m9 m10 m11 m12 m13 m14 m15
      obtain ⟨y0, y1, y2, y3, HP⟩ : ∃ y0 y1 y2 y3, Hid (mul ⟨a, b, c, d⟩ ⟨p, q, r, s⟩ = ⟨y0, y1, y2, y3⟩) := ⟨_, _, _, _, rfl⟩
      rw [HP.out] at hbd
      have hsum : IntKind.i64.wrap (k + l) = k + l := IntWalk.i64_in _ (by omega)
      have hnat : k + l = (((k + l).toNat : Nat) : Int) := by omega
      have HN := Lib.hid hnat
      clear hnat
      obtain ⟨x', y', z', u', v', er, HM⟩ := res5 (made ⟨y0, y1, y2, y3⟩ (k + l).toNat)
      go_region_held3 (fun w' => w'.cell? ⟨w.heap.size, 0, none⟩ = some (.int .i64 a) ∧ w'.cell? ⟨w.heap.size, 1, none⟩ = some (.int .i64 b) ∧ w'.cell? ⟨w.heap.size, 2, none⟩ = some (.int .i64 c) ∧ w'.cell? ⟨w.heap.size, 3, none⟩ = some (.int .i64 d) ∧ w'.cell? ⟨w.heap.size, 4, none⟩ = some (.int .i64 k) ∧ w'.cell? ⟨w.heap.size + 1, 0, none⟩ = some (.int .i64 p) ∧ w'.cell? ⟨w.heap.size + 1, 1, none⟩ = some (.int .i64 q) ∧ w'.cell? ⟨w.heap.size + 1, 2, none⟩ = some (.int .i64 r) ∧ w'.cell? ⟨w.heap.size + 1, 3, none⟩ = some (.int .i64 s) ∧ w'.cell? ⟨w.heap.size + 1, 4, none⟩ = some (.int .i64 l))
        ((refine G0.out _ ?_; go_grown))
        (first | (go_at_call 106; refine (rProduct_any _ _ _ _ _ _ _ _ _ M0.out M1.out M2.out M3.out M4.out M5.out M6.out M7.out M8.out M9.out M10.out M11.out M12.out M13.out M14.out M15.out).mono ?_; rintro e wA ⟨rfl, hb⟩; rw [HP.out]; have HDwA : Below w2.heap.size w2 wA := Below.trans (by go_grown) (hb.mono (by first | omega | (simp; done) | (simp; omega))); have HExA := HDwA.mono (show w.heap.size + 1 + 1 ≤ w2.heap.size by omega); have hzA := HDwA.size; clear hb) | (go_at_call 105; rw [HN.out]; refine (rMade_any _ _ _ _ _ _ hbd HK).mono ?_; rintro e wB ⟨rfl, hb⟩; rw [HM.out]; unfold Ret5; (try simp only); have HDwB : Below w2.heap.size w2 wB := Below.trans (by go_grown) (hb.mono (by first | omega | (simp; done) | (simp; omega))); have HExB := HDwB.mono (show w.heap.size + 1 + 1 ≤ w2.heap.size by omega); have HEzB := HDwB.mono (show w.heap.size ≤ w2.heap.size by omega); have hzB := HDwB.size; obtain ⟨⟨_, _, _, _, _⟩, _, _, _, _, _⟩ := G1.out _ HDwB; clear hb))
      all_goals
        go_wp2_with fail
        refine bodyPost_ret (v := .tuple #[.agg #[.int .i64 x', .int .i64 y', .int .i64 z', .int .i64 u', .int .i64 v'], .int .i64 er]) (by simp [results, Try.results82, go_sem, *]) rfl ⟨?_, ?_⟩
        · rw [hE.out, HP.out, HM.out]; rfl
        · exact D1.trans (by go_grown)
end Go.Proofs.Ytjodjfllgofkaaa
