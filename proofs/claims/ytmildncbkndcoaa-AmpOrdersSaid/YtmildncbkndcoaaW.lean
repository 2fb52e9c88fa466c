import Derived.Test.YtmildncbkndcoaaU
import Derived.Deep.RegionHeld3
import Derived.Test.YtmildncbkndcoaaVal
namespace Amp
def setS (z : Nm) (v : C4) : Nm × Int := if vld z = true then (⟨v, z.k⟩, 0) else (N0, 10)
theorem setS_bad {z : Nm} {v : C4} (h : vld z = false) : setS z v = (N0, 10) := by unfold setS; rw [h]; rfl
theorem setS_ok {z : Nm} {v : C4} (h : vld z = true) : setS z v = (⟨v, z.k⟩, 0) := by unfold setS; rw [h]; rfl
theorem tmod8 (n : Int) : (-7 ≤ n.tmod 8 ∧ n.tmod 8 ≤ 7) ∧ (n.tmod 8 + 8) % 8 = n % 8 := by
  rw [Int.tmod_eq_emod]; split <;> omega
theorem made_form {z : Nm} {v : C4} (hz : vld z = true) (hv : vld ⟨v, z.k⟩ = true) : made v z.k.toNat = (⟨v, z.k⟩, 0) := by
  have k1 := vld_k hz
  have e := vld_red hv
  simp only at e
  unfold made
  rw [e]
  have hk : ((z.k.toNat : Nat) : Int) = z.k := by omega
  simp only [hk, hv, if_true]
theorem chg_set {z : Nm} {g : C4 → C4} (h : vld z = true → vld ⟨g z.v, z.k⟩ = true) : chgS z g = setS z (g z.v) := by
  unfold chgS setS
  split
  · next hz => exact made_form hz (h hz)
  · rfl
theorem vld_form {z : Nm} {v : C4} (hz : vld z = true) (hs : big 1000000000 v) (hd : dvb v = dvb z.v) : vld ⟨v, z.k⟩ = true := by
  unfold vld at hz ⊢
  rw [Bool.and_eq_true] at hz ⊢
  refine ⟨(sm_iff _).2 hs, ?_⟩
  simp only [hd]
  exact hz.2
theorem dvb_rot (x : C4) : dvb (rot x) = dvb x := by
  rw [Bool.eq_iff_iff, dvb_iff, dvb_iff]; simp only [rot]; omega
theorem dvb_rotn (n : Nat) (x : C4) : dvb (rotn n x) = dvb x := by
  induction n with
  | zero => rfl
  | succ n ih => rw [rotn, dvb_rot, ih]
theorem dvb_neg (x : C4) : dvb (neg x) = dvb x := by
  rw [Bool.eq_iff_iff, dvb_iff, dvb_iff]; simp only [neg]; omega
theorem dvb_conj (x : C4) : dvb (conj x) = dvb x := by
  rw [Bool.eq_iff_iff, dvb_iff, dvb_iff]; simp only [conj]; omega
theorem dvb_flp (x : C4) : dvb (flp x) = dvb x := by
  rw [Bool.eq_iff_iff, dvb_iff, dvb_iff]; simp only [flp]; omega
theorem dvb_flip (x : C4) (k : Int) : dvb (flipV x k) = dvb x := by
  unfold flipV; split
  · rw [dvb_neg, dvb_flp]
  · exact dvb_flp x
theorem rot4 (x : C4) : rotn 4 x = neg x := by
  apply C4.ext' <;> simp [rotn, rot, neg]
theorem neg_set (z : Nm) : chgS z neg = setS z (rotn 4 z.v) := by
  rw [chg_set (fun h => vld_form h (neg_bd (vld_sm h)) (dvb_neg _)), rot4]
theorem conj_set (z : Nm) : chgS z conj = setS z (conj z.v) := chg_set (fun h => vld_form h (conj_bd (vld_sm h)) (dvb_conj _))
theorem flip_set (z : Nm) (k : Int) : chgS z (fun x => flipV x k) = setS z (flipV z.v k) := chg_set (fun h => vld_form h (flip_bd (vld_sm h)) (dvb_flip _ _))
theorem turn_set (z : Nm) (n : Int) : chgS z (fun x => rotn (n % 8).toNat x) = setS z (rotn (n % 8).toNat z.v) := chg_set (fun h => vld_form h (rotn_bd _ (vld_sm h)) (dvb_rotn _ _))
end Amp
namespace Go.Proofs.Ytmildncbkndcoaa
open Go.RowKit Amp
attribute [local go_sem] ix0 ix1 ix2 ix3 jx0 jx1 jx2 jx3

set_option maxHeartbeats 2000000 in
theorem rTurn_any (a b c d k : Int) (n : Int) (w : World) :
    Calls Try.prog 39 #[.agg #[.int .i64 a, .int .i64 b, .int .i64 c, .int .i64 d, .int .i64 k], .int .i64 n] w fun e w' => e = Ret5 (setS ⟨⟨a, b, c, d⟩, k⟩ (rotn (n % 8).toNat ⟨a, b, c, d⟩)) ∧ Below w.heap.size w w' := by
  obtain ⟨⟨t0, t1⟩, t2⟩ := tmod8 n
  obtain ⟨N, hN⟩ : ∃ N : Nat, Hid (n % 8 = (N : Int)) := ⟨(n % 8).toNat, by show _ = _; omega⟩
  have hN8 : N < 8 := by have := hN.out; omega
  rw [hN.out] at t2
  rw [hN.out, Int.toNat_natCast]
  have T2 := Lib.hid t2
  clear t2
  cases hv : vld ⟨⟨a, b, c, d⟩, k⟩
  · go_enter Try.func39, Try.ntmps39
    go_wp2_with fail
    refine (rValid_any _ _ _ _ _ _).mono ?_
    rintro e w1 ⟨rfl, hb1⟩
    obtain ⟨⟨q0, q1, q2, q3, q4⟩, r0, r1, r2, r3, r4⟩ : Has5 w1 (w.heap.size + 1) 0 0 0 0 0 := Has5.keep (by refine ⟨⟨?_, ?_, ?_, ?_, ?_⟩, ?_, ?_, ?_, ?_, ?_⟩ <;> go_cell) hb1 (by first | omega | (simp; done) | (simp; omega))
    have D1 : Below w.heap.size w w1 := Below.trans (by go_grown) (hb1.mono (by first | omega | (simp; done) | (simp; omega)))
    clear hb1
    simp only [hv]
    go_wp2_with fail
    refine bodyPost_ret (v := .tuple #[.agg #[.int .i64 0, .int .i64 0, .int .i64 0, .int .i64 0, .int .i64 0], .int .i64 10]) (by simp [results, Try.results39, go_sem, *]) rfl ⟨?_, by go_grown⟩
    rw [setS_bad hv]; rfl
  · have HX := vld_sm hv
    have hk0 := (vld_k hv).1
    have hk1 := (vld_k hv).2
    simp only at hk0 hk1 HX
    have HV := Lib.hid hv
    go_enter Try.func39, Try.ntmps39
    go_wp2_with fail
    refine (rValid_any _ _ _ _ _ _).mono ?_
    rintro e w1 ⟨rfl, hb1⟩
    have A1 : Has5 w1 w.heap.size a b c d k := Has5.keep (by refine ⟨⟨?_, ?_, ?_, ?_, ?_⟩, ?_, ?_, ?_, ?_, ?_⟩ <;> go_cell) hb1 (by first | omega | (simp; done) | (simp; omega))
    have C1 : Has5 w1 (w.heap.size + 1) 0 0 0 0 0 := Has5.keep (by refine ⟨⟨?_, ?_, ?_, ?_, ?_⟩, ?_, ?_, ?_, ?_, ?_⟩ <;> go_cell) hb1 (by first | omega | (simp; done) | (simp; omega))
    have D1 : Below w.heap.size w w1 := Below.trans (by go_grown) (hb1.mono (by first | omega | (simp; done) | (simp; omega)))
    have s1 : w.heap.size + 1 < w1.heap.size := by have := hb1.size; simp at this; omega
    have s0 : w.heap.size < w1.heap.size := by omega
    clear hb1
    simp only [hv]
    clear hv
    obtain ⟨⟨c0, c1, c2, c3, c4⟩, f0, f1, f2, f3, f4⟩ := A1
    have A1' : Has5 w1 w.heap.size a b c d k := ⟨⟨c0, c1, c2, c3, c4⟩, f0, f1, f2, f3, f4⟩
    go_wp2_with fail
    clear c0 c1 c2 c3 c4 f0 f1 f2 f3 f4
    rw [T2.out]
    go_loopw [15] (fun kk wr => ∃ (x y z u : Int) (j : Nat), kk = .int .i64 j ∧ j ≤ N ∧ Hid (rotn j ⟨a, b, c, d⟩ = ⟨x, y, z, u⟩) ∧ w.heap.size + 1 < wr.heap.size ∧ Has5 wr w.heap.size x y z u k ∧ Has5 wr (w.heap.size + 1) 0 0 0 0 0 ∧ Below w.heap.size w wr)
      (fun kk _ => N - (intOf kk).toNat)
    case atStart => exact ⟨a, b, c, d, 0, rfl, by omega, rfl, s1, A1', C1, D1⟩
    case round =>
      obtain ⟨x, y, z, u, j, rfl, hj, HT, hsz, H4, H5, hbel⟩ := hrel
      have bx := rotn_bd j HX
      rw [HT.out] at bx
      obtain ⟨⟨a1, a2⟩, ⟨b1, b2⟩, ⟨c1, c2⟩, ⟨d1, d2⟩⟩ := bx
      simp only at a1 a2 b1 b2 c1 c2 d1 d2
      obtain ⟨⟨o0, o1, o2, o3, o4⟩, f0, f1, f2, f3, f4⟩ := H4
      obtain ⟨⟨g0, g1, g2, g3, g4⟩, e0, e1, e2, e3, e4⟩ := H5
      by_cases hlt : j < N
      · go_wp2_with fail
        go_roundw
        case rel =>
          refine ⟨-u, x, y, z, j + 1, by go_num, by omega, ?_, ?_, ?_, ?_, ?_⟩
          · show rotn (j + 1) _ = _
            rw [rotn, HT.out]; rfl
          · simp; omega
          · refine ⟨⟨?_, ?_, ?_, ?_, ?_⟩, ?_, ?_, ?_, ?_, ?_⟩ <;> go_cell
          · refine ⟨⟨?_, ?_, ?_, ?_, ?_⟩, ?_, ?_, ?_, ?_, ?_⟩ <;> go_cell
          · go_grown
        case measure => simp [intOf]; omega
      · go_wp2_with fail
        refine bodyPost_ret (v := .tuple #[.agg #[.int .i64 x, .int .i64 y, .int .i64 z, .int .i64 u, .int .i64 k], .int .i64 0]) (by simp [results, Try.results39, go_sem, *]) rfl ⟨?_, by go_grown⟩
        obtain rfl : j = N := by omega
        rw [HT.out, setS_ok HV.out]; rfl

set_option maxHeartbeats 2000000 in
theorem rNeg_any (a b c d k : Int) (w : World) :
    Calls Try.prog 33 #[.agg #[.int .i64 a, .int .i64 b, .int .i64 c, .int .i64 d, .int .i64 k]] w fun e w' => e = Ret5 (setS ⟨⟨a, b, c, d⟩, k⟩ (rotn 4 ⟨a, b, c, d⟩)) ∧ Below w.heap.size w w' := by
  obtain ⟨x', y', z', u', v', er, HM⟩ := res5 (setS ⟨⟨a, b, c, d⟩, k⟩ (rotn 4 ⟨a, b, c, d⟩))
  go_enter Try.func33, Try.ntmps33
  go_wp2_with fail
  refine (rTurn_any _ _ _ _ _ _ _).mono ?_
  rintro e w1 ⟨rfl, hb1⟩
  obtain ⟨⟨q0, q1, q2, q3, q4⟩, r0, r1, r2, r3, r4⟩ : Has5 w1 (w.heap.size + 1) 0 0 0 0 0 := Has5.keep (by refine ⟨⟨?_, ?_, ?_, ?_, ?_⟩, ?_, ?_, ?_, ?_, ?_⟩ <;> go_cell) hb1 (by first | omega | (simp; done) | (simp; omega))
  have D1 : Below w.heap.size w w1 := Below.trans (by go_grown) (hb1.mono (by first | omega | (simp; done) | (simp; omega)))
  clear hb1
  rw [show setS ⟨⟨a, b, c, d⟩, k⟩ (rotn ((4 : Int) % 8).toNat ⟨a, b, c, d⟩) = (⟨⟨x', y', z', u'⟩, v'⟩, er) from HM.out]
  unfold Ret5
  (try simp only)
  go_wp2_with fail
  refine bodyPost_ret (v := .tuple #[.agg #[.int .i64 x', .int .i64 y', .int .i64 z', .int .i64 u', .int .i64 v'], .int .i64 er]) (by simp [results, Try.results33, go_sem, *]) rfl ⟨by rw [HM.out]; rfl, by go_grown⟩

set_option maxHeartbeats 2000000 in
theorem rConj_any (a b c d k : Int) (w : World) :
    Calls Try.prog 35 #[.agg #[.int .i64 a, .int .i64 b, .int .i64 c, .int .i64 d, .int .i64 k]] w fun e w' => e = Ret5 (setS ⟨⟨a, b, c, d⟩, k⟩ (conj ⟨a, b, c, d⟩)) ∧ Below w.heap.size w w' := by
  cases hv : vld ⟨⟨a, b, c, d⟩, k⟩
  · go_enter Try.func35, Try.ntmps35
    go_wp2_with fail
    refine (rValid_any _ _ _ _ _ _).mono ?_
    rintro e w1 ⟨rfl, hb1⟩
    obtain ⟨⟨q0, q1, q2, q3, q4⟩, r0, r1, r2, r3, r4⟩ : Has5 w1 (w.heap.size + 1) 0 0 0 0 0 := Has5.keep (by refine ⟨⟨?_, ?_, ?_, ?_, ?_⟩, ?_, ?_, ?_, ?_, ?_⟩ <;> go_cell) hb1 (by first | omega | (simp; done) | (simp; omega))
    have D1 : Below w.heap.size w w1 := Below.trans (by go_grown) (hb1.mono (by first | omega | (simp; done) | (simp; omega)))
    clear hb1
    simp only [hv]
    go_wp2_with fail
    refine bodyPost_ret (v := .tuple #[.agg #[.int .i64 0, .int .i64 0, .int .i64 0, .int .i64 0, .int .i64 0], .int .i64 10]) (by simp [results, Try.results35, go_sem, *]) rfl ⟨?_, by go_grown⟩
    rw [setS_bad hv]; rfl
  · have HX := vld_sm hv
    have hk0 := (vld_k hv).1
    have hk1 := (vld_k hv).2
    simp only at hk0 hk1 HX
    have HV := Lib.hid hv
    go_enter Try.func35, Try.ntmps35
    go_wp2_with fail
    refine (rValid_any _ _ _ _ _ _).mono ?_
    rintro e w1 ⟨rfl, hb1⟩
    have A1 : Has5 w1 w.heap.size a b c d k := Has5.keep (by refine ⟨⟨?_, ?_, ?_, ?_, ?_⟩, ?_, ?_, ?_, ?_, ?_⟩ <;> go_cell) hb1 (by first | omega | (simp; done) | (simp; omega))
    have C1 : Has5 w1 (w.heap.size + 1) 0 0 0 0 0 := Has5.keep (by refine ⟨⟨?_, ?_, ?_, ?_, ?_⟩, ?_, ?_, ?_, ?_, ?_⟩ <;> go_cell) hb1 (by first | omega | (simp; done) | (simp; omega))
    have D1 : Below w.heap.size w w1 := Below.trans (by go_grown) (hb1.mono (by first | omega | (simp; done) | (simp; omega)))
    have s1 : w.heap.size + 1 < w1.heap.size := by have := hb1.size; simp at this; omega
    have s0 : w.heap.size < w1.heap.size := by omega
    clear hb1
    simp only [hv]
    clear hv
    obtain ⟨⟨c0, c1, c2, c3, c4⟩, f0, f1, f2, f3, f4⟩ := A1
    have A1' : Has5 w1 w.heap.size a b c d k := ⟨⟨c0, c1, c2, c3, c4⟩, f0, f1, f2, f3, f4⟩
    have HXb : big 4611686018427387903 ⟨a, b, c, d⟩ := big_mono HX (by omega)
    go_wp2_with fail
    have G0 : ∀ w', Below (w.heap.size + 1) w1 w' → w'.cell? ⟨w.heap.size, 0, none⟩ = some (.int .i64 a) ∧ w'.cell? ⟨w.heap.size, 1, none⟩ = some (.int .i64 b) ∧ w'.cell? ⟨w.heap.size, 2, none⟩ = some (.int .i64 c) ∧ w'.cell? ⟨w.heap.size, 3, none⟩ = some (.int .i64 d) ∧ w'.cell? ⟨w.heap.size, 4, none⟩ = some (.int .i64 k) := by
      intro w' hb
      have e := fun o => hb.cell (p := ⟨w.heap.size, o, none⟩) (by simp only; omega)
      exact ⟨(e 0).trans c0, (e 1).trans c1, (e 2).trans c2, (e 3).trans c3, (e 4).trans c4⟩
    have G1 : ∀ w', Below w1.heap.size w1 w' → Has5 w' (w.heap.size + 1) 0 0 0 0 0 := fun w' hb => C1.keep hb (by omega)
    have G0 := Lib.hid G0
    have G1 := Lib.hid G1
    clear c0 c1 c2 c3 c4 f0 f1 f2 f3 f4 A1' C1
    go_region_held3 (fun w' => w'.cell? ⟨w.heap.size, 0, none⟩ = some (.int .i64 a) ∧ w'.cell? ⟨w.heap.size, 1, none⟩ = some (.int .i64 b) ∧ w'.cell? ⟨w.heap.size, 2, none⟩ = some (.int .i64 c) ∧ w'.cell? ⟨w.heap.size, 3, none⟩ = some (.int .i64 d) ∧ w'.cell? ⟨w.heap.size, 4, none⟩ = some (.int .i64 k))
      ((refine G0.out _ ?_; go_grown))
      (first | (go_at_call 61; refine (rConj_leaf _ _ _ _ _ HXb).mono ?_; rintro e wA ⟨rfl, hb⟩; have HDwA : Below w1.heap.size w1 wA := Below.trans (by go_grown) (hb.mono (by first | omega | (simp; done) | (simp; omega))); have HExA := HDwA.mono (show w.heap.size + 1 ≤ w1.heap.size by omega); have HEzA := HDwA.mono (show w.heap.size ≤ w1.heap.size by omega); have hzA := HDwA.size; obtain ⟨⟨_, _, _, _, _⟩, _, _, _, _, _⟩ := G1.out _ HDwA; clear hb))
    all_goals
      go_wp2_with fail
      refine bodyPost_ret (v := .tuple #[.agg #[.int .i64 a, .int .i64 (-d), .int .i64 (-c), .int .i64 (-b), .int .i64 k], .int .i64 0]) (by simp [results, Try.results35, go_sem, *]) rfl ⟨?_, ?_⟩
      · rw [setS_ok HV.out]; rfl
      · exact D1.trans (by go_grown)

set_option maxHeartbeats 2000000 in
theorem rFlip_any (a b c d k : Int) (w : World) :
    Calls Try.prog 37 #[.agg #[.int .i64 a, .int .i64 b, .int .i64 c, .int .i64 d, .int .i64 k]] w fun e w' => e = Ret5 (setS ⟨⟨a, b, c, d⟩, k⟩ (flipV ⟨a, b, c, d⟩ k)) ∧ Below w.heap.size w w' := by
  cases hv : vld ⟨⟨a, b, c, d⟩, k⟩
  · go_enter Try.func37, Try.ntmps37
    go_wp2_with fail
    refine (rValid_any _ _ _ _ _ _).mono ?_
    rintro e w1 ⟨rfl, hb1⟩
    obtain ⟨⟨q0, q1, q2, q3, q4⟩, r0, r1, r2, r3, r4⟩ : Has5 w1 (w.heap.size + 1) 0 0 0 0 0 := Has5.keep (by refine ⟨⟨?_, ?_, ?_, ?_, ?_⟩, ?_, ?_, ?_, ?_, ?_⟩ <;> go_cell) hb1 (by first | omega | (simp; done) | (simp; omega))
    have D1 : Below w.heap.size w w1 := Below.trans (by go_grown) (hb1.mono (by first | omega | (simp; done) | (simp; omega)))
    clear hb1
    simp only [hv]
    go_wp2_with fail
    refine bodyPost_ret (v := .tuple #[.agg #[.int .i64 0, .int .i64 0, .int .i64 0, .int .i64 0, .int .i64 0], .int .i64 10]) (by simp [results, Try.results37, go_sem, *]) rfl ⟨?_, by go_grown⟩
    rw [setS_bad hv]; rfl
  · have HX := vld_sm hv
    have hk0 := (vld_k hv).1
    have hk1 := (vld_k hv).2
    simp only at hk0 hk1 HX
    have HV := Lib.hid hv
    go_enter Try.func37, Try.ntmps37
    go_wp2_with fail
    refine (rValid_any _ _ _ _ _ _).mono ?_
    rintro e w1 ⟨rfl, hb1⟩
    have A1 : Has5 w1 w.heap.size a b c d k := Has5.keep (by refine ⟨⟨?_, ?_, ?_, ?_, ?_⟩, ?_, ?_, ?_, ?_, ?_⟩ <;> go_cell) hb1 (by first | omega | (simp; done) | (simp; omega))
    have C1 : Has5 w1 (w.heap.size + 1) 0 0 0 0 0 := Has5.keep (by refine ⟨⟨?_, ?_, ?_, ?_, ?_⟩, ?_, ?_, ?_, ?_, ?_⟩ <;> go_cell) hb1 (by first | omega | (simp; done) | (simp; omega))
    have D1 : Below w.heap.size w w1 := Below.trans (by go_grown) (hb1.mono (by first | omega | (simp; done) | (simp; omega)))
    have s1 : w.heap.size + 1 < w1.heap.size := by have := hb1.size; simp at this; omega
    have s0 : w.heap.size < w1.heap.size := by omega
    clear hb1
    simp only [hv]
    clear hv
    have HX' := HX
    obtain ⟨⟨a1, a2⟩, ⟨b1, b2⟩, ⟨c1, c2⟩, ⟨d1, d2⟩⟩ := HX'
    simp only at a1 a2 b1 b2 c1 c2 d1 d2
    obtain ⟨⟨o0, o1, o2, o3, o4⟩, f0, f1, f2, f3, f4⟩ := A1
    cases hm : (k % 2 == 0)
    · have hm' : k % 2 = 1 := by have : ¬ k % 2 = 0 := by simpa using hm
                                 omega
      have HF := Lib.hid (show flipV ⟨a, b, c, d⟩ k = rotn 4 ⟨a, -b, c, -d⟩ from by rw [rot4]; unfold flipV; rw [if_pos hm']; rfl)
      have HW := Lib.hid (vld_form HV.out (flp_bd HX) (dvb_flp _))
      clear hm'
      go_wp2_with fail
      refine (rNeg_any _ _ _ _ _ _).mono ?_
      rintro e w2 ⟨rfl, hb2⟩
      obtain ⟨⟨q0, q1, q2, q3, q4⟩, r0, r1, r2, r3, r4⟩ : Has5 w2 (w.heap.size + 1) 0 0 0 0 0 := Has5.keep (by obtain ⟨⟨_, _, _, _, _⟩, _, _, _, _, _⟩ := C1; refine ⟨⟨?_, ?_, ?_, ?_, ?_⟩, ?_, ?_, ?_, ?_, ?_⟩ <;> go_cell) hb2 (by first | omega | (simp; done) | (simp; omega))
      have D2 : Below w.heap.size w w2 := Below.trans (by go_grown) (hb2.mono (by first | omega | (simp; done) | (simp; omega)))
      clear hb2 C1 D1 o0 o1 o2 o3 o4 f0 f1 f2 f3 f4
      rw [setS_ok (show vld ⟨⟨a, -b, c, -d⟩, k⟩ = true from HW.out)]
      unfold Ret5
      (try simp only)
      go_wp2_with fail
      refine bodyPost_ret (v := .tuple #[.agg #[.int .i64 (rotn 4 ⟨a, -b, c, -d⟩).a, .int .i64 (rotn 4 ⟨a, -b, c, -d⟩).b, .int .i64 (rotn 4 ⟨a, -b, c, -d⟩).c, .int .i64 (rotn 4 ⟨a, -b, c, -d⟩).d, .int .i64 k], .int .i64 0]) (by simp [results, Try.results37, go_sem, *]) rfl ⟨?_, by go_grown⟩
      rw [setS_ok HV.out, HF.out]; rfl
    · have hm' : k % 2 = 0 := by simpa using hm
      have HF := Lib.hid (show flipV ⟨a, b, c, d⟩ k = ⟨a, -b, c, -d⟩ from by unfold flipV; rw [if_neg (by omega)]; rfl)
      clear hm'
      obtain ⟨⟨q0, q1, q2, q3, q4⟩, r0, r1, r2, r3, r4⟩ := C1
      go_wp2_with fail
      refine bodyPost_ret (v := .tuple #[.agg #[.int .i64 a, .int .i64 (-b), .int .i64 c, .int .i64 (-d), .int .i64 k], .int .i64 0]) (by simp [results, Try.results37, go_sem, *]) rfl ⟨?_, by go_grown⟩
      rw [setS_ok HV.out, HF.out]; rfl

set_option maxHeartbeats 2000000 in
theorem rHalve_any (a b c d k : Int) (n : Int) (w : World) :
    Calls Try.prog 41 #[.agg #[.int .i64 a, .int .i64 b, .int .i64 c, .int .i64 d, .int .i64 k], .int .i64 n] w fun e w' => e = Ret5 (halveS ⟨⟨a, b, c, d⟩, k⟩ n) ∧ Below w.heap.size w w' := by
  cases hv : vld ⟨⟨a, b, c, d⟩, k⟩
  · go_enter Try.func41, Try.ntmps41
    go_wp2_with fail
    refine (rValid_any _ _ _ _ _ _).mono ?_
    rintro e w1 ⟨rfl, hb1⟩
    obtain ⟨⟨q0, q1, q2, q3, q4⟩, r0, r1, r2, r3, r4⟩ : Has5 w1 (w.heap.size + 1) 0 0 0 0 0 := Has5.keep (by refine ⟨⟨?_, ?_, ?_, ?_, ?_⟩, ?_, ?_, ?_, ?_, ?_⟩ <;> go_cell) hb1 (by first | omega | (simp; done) | (simp; omega))
    have D1 : Below w.heap.size w w1 := Below.trans (by go_grown) (hb1.mono (by first | omega | (simp; done) | (simp; omega)))
    clear hb1
    simp only [hv]
    go_wp2_with fail
    refine bodyPost_ret (v := .tuple #[.agg #[.int .i64 0, .int .i64 0, .int .i64 0, .int .i64 0, .int .i64 0], .int .i64 10]) (by simp [results, Try.results41, go_sem, *]) rfl ⟨?_, by go_grown⟩
    rw [halveS_bad hv]; rfl
  · have HX := vld_sm hv
    have hk0 := (vld_k hv).1
    have hk1 := (vld_k hv).2
    simp only at hk0 hk1 HX
    have HV := Lib.hid hv
    have HX' : big 4611686018427387903 ⟨a, b, c, d⟩ := big_mono HX (by omega)
    have HA := Lib.hid (fun h => halveS_arg (n := n) hv h)
    have HO := Lib.hid (fun h => halveS_ok (n := n) hv h)
    go_enter Try.func41, Try.ntmps41
    go_wp2_with fail
    refine (rValid_any _ _ _ _ _ _).mono ?_
    rintro e w1 ⟨rfl, hb1⟩
    have A1 : Has5 w1 w.heap.size a b c d k := Has5.keep (by refine ⟨⟨?_, ?_, ?_, ?_, ?_⟩, ?_, ?_, ?_, ?_, ?_⟩ <;> go_cell) hb1 (by first | omega | (simp; done) | (simp; omega))
    have C1 : Has5 w1 (w.heap.size + 1) 0 0 0 0 0 := Has5.keep (by refine ⟨⟨?_, ?_, ?_, ?_, ?_⟩, ?_, ?_, ?_, ?_, ?_⟩ <;> go_cell) hb1 (by first | omega | (simp; done) | (simp; omega))
    have D1 : Below w.heap.size w w1 := Below.trans (by go_grown) (hb1.mono (by first | omega | (simp; done) | (simp; omega)))
    have s1 : w.heap.size + 1 < w1.heap.size := by have := hb1.size; simp at this; omega
    have s0 : w.heap.size < w1.heap.size := by omega
    clear hb1
    simp only [hv]
    clear hv
    obtain ⟨⟨c0, c1, c2, c3, c4⟩, f0, f1, f2, f3, f4⟩ := A1
    by_cases hn : 0 ≤ n ∧ n ≤ 100
    · obtain ⟨m, hm⟩ : ∃ m : Nat, Hid (k + n = (m : Int)) := ⟨(k + n).toNat, by show _ = _; omega⟩
      have hm2 : m ≤ 10000 := by have := hm.out; omega
      have HR := HO.out hn
      rw [show (⟨⟨a, b, c, d⟩, k⟩ : Nm).k + n = (m : Int) from hm.out, Int.toNat_natCast] at HR
      have HR := Lib.hid HR
      obtain ⟨hn0, hn1⟩ := hn
      obtain ⟨x', y', z', u', v', er, HM⟩ := res5 (made ⟨a, b, c, d⟩ m)
      go_wp2_with fail
      rw [hm.out]
      refine (rMade_any _ _ _ _ _ _ HX' hm2).mono ?_
      rintro e w2 ⟨rfl, hb2⟩
      obtain ⟨⟨q0, q1, q2, q3, q4⟩, r0, r1, r2, r3, r4⟩ := C1.keep hb2 (by omega)
      have D2 : Below w.heap.size w w2 := D1.trans (hb2.mono (by omega))
      clear hb2 C1 D1 c0 c1 c2 c3 c4 f0 f1 f2 f3 f4
      rw [HM.out]
      unfold Ret5
      (try simp only)
      go_wp2_with fail
      refine bodyPost_ret (v := .tuple #[.agg #[.int .i64 x', .int .i64 y', .int .i64 z', .int .i64 u', .int .i64 v'], .int .i64 er]) (by simp [results, Try.results41, go_sem, *]) rfl ⟨?_, by go_grown⟩
      rw [HR.out, HM.out]; rfl
    · have HR := Lib.hid (HA.out hn)
      obtain ⟨⟨q0, q1, q2, q3, q4⟩, r0, r1, r2, r3, r4⟩ := C1
      have hn' : n < 0 ∨ 100 < n := by omega
      clear hn
      rcases hn' with hn | hn
      all_goals
        go_wp2_with fail
        refine bodyPost_ret (v := .tuple #[.agg #[.int .i64 0, .int .i64 0, .int .i64 0, .int .i64 0, .int .i64 0], .int .i64 2]) (by simp [results, Try.results41, go_sem, *]) rfl ⟨?_, by go_grown⟩
        rw [HR.out]; rfl
end Go.Proofs.Ytmildncbkndcoaa
