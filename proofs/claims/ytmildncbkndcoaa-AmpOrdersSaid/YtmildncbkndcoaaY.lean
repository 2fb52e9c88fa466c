import Derived.Test.YtmildncbkndcoaaX
namespace Go.Proofs.Ytmildncbkndcoaa
open Go.RowKit Amp
attribute [local go_sem] ix0 ix1 ix2 ix3 jx0 jx1 jx2 jx3

set_option maxHeartbeats 4000000 in
theorem rPower_any (a b c d k : Int) (w : World) :
    Calls Try.prog 27 #[.agg #[.int .i64 a, .int .i64 b, .int .i64 c, .int .i64 d, .int .i64 k]] w fun e w' => e = Ret5 (powS ⟨⟨a, b, c, d⟩, k⟩) ∧ Below w.heap.size w w' := by
  cases hv : vld ⟨⟨a, b, c, d⟩, k⟩
  · go_enter Try.func27, Try.ntmps27
    go_wp2_with fail
    refine (rValid_any _ _ _ _ _ _).mono ?_
    rintro e w1 ⟨rfl, hb1⟩
    obtain ⟨⟨q0, q1, q2, q3, q4⟩, r0, r1, r2, r3, r4⟩ : Has5 w1 (w.heap.size + 1) 0 0 0 0 0 := Has5.keep (by refine ⟨⟨?_, ?_, ?_, ?_, ?_⟩, ?_, ?_, ?_, ?_, ?_⟩ <;> go_cell) hb1 (by first | omega | (simp; done) | (simp; omega))
    have D1 : Below w.heap.size w w1 := Below.trans (by go_grown) (hb1.mono (by first | omega | (simp; done) | (simp; omega)))
    clear hb1
    simp only [hv]
    go_wp2_with fail
    refine bodyPost_ret (v := .tuple #[.agg #[.int .i64 0, .int .i64 0, .int .i64 0, .int .i64 0, .int .i64 0], .int .i64 10]) (by simp [results, Try.results27, go_sem, *]) rfl ⟨?_, by go_grown⟩
    unfold powS; rw [hv]; rfl
  · have hE : powS ⟨⟨a, b, c, d⟩, k⟩ = made (mul ⟨a, b, c, d⟩ (conj ⟨a, b, c, d⟩)) (2 * k).toNat := by unfold powS; rw [hv]; rfl
    have hE := Lib.hid hE
    have HX := vld_sm hv
    have HC := conj_bd HX
    have hk0 := (vld_k hv).1
    have hk1 := (vld_k hv).2
    have hbd := mul_bdd HX HC
    simp only at hk0 hk1 HX HC hbd
    have HX' : big 4611686018427387903 ⟨a, b, c, d⟩ := big_mono HX (by omega)
    have M := mul_pbs HX HC
    simp only [conj] at M
    obtain ⟨m0, m1, m2, m3, m4, m5, m6, m7, m8, m9, m10, m11, m12, m13, m14, m15⟩ := M
    have M0 := Lib.hid m0; have M1 := Lib.hid m1; have M2 := Lib.hid m2; have M3 := Lib.hid m3; have M4 := Lib.hid m4; have M5 := Lib.hid m5; have M6 := Lib.hid m6; have M7 := Lib.hid m7
    have M8 := Lib.hid m8; have M9 := Lib.hid m9; have M10 := Lib.hid m10; have M11 := Lib.hid m11; have M12 := Lib.hid m12; have M13 := Lib.hid m13; have M14 := Lib.hid m14; have M15 := Lib.hid m15
    clear m0 m1 m2 m3 m4 m5 m6 m7 m8 m9 m10 m11 m12 m13 m14 m15
    go_enter Try.func27, Try.ntmps27
    go_wp2_with fail
    refine (rValid_any _ _ _ _ _ _).mono ?_
    rintro e w1 ⟨rfl, hb1⟩
    have A1 : Has5 w1 w.heap.size a b c d k := Has5.keep (by refine ⟨⟨?_, ?_, ?_, ?_, ?_⟩, ?_, ?_, ?_, ?_, ?_⟩ <;> go_cell) hb1 (by first | omega | (simp; done) | (simp; omega))
    have C1 : Has5 w1 (w.heap.size + 1) 0 0 0 0 0 := Has5.keep (by refine ⟨⟨?_, ?_, ?_, ?_, ?_⟩, ?_, ?_, ?_, ?_, ?_⟩ <;> go_cell) hb1 (by first | omega | (simp; done) | (simp; omega))
    have D1 : Below w.heap.size w w1 := Below.trans (by go_grown) (hb1.mono (by first | omega | (simp; done) | (simp; omega)))
    have s1 : w.heap.size + 2 ≤ w1.heap.size := by have := hb1.size; simp at this; omega
    clear hb1
    simp only [hv]
    clear hv
    go_wp2_with fail
    have G0 : ∀ w', Below (w.heap.size + 1) w1 w' → w'.cell? ⟨w.heap.size, 0, none⟩ = some (.int .i64 a) ∧ w'.cell? ⟨w.heap.size, 1, none⟩ = some (.int .i64 b) ∧ w'.cell? ⟨w.heap.size, 2, none⟩ = some (.int .i64 c) ∧ w'.cell? ⟨w.heap.size, 3, none⟩ = some (.int .i64 d) ∧ w'.cell? ⟨w.heap.size, 4, none⟩ = some (.int .i64 k) := by
      intro w' hb
      obtain ⟨⟨a0, a1, a2, a3, a4⟩, _⟩ := A1
      have e := fun o => hb.cell (p := ⟨w.heap.size, o, none⟩) (by simp only; omega)
      exact ⟨(e 0).trans a0, (e 1).trans a1, (e 2).trans a2, (e 3).trans a3, (e 4).trans a4⟩
    have G1 : ∀ w', Below w1.heap.size w1 w' → Has5 w' (w.heap.size + 1) 0 0 0 0 0 := fun w' hb => C1.keep hb (by omega)
    have G0 := Lib.hid G0
    have G1 := Lib.hid G1
    obtain ⟨y0, y1, y2, y3, HP⟩ : ∃ y0 y1 y2 y3, Hid (mul ⟨a, b, c, d⟩ ⟨a, -d, -c, -b⟩ = ⟨y0, y1, y2, y3⟩) := ⟨_, _, _, _, rfl⟩
    have HQ := Lib.hid (show mul ⟨a, b, c, d⟩ (conj ⟨a, b, c, d⟩) = ⟨y0, y1, y2, y3⟩ from HP.out)
    rw [HQ.out] at hbd
    have hsum : IntKind.i64.wrap (2 * k) = 2 * k := IntWalk.i64_in _ (by omega)
    have hnat : 2 * k = (((2 * k).toNat : Nat) : Int) := by omega
    have HN := Lib.hid hnat
    have HK : (2 * k).toNat ≤ 10000 := by omega
    clear hnat
    obtain ⟨x', y', z', u', v', er, HM⟩ := res5 (made ⟨y0, y1, y2, y3⟩ (2 * k).toNat)
    go_region_held3 (fun w' => w'.cell? ⟨w.heap.size, 0, none⟩ = some (.int .i64 a) ∧ w'.cell? ⟨w.heap.size, 1, none⟩ = some (.int .i64 b) ∧ w'.cell? ⟨w.heap.size, 2, none⟩ = some (.int .i64 c) ∧ w'.cell? ⟨w.heap.size, 3, none⟩ = some (.int .i64 d) ∧ w'.cell? ⟨w.heap.size, 4, none⟩ = some (.int .i64 k))
      ((refine G0.out _ ?_; go_grown))
      (first | (go_at_call 61; refine (rConj_leaf _ _ _ _ _ HX').mono ?_; rintro e wC ⟨rfl, hb⟩; have HDwC : Below w1.heap.size w1 wC := Below.trans (by go_grown) (hb.mono (by first | omega | (simp; done) | (simp; omega))); have HExC := HDwC.mono (show w.heap.size + 1 ≤ w1.heap.size by omega); have hzC := HDwC.size; clear hb) | (go_at_call 59; refine (rProduct_any _ _ _ _ _ _ _ _ _ M0.out M1.out M2.out M3.out M4.out M5.out M6.out M7.out M8.out M9.out M10.out M11.out M12.out M13.out M14.out M15.out).mono ?_; rintro e wA ⟨rfl, hb⟩; rw [HP.out]; have HDwA : Below w1.heap.size w1 wA := Below.trans (by go_grown) (hb.mono (by first | omega | (simp; done) | (simp; omega))); have HExA := HDwA.mono (show w.heap.size + 1 ≤ w1.heap.size by omega); have hzA := HDwA.size; clear hb) | (go_at_call 51; rw [HN.out]; refine (rMade_any _ _ _ _ _ _ hbd HK).mono ?_; rintro e wB ⟨rfl, hb⟩; rw [HM.out]; unfold Ret5; (try simp only); have HDwB : Below w1.heap.size w1 wB := Below.trans (by go_grown) (hb.mono (by first | omega | (simp; done) | (simp; omega))); have HExB := HDwB.mono (show w.heap.size + 1 ≤ w1.heap.size by omega); have HEzB := HDwB.mono (show w.heap.size ≤ w1.heap.size by omega); have hzB := HDwB.size; obtain ⟨⟨_, _, _, _, _⟩, _, _, _, _, _⟩ := G1.out _ HDwB; clear hb))
    all_goals
      go_wp2_with fail
      refine bodyPost_ret (v := .tuple #[.agg #[.int .i64 x', .int .i64 y', .int .i64 z', .int .i64 u', .int .i64 v'], .int .i64 er]) (by simp [results, Try.results27, go_sem, *]) rfl ⟨?_, ?_⟩
      · rw [hE.out, HQ.out, HM.out]; rfl
      · exact D1.trans (by go_grown)

set_option maxHeartbeats 1000000 in
theorem rMul_any (a b c d k p q r s l : Int) (w : World) :
    Calls Try.prog 25 #[.agg #[.int .i64 a, .int .i64 b, .int .i64 c, .int .i64 d, .int .i64 k], .agg #[.int .i64 p, .int .i64 q, .int .i64 r, .int .i64 s, .int .i64 l]] w fun e w' => e = Ret5 (mulS ⟨⟨a, b, c, d⟩, k⟩ ⟨⟨p, q, r, s⟩, l⟩) ∧ Below w.heap.size w w' := by
  cases hx : vld ⟨⟨a, b, c, d⟩, k⟩
  · have hE : mulS ⟨⟨a, b, c, d⟩, k⟩ ⟨⟨p, q, r, s⟩, l⟩ = (N0, 10) := by unfold mulS; rw [hx]; rfl
    have hE := Lib.hid hE
    go_enter Try.func25, Try.ntmps25
    go_wp2_with fail
    refine (rValid_any _ _ _ _ _ _).mono ?_
    rintro e w1 ⟨rfl, hb1⟩
    obtain ⟨⟨q0, q1, q2, q3, q4⟩, r0, r1, r2, r3, r4⟩ : Has5 w1 (w.heap.size + 1 + 1) 0 0 0 0 0 := Has5.keep (by refine ⟨⟨?_, ?_, ?_, ?_, ?_⟩, ?_, ?_, ?_, ?_, ?_⟩ <;> go_cell) hb1 (by simp)
    have D1 : Below w.heap.size w w1 := Below.trans (by go_grown) (hb1.mono (by simp; omega))
    clear hb1
    simp only [hx]
    go_wp2_with fail
    refine bodyPost_ret (v := .tuple #[.agg #[.int .i64 0, .int .i64 0, .int .i64 0, .int .i64 0, .int .i64 0], .int .i64 10]) (by simp [results, Try.results25, go_sem, *]) rfl ⟨by rw [hE.out]; rfl, by go_grown⟩
  · cases hy : vld ⟨⟨p, q, r, s⟩, l⟩
    · have hE : mulS ⟨⟨a, b, c, d⟩, k⟩ ⟨⟨p, q, r, s⟩, l⟩ = (N0, 10) := by unfold mulS; rw [hx, hy]; rfl
      have hE := Lib.hid hE
      go_enter Try.func25, Try.ntmps25
      go_wp2_with fail
      refine (rValid_any _ _ _ _ _ _).mono ?_
      rintro e w1 ⟨rfl, hb1⟩
      have B1 : Has5 w1 (w.heap.size + 1) p q r s l := Has5.keep (by refine ⟨⟨?_, ?_, ?_, ?_, ?_⟩, ?_, ?_, ?_, ?_, ?_⟩ <;> go_cell) hb1 (by simp)
      have C1 : Has5 w1 (w.heap.size + 1 + 1) 0 0 0 0 0 := Has5.keep (by refine ⟨⟨?_, ?_, ?_, ?_, ?_⟩, ?_, ?_, ?_, ?_, ?_⟩ <;> go_cell) hb1 (by simp)
      have D1 : Below w.heap.size w w1 := Below.trans (by go_grown) (hb1.mono (by simp; omega))
      have s1 : w.heap.size + 3 ≤ w1.heap.size := by have := hb1.size; simp at this; omega
      clear hb1
      simp only [hx]
      obtain ⟨⟨g0, g1, g2, g3, g4⟩, e0, e1, e2, e3, e4⟩ := B1
      go_wp2_with fail
      refine (rValid_any _ _ _ _ _ _).mono ?_
      rintro e w2 ⟨rfl, hb2⟩
      obtain ⟨⟨q0, q1, q2, q3, q4⟩, r0, r1, r2, r3, r4⟩ := C1.keep hb2 (by omega)
      have D2 : Below w.heap.size w w2 := D1.trans (hb2.mono (by omega))
      clear hb2 D1 g0 g1 g2 g3 g4 e0 e1 e2 e3 e4 C1
      simp only [hy]
      go_wp2_with fail
      refine bodyPost_ret (v := .tuple #[.agg #[.int .i64 0, .int .i64 0, .int .i64 0, .int .i64 0, .int .i64 0], .int .i64 10]) (by simp [results, Try.results25, go_sem, *]) rfl ⟨by rw [hE.out]; rfl, by go_grown⟩
    · have hE : mulS ⟨⟨a, b, c, d⟩, k⟩ ⟨⟨p, q, r, s⟩, l⟩ = made (mul ⟨a, b, c, d⟩ ⟨p, q, r, s⟩) (k + l).toNat := by unfold mulS; rw [hx, hy]; rfl
      have hE := Lib.hid hE
      have hbd := mul_bdd (vld_sm hx) (vld_sm hy)
      have HX := Lib.hid (vld_sm hx)
      have HY := Lib.hid (vld_sm hy)
      have hk := vld_k hx
      have hl := vld_k hy
      simp only at hk hl hbd HX HY
      have HK : (k + l).toNat ≤ 10000 := by omega
      go_enter Try.func25, Try.ntmps25
      go_wp2_with fail
      refine (rValid_any _ _ _ _ _ _).mono ?_
      rintro e w1 ⟨rfl, hb1⟩
      have A1 : Has5 w1 w.heap.size a b c d k := Has5.keep (by refine ⟨⟨?_, ?_, ?_, ?_, ?_⟩, ?_, ?_, ?_, ?_, ?_⟩ <;> go_cell) hb1 (by simp; omega)
      have B1 : Has5 w1 (w.heap.size + 1) p q r s l := Has5.keep (by refine ⟨⟨?_, ?_, ?_, ?_, ?_⟩, ?_, ?_, ?_, ?_, ?_⟩ <;> go_cell) hb1 (by simp)
      have C1 : Has5 w1 (w.heap.size + 1 + 1) 0 0 0 0 0 := Has5.keep (by refine ⟨⟨?_, ?_, ?_, ?_, ?_⟩, ?_, ?_, ?_, ?_, ?_⟩ <;> go_cell) hb1 (by simp)
      have D1 : Below w.heap.size w w1 := Below.trans (by go_grown) (hb1.mono (by simp; omega))
      have s1 : w.heap.size + 3 ≤ w1.heap.size := by have := hb1.size; simp at this; omega
      clear hb1
      simp only [hx]
      clear hx
      have P1 := B1
      obtain ⟨⟨g0, g1, g2, g3, g4⟩, e0, e1, e2, e3, e4⟩ := P1
      go_wp2_with fail
      refine (rValid_any _ _ _ _ _ _).mono ?_
      rintro e w2 ⟨rfl, hb2⟩
      have A1 := A1.keep hb2 (by omega)
      have B1 := B1.keep hb2 (by omega)
      have C1 := C1.keep hb2 (by omega)
      have D1 : Below w.heap.size w w2 := D1.trans (hb2.mono (by omega))
      have s2 : w.heap.size + 3 ≤ w2.heap.size := by have := hb2.size; omega
      clear hb2 g0 g1 g2 g3 g4 e0 e1 e2 e3 e4 s1
      simp only [hy]
      clear hy
      go_wp2_with fail
      have G0 : ∀ w', Below (w.heap.size + 1 + 1) w2 w' → w'.cell? ⟨w.heap.size, 0, none⟩ = some (.int .i64 a) ∧ w'.cell? ⟨w.heap.size, 1, none⟩ = some (.int .i64 b) ∧ w'.cell? ⟨w.heap.size, 2, none⟩ = some (.int .i64 c) ∧ w'.cell? ⟨w.heap.size, 3, none⟩ = some (.int .i64 d) ∧ w'.cell? ⟨w.heap.size, 4, none⟩ = some (.int .i64 k) ∧ w'.cell? ⟨w.heap.size + 1, 0, none⟩ = some (.int .i64 p) ∧ w'.cell? ⟨w.heap.size + 1, 1, none⟩ = some (.int .i64 q) ∧ w'.cell? ⟨w.heap.size + 1, 2, none⟩ = some (.int .i64 r) ∧ w'.cell? ⟨w.heap.size + 1, 3, none⟩ = some (.int .i64 s) ∧ w'.cell? ⟨w.heap.size + 1, 4, none⟩ = some (.int .i64 l) := by
        intro w' hb
        obtain ⟨⟨a0, a1, a2, a3, a4⟩, _⟩ := A1
        obtain ⟨⟨b0, b1, b2, b3, b4⟩, _⟩ := B1
        have e := fun o => hb.cell (p := ⟨w.heap.size, o, none⟩) (by simp only; omega)
        have e' := fun o => hb.cell (p := ⟨w.heap.size + 1, o, none⟩) (by simp only; omega)
        exact ⟨(e 0).trans a0, (e 1).trans a1, (e 2).trans a2, (e 3).trans a3, (e 4).trans a4, (e' 0).trans b0, (e' 1).trans b1, (e' 2).trans b2, (e' 3).trans b3, (e' 4).trans b4⟩
      have G1 : ∀ w', Below w2.heap.size w2 w' → Has5 w' (w.heap.size + 1 + 1) 0 0 0 0 0 := fun w' hb => C1.keep hb (by omega)
      have G0 := Lib.hid G0
      have G1 := Lib.hid G1
      have M := mul_pbs HX.out HY.out
      obtain ⟨m0, m1, m2, m3, m4, m5, m6, m7, m8, m9, m10, m11, m12, m13, m14, m15⟩ := M
      have M0 := Lib.hid m0; have M1 := Lib.hid m1; have M2 := Lib.hid m2; have M3 := Lib.hid m3; have M4 := Lib.hid m4; have M5 := Lib.hid m5; have M6 := Lib.hid m6; have M7 := Lib.hid m7
      have M8 := Lib.hid m8; have M9 := Lib.hid m9; have M10 := Lib.hid m10; have M11 := Lib.hid m11; have M12 := Lib.hid m12; have M13 := Lib.hid m13; have M14 := Lib.hid m14; have M15 := Lib.hid m15
      clear m0 m1 m2 m3 m4 m5 m6 m7 m8 m9 m10 m11 m12 m13 m14 m15
      obtain ⟨y0, y1, y2, y3, HP⟩ : ∃ y0 y1 y2 y3, Hid (mul ⟨a, b, c, d⟩ ⟨p, q, r, s⟩ = ⟨y0, y1, y2, y3⟩) := ⟨_, _, _, _, rfl⟩
      rw [HP.out] at hbd
      have hsum : IntKind.i64.wrap (k + l) = k + l := IntWalk.i64_in _ (by omega)
      have hnat : k + l = (((k + l).toNat : Nat) : Int) := by omega
      have HN := Lib.hid hnat
      clear hnat
      obtain ⟨x', y', z', u', v', er, HM⟩ := res5 (made ⟨y0, y1, y2, y3⟩ (k + l).toNat)
      go_region_held3 (fun w' => w'.cell? ⟨w.heap.size, 0, none⟩ = some (.int .i64 a) ∧ w'.cell? ⟨w.heap.size, 1, none⟩ = some (.int .i64 b) ∧ w'.cell? ⟨w.heap.size, 2, none⟩ = some (.int .i64 c) ∧ w'.cell? ⟨w.heap.size, 3, none⟩ = some (.int .i64 d) ∧ w'.cell? ⟨w.heap.size, 4, none⟩ = some (.int .i64 k) ∧ w'.cell? ⟨w.heap.size + 1, 0, none⟩ = some (.int .i64 p) ∧ w'.cell? ⟨w.heap.size + 1, 1, none⟩ = some (.int .i64 q) ∧ w'.cell? ⟨w.heap.size + 1, 2, none⟩ = some (.int .i64 r) ∧ w'.cell? ⟨w.heap.size + 1, 3, none⟩ = some (.int .i64 s) ∧ w'.cell? ⟨w.heap.size + 1, 4, none⟩ = some (.int .i64 l))
        ((refine G0.out _ ?_; go_grown))
        (first | (go_at_call 59; refine (rProduct_any _ _ _ _ _ _ _ _ _ M0.out M1.out M2.out M3.out M4.out M5.out M6.out M7.out M8.out M9.out M10.out M11.out M12.out M13.out M14.out M15.out).mono ?_; rintro e wA ⟨rfl, hb⟩; rw [HP.out]; have HDwA : Below w2.heap.size w2 wA := Below.trans (by go_grown) (hb.mono (by first | omega | (simp; done) | (simp; omega))); have HExA := HDwA.mono (show w.heap.size + 1 + 1 ≤ w2.heap.size by omega); have hzA := HDwA.size; clear hb) | (go_at_call 51; rw [HN.out]; refine (rMade_any _ _ _ _ _ _ hbd HK).mono ?_; rintro e wB ⟨rfl, hb⟩; rw [HM.out]; unfold Ret5; (try simp only); have HDwB : Below w2.heap.size w2 wB := Below.trans (by go_grown) (hb.mono (by first | omega | (simp; done) | (simp; omega))); have HExB := HDwB.mono (show w.heap.size + 1 + 1 ≤ w2.heap.size by omega); have HEzB := HDwB.mono (show w.heap.size ≤ w2.heap.size by omega); have hzB := HDwB.size; obtain ⟨⟨_, _, _, _, _⟩, _, _, _, _, _⟩ := G1.out _ HDwB; clear hb))
      all_goals
        go_wp2_with fail
        refine bodyPost_ret (v := .tuple #[.agg #[.int .i64 x', .int .i64 y', .int .i64 z', .int .i64 u', .int .i64 v'], .int .i64 er]) (by simp [results, Try.results25, go_sem, *]) rfl ⟨?_, ?_⟩
        · rw [hE.out, HP.out, HM.out]; rfl
        · exact D1.trans (by go_grown)
end Go.Proofs.Ytmildncbkndcoaa
