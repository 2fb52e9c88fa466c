import Derived.Test.YtgbnpnenejgnnaaW
namespace Amp
def powS (z : Nm) : Nm × Int := if vld z = true then made (mul z.v (conj z.v)) (2 * z.k).toNat else (N0, 10)
end Amp
namespace Go.Proofs.Ytgbnpnenejgnnaa
open Go.RowKit Amp
attribute [local go_sem] ix0 ix1 ix2 ix3 jx0 jx1 jx2 jx3

set_option maxHeartbeats 4000000 in
theorem Power_any (a b c d k : Int) (w : World) :
    Calls Try.prog 60 #[.agg #[.int .i64 a, .int .i64 b, .int .i64 c, .int .i64 d, .int .i64 k]] w fun e w' => e = Ret5 (powS ⟨⟨a, b, c, d⟩, k⟩) ∧ Below w.heap.size w w' := by
  cases hv : vld ⟨⟨a, b, c, d⟩, k⟩
  · go_enter Try.func60, Try.ntmps60
    go_wp2_with fail
    refine (check1 _ _ ⟨⟨a, b, c, d⟩, k⟩ _ (by refine ⟨?_, ?_, ?_, ?_, ?_⟩ <;> go_cell)).mono ?_
    rintro e w1 ⟨rfl, hb1⟩
    obtain ⟨⟨q0, q1, q2, q3, q4⟩, r0, r1, r2, r3, r4⟩ : Has5 w1 (w.heap.size + 1) 0 0 0 0 0 := Has5.keep (by refine ⟨⟨?_, ?_, ?_, ?_, ?_⟩, ?_, ?_, ?_, ?_, ?_⟩ <;> go_cell) hb1 (by first | omega | (simp; done) | (simp; omega))
    have D1 : Below w.heap.size w w1 := Below.trans (by go_grown) (hb1.mono (by first | omega | (simp; done) | (simp; omega)))
    clear hb1
    rw [chk1_bad hv]
    go_wp2_with fail
    refine bodyPost_ret (v := .tuple #[.agg #[.int .i64 0, .int .i64 0, .int .i64 0, .int .i64 0, .int .i64 0], .int .i64 10]) (by simp [results, Try.results60, go_sem, *]) rfl ⟨?_, by go_grown⟩
    unfold powS; rw [hv]; rfl
  · have hE : powS ⟨⟨a, b, c, d⟩, k⟩ = made (mul ⟨a, b, c, d⟩ (conj ⟨a, b, c, d⟩)) (2 * k).toNat := by unfold powS; rw [hv]; rfl
    have hE := Lib.hid hE
    have HX := vld_sm hv
    have HC := conj_bd HX
    have hk0 := (vld_k hv).1
    have hk1 := (vld_k hv).2
    have hbd := mul_bdd HX HC
    simp only at hk0 hk1 HX HC hbd
    have HX' : big 4611686018427387903 ⟨a, b, c, d⟩ := big_mono HX (by omega)
    have M := mul_pbs HX HC
    simp only [conj] at M
    obtain ⟨m0, m1, m2, m3, m4, m5, m6, m7, m8, m9, m10, m11, m12, m13, m14, m15⟩ := M
    have M0 := Lib.hid m0; have M1 := Lib.hid m1; have M2 := Lib.hid m2; have M3 := Lib.hid m3; have M4 := Lib.hid m4; have M5 := Lib.hid m5; have M6 := Lib.hid m6; have M7 := Lib.hid m7
    have M8 := Lib.hid m8; have M9 := Lib.hid m9; have M10 := Lib.hid m10; have M11 := Lib.hid m11; have M12 := Lib.hid m12; have M13 := Lib.hid m13; have M14 := Lib.hid m14; have M15 := Lib.hid m15
    clear m0 m1 m2 m3 m4 m5 m6 m7 m8 m9 m10 m11 m12 m13 m14 m15
    go_enter Try.func60, Try.ntmps60
    go_wp2_with fail
    refine (check1 _ _ ⟨⟨a, b, c, d⟩, k⟩ _ (by refine ⟨?_, ?_, ?_, ?_, ?_⟩ <;> go_cell)).mono ?_
    rintro e w1 ⟨rfl, hb1⟩
    have A1 : Has5 w1 w.heap.size a b c d k := Has5.keep (by refine ⟨⟨?_, ?_, ?_, ?_, ?_⟩, ?_, ?_, ?_, ?_, ?_⟩ <;> go_cell) hb1 (by first | omega | (simp; done) | (simp; omega))
    have C1 : Has5 w1 (w.heap.size + 1) 0 0 0 0 0 := Has5.keep (by refine ⟨⟨?_, ?_, ?_, ?_, ?_⟩, ?_, ?_, ?_, ?_, ?_⟩ <;> go_cell) hb1 (by first | omega | (simp; done) | (simp; omega))
    have D1 : Below w.heap.size w w1 := Below.trans (by go_grown) (hb1.mono (by first | omega | (simp; done) | (simp; omega)))
    have s1 : w.heap.size + 2 ≤ w1.heap.size := by have := hb1.size; simp at this; omega
    clear hb1
    rw [chk1_ok hv]
    clear hv
    go_wp2_with fail
    have G0 : ∀ w', Below (w.heap.size + 1) w1 w' → w'.cell? ⟨w.heap.size, 0, none⟩ = some (.int .i64 a) ∧ w'.cell? ⟨w.heap.size, 1, none⟩ = some (.int .i64 b) ∧ w'.cell? ⟨w.heap.size, 2, none⟩ = some (.int .i64 c) ∧ w'.cell? ⟨w.heap.size, 3, none⟩ = some (.int .i64 d) ∧ w'.cell? ⟨w.heap.size, 4, none⟩ = some (.int .i64 k) := by
      intro w' hb
      obtain ⟨⟨a0, a1, a2, a3, a4⟩, _⟩ := A1
      have e := fun o => hb.cell (p := ⟨w.heap.size, o, none⟩) (by simp only; omega)
      exact ⟨(e 0).trans a0, (e 1).trans a1, (e 2).trans a2, (e 3).trans a3, (e 4).trans a4⟩
    have G1 : ∀ w', Below w1.heap.size w1 w' → Has5 w' (w.heap.size + 1) 0 0 0 0 0 := fun w' hb => C1.keep hb (by omega)
    have G0 := Lib.hid G0
    have G1 := Lib.hid G1
    obtain ⟨y0, y1, y2, y3, HP⟩ : ∃ y0 y1 y2 y3, Hid (mul ⟨a, b, c, d⟩ ⟨a, -d, -c, -b⟩ = ⟨y0, y1, y2, y3⟩) := ⟨_, _, _, _, rfl⟩
    have HQ := Lib.hid (show mul ⟨a, b, c, d⟩ (conj ⟨a, b, c, d⟩) = ⟨y0, y1, y2, y3⟩ from HP.out)
    rw [HQ.out] at hbd
    have hsum : IntKind.i64.wrap (2 * k) = 2 * k := IntWalk.i64_in _ (by omega)
    have hnat : 2 * k = (((2 * k).toNat : Nat) : Int) := by omega
    have HN := Lib.hid hnat
    have HK : (2 * k).toNat ≤ 10000 := by omega
    clear hnat
    obtain ⟨x', y', z', u', v', er, HM⟩ := res5 (made ⟨y0, y1, y2, y3⟩ (2 * k).toNat)
    go_region_held3 (fun w' => w'.cell? ⟨w.heap.size, 0, none⟩ = some (.int .i64 a) ∧ w'.cell? ⟨w.heap.size, 1, none⟩ = some (.int .i64 b) ∧ w'.cell? ⟨w.heap.size, 2, none⟩ = some (.int .i64 c) ∧ w'.cell? ⟨w.heap.size, 3, none⟩ = some (.int .i64 d) ∧ w'.cell? ⟨w.heap.size, 4, none⟩ = some (.int .i64 k))
      ((refine G0.out _ ?_; go_grown))
      (first | (go_at_call 113; refine (conjugateA_any _ _ _ _ _ HX').mono ?_; rintro e wC ⟨rfl, hb⟩; have HDwC : Below w1.heap.size w1 wC := Below.trans (by go_grown) (hb.mono (by first | omega | (simp; done) | (simp; omega))); have HExC := HDwC.mono (show w.heap.size + 1 ≤ w1.heap.size by omega); have hzC := HDwC.size; clear hb) | (go_at_call 112; refine (product_any _ _ _ _ _ _ _ _ _ M0.out M1.out M2.out M3.out M4.out M5.out M6.out M7.out M8.out M9.out M10.out M11.out M12.out M13.out M14.out M15.out).mono ?_; rintro e wA ⟨rfl, hb⟩; rw [HP.out]; have HDwA : Below w1.heap.size w1 wA := Below.trans (by go_grown) (hb.mono (by first | omega | (simp; done) | (simp; omega))); have HExA := HDwA.mono (show w.heap.size + 1 ≤ w1.heap.size by omega); have hzA := HDwA.size; clear hb) | (go_at_call 110; rw [HN.out]; refine (reduced_any _ _ _ _ _ _ hbd HK).mono ?_; rintro e wB ⟨rfl, hb⟩; rw [HM.out]; unfold Ret5; (try simp only); have HDwB : Below w1.heap.size w1 wB := Below.trans (by go_grown) (hb.mono (by first | omega | (simp; done) | (simp; omega))); have HExB := HDwB.mono (show w.heap.size + 1 ≤ w1.heap.size by omega); have HEzB := HDwB.mono (show w.heap.size ≤ w1.heap.size by omega); have hzB := HDwB.size; obtain ⟨⟨_, _, _, _, _⟩, _, _, _, _, _⟩ := G1.out _ HDwB; clear hb))
    all_goals
      go_wp2_with fail
      refine bodyPost_ret (v := .tuple #[.agg #[.int .i64 x', .int .i64 y', .int .i64 z', .int .i64 u', .int .i64 v'], .int .i64 er]) (by simp [results, Try.results60, go_sem, *]) rfl ⟨?_, ?_⟩
      · rw [hE.out, HQ.out, HM.out]; rfl
      · exact D1.trans (by go_grown)
end Go.Proofs.Ytgbnpnenejgnnaa
