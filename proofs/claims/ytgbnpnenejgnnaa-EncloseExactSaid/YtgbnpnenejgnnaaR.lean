import Derived.Test.YtgbnpnenejgnnaaQ
import Derived.Deep.RegionHeld3
namespace Amp
theorem mul_pb {x y : Int} (h : bg 1000000000 x) (g : bg 1000000000 y) : Go.Proofs.Ytgbnpnenejgnnaa.pb (x * y) := by
  have h1 : x * y ≤ 1000000000 * 1000000000 ∧ -(1000000000 * 1000000000) ≤ x * y := by
    obtain ⟨h1, h2⟩ := h
    obtain ⟨g1, g2⟩ := g
    have e : (x * y).natAbs ≤ 1000000000 * 1000000000 := by
      rw [Int.natAbs_mul]
      exact Nat.mul_le_mul (by omega) (by omega)
    omega
  unfold Go.Proofs.Ytgbnpnenejgnnaa.pb
  omega
theorem mul_pbs {x y : C4} (h : big 1000000000 x) (g : big 1000000000 y) :
    Go.Proofs.Ytgbnpnenejgnnaa.pb (x.a * y.a) ∧ Go.Proofs.Ytgbnpnenejgnnaa.pb (x.a * y.b) ∧ Go.Proofs.Ytgbnpnenejgnnaa.pb (x.a * y.c) ∧ Go.Proofs.Ytgbnpnenejgnnaa.pb (x.a * y.d) ∧ Go.Proofs.Ytgbnpnenejgnnaa.pb (x.b * y.a) ∧ Go.Proofs.Ytgbnpnenejgnnaa.pb (x.b * y.b) ∧ Go.Proofs.Ytgbnpnenejgnnaa.pb (x.b * y.c) ∧ Go.Proofs.Ytgbnpnenejgnnaa.pb (x.b * y.d) ∧
    Go.Proofs.Ytgbnpnenejgnnaa.pb (x.c * y.a) ∧ Go.Proofs.Ytgbnpnenejgnnaa.pb (x.c * y.b) ∧ Go.Proofs.Ytgbnpnenejgnnaa.pb (x.c * y.c) ∧ Go.Proofs.Ytgbnpnenejgnnaa.pb (x.c * y.d) ∧ Go.Proofs.Ytgbnpnenejgnnaa.pb (x.d * y.a) ∧ Go.Proofs.Ytgbnpnenejgnnaa.pb (x.d * y.b) ∧ Go.Proofs.Ytgbnpnenejgnnaa.pb (x.d * y.c) ∧ Go.Proofs.Ytgbnpnenejgnnaa.pb (x.d * y.d) := by
  obtain ⟨h0, h1, h2, h3⟩ := h
  obtain ⟨g0, g1, g2, g3⟩ := g
  exact ⟨mul_pb h0 g0, mul_pb h0 g1, mul_pb h0 g2, mul_pb h0 g3, mul_pb h1 g0, mul_pb h1 g1, mul_pb h1 g2, mul_pb h1 g3, mul_pb h2 g0, mul_pb h2 g1, mul_pb h2 g2, mul_pb h2 g3, mul_pb h3 g0, mul_pb h3 g1, mul_pb h3 g2, mul_pb h3 g3⟩
theorem mul_bdd {x y : C4} (h : big 1000000000 x) (g : big 1000000000 y) : big 4611686018427387903 (mul x y) := by
  obtain ⟨m0, m1, m2, m3, m4, m5, m6, m7, m8, m9, m10, m11, m12, m13, m14, m15⟩ := mul_pbs h g
  unfold Go.Proofs.Ytgbnpnenejgnnaa.pb at *
  refine ⟨⟨?_, ?_⟩, ⟨?_, ?_⟩, ⟨?_, ?_⟩, ⟨?_, ?_⟩⟩ <;> simp only [mul] <;> omega
def mulS (x y : Nm) : Nm × Int := if (vld x && vld y) = true then made (mul x.v y.v) (x.k + y.k).toNat else (N0, 10)
end Amp
namespace Go.Proofs.Ytgbnpnenejgnnaa
open Go.RowKit Amp
attribute [local go_sem] ix0 ix1 ix2 ix3 jx0 jx1 jx2 jx3

set_option maxHeartbeats 2000000 in
theorem Mul_any (a b c d k p q r s l : Int) (w : World) :
    Calls Try.prog 59 #[.agg #[.int .i64 a, .int .i64 b, .int .i64 c, .int .i64 d, .int .i64 k], .agg #[.int .i64 p, .int .i64 q, .int .i64 r, .int .i64 s, .int .i64 l]] w fun e w' => e = Ret5 (mulS ⟨⟨a, b, c, d⟩, k⟩ ⟨⟨p, q, r, s⟩, l⟩) ∧ Below w.heap.size w w' := by
  cases hv : (vld ⟨⟨a, b, c, d⟩, k⟩ && vld ⟨⟨p, q, r, s⟩, l⟩)
  · go_enter Try.func59, Try.ntmps59
    go_wp2_with fail
    refine (check2 _ _ ⟨⟨a, b, c, d⟩, k⟩ ⟨⟨p, q, r, s⟩, l⟩ _ (by refine ⟨?_, ?_, ?_, ?_, ?_⟩ <;> go_cell) (by refine ⟨?_, ?_, ?_, ?_, ?_⟩ <;> go_cell)).mono ?_
    rintro e w1 ⟨rfl, hb1⟩
    obtain ⟨⟨q0, q1, q2, q3, q4⟩, r0, r1, r2, r3, r4⟩ : Has5 w1 (w.heap.size + 1 + 1) 0 0 0 0 0 := Has5.keep (by refine ⟨⟨?_, ?_, ?_, ?_, ?_⟩, ?_, ?_, ?_, ?_, ?_⟩ <;> go_cell) hb1 (by simp)
    have D1 : Below w.heap.size w w1 := Below.trans (by go_grown) (hb1.mono (by simp; omega))
    clear hb1
    rw [chk2_bad hv]
    go_wp2_with fail
    refine bodyPost_ret (v := .tuple #[.agg #[.int .i64 0, .int .i64 0, .int .i64 0, .int .i64 0, .int .i64 0], .int .i64 10]) (by simp [results, Try.results59, go_sem, *]) rfl ⟨?_, by go_grown⟩
    unfold mulS; rw [hv]; rfl
  · rw [Bool.and_eq_true] at hv
    obtain ⟨hx, hy⟩ := hv
    have hE : mulS ⟨⟨a, b, c, d⟩, k⟩ ⟨⟨p, q, r, s⟩, l⟩ = made (mul ⟨a, b, c, d⟩ ⟨p, q, r, s⟩) (k + l).toNat := by unfold mulS; rw [hx, hy]; rfl
    have hE := Lib.hid hE
    have hbd := mul_bdd (vld_sm hx) (vld_sm hy)
    have HX := Lib.hid (vld_sm hx)
    have HY := Lib.hid (vld_sm hy)
    have hk := vld_k hx
    have hl := vld_k hy
    simp only at hk hl hbd HX HY
    have HK : (k + l).toNat ≤ 10000 := by omega
    go_enter Try.func59, Try.ntmps59
    go_wp2_with fail
    refine (check2 _ _ ⟨⟨a, b, c, d⟩, k⟩ ⟨⟨p, q, r, s⟩, l⟩ _ (by refine ⟨?_, ?_, ?_, ?_, ?_⟩ <;> go_cell) (by refine ⟨?_, ?_, ?_, ?_, ?_⟩ <;> go_cell)).mono ?_
    rintro e w1 ⟨rfl, hb1⟩
    have A1 : Has5 w1 w.heap.size a b c d k := Has5.keep (by refine ⟨⟨?_, ?_, ?_, ?_, ?_⟩, ?_, ?_, ?_, ?_, ?_⟩ <;> go_cell) hb1 (by simp; omega)
    have B1 : Has5 w1 (w.heap.size + 1) p q r s l := Has5.keep (by refine ⟨⟨?_, ?_, ?_, ?_, ?_⟩, ?_, ?_, ?_, ?_, ?_⟩ <;> go_cell) hb1 (by simp)
    have C1 : Has5 w1 (w.heap.size + 1 + 1) 0 0 0 0 0 := Has5.keep (by refine ⟨⟨?_, ?_, ?_, ?_, ?_⟩, ?_, ?_, ?_, ?_, ?_⟩ <;> go_cell) hb1 (by simp)
    have D1 : Below w.heap.size w w1 := Below.trans (by go_grown) (hb1.mono (by simp; omega))
    have s1 : w.heap.size + 3 ≤ w1.heap.size := by have := hb1.size; simp at this; omega
    clear hb1
    rw [chk2_ok hx hy]
    clear hx hy
    go_wp2_with fail
    have G0 : ∀ w', Below (w.heap.size + 1 + 1) w1 w' → w'.cell? ⟨w.heap.size, 0, none⟩ = some (.int .i64 a) ∧ w'.cell? ⟨w.heap.size, 1, none⟩ = some (.int .i64 b) ∧ w'.cell? ⟨w.heap.size, 2, none⟩ = some (.int .i64 c) ∧ w'.cell? ⟨w.heap.size, 3, none⟩ = some (.int .i64 d) ∧ w'.cell? ⟨w.heap.size, 4, none⟩ = some (.int .i64 k) ∧ w'.cell? ⟨w.heap.size + 1, 0, none⟩ = some (.int .i64 p) ∧ w'.cell? ⟨w.heap.size + 1, 1, none⟩ = some (.int .i64 q) ∧ w'.cell? ⟨w.heap.size + 1, 2, none⟩ = some (.int .i64 r) ∧ w'.cell? ⟨w.heap.size + 1, 3, none⟩ = some (.int .i64 s) ∧ w'.cell? ⟨w.heap.size + 1, 4, none⟩ = some (.int .i64 l) := by
      intro w' hb
      obtain ⟨⟨a0, a1, a2, a3, a4⟩, _⟩ := A1
      obtain ⟨⟨b0, b1, b2, b3, b4⟩, _⟩ := B1
      have e := fun o => hb.cell (p := ⟨w.heap.size, o, none⟩) (by simp only; omega)
      have e' := fun o => hb.cell (p := ⟨w.heap.size + 1, o, none⟩) (by simp only; omega)
      exact ⟨(e 0).trans a0, (e 1).trans a1, (e 2).trans a2, (e 3).trans a3, (e 4).trans a4, (e' 0).trans b0, (e' 1).trans b1, (e' 2).trans b2, (e' 3).trans b3, (e' 4).trans b4⟩
    have G1 : ∀ w', Below w1.heap.size w1 w' → Has5 w' (w.heap.size + 1 + 1) 0 0 0 0 0 := fun w' hb => C1.keep hb (by omega)
    have G0 := Lib.hid G0
    have G1 := Lib.hid G1
    have M := mul_pbs HX.out HY.out
    obtain ⟨m0, m1, m2, m3, m4, m5, m6, m7, m8, m9, m10, m11, m12, m13, m14, m15⟩ := M
    have M0 := Lib.hid m0; have M1 := Lib.hid m1; have M2 := Lib.hid m2; have M3 := Lib.hid m3; have M4 := Lib.hid m4; have M5 := Lib.hid m5; have M6 := Lib.hid m6; have M7 := Lib.hid m7
    have M8 := Lib.hid m8; have M9 := Lib.hid m9; have M10 := Lib.hid m10; have M11 := Lib.hid m11; have M12 := Lib.hid m12; have M13 := Lib.hid m13; have M14 := Lib.hid m14; have M15 := Lib.hid m15
    clear m0 m1 m2 m3 m4 m5 m6 m7 m8 m9 m10 m11 m12 m13 m14 m15
    obtain ⟨y0, y1, y2, y3, HP⟩ : ∃ y0 y1 y2 y3, Hid (mul ⟨a, b, c, d⟩ ⟨p, q, r, s⟩ = ⟨y0, y1, y2, y3⟩) := ⟨_, _, _, _, rfl⟩
    rw [HP.out] at hbd
    have hsum : IntKind.i64.wrap (k + l) = k + l := IntWalk.i64_in _ (by omega)
    have hnat : k + l = (((k + l).toNat : Nat) : Int) := by omega
    have HN := Lib.hid hnat
    clear hnat
    obtain ⟨x', y', z', u', v', er, HM⟩ := res5 (made ⟨y0, y1, y2, y3⟩ (k + l).toNat)
    go_region_held3 (fun w' => w'.cell? ⟨w.heap.size, 0, none⟩ = some (.int .i64 a) ∧ w'.cell? ⟨w.heap.size, 1, none⟩ = some (.int .i64 b) ∧ w'.cell? ⟨w.heap.size, 2, none⟩ = some (.int .i64 c) ∧ w'.cell? ⟨w.heap.size, 3, none⟩ = some (.int .i64 d) ∧ w'.cell? ⟨w.heap.size, 4, none⟩ = some (.int .i64 k) ∧ w'.cell? ⟨w.heap.size + 1, 0, none⟩ = some (.int .i64 p) ∧ w'.cell? ⟨w.heap.size + 1, 1, none⟩ = some (.int .i64 q) ∧ w'.cell? ⟨w.heap.size + 1, 2, none⟩ = some (.int .i64 r) ∧ w'.cell? ⟨w.heap.size + 1, 3, none⟩ = some (.int .i64 s) ∧ w'.cell? ⟨w.heap.size + 1, 4, none⟩ = some (.int .i64 l))
      ((refine G0.out _ ?_; go_grown))
      (first | (go_at_call 112; refine (product_any _ _ _ _ _ _ _ _ _ M0.out M1.out M2.out M3.out M4.out M5.out M6.out M7.out M8.out M9.out M10.out M11.out M12.out M13.out M14.out M15.out).mono ?_; rintro e wA ⟨rfl, hb⟩; rw [HP.out]; have HDwA : Below w1.heap.size w1 wA := Below.trans (by go_grown) (hb.mono (by first | omega | (simp; done) | (simp; omega))); have HExA := HDwA.mono (show w.heap.size + 1 + 1 ≤ w1.heap.size by omega); have hzA := HDwA.size; clear hb) | (go_at_call 110; rw [HN.out]; refine (reduced_any _ _ _ _ _ _ hbd HK).mono ?_; rintro e wB ⟨rfl, hb⟩; rw [HM.out]; unfold Ret5; (try simp only); have HDwB : Below w1.heap.size w1 wB := Below.trans (by go_grown) (hb.mono (by first | omega | (simp; done) | (simp; omega))); have HExB := HDwB.mono (show w.heap.size + 1 + 1 ≤ w1.heap.size by omega); have HEzB := HDwB.mono (show w.heap.size ≤ w1.heap.size by omega); have hzB := HDwB.size; obtain ⟨⟨_, _, _, _, _⟩, _, _, _, _, _⟩ := G1.out _ HDwB; clear hb))
    all_goals
      go_wp2_with fail
      refine bodyPost_ret (v := .tuple #[.agg #[.int .i64 x', .int .i64 y', .int .i64 z', .int .i64 u', .int .i64 v'], .int .i64 er]) (by simp [results, Try.results59, go_sem, *]) rfl ⟨?_, ?_⟩
      · rw [hE.out, HP.out, HM.out]; rfl
      · exact D1.trans (by go_grown)
end Go.Proofs.Ytgbnpnenejgnnaa
