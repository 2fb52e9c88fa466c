import Derived.Test.YtgbnpnenejgnnaaI
import Derived.Test.YtgbnpnenejgnnaaFl
namespace Amp
def chk2 (x y : Nm) : Int := if (vld x && vld y) = true then 0 else 10
theorem chk2_bad {x y : Nm} (h : (vld x && vld y) = false) : chk2 x y = 10 := by unfold chk2; rw [h]; rfl
theorem chk2_ok {x y : Nm} (h : vld x = true) (g : vld y = true) : chk2 x y = 0 := by unfold chk2; rw [h, g]; rfl
def chk1 (x : Nm) : Int := if vld x = true then 0 else 10
theorem chk1_bad {x : Nm} (h : vld x = false) : chk1 x = 10 := by unfold chk1; rw [h]; rfl
theorem chk1_ok {x : Nm} (h : vld x = true) : chk1 x = 0 := by unfold chk1; rw [h]; rfl
def addS (x y : Nm) : Nm × Int := if (vld x && vld y) = true then made (comb x y 1).1 (comb x y 1).2 else (N0, 10)
def subS (x y : Nm) : Nm × Int := if (vld x && vld y) = true then made (comb x y (-1)).1 (comb x y (-1)).2 else (N0, 10)
theorem comb_bd {x y : Nm} {s : Int} (hx : vld x = true) (hy : vld y = true) (hs : s = 1 ∨ s = -1) : big 4611686018427387903 (comb x y s).1 ∧ (comb x y s).2 ≤ 10000 := by
  have k1 := vld_k hx
  have k2 := vld_k hy
  have h1 := trn_bd (n := max x.k.toNat y.k.toNat - x.k.toNat) (vld_sm hx) (by omega)
  have h2 := trn_bd (n := max x.k.toNat y.k.toNat - y.k.toNat) (vld_sm hy) (by omega)
  unfold comb
  refine ⟨?_, by simp only; omega⟩
  simp only
  generalize trn (max x.k.toNat y.k.toNat - x.k.toNat) x.v = X at *
  generalize trn (max x.k.toNat y.k.toNat - y.k.toNat) y.v = Y at *
  obtain ⟨⟨a1, a2⟩, ⟨b1, b2⟩, ⟨c1, c2⟩, ⟨d1, d2⟩⟩ := h1
  obtain ⟨⟨e1, e2⟩, ⟨f1, f2⟩, ⟨g1, g2⟩, ⟨h1, h2⟩⟩ := h2
  rcases hs with rfl | rfl <;> refine ⟨⟨?_, ?_⟩, ⟨?_, ?_⟩, ⟨?_, ?_⟩, ⟨?_, ?_⟩⟩ <;> simp only [add, smul] <;> omega
end Amp
namespace Go.Proofs.Ytgbnpnenejgnnaa
open Go.RowKit Amp
attribute [local go_sem] ix0 ix1 ix2 ix3 jx0 jx1 jx2 jx3
theorem check2 (b cap : Nat) (x y : Nm) (w : World) (h0 : NumAt w b 0 x) (h1 : NumAt w b 5 y) :
    Calls Try.prog 109 #[.slice (some ⟨b, 0, none⟩) 2 cap] w fun e w' => e = .returned (.int .i64 (chk2 x y)) ∧ Below w.heap.size w w' := by
  have h := check_any b 0 2 cap (fun i => if i = 0 then x else y) w (by omega) (by
    intro i hi
    have hi' : i = 0 ∨ i = 1 := by omega
    rcases hi' with rfl | rfl
    · exact h0
    · exact h1)
  have e : chk (fun i => if i = 0 then x else y) 2 = chk2 x y := by simp [chk, chk2, okTo]
  rw [e] at h
  exact h
theorem check1 (b cap : Nat) (x : Nm) (w : World) (h0 : NumAt w b 0 x) :
    Calls Try.prog 109 #[.slice (some ⟨b, 0, none⟩) 1 cap] w fun e w' => e = .returned (.int .i64 (chk1 x)) ∧ Below w.heap.size w w' := by
  have h := check_any b 0 1 cap (fun _ => x) w (by omega) (by
    intro i hi
    obtain rfl : i = 0 := by omega
    exact h0)
  have e : chk (fun _ => x) 1 = chk1 x := by simp [chk, chk1, okTo]
  rw [e] at h
  exact h

set_option maxHeartbeats 1000000 in
theorem Add_any (a b c d k p q r s l : Int) (w : World) :
    Calls Try.prog 57 #[.agg #[.int .i64 a, .int .i64 b, .int .i64 c, .int .i64 d, .int .i64 k], .agg #[.int .i64 p, .int .i64 q, .int .i64 r, .int .i64 s, .int .i64 l]] w fun e w' => e = Ret5 (addS ⟨⟨a, b, c, d⟩, k⟩ ⟨⟨p, q, r, s⟩, l⟩) ∧ Below w.heap.size w w' := by
  cases hv : (vld ⟨⟨a, b, c, d⟩, k⟩ && vld ⟨⟨p, q, r, s⟩, l⟩)
  · go_enter Try.func57, Try.ntmps57
    go_wp2_with fail
    refine (check2 _ _ ⟨⟨a, b, c, d⟩, k⟩ ⟨⟨p, q, r, s⟩, l⟩ _ (by refine ⟨?_, ?_, ?_, ?_, ?_⟩ <;> go_cell) (by refine ⟨?_, ?_, ?_, ?_, ?_⟩ <;> go_cell)).mono ?_
    rintro e w1 ⟨rfl, hb1⟩
    obtain ⟨⟨q0, q1, q2, q3, q4⟩, r0, r1, r2, r3, r4⟩ : Has5 w1 (w.heap.size + 1 + 1) 0 0 0 0 0 := Has5.keep (by refine ⟨⟨?_, ?_, ?_, ?_, ?_⟩, ?_, ?_, ?_, ?_, ?_⟩ <;> go_cell) hb1 (by simp)
    have D1 : Below w.heap.size w w1 := Below.trans (by go_grown) (hb1.mono (by simp; omega))
    clear hb1
    rw [chk2_bad hv]
    go_wp2_with fail
    refine bodyPost_ret (v := .tuple #[.agg #[.int .i64 0, .int .i64 0, .int .i64 0, .int .i64 0, .int .i64 0], .int .i64 10]) (by simp [results, Try.results57, go_sem, *]) rfl ⟨?_, by go_grown⟩
    unfold addS; rw [hv]; rfl
  · rw [Bool.and_eq_true] at hv
    obtain ⟨hx, hy⟩ := hv
    have hE : addS ⟨⟨a, b, c, d⟩, k⟩ ⟨⟨p, q, r, s⟩, l⟩ = made (comb ⟨⟨a, b, c, d⟩, k⟩ ⟨⟨p, q, r, s⟩, l⟩ 1).1 (comb ⟨⟨a, b, c, d⟩, k⟩ ⟨⟨p, q, r, s⟩, l⟩ 1).2 := by unfold addS; rw [hx, hy]; rfl
    have hE := Lib.hid hE
    have hbd := comb_bd hx hy (s := 1) (by omega)
    go_enter Try.func57, Try.ntmps57
    go_wp2_with fail
    refine (check2 _ _ ⟨⟨a, b, c, d⟩, k⟩ ⟨⟨p, q, r, s⟩, l⟩ _ (by refine ⟨?_, ?_, ?_, ?_, ?_⟩ <;> go_cell) (by refine ⟨?_, ?_, ?_, ?_, ?_⟩ <;> go_cell)).mono ?_
    rintro e w1 ⟨rfl, hb1⟩
    have A1 : Has5 w1 w.heap.size a b c d k := Has5.keep (by refine ⟨⟨?_, ?_, ?_, ?_, ?_⟩, ?_, ?_, ?_, ?_, ?_⟩ <;> go_cell) hb1 (by simp; omega)
    have B1 : Has5 w1 (w.heap.size + 1) p q r s l := Has5.keep (by refine ⟨⟨?_, ?_, ?_, ?_, ?_⟩, ?_, ?_, ?_, ?_, ?_⟩ <;> go_cell) hb1 (by simp)
    have C1 : Has5 w1 (w.heap.size + 1 + 1) 0 0 0 0 0 := Has5.keep (by refine ⟨⟨?_, ?_, ?_, ?_, ?_⟩, ?_, ?_, ?_, ?_, ?_⟩ <;> go_cell) hb1 (by simp)
    have D1 : Below w.heap.size w w1 := Below.trans (by go_grown) (hb1.mono (by simp; omega))
    have s1 : w.heap.size + 3 ≤ w1.heap.size := by have := hb1.size; simp at this; omega
    clear hb1
    rw [chk2_ok hx hy]
    obtain ⟨⟨c0, c1, c2, c3, c4⟩, f0, f1, f2, f3, f4⟩ := A1
    obtain ⟨⟨g0, g1, g2, g3, g4⟩, e0, e1, e2, e3, e4⟩ := B1
    have HX := Lib.hid hx
    have HY := Lib.hid hy
    clear hx hy
    go_wp2_with fail
    refine (combined_add _ _ _ _ _ _ _ _ _ _ _ HX.out HY.out).mono ?_
    rintro e w2 ⟨rfl, hb2⟩
    have C2 := C1.keep hb2 (by omega)
    have D2 : Below w.heap.size w w2 := D1.trans (hb2.mono (by omega))
    have s2 : w.heap.size + 3 ≤ w2.heap.size := by have := hb2.size; omega
    clear hb2 C1 D1 c0 c1 c2 c3 c4 f0 f1 f2 f3 f4 g0 g1 g2 g3 g4 e0 e1 e2 e3 e4
    unfold Ret4
    generalize comb ⟨⟨a, b, c, d⟩, k⟩ ⟨⟨p, q, r, s⟩, l⟩ 1 = m at *
    obtain ⟨⟨x, y, z, u⟩, n⟩ := m
    simp only at hE hbd
    go_wp2_with fail
    refine (reduced_any _ _ _ _ _ _ hbd.1 hbd.2).mono ?_
    rintro e w3 ⟨rfl, hb3⟩
    have C3 := C2.keep hb3 (by omega)
    have D3 : Below w.heap.size w w3 := D2.trans (hb3.mono (by omega))
    clear hb3 C2 D2
    obtain ⟨⟨q0, q1, q2, q3, q4⟩, r0, r1, r2, r3, r4⟩ := C3
    obtain ⟨x', y', z', u', v', er, HM⟩ := res5 (made ⟨x, y, z, u⟩ n)
    rw [HM.out]
    unfold Ret5
    simp only
    go_wp2_with fail
    refine bodyPost_ret (v := .tuple #[.agg #[.int .i64 x', .int .i64 y', .int .i64 z', .int .i64 u', .int .i64 v'], .int .i64 er]) (by simp [results, Try.results57, go_sem, *]) rfl ⟨?_, by go_grown⟩
    rw [hE.out, HM.out]; rfl

set_option maxHeartbeats 1000000 in
theorem Sub_any (a b c d k p q r s l : Int) (w : World) :
    Calls Try.prog 58 #[.agg #[.int .i64 a, .int .i64 b, .int .i64 c, .int .i64 d, .int .i64 k], .agg #[.int .i64 p, .int .i64 q, .int .i64 r, .int .i64 s, .int .i64 l]] w fun e w' => e = Ret5 (subS ⟨⟨a, b, c, d⟩, k⟩ ⟨⟨p, q, r, s⟩, l⟩) ∧ Below w.heap.size w w' := by
  cases hv : (vld ⟨⟨a, b, c, d⟩, k⟩ && vld ⟨⟨p, q, r, s⟩, l⟩)
  · go_enter Try.func58, Try.ntmps58
    go_wp2_with fail
    refine (check2 _ _ ⟨⟨a, b, c, d⟩, k⟩ ⟨⟨p, q, r, s⟩, l⟩ _ (by refine ⟨?_, ?_, ?_, ?_, ?_⟩ <;> go_cell) (by refine ⟨?_, ?_, ?_, ?_, ?_⟩ <;> go_cell)).mono ?_
    rintro e w1 ⟨rfl, hb1⟩
    obtain ⟨⟨q0, q1, q2, q3, q4⟩, r0, r1, r2, r3, r4⟩ : Has5 w1 (w.heap.size + 1 + 1) 0 0 0 0 0 := Has5.keep (by refine ⟨⟨?_, ?_, ?_, ?_, ?_⟩, ?_, ?_, ?_, ?_, ?_⟩ <;> go_cell) hb1 (by simp)
    have D1 : Below w.heap.size w w1 := Below.trans (by go_grown) (hb1.mono (by simp; omega))
    clear hb1
    rw [chk2_bad hv]
    go_wp2_with fail
    refine bodyPost_ret (v := .tuple #[.agg #[.int .i64 0, .int .i64 0, .int .i64 0, .int .i64 0, .int .i64 0], .int .i64 10]) (by simp [results, Try.results58, go_sem, *]) rfl ⟨?_, by go_grown⟩
    unfold subS; rw [hv]; rfl
  · rw [Bool.and_eq_true] at hv
    obtain ⟨hx, hy⟩ := hv
    have hE : subS ⟨⟨a, b, c, d⟩, k⟩ ⟨⟨p, q, r, s⟩, l⟩ = made (comb ⟨⟨a, b, c, d⟩, k⟩ ⟨⟨p, q, r, s⟩, l⟩ (-1)).1 (comb ⟨⟨a, b, c, d⟩, k⟩ ⟨⟨p, q, r, s⟩, l⟩ (-1)).2 := by unfold subS; rw [hx, hy]; rfl
    have hE := Lib.hid hE
    have hbd := comb_bd hx hy (s := (-1)) (by omega)
    go_enter Try.func58, Try.ntmps58
    go_wp2_with fail
    refine (check2 _ _ ⟨⟨a, b, c, d⟩, k⟩ ⟨⟨p, q, r, s⟩, l⟩ _ (by refine ⟨?_, ?_, ?_, ?_, ?_⟩ <;> go_cell) (by refine ⟨?_, ?_, ?_, ?_, ?_⟩ <;> go_cell)).mono ?_
    rintro e w1 ⟨rfl, hb1⟩
    have A1 : Has5 w1 w.heap.size a b c d k := Has5.keep (by refine ⟨⟨?_, ?_, ?_, ?_, ?_⟩, ?_, ?_, ?_, ?_, ?_⟩ <;> go_cell) hb1 (by simp; omega)
    have B1 : Has5 w1 (w.heap.size + 1) p q r s l := Has5.keep (by refine ⟨⟨?_, ?_, ?_, ?_, ?_⟩, ?_, ?_, ?_, ?_, ?_⟩ <;> go_cell) hb1 (by simp)
    have C1 : Has5 w1 (w.heap.size + 1 + 1) 0 0 0 0 0 := Has5.keep (by refine ⟨⟨?_, ?_, ?_, ?_, ?_⟩, ?_, ?_, ?_, ?_, ?_⟩ <;> go_cell) hb1 (by simp)
    have D1 : Below w.heap.size w w1 := Below.trans (by go_grown) (hb1.mono (by simp; omega))
    have s1 : w.heap.size + 3 ≤ w1.heap.size := by have := hb1.size; simp at this; omega
    clear hb1
    rw [chk2_ok hx hy]
    obtain ⟨⟨c0, c1, c2, c3, c4⟩, f0, f1, f2, f3, f4⟩ := A1
    obtain ⟨⟨g0, g1, g2, g3, g4⟩, e0, e1, e2, e3, e4⟩ := B1
    have HX := Lib.hid hx
    have HY := Lib.hid hy
    clear hx hy
    go_wp2_with fail
    refine (combined_sub _ _ _ _ _ _ _ _ _ _ _ HX.out HY.out).mono ?_
    rintro e w2 ⟨rfl, hb2⟩
    have C2 := C1.keep hb2 (by omega)
    have D2 : Below w.heap.size w w2 := D1.trans (hb2.mono (by omega))
    have s2 : w.heap.size + 3 ≤ w2.heap.size := by have := hb2.size; omega
    clear hb2 C1 D1 c0 c1 c2 c3 c4 f0 f1 f2 f3 f4 g0 g1 g2 g3 g4 e0 e1 e2 e3 e4
    unfold Ret4
    generalize comb ⟨⟨a, b, c, d⟩, k⟩ ⟨⟨p, q, r, s⟩, l⟩ (-1) = m at *
    obtain ⟨⟨x, y, z, u⟩, n⟩ := m
    simp only at hE hbd
    go_wp2_with fail
    refine (reduced_any _ _ _ _ _ _ hbd.1 hbd.2).mono ?_
    rintro e w3 ⟨rfl, hb3⟩
    have C3 := C2.keep hb3 (by omega)
    have D3 : Below w.heap.size w w3 := D2.trans (hb3.mono (by omega))
    clear hb3 C2 D2
    obtain ⟨⟨q0, q1, q2, q3, q4⟩, r0, r1, r2, r3, r4⟩ := C3
    obtain ⟨x', y', z', u', v', er, HM⟩ := res5 (made ⟨x, y, z, u⟩ n)
    rw [HM.out]
    unfold Ret5
    simp only
    go_wp2_with fail
    refine bodyPost_ret (v := .tuple #[.agg #[.int .i64 x', .int .i64 y', .int .i64 z', .int .i64 u', .int .i64 v'], .int .i64 er]) (by simp [results, Try.results58, go_sem, *]) rfl ⟨?_, by go_grown⟩
    rw [hE.out, HM.out]; rfl
end Go.Proofs.Ytgbnpnenejgnnaa
