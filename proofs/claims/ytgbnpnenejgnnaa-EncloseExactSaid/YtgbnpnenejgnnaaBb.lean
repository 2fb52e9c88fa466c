import Derived.Test.YtgbnpnenejgnnaaBr
import Derived.Test.YtgbnpnenejgnnaaFl
import Derived.Test.YtgbnpnenejgnnaaJ
namespace Amp
theorem flu_ex {p q u : Int} (hu : 0 < u) (hq : -2305843009213693952 ≤ q ∧ q ≤ 2305843009213693952) : ∃ f, isFlu p q u f := by
  obtain ⟨f, hf⟩ := isFl_ex (p := p) hq
  exact ⟨_, flu_shift hu hf⟩
theorem bd_ex {p q e : Int} (hp : -2000000000 ≤ p ∧ p ≤ 2000000000) (hq : -1000000000 ≤ q ∧ q ≤ 1000000000) (he : e ≤ 59) : ∃ lo hi, isBd p q e lo hi := by
  have hb := nr_bd hp hq he
  obtain ⟨f, hf⟩ := flu_ex (p := nrP p q e) (q := nrQ p q e) (nrU_pos e) (by omega)
  by_cases h : nrP p q e - f * nrU e = 0 ∧ nrQ p q e = 0
  · exact ⟨f, f, sp_exact (nrU_pos e) hf h.1 h.2⟩
  · exact ⟨f, f + 1, sp_next hf h⟩
/-- P1.7: the bounds of both parts, or the error. -/
def isBnd (z : Nm) (n rl rh il ih er : Int) : Prop :=
  if vld z = true then (if 0 ≤ n ∧ n ≤ 30 then er = 0 ∧ isBd (z.v.b - z.v.d) z.v.a (2 * n - z.k - 1) rl rh ∧ isBd (z.v.b + z.v.d) z.v.c (2 * n - z.k - 1) il ih
    else rl = 0 ∧ rh = 0 ∧ il = 0 ∧ ih = 0 ∧ er = 2) else rl = 0 ∧ rh = 0 ∧ il = 0 ∧ ih = 0 ∧ er = 10
end Amp
namespace Go.Proofs.Ytgbnpnenejgnnaa
open Go.RowKit Amp
attribute [local go_sem] ix0 ix1 ix2 ix3 jx0 jx1 jx2 jx3
/-- A block of two cells of the call's own. -/
def Has2 (w : World) (n : Nat) (a b : Int) : Prop :=
  (w.cell? ⟨n, 0, none⟩ = some (.int .i64 a) ∧ w.cell? ⟨n, 1, none⟩ = some (.int .i64 b)) ∧ w.frozen? ⟨n, 0, none⟩ = false ∧ w.frozen? ⟨n, 1, none⟩ = false
theorem Has2.keep {w w1 : World} {n : Nat} {a b : Int} (h : Has2 w n a b) (hb : Below w.heap.size w w1) (hn : n < w.heap.size) : Has2 w1 n a b := by
  obtain ⟨k1, k2⟩ := bcell hb
  unfold Has2 at *
  simpa only [k1 _ _ hn, k2 _ _ hn] using h
def Has4c (w : World) (n : Nat) (a b c d : Int) : Prop :=
  w.cell? ⟨n, 0, none⟩ = some (.int .i64 a) ∧ w.cell? ⟨n, 1, none⟩ = some (.int .i64 b) ∧ w.cell? ⟨n, 2, none⟩ = some (.int .i64 c) ∧ w.cell? ⟨n, 3, none⟩ = some (.int .i64 d)
theorem bnd_ex (z : Nm) (n : Int) : ∃ rl rh il ih er, Hid (isBnd z n rl rh il ih er) := by
  cases hv : vld z
  · exact ⟨0, 0, 0, 0, 10, by show isBnd _ _ _ _ _ _ _; unfold isBnd; rw [hv]; simp⟩
  · by_cases hn : 0 ≤ n ∧ n ≤ 30
    · have hb := vld_sm hv
      have hk := vld_k hv
      obtain ⟨⟨a1, a2⟩, ⟨b1, b2⟩, ⟨c1, c2⟩, ⟨d1, d2⟩⟩ := hb
      obtain ⟨rl, rh, h1⟩ := bd_ex (p := z.v.b - z.v.d) (q := z.v.a) (e := 2 * n - z.k - 1) (by omega) (by omega) (by omega)
      obtain ⟨il, ih, h2⟩ := bd_ex (p := z.v.b + z.v.d) (q := z.v.c) (e := 2 * n - z.k - 1) (by omega) (by omega) (by omega)
      exact ⟨rl, rh, il, ih, 0, by show isBnd _ _ _ _ _ _ _; unfold isBnd; rw [if_pos hv, if_pos hn]; exact ⟨rfl, h1, h2⟩⟩
    · exact ⟨0, 0, 0, 0, 2, by show isBnd _ _ _ _ _ _ _; unfold isBnd; rw [if_pos hv, if_neg hn]; simp⟩
theorem around_is (p q N lo hi : Int) (w : World) (hp : -2000000000 ≤ p ∧ p ≤ 2000000000) (hq : -1000000000 ≤ q ∧ q ≤ 1000000000) (hN : -41 ≤ N ∧ N ≤ 59) (h : isBd p q N lo hi) :
    Calls Try.prog 144 #[.int .i64 p, .int .i64 q, .int .i64 N] w fun e w' => e = .returned (.agg #[.int .i64 lo, .int .i64 hi]) ∧ Below w.heap.size w w' := by
  refine (around_any p q N w hp hq hN).mono ?_
  rintro e w' ⟨l, h', rfl, H, hb⟩
  obtain ⟨rfl, rfl⟩ := bd_unique h H.out
  exact ⟨rfl, hb⟩

set_option maxHeartbeats 1000000 in
theorem rSpan_is (p q N lo hi : Int) (w : World) (hp : -2000000000 ≤ p ∧ p ≤ 2000000000) (hq : -1000000000 ≤ q ∧ q ≤ 1000000000) (hN : -41 ≤ N ∧ N ≤ 59) (h : isBd p q N lo hi) :
    Calls Try.prog 146 #[.int .i64 p, .int .i64 q, .int .i64 N] w fun e w' => e = .returned (.agg #[.int .i64 lo, .int .i64 hi]) ∧ Below w.heap.size w w' := by
  have H := Lib.hid h
  clear h
  go_enter Try.func146, Try.ntmps146
  go_wp2_with fail
  refine (rFloor_any _ _ _ _ hp hq hN).mono ?_
  rintro e w1 ⟨f, rfl, HF, ⟨f1, f2⟩, hb⟩
  have D1 : Below w.heap.size w w1 := Below.trans (by go_grown) (hb.mono (by first | omega | (simp; done) | (simp; omega)))
  obtain ⟨⟨q0, q1⟩, r0, r1⟩ : (w1.cell? ⟨w.heap.size, 0, none⟩ = some (.int .i64 0) ∧ w1.cell? ⟨w.heap.size, 1, none⟩ = some (.int .i64 0)) ∧ w1.frozen? ⟨w.heap.size, 0, none⟩ = false ∧ w1.frozen? ⟨w.heap.size, 1, none⟩ = false := by
    obtain ⟨k1, k2⟩ := bcell hb
    rw [k1 _ _ (by simp), k1 _ _ (by simp), k2 _ _ (by simp), k2 _ _ (by simp)]
    refine ⟨⟨?_, ?_⟩, ?_, ?_⟩ <;> go_cell
  have s1 : w.heap.size < w1.heap.size := by have := hb.size; simp at this; omega
  clear hb
  by_cases hz : nrP p q N - f * nrU N = 0 ∧ nrQ p q N = 0
  · obtain ⟨rfl, rfl⟩ := sp_unique (nrU_pos N) (sp_exact (nrU_pos N) HF.out hz.1 hz.2) H.out
    rw [decide_eq_true hz]
    clear hz HF
    go_wp2_with fail
    refine bodyPost_ret (v := .agg #[.int .i64 f, .int .i64 f]) (by simp [results, Try.results146, go_sem, *]) rfl ⟨rfl, by go_grown⟩
  · obtain ⟨rfl, rfl⟩ := sp_unique (nrU_pos N) (sp_next HF.out hz) H.out
    rw [decide_eq_false hz]
    clear hz HF
    go_wp2_with fail
    refine bodyPost_ret (v := .agg #[.int .i64 f, .int .i64 (f + 1)]) (by simp [results, Try.results146, go_sem, *]) rfl ⟨rfl, by go_grown⟩
set_option maxHeartbeats 4000000 in
theorem Bounds_bad (a b c d k n rl rh il ih er : Int) (w : World) (H : Hid (isBnd ⟨⟨a, b, c, d⟩, k⟩ n rl rh il ih er)) (hv : Hid (vld ⟨⟨a, b, c, d⟩, k⟩ = false)) :
    Calls Try.prog 105 #[.agg #[.int .i64 a, .int .i64 b, .int .i64 c, .int .i64 d, .int .i64 k], .int .i64 n] w fun e w' => e = .returned (.tuple #[.agg #[.int .i64 rl, .int .i64 rh], .agg #[.int .i64 il, .int .i64 ih], .int .i64 er]) ∧ Below w.heap.size w w' := by
  have H1 := H.out
  unfold isBnd at H1
  rw [hv.out] at H1
  obtain ⟨rfl, rfl, rfl, rfl, rfl⟩ := H1
  go_enter Try.func105, Try.ntmps105
  go_wp2_with fail
  refine (check1 _ _ ⟨⟨a, b, c, d⟩, k⟩ _ (by refine ⟨?_, ?_, ?_, ?_, ?_⟩ <;> go_cell)).mono ?_
  rintro e w1 ⟨rfl, hb1⟩
  rw [chk1_bad hv.out]
  have A1 : Has5 w1 w.heap.size a b c d k := Has5.keep (by refine ⟨⟨?_, ?_, ?_, ?_, ?_⟩, ?_, ?_, ?_, ?_, ?_⟩ <;> go_cell) hb1 (by first | omega | (simp; done) | (simp; omega))
  have R1 : Has2 w1 (w.heap.size + 1) 0 0 := Has2.keep (by refine ⟨⟨?_, ?_⟩, ?_, ?_⟩ <;> go_cell) hb1 (by first | omega | (simp; done) | (simp; omega))
  have R2 : Has2 w1 (w.heap.size + 1 + 1) 0 0 := Has2.keep (by refine ⟨⟨?_, ?_⟩, ?_, ?_⟩ <;> go_cell) hb1 (by first | omega | (simp; done) | (simp; omega))
  have D1 : Below w.heap.size w w1 := Below.trans (by go_grown) (hb1.mono (by first | omega | (simp; done) | (simp; omega)))
  have s1 : w.heap.size + 2 < w1.heap.size := by have := hb1.size; simp at this; omega
  clear hb1 hv H
  obtain ⟨⟨q0, q1⟩, r0, r1⟩ := R1
  obtain ⟨⟨q2, q3⟩, r2, r3⟩ := R2
  clear A1
  go_wp2_with fail
  refine bodyPost_ret (v := .tuple #[.agg #[.int .i64 0, .int .i64 0], .agg #[.int .i64 0, .int .i64 0], .int .i64 10]) (by simp [results, Try.results105, go_sem, *]) rfl ⟨rfl, by go_grown⟩
set_option maxHeartbeats 4000000 in
theorem Bounds_arg (a b c d k n rl rh il ih er : Int) (w : World) (H : Hid (isBnd ⟨⟨a, b, c, d⟩, k⟩ n rl rh il ih er)) (hv : Hid (vld ⟨⟨a, b, c, d⟩, k⟩ = true)) (hn : ¬ (0 ≤ n ∧ n ≤ 30)) :
    Calls Try.prog 105 #[.agg #[.int .i64 a, .int .i64 b, .int .i64 c, .int .i64 d, .int .i64 k], .int .i64 n] w fun e w' => e = .returned (.tuple #[.agg #[.int .i64 rl, .int .i64 rh], .agg #[.int .i64 il, .int .i64 ih], .int .i64 er]) ∧ Below w.heap.size w w' := by
  have H1 := H.out
  unfold isBnd at H1
  rw [hv.out, if_neg hn] at H1
  obtain ⟨rfl, rfl, rfl, rfl, rfl⟩ := H1
  have hc : n < 0 ∨ 30 < n := by omega
  clear hn
  rcases hc with hc | hc
  · go_enter Try.func105, Try.ntmps105
    go_wp2_with fail
    refine (check1 _ _ ⟨⟨a, b, c, d⟩, k⟩ _ (by refine ⟨?_, ?_, ?_, ?_, ?_⟩ <;> go_cell)).mono ?_
    rintro e w1 ⟨rfl, hb1⟩
    rw [chk1_ok hv.out]
    have A1 : Has5 w1 w.heap.size a b c d k := Has5.keep (by refine ⟨⟨?_, ?_, ?_, ?_, ?_⟩, ?_, ?_, ?_, ?_, ?_⟩ <;> go_cell) hb1 (by first | omega | (simp; done) | (simp; omega))
    have R1 : Has2 w1 (w.heap.size + 1) 0 0 := Has2.keep (by refine ⟨⟨?_, ?_⟩, ?_, ?_⟩ <;> go_cell) hb1 (by first | omega | (simp; done) | (simp; omega))
    have R2 : Has2 w1 (w.heap.size + 1 + 1) 0 0 := Has2.keep (by refine ⟨⟨?_, ?_⟩, ?_, ?_⟩ <;> go_cell) hb1 (by first | omega | (simp; done) | (simp; omega))
    have D1 : Below w.heap.size w w1 := Below.trans (by go_grown) (hb1.mono (by first | omega | (simp; done) | (simp; omega)))
    have s1 : w.heap.size + 2 < w1.heap.size := by have := hb1.size; simp at this; omega
    clear hb1 hv H
    obtain ⟨⟨q0, q1⟩, r0, r1⟩ := R1
    obtain ⟨⟨q2, q3⟩, r2, r3⟩ := R2
    clear A1
    go_wp2_with fail
    refine bodyPost_ret (v := .tuple #[.agg #[.int .i64 0, .int .i64 0], .agg #[.int .i64 0, .int .i64 0], .int .i64 2]) (by simp [results, Try.results105, go_sem, *]) rfl ⟨rfl, by go_grown⟩
  · have hc0 : ¬ n < 0 := by omega
    go_enter Try.func105, Try.ntmps105
    go_wp2_with fail
    refine (check1 _ _ ⟨⟨a, b, c, d⟩, k⟩ _ (by refine ⟨?_, ?_, ?_, ?_, ?_⟩ <;> go_cell)).mono ?_
    rintro e w1 ⟨rfl, hb1⟩
    rw [chk1_ok hv.out]
    have A1 : Has5 w1 w.heap.size a b c d k := Has5.keep (by refine ⟨⟨?_, ?_, ?_, ?_, ?_⟩, ?_, ?_, ?_, ?_, ?_⟩ <;> go_cell) hb1 (by first | omega | (simp; done) | (simp; omega))
    have R1 : Has2 w1 (w.heap.size + 1) 0 0 := Has2.keep (by refine ⟨⟨?_, ?_⟩, ?_, ?_⟩ <;> go_cell) hb1 (by first | omega | (simp; done) | (simp; omega))
    have R2 : Has2 w1 (w.heap.size + 1 + 1) 0 0 := Has2.keep (by refine ⟨⟨?_, ?_⟩, ?_, ?_⟩ <;> go_cell) hb1 (by first | omega | (simp; done) | (simp; omega))
    have D1 : Below w.heap.size w w1 := Below.trans (by go_grown) (hb1.mono (by first | omega | (simp; done) | (simp; omega)))
    have s1 : w.heap.size + 2 < w1.heap.size := by have := hb1.size; simp at this; omega
    clear hb1 hv H
    obtain ⟨⟨q0, q1⟩, r0, r1⟩ := R1
    obtain ⟨⟨q2, q3⟩, r2, r3⟩ := R2
    clear A1
    go_wp2_with fail
    refine bodyPost_ret (v := .tuple #[.agg #[.int .i64 0, .int .i64 0], .agg #[.int .i64 0, .int .i64 0], .int .i64 2]) (by simp [results, Try.results105, go_sem, *]) rfl ⟨rfl, by go_grown⟩
set_option maxHeartbeats 4000000 in
theorem Bounds_ok (a b c d k n rl rh il ih er : Int) (w : World) (H : Hid (isBnd ⟨⟨a, b, c, d⟩, k⟩ n rl rh il ih er)) (hv : Hid (vld ⟨⟨a, b, c, d⟩, k⟩ = true)) (n1 : 0 ≤ n) (n2 : n ≤ 30) :
    Calls Try.prog 105 #[.agg #[.int .i64 a, .int .i64 b, .int .i64 c, .int .i64 d, .int .i64 k], .int .i64 n] w fun e w' => e = .returned (.tuple #[.agg #[.int .i64 rl, .int .i64 rh], .agg #[.int .i64 il, .int .i64 ih], .int .i64 er]) ∧ Below w.heap.size w w' := by
  have H1 := H.out
  unfold isBnd at H1
  rw [if_pos hv.out, if_pos ⟨n1, n2⟩] at H1
  obtain ⟨rfl, h1, h2⟩ := H1
  simp only at h1 h2
  have g1 := Lib.hid h1
  have g2 := Lib.hid h2
  clear h1 h2
  obtain ⟨⟨a1, a2⟩, ⟨b1, b2⟩, ⟨c1, c2⟩, ⟨d1, d2⟩⟩ := vld_sm hv.out
  have hk := vld_k hv.out
  simp only at a1 a2 b1 b2 c1 c2 d1 d2 hk
  obtain ⟨k1, k2⟩ := hk
  go_enter Try.func105, Try.ntmps105
  go_wp2_with fail
  refine (check1 _ _ ⟨⟨a, b, c, d⟩, k⟩ _ (by refine ⟨?_, ?_, ?_, ?_, ?_⟩ <;> go_cell)).mono ?_
  rintro e w1 ⟨rfl, hb1⟩
  rw [chk1_ok hv.out]
  have A1 : Has5 w1 w.heap.size a b c d k := Has5.keep (by refine ⟨⟨?_, ?_, ?_, ?_, ?_⟩, ?_, ?_, ?_, ?_, ?_⟩ <;> go_cell) hb1 (by first | omega | (simp; done) | (simp; omega))
  have R1 : Has2 w1 (w.heap.size + 1) 0 0 := Has2.keep (by refine ⟨⟨?_, ?_⟩, ?_, ?_⟩ <;> go_cell) hb1 (by first | omega | (simp; done) | (simp; omega))
  have R2 : Has2 w1 (w.heap.size + 1 + 1) 0 0 := Has2.keep (by refine ⟨⟨?_, ?_⟩, ?_, ?_⟩ <;> go_cell) hb1 (by first | omega | (simp; done) | (simp; omega))
  have D1 : Below w.heap.size w w1 := Below.trans (by go_grown) (hb1.mono (by first | omega | (simp; done) | (simp; omega)))
  have s1 : w.heap.size + 2 < w1.heap.size := by have := hb1.size; simp at this; omega
  clear hb1 hv H
  have A2 := A1
  obtain ⟨⟨c0, c1', c2', c3, c4⟩, f0, f1, f2, f3, f4⟩ := A2
  go_wp2_with fail
  have Z0 : (w1.alloc (Obj.cells #[.int .i64 a, .int .i64 b, .int .i64 c, .int .i64 d] 67)).cell? ⟨w1.heap.size, 0, none⟩ = some (.int .i64 a) ∧ (w1.alloc (Obj.cells #[.int .i64 a, .int .i64 b, .int .i64 c, .int .i64 d] 67)).cell? ⟨w1.heap.size, 1, none⟩ = some (.int .i64 b) ∧ (w1.alloc (Obj.cells #[.int .i64 a, .int .i64 b, .int .i64 c, .int .i64 d] 67)).cell? ⟨w1.heap.size, 2, none⟩ = some (.int .i64 c) ∧ (w1.alloc (Obj.cells #[.int .i64 a, .int .i64 b, .int .i64 c, .int .i64 d] 67)).cell? ⟨w1.heap.size, 3, none⟩ = some (.int .i64 d) := by refine ⟨?_, ?_, ?_, ?_⟩ <;> go_cell
  have lW : w1.heap.size < (w1.alloc (Obj.cells #[.int .i64 a, .int .i64 b, .int .i64 c, .int .i64 d] 67)).heap.size := by simp
  have R1 : Has2 (w1.alloc (Obj.cells #[.int .i64 a, .int .i64 b, .int .i64 c, .int .i64 d] 67)) (w.heap.size + 1) 0 0 := R1.keep ((Below.refl _ _).alloc (Nat.le_refl _) _) (by omega)
  have R2 : Has2 (w1.alloc (Obj.cells #[.int .i64 a, .int .i64 b, .int .i64 c, .int .i64 d] 67)) (w.heap.size + 1 + 1) 0 0 := R2.keep ((Below.refl _ _).alloc (Nat.le_refl _) _) (by omega)
  have D1 : Below w.heap.size w (w1.alloc (Obj.cells #[.int .i64 a, .int .i64 b, .int .i64 c, .int .i64 d] 67)) := by go_grown
  have n1' : ¬ w.heap.size + 1 = w1.heap.size := by omega
  have n2' : ¬ w.heap.size + 1 + 1 = w1.heap.size := by omega
  have n3' : ¬ w1.heap.size = w.heap.size + 1 := by omega
  have n4' : ¬ w1.heap.size = w.heap.size + 1 + 1 := by omega
  clear A1 c0 c1' c2' c3 c4 f0 f1 f2 f3 f4
  generalize (w1.alloc (Obj.cells #[.int .i64 a, .int .i64 b, .int .i64 c, .int .i64 d] 67)) = W at *
  have V0 : ∀ w', Below W.heap.size W w' → w'.cell? ⟨w1.heap.size, 0, none⟩ = some (.int .i64 a) ∧ w'.cell? ⟨w1.heap.size, 1, none⟩ = some (.int .i64 b) ∧ w'.cell? ⟨w1.heap.size, 2, none⟩ = some (.int .i64 c) ∧ w'.cell? ⟨w1.heap.size, 3, none⟩ = some (.int .i64 d) := fun w' hb => by
    obtain ⟨e1, _⟩ := bcell hb
    rw [e1 _ _ lW, e1 _ _ lW, e1 _ _ lW, e1 _ _ lW]
    exact Z0
  have G0 := Lib.hid V0
  have V1 : ∀ w', Below W.heap.size W w' → Has2 w' (w.heap.size + 1) 0 0 ∧ Has2 w' (w.heap.size + 1 + 1) 0 0 := fun w' hb => ⟨R1.keep hb (by omega), R2.keep hb (by omega)⟩
  have G1 := Lib.hid V1
  have y1 : IntKind.i64.wrap (b - d) = b - d := IntWalk.i64_in _ (by omega)
  have y2 : IntKind.i64.wrap (b + d) = b + d := IntWalk.i64_in _ (by omega)
  obtain ⟨z0, z1, z2, z3⟩ := Z0
  clear V0 V1
  go_region_held3 (fun w' => w'.cell? ⟨w1.heap.size, 0, none⟩ = some (.int .i64 a) ∧ w'.cell? ⟨w1.heap.size, 1, none⟩ = some (.int .i64 b) ∧ w'.cell? ⟨w1.heap.size, 2, none⟩ = some (.int .i64 c) ∧ w'.cell? ⟨w1.heap.size, 3, none⟩ = some (.int .i64 d))
    ((first | (refine G0.out _ ?_; go_grown; done) | (refine ⟨?_, ?_, ?_, ?_⟩ <;> first | (go_cell; done) | (go_keep; done) | (simp only [World.cell?_drew]; go_keep))))
    ((go_at_call 144; refine (around_is _ _ _ _ _ _ (by omega) (by omega) (by omega) (by first | exact g1.out | exact g2.out)).mono ?_; rintro e wA ⟨rfl, hb⟩; have HA : Below W.heap.size W wA := Below.trans (by go_grown) (hb.mono (by first | omega | (simp; done) | (simp; omega))); have zA := HA.size; have lA : w.heap.size + 1 < wA.heap.size := (by omega); have lB : w.heap.size + 1 + 1 < wA.heap.size := (by omega); have DA := D1.trans (HA.mono (by omega)); obtain ⟨⟨⟨_, _⟩, _, _⟩, ⟨_, _⟩, _, _⟩ := G1.out _ HA; clear hb))
  all_goals go_wp2_with fail
  all_goals (refine bodyPost_ret (v := .tuple #[.agg #[.int .i64 rl, .int .i64 rh], .agg #[.int .i64 il, .int .i64 ih], .int .i64 0]) (by simp [results, Try.results105, go_sem, *]) rfl ⟨rfl, by go_grown⟩)
set_option maxHeartbeats 4000000 in
theorem rBounds_bad (a b c d k n rl rh il ih er : Int) (w : World) (H : Hid (isBnd ⟨⟨a, b, c, d⟩, k⟩ n rl rh il ih er)) (hv : Hid (vld ⟨⟨a, b, c, d⟩, k⟩ = false)) :
    Calls Try.prog 108 #[.agg #[.int .i64 a, .int .i64 b, .int .i64 c, .int .i64 d, .int .i64 k], .int .i64 n] w fun e w' => e = .returned (.tuple #[.agg #[.int .i64 rl, .int .i64 rh], .agg #[.int .i64 il, .int .i64 ih], .int .i64 er]) ∧ Below w.heap.size w w' := by
  have H1 := H.out
  unfold isBnd at H1
  rw [hv.out] at H1
  obtain ⟨rfl, rfl, rfl, rfl, rfl⟩ := H1
  go_enter Try.func108, Try.ntmps108
  go_wp2_with fail
  refine (rValidA_any _ _ _ _ _ _).mono ?_
  rintro e w1 ⟨rfl, hb1⟩
  rw [hv.out]
  have A1 : Has5 w1 w.heap.size a b c d k := Has5.keep (by refine ⟨⟨?_, ?_, ?_, ?_, ?_⟩, ?_, ?_, ?_, ?_, ?_⟩ <;> go_cell) hb1 (by first | omega | (simp; done) | (simp; omega))
  have R1 : Has2 w1 (w.heap.size + 1) 0 0 := Has2.keep (by refine ⟨⟨?_, ?_⟩, ?_, ?_⟩ <;> go_cell) hb1 (by first | omega | (simp; done) | (simp; omega))
  have R2 : Has2 w1 (w.heap.size + 1 + 1) 0 0 := Has2.keep (by refine ⟨⟨?_, ?_⟩, ?_, ?_⟩ <;> go_cell) hb1 (by first | omega | (simp; done) | (simp; omega))
  have D1 : Below w.heap.size w w1 := Below.trans (by go_grown) (hb1.mono (by first | omega | (simp; done) | (simp; omega)))
  have s1 : w.heap.size + 2 < w1.heap.size := by have := hb1.size; simp at this; omega
  clear hb1 hv H
  obtain ⟨⟨q0, q1⟩, r0, r1⟩ := R1
  obtain ⟨⟨q2, q3⟩, r2, r3⟩ := R2
  clear A1
  go_wp2_with fail
  go_region
  all_goals go_wp2_with fail
  all_goals refine bodyPost_ret (v := .tuple #[.agg #[.int .i64 0, .int .i64 0], .agg #[.int .i64 0, .int .i64 0], .int .i64 10]) (by simp [results, Try.results108, go_sem, *]) rfl ⟨rfl, by go_grown⟩
set_option maxHeartbeats 4000000 in
theorem rBounds_arg (a b c d k n rl rh il ih er : Int) (w : World) (H : Hid (isBnd ⟨⟨a, b, c, d⟩, k⟩ n rl rh il ih er)) (hv : Hid (vld ⟨⟨a, b, c, d⟩, k⟩ = true)) (hn : ¬ (0 ≤ n ∧ n ≤ 30)) :
    Calls Try.prog 108 #[.agg #[.int .i64 a, .int .i64 b, .int .i64 c, .int .i64 d, .int .i64 k], .int .i64 n] w fun e w' => e = .returned (.tuple #[.agg #[.int .i64 rl, .int .i64 rh], .agg #[.int .i64 il, .int .i64 ih], .int .i64 er]) ∧ Below w.heap.size w w' := by
  have H1 := H.out
  unfold isBnd at H1
  rw [hv.out, if_neg hn] at H1
  obtain ⟨rfl, rfl, rfl, rfl, rfl⟩ := H1
  have hc : n < 0 ∨ 30 < n := by omega
  clear hn
  rcases hc with hc | hc
  · go_enter Try.func108, Try.ntmps108
    go_wp2_with fail
    refine (rValidA_any _ _ _ _ _ _).mono ?_
    rintro e w1 ⟨rfl, hb1⟩
    rw [hv.out]
    have A1 : Has5 w1 w.heap.size a b c d k := Has5.keep (by refine ⟨⟨?_, ?_, ?_, ?_, ?_⟩, ?_, ?_, ?_, ?_, ?_⟩ <;> go_cell) hb1 (by first | omega | (simp; done) | (simp; omega))
    have R1 : Has2 w1 (w.heap.size + 1) 0 0 := Has2.keep (by refine ⟨⟨?_, ?_⟩, ?_, ?_⟩ <;> go_cell) hb1 (by first | omega | (simp; done) | (simp; omega))
    have R2 : Has2 w1 (w.heap.size + 1 + 1) 0 0 := Has2.keep (by refine ⟨⟨?_, ?_⟩, ?_, ?_⟩ <;> go_cell) hb1 (by first | omega | (simp; done) | (simp; omega))
    have D1 : Below w.heap.size w w1 := Below.trans (by go_grown) (hb1.mono (by first | omega | (simp; done) | (simp; omega)))
    have s1 : w.heap.size + 2 < w1.heap.size := by have := hb1.size; simp at this; omega
    clear hb1 hv H
    obtain ⟨⟨q0, q1⟩, r0, r1⟩ := R1
    obtain ⟨⟨q2, q3⟩, r2, r3⟩ := R2
    clear A1
    go_wp2_with fail
    go_region
    all_goals go_wp2_with fail
    all_goals refine bodyPost_ret (v := .tuple #[.agg #[.int .i64 0, .int .i64 0], .agg #[.int .i64 0, .int .i64 0], .int .i64 2]) (by simp [results, Try.results108, go_sem, *]) rfl ⟨rfl, by go_grown⟩
  · have hc0 : ¬ n < 0 := by omega
    go_enter Try.func108, Try.ntmps108
    go_wp2_with fail
    refine (rValidA_any _ _ _ _ _ _).mono ?_
    rintro e w1 ⟨rfl, hb1⟩
    rw [hv.out]
    have A1 : Has5 w1 w.heap.size a b c d k := Has5.keep (by refine ⟨⟨?_, ?_, ?_, ?_, ?_⟩, ?_, ?_, ?_, ?_, ?_⟩ <;> go_cell) hb1 (by first | omega | (simp; done) | (simp; omega))
    have R1 : Has2 w1 (w.heap.size + 1) 0 0 := Has2.keep (by refine ⟨⟨?_, ?_⟩, ?_, ?_⟩ <;> go_cell) hb1 (by first | omega | (simp; done) | (simp; omega))
    have R2 : Has2 w1 (w.heap.size + 1 + 1) 0 0 := Has2.keep (by refine ⟨⟨?_, ?_⟩, ?_, ?_⟩ <;> go_cell) hb1 (by first | omega | (simp; done) | (simp; omega))
    have D1 : Below w.heap.size w w1 := Below.trans (by go_grown) (hb1.mono (by first | omega | (simp; done) | (simp; omega)))
    have s1 : w.heap.size + 2 < w1.heap.size := by have := hb1.size; simp at this; omega
    clear hb1 hv H
    obtain ⟨⟨q0, q1⟩, r0, r1⟩ := R1
    obtain ⟨⟨q2, q3⟩, r2, r3⟩ := R2
    clear A1
    go_wp2_with fail
    go_region
    all_goals go_wp2_with fail
    all_goals refine bodyPost_ret (v := .tuple #[.agg #[.int .i64 0, .int .i64 0], .agg #[.int .i64 0, .int .i64 0], .int .i64 2]) (by simp [results, Try.results108, go_sem, *]) rfl ⟨rfl, by go_grown⟩
set_option maxHeartbeats 4000000 in
theorem rBounds_ok (a b c d k n rl rh il ih er : Int) (w : World) (H : Hid (isBnd ⟨⟨a, b, c, d⟩, k⟩ n rl rh il ih er)) (hv : Hid (vld ⟨⟨a, b, c, d⟩, k⟩ = true)) (n1 : 0 ≤ n) (n2 : n ≤ 30) :
    Calls Try.prog 108 #[.agg #[.int .i64 a, .int .i64 b, .int .i64 c, .int .i64 d, .int .i64 k], .int .i64 n] w fun e w' => e = .returned (.tuple #[.agg #[.int .i64 rl, .int .i64 rh], .agg #[.int .i64 il, .int .i64 ih], .int .i64 er]) ∧ Below w.heap.size w w' := by
  have H1 := H.out
  unfold isBnd at H1
  rw [if_pos hv.out, if_pos ⟨n1, n2⟩] at H1
  obtain ⟨rfl, h1, h2⟩ := H1
  simp only at h1 h2
  have g1 := Lib.hid h1
  have g2 := Lib.hid h2
  clear h1 h2
  obtain ⟨⟨a1, a2⟩, ⟨b1, b2⟩, ⟨c1, c2⟩, ⟨d1, d2⟩⟩ := vld_sm hv.out
  have hk := vld_k hv.out
  simp only at a1 a2 b1 b2 c1 c2 d1 d2 hk
  obtain ⟨k1, k2⟩ := hk
  go_enter Try.func108, Try.ntmps108
  go_wp2_with fail
  refine (rValidA_any _ _ _ _ _ _).mono ?_
  rintro e w1 ⟨rfl, hb1⟩
  rw [hv.out]
  have A1 : Has5 w1 w.heap.size a b c d k := Has5.keep (by refine ⟨⟨?_, ?_, ?_, ?_, ?_⟩, ?_, ?_, ?_, ?_, ?_⟩ <;> go_cell) hb1 (by first | omega | (simp; done) | (simp; omega))
  have R1 : Has2 w1 (w.heap.size + 1) 0 0 := Has2.keep (by refine ⟨⟨?_, ?_⟩, ?_, ?_⟩ <;> go_cell) hb1 (by first | omega | (simp; done) | (simp; omega))
  have R2 : Has2 w1 (w.heap.size + 1 + 1) 0 0 := Has2.keep (by refine ⟨⟨?_, ?_⟩, ?_, ?_⟩ <;> go_cell) hb1 (by first | omega | (simp; done) | (simp; omega))
  have D1 : Below w.heap.size w w1 := Below.trans (by go_grown) (hb1.mono (by first | omega | (simp; done) | (simp; omega)))
  have s1 : w.heap.size + 2 < w1.heap.size := by have := hb1.size; simp at this; omega
  clear hb1 hv H
  have A2 := A1
  obtain ⟨⟨c0, c1', c2', c3, c4⟩, f0, f1, f2, f3, f4⟩ := A2
  go_wp2_with fail
  have n1' : ¬ w.heap.size + 1 = w.heap.size := by omega
  have n2' : ¬ w.heap.size + 1 + 1 = w.heap.size := by omega
  have n3' : ¬ w.heap.size = w.heap.size + 1 := by omega
  have n4' : ¬ w.heap.size = w.heap.size + 1 + 1 := by omega
  have Z0 : w1.cell? ⟨w.heap.size, 0, none⟩ = some (.int .i64 a) ∧ w1.cell? ⟨w.heap.size, 1, none⟩ = some (.int .i64 b) ∧ w1.cell? ⟨w.heap.size, 2, none⟩ = some (.int .i64 c) ∧ w1.cell? ⟨w.heap.size, 3, none⟩ = some (.int .i64 d) := ⟨c0, c1', c2', c3⟩
  have lW : w.heap.size < w1.heap.size := by omega
  clear A1 c0 c1' c2' c3 c4 f0 f1 f2 f3 f4
  have V0 : ∀ w', Below w1.heap.size w1 w' → w'.cell? ⟨w.heap.size, 0, none⟩ = some (.int .i64 a) ∧ w'.cell? ⟨w.heap.size, 1, none⟩ = some (.int .i64 b) ∧ w'.cell? ⟨w.heap.size, 2, none⟩ = some (.int .i64 c) ∧ w'.cell? ⟨w.heap.size, 3, none⟩ = some (.int .i64 d) := fun w' hb => by
    obtain ⟨e1, _⟩ := bcell hb
    rw [e1 _ _ lW, e1 _ _ lW, e1 _ _ lW, e1 _ _ lW]
    exact Z0
  have G0 := Lib.hid V0
  have V1 : ∀ w', Below w1.heap.size w1 w' → Has2 w' (w.heap.size + 1) 0 0 ∧ Has2 w' (w.heap.size + 1 + 1) 0 0 := fun w' hb => ⟨R1.keep hb (by omega), R2.keep hb (by omega)⟩
  have G1 := Lib.hid V1
  have y1 : IntKind.i64.wrap (b - d) = b - d := IntWalk.i64_in _ (by omega)
  have y2 : IntKind.i64.wrap (b + d) = b + d := IntWalk.i64_in _ (by omega)
  obtain ⟨z0, z1, z2, z3⟩ := Z0
  clear V0 V1
  go_region_held3 (fun w' => w'.cell? ⟨w.heap.size, 0, none⟩ = some (.int .i64 a) ∧ w'.cell? ⟨w.heap.size, 1, none⟩ = some (.int .i64 b) ∧ w'.cell? ⟨w.heap.size, 2, none⟩ = some (.int .i64 c) ∧ w'.cell? ⟨w.heap.size, 3, none⟩ = some (.int .i64 d))
    ((first | (refine G0.out _ ?_; go_grown; done) | (refine ⟨?_, ?_, ?_, ?_⟩ <;> first | (go_cell; done) | (go_keep; done) | (simp only [World.cell?_drew]; go_keep))))
    ((go_at_call 146; refine (rSpan_is _ _ _ _ _ _ (by omega) (by omega) (by omega) (by first | exact g1.out | exact g2.out)).mono ?_; rintro e wA ⟨rfl, hb⟩; have HA : Below w1.heap.size w1 wA := Below.trans (by go_grown) (hb.mono (by first | omega | (simp; done) | (simp; omega))); have zA := HA.size; have lA : w.heap.size + 1 < wA.heap.size := (by omega); have lB : w.heap.size + 1 + 1 < wA.heap.size := (by omega); have DA := D1.trans (HA.mono (by omega)); obtain ⟨⟨⟨_, _⟩, _, _⟩, ⟨_, _⟩, _, _⟩ := G1.out _ HA; clear hb))
  all_goals go_wp2_with fail
  all_goals (refine bodyPost_ret (v := .tuple #[.agg #[.int .i64 rl, .int .i64 rh], .agg #[.int .i64 il, .int .i64 ih], .int .i64 0]) (by simp [results, Try.results108, go_sem, *]) rfl ⟨rfl, by go_grown⟩)
theorem Bounds_is (a b c d k n rl rh il ih er : Int) (w : World) (H : Hid (isBnd ⟨⟨a, b, c, d⟩, k⟩ n rl rh il ih er)) :
    Calls Try.prog 105 #[.agg #[.int .i64 a, .int .i64 b, .int .i64 c, .int .i64 d, .int .i64 k], .int .i64 n] w fun e w' => e = .returned (.tuple #[.agg #[.int .i64 rl, .int .i64 rh], .agg #[.int .i64 il, .int .i64 ih], .int .i64 er]) ∧ Below w.heap.size w w' := by
  cases hv : vld ⟨⟨a, b, c, d⟩, k⟩
  · exact Bounds_bad a b c d k n rl rh il ih er w H (Lib.hid hv)
  · by_cases hn : 0 ≤ n ∧ n ≤ 30
    · exact Bounds_ok a b c d k n rl rh il ih er w H (Lib.hid hv) hn.1 hn.2
    · exact Bounds_arg a b c d k n rl rh il ih er w H (Lib.hid hv) hn

theorem rBounds_is (a b c d k n rl rh il ih er : Int) (w : World) (H : Hid (isBnd ⟨⟨a, b, c, d⟩, k⟩ n rl rh il ih er)) :
    Calls Try.prog 108 #[.agg #[.int .i64 a, .int .i64 b, .int .i64 c, .int .i64 d, .int .i64 k], .int .i64 n] w fun e w' => e = .returned (.tuple #[.agg #[.int .i64 rl, .int .i64 rh], .agg #[.int .i64 il, .int .i64 ih], .int .i64 er]) ∧ Below w.heap.size w w' := by
  cases hv : vld ⟨⟨a, b, c, d⟩, k⟩
  · exact rBounds_bad a b c d k n rl rh il ih er w H (Lib.hid hv)
  · by_cases hn : 0 ≤ n ∧ n ≤ 30
    · exact rBounds_ok a b c d k n rl rh il ih er w H (Lib.hid hv) hn.1 hn.2
    · exact rBounds_arg a b c d k n rl rh il ih er w H (Lib.hid hv) hn
end Go.Proofs.Ytgbnpnenejgnnaa
