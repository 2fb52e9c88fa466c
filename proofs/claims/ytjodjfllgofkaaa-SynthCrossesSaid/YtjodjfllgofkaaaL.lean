import Derived.Test.YtjodjfllgofkaaaK
import Derived.Deep.DeepCutAuto
import Derived.Deep.RegionHeld3
namespace Go.Proofs.Ytjodjfllgofkaaa
open Go.RowKit Amp
attribute [local go_sem] ix0 ix1 ix2 ix3 jx0 jx1 jx2 jx3
theorem with_keep {Q : Prop} {w w1 : World} (hb : Below w.heap.size w w1) (n : Nat) (h : Has4 w n 0 0 0 0) (hn : n < w.heap.size) (k : Has4 w1 n 0 0 0 0 → n < w1.heap.size → ¬ n = w1.heap.size → ¬ w1.heap.size = n → Q) : Q := by
  have := hb.size
  exact k (h.keep hb hn) (by omega) (by omega) (by omega)

set_option maxHeartbeats 4000000 in
theorem rCombined_add_le (a b c d p q r s : Int) (k l : Nat) (w : World) (hx : big 1000000000 ⟨a, b, c, d⟩) (hy : big 1000000000 ⟨p, q, r, s⟩) (hk : k ≤ 40) (hl : l ≤ 40) (ho : k < l) :
    Calls Try.prog 107 #[.agg #[.int .i64 a, .int .i64 b, .int .i64 c, .int .i64 d, .int .i64 k], .agg #[.int .i64 p, .int .i64 q, .int .i64 r, .int .i64 s, .int .i64 l], .int .i64 1] w fun e w' => e = Ret4 (comb ⟨⟨a, b, c, d⟩, k⟩ ⟨⟨p, q, r, s⟩, l⟩ 1) ∧ Below w.heap.size w w' := by
  have hoI : (k : Int) < (l : Int) := by omega
  have bx := trn_bd (n := l - k) hx (by omega)
  obtain ⟨x0, x1, x2, x3, hX⟩ : ∃ x0 x1 x2 x3, Hid (trn (l - k) ⟨a, b, c, d⟩ = ⟨x0, x1, x2, x3⟩) := ⟨_, _, _, _, rfl⟩
  rw [hX.out] at bx
  have by_ := trn_bd (n := l - l) hy (by omega)
  obtain ⟨y0, y1, y2, y3, hY⟩ : ∃ x0 x1 x2 x3, Hid (trn (l - l) ⟨p, q, r, s⟩ = ⟨x0, x1, x2, x3⟩) := ⟨_, _, _, _, rfl⟩
  rw [hY.out] at by_
  obtain ⟨⟨i0, i1⟩, ⟨i2, i3⟩, ⟨i4, i5⟩, ⟨i6, i7⟩⟩ := bx
  simp only at i0 i1 i2 i3 i4 i5 i6 i7
  obtain ⟨⟨j0, j1⟩, ⟨j2, j3⟩, ⟨j4, j5⟩, ⟨j6, j7⟩⟩ := by_
  simp only at j0 j1 j2 j3 j4 j5 j6 j7
  go_enter Try.func107, Try.ntmps107
  go_upto_region 2 with fail
  have A0 : Has5 (((w.alloc (.cells #[.int .i64 a, .int .i64 b, .int .i64 c, .int .i64 d, .int .i64 k] 63)).alloc (.cells #[.int .i64 p, .int .i64 q, .int .i64 r, .int .i64 s, .int .i64 l] 63)).alloc (.cells #[.int .i64 0, .int .i64 0, .int .i64 0, .int .i64 0] 128)) w.heap.size a b c d k := by refine ⟨⟨?_, ?_, ?_, ?_, ?_⟩, ?_, ?_, ?_, ?_, ?_⟩ <;> go_cell
  have B0 : Has5 (((w.alloc (.cells #[.int .i64 a, .int .i64 b, .int .i64 c, .int .i64 d, .int .i64 k] 63)).alloc (.cells #[.int .i64 p, .int .i64 q, .int .i64 r, .int .i64 s, .int .i64 l] 63)).alloc (.cells #[.int .i64 0, .int .i64 0, .int .i64 0, .int .i64 0] 128)) (w.heap.size + 1) p q r s l := by refine ⟨⟨?_, ?_, ?_, ?_, ?_⟩, ?_, ?_, ?_, ?_, ?_⟩ <;> go_cell
  have C0 : Has4 (((w.alloc (.cells #[.int .i64 a, .int .i64 b, .int .i64 c, .int .i64 d, .int .i64 k] 63)).alloc (.cells #[.int .i64 p, .int .i64 q, .int .i64 r, .int .i64 s, .int .i64 l] 63)).alloc (.cells #[.int .i64 0, .int .i64 0, .int .i64 0, .int .i64 0] 128)) (w.heap.size + 1 + 1) 0 0 0 0 := by refine ⟨⟨?_, ?_, ?_, ?_⟩, ?_, ?_, ?_, ?_⟩ <;> go_cell
  have D0 : Below w.heap.size w (((w.alloc (.cells #[.int .i64 a, .int .i64 b, .int .i64 c, .int .i64 d, .int .i64 k] 63)).alloc (.cells #[.int .i64 p, .int .i64 q, .int .i64 r, .int .i64 s, .int .i64 l] 63)).alloc (.cells #[.int .i64 0, .int .i64 0, .int .i64 0, .int .i64 0] 128)) := by go_grown
  have s0 : w.heap.size + 3 ≤ (((w.alloc (.cells #[.int .i64 a, .int .i64 b, .int .i64 c, .int .i64 d, .int .i64 k] 63)).alloc (.cells #[.int .i64 p, .int .i64 q, .int .i64 r, .int .i64 s, .int .i64 l] 63)).alloc (.cells #[.int .i64 0, .int .i64 0, .int .i64 0, .int .i64 0] 128)).heap.size := by simp
  generalize (((w.alloc (.cells #[.int .i64 a, .int .i64 b, .int .i64 c, .int .i64 d, .int .i64 k] 63)).alloc (.cells #[.int .i64 p, .int .i64 q, .int .i64 r, .int .i64 s, .int .i64 l] 63)).alloc (.cells #[.int .i64 0, .int .i64 0, .int .i64 0, .int .i64 0] 128)) = W0 at *
  have G0 : ∀ w', Below W0.heap.size W0 w' → w'.cell? ⟨w.heap.size, 0, none⟩ = some (.int .i64 a) ∧ w'.cell? ⟨w.heap.size, 1, none⟩ = some (.int .i64 b) ∧ w'.cell? ⟨w.heap.size, 2, none⟩ = some (.int .i64 c) ∧ w'.cell? ⟨w.heap.size, 3, none⟩ = some (.int .i64 d) ∧ w'.cell? ⟨w.heap.size, 4, none⟩ = some (.int .i64 k) ∧ w'.cell? ⟨w.heap.size + 1, 0, none⟩ = some (.int .i64 p) ∧ w'.cell? ⟨w.heap.size + 1, 1, none⟩ = some (.int .i64 q) ∧ w'.cell? ⟨w.heap.size + 1, 2, none⟩ = some (.int .i64 r) ∧ w'.cell? ⟨w.heap.size + 1, 3, none⟩ = some (.int .i64 s) ∧ w'.cell? ⟨w.heap.size + 1, 4, none⟩ = some (.int .i64 l) := by
    intro w' hb
    have A1 := A0.keep hb (by omega)
    have B1 := B0.keep hb (by omega)
    obtain ⟨⟨_, _, _, _, _⟩, _⟩ := A1
    obtain ⟨⟨_, _, _, _, _⟩, _⟩ := B1
    refine ⟨?_, ?_, ?_, ?_, ?_, ?_, ?_, ?_, ?_, ?_⟩ <;> assumption
  have G0 := Lib.hid G0
  go_cut [9, 10] (fun v9 v10 wx => ∃ b9 b10 : Nat, v9 = .pointer (some ⟨b9, 0, none⟩) ∧ v10 = .pointer (some ⟨b10, 0, none⟩) ∧ Has4 wx b9 x0 x1 x2 x3 ∧ Has4 wx b10 y0 y1 y2 y3 ∧ b9 ≠ b10 ∧ W0.heap.size ≤ b9 ∧ W0.heap.size ≤ b10 ∧ b9 < wx.heap.size ∧ b10 < wx.heap.size ∧ Below W0.heap.size W0 wx)
  case first =>
    go_region_held3 (fun w' => w'.cell? ⟨w.heap.size, 0, none⟩ = some (.int .i64 a) ∧ w'.cell? ⟨w.heap.size, 1, none⟩ = some (.int .i64 b) ∧ w'.cell? ⟨w.heap.size, 2, none⟩ = some (.int .i64 c) ∧ w'.cell? ⟨w.heap.size, 3, none⟩ = some (.int .i64 d) ∧ w'.cell? ⟨w.heap.size, 4, none⟩ = some (.int .i64 k) ∧ w'.cell? ⟨w.heap.size + 1, 0, none⟩ = some (.int .i64 p) ∧ w'.cell? ⟨w.heap.size + 1, 1, none⟩ = some (.int .i64 q) ∧ w'.cell? ⟨w.heap.size + 1, 2, none⟩ = some (.int .i64 r) ∧ w'.cell? ⟨w.heap.size + 1, 3, none⟩ = some (.int .i64 s) ∧ w'.cell? ⟨w.heap.size + 1, 4, none⟩ = some (.int .i64 l))
      ((refine G0.out _ ?_; go_grown))
      (first | (go_at_call_of 119 a; refine (raised_any _ _ _ _ _ _ _ hx (by omega) (by omega)).mono ?_; rintro e wA ⟨rfl, hb⟩; rw [hX.out]; have HDwA : Below W0.heap.size W0 wA := Below.trans (by go_grown) (hb.mono (by first | omega | (simp; done) | (simp; omega))); have hzwA := HDwA.size; (try (refine with_keep hb (W0.heap.size) ?_ ?_ ?_; (refine ⟨⟨?_, ?_, ?_, ?_⟩, ?_, ?_, ?_, ?_⟩ <;> go_cell); (focus (first | omega | (simp; done) | (simp; omega))); rintro ⟨⟨_, _, _, _⟩, _, _, _, _⟩ _ _ _)); (try (refine with_keep hb (W0.heap.size + 1) ?_ ?_ ?_; (refine ⟨⟨?_, ?_, ?_, ?_⟩, ?_, ?_, ?_, ?_⟩ <;> go_cell); (focus (first | omega | (simp; done) | (simp; omega))); rintro ⟨⟨_, _, _, _⟩, _, _, _, _⟩ _ _ _)); clear hb) | (go_at_call_of 119 p; refine (raised_any _ _ _ _ _ _ _ hy (by omega) (by omega)).mono ?_; rintro e wB ⟨rfl, hb⟩; rw [hY.out]; have HDwB : Below W0.heap.size W0 wB := Below.trans (by go_grown) (hb.mono (by first | omega | (simp; done) | (simp; omega))); have hzwB := HDwB.size; (try (refine with_keep hb (W0.heap.size) ?_ ?_ ?_; (refine ⟨⟨?_, ?_, ?_, ?_⟩, ?_, ?_, ?_, ?_⟩ <;> go_cell); (focus (first | omega | (simp; done) | (simp; omega))); rintro ⟨⟨_, _, _, _⟩, _, _, _, _⟩ _ _ _)); (try (refine with_keep hb (W0.heap.size + 1) ?_ ?_ ?_; (refine ⟨⟨?_, ?_, ?_, ?_⟩, ?_, ?_, ?_, ?_⟩ <;> go_cell); (focus (first | omega | (simp; done) | (simp; omega))); rintro ⟨⟨_, _, _, _⟩, _, _, _, _⟩ _ _ _)); (try (refine with_keep hb (wA.heap.size) ?_ ?_ ?_; (refine ⟨⟨?_, ?_, ?_, ?_⟩, ?_, ?_, ?_, ?_⟩ <;> go_cell); (focus (first | omega | (simp; done) | (simp; omega))); rintro ⟨⟨_, _, _, _⟩, _, _, _, _⟩ _ _ _)); (try (refine with_keep hb (wA.heap.size + 1) ?_ ?_ ?_; (refine ⟨⟨?_, ?_, ?_, ?_⟩, ?_, ?_, ?_, ?_⟩ <;> go_cell); (focus (first | omega | (simp; done) | (simp; omega))); rintro ⟨⟨_, _, _, _⟩, _, _, _, _⟩ _ _ _)); clear hb))
    all_goals
      go_wp2_with fail
      go_meet
      refine ⟨_, _, rfl, rfl, ?_, ?_, ?_, ?_, ?_, ?_, ?_, ?_⟩
      · refine ⟨⟨?_, ?_, ?_, ?_⟩, ?_, ?_, ?_, ?_⟩ <;> go_cell
      · refine ⟨⟨?_, ?_, ?_, ?_⟩, ?_, ?_, ?_, ?_⟩ <;> go_cell
      · first | omega | (simp; done) | (simp; omega)
      · first | omega | (simp; done) | (simp; omega)
      · first | omega | (simp; done) | (simp; omega)
      · first | omega | (simp; done) | (simp; omega)
      · first | omega | (simp; done) | (simp; omega)
      · go_grown
  case rest =>
    obtain ⟨b9, b10, rfl, rfl, A3, E3, hne, l9, l10, m9, m10, hbc⟩ := hcut
    have C3 := C0.keep hbc (by omega)
    have D3 : Below w.heap.size w wc := D0.trans (hbc.mono (by omega))
    have n1 : ¬ b9 = b10 := hne
    have n2 : ¬ b10 = b9 := fun h => hne h.symm
    have n3 : ¬ b9 = w.heap.size + 1 + 1 := by omega
    have n4 : ¬ w.heap.size + 1 + 1 = b9 := by omega
    have n5 : w.heap.size ≤ b9 := by omega
    clear hbc C0 D0 A0 B0 G0 l9 l10
    obtain ⟨⟨c0, c1, c2, c3⟩, f0, f1, f2, f3⟩ := A3
    obtain ⟨⟨g0, g1, g2, g3⟩, e0, e1, e2, e3⟩ := C3
    obtain ⟨⟨o0, o1, o2, o3⟩, _⟩ := E3
    go_wp2_with fail
    refine wp_loop_rounds 5 ?_
    rw [rounds_succ]; go_wp2_with fail
    go_region
    go_wp2_with fail
    rw [rounds_succ]; go_wp2_with fail
    go_region
    go_wp2_with fail
    rw [rounds_succ]; go_wp2_with fail
    go_region
    go_wp2_with fail
    rw [rounds_succ]; go_wp2_with fail
    go_region
    go_wp2_with fail
    have Z4 : Has4 (((((wc.setCell ⟨b9, 0, none⟩ (.int .i64 (x0 + y0))).setCell ⟨b9, 1, none⟩ (.int .i64 (x1 + y1))).setCell ⟨b9, 2, none⟩ (.int .i64 (x2 + y2))).setCell ⟨b9, 3, none⟩ (.int .i64 (x3 + y3))).drew.drew.drew.drew) b9 (x0 + y0) (x1 + y1) (x2 + y2) (x3 + y3) := by refine ⟨⟨?_, ?_, ?_, ?_⟩, ?_, ?_, ?_, ?_⟩ <;> go_cell
    have Y5 : Has4 (((((wc.setCell ⟨b9, 0, none⟩ (.int .i64 (x0 + y0))).setCell ⟨b9, 1, none⟩ (.int .i64 (x1 + y1))).setCell ⟨b9, 2, none⟩ (.int .i64 (x2 + y2))).setCell ⟨b9, 3, none⟩ (.int .i64 (x3 + y3))).drew.drew.drew.drew) (w.heap.size + 1 + 1) 0 0 0 0 := by refine ⟨⟨?_, ?_, ?_, ?_⟩, ?_, ?_, ?_, ?_⟩ <;> go_cell
    have D4 : Below w.heap.size w (((((wc.setCell ⟨b9, 0, none⟩ (.int .i64 (x0 + y0))).setCell ⟨b9, 1, none⟩ (.int .i64 (x1 + y1))).setCell ⟨b9, 2, none⟩ (.int .i64 (x2 + y2))).setCell ⟨b9, 3, none⟩ (.int .i64 (x3 + y3))).drew.drew.drew.drew) := by go_grown
    clear D3 c0 c1 c2 c3 f0 f1 f2 f3 g0 g1 g2 g3 e0 e1 e2 e3 o0 o1 o2 o3
    generalize ((((wc.setCell ⟨b9, 0, none⟩ (.int .i64 (x0 + y0))).setCell ⟨b9, 1, none⟩ (.int .i64 (x1 + y1))).setCell ⟨b9, 2, none⟩ (.int .i64 (x2 + y2))).setCell ⟨b9, 3, none⟩ (.int .i64 (x3 + y3))).drew.drew.drew.drew = w4 at *
    obtain ⟨⟨c0, c1, c2, c3⟩, f0, f1, f2, f3⟩ := Z4
    obtain ⟨⟨g0, g1, g2, g3⟩, e0, e1, e2, e3⟩ := Y5
    rw [rounds_succ]; go_wp2_with fail
    refine bodyPost_ret (v := .tuple #[.agg #[.int .i64 (x0 + y0), .int .i64 (x1 + y1), .int .i64 (x2 + y2), .int .i64 (x3 + y3)], .int .i64 l]) (by simp [results, Try.results107, go_sem, *]) rfl ⟨?_, by go_grown⟩
    unfold comb Ret4
    simp only [Int.toNat_natCast]
    rw [show max k l = l from by omega, hX.out, hY.out]
    simp only [add, smul]
    simp only [Int.one_mul]

set_option maxHeartbeats 4000000 in
theorem rCombined_add_gt (a b c d p q r s : Int) (k l : Nat) (w : World) (hx : big 1000000000 ⟨a, b, c, d⟩) (hy : big 1000000000 ⟨p, q, r, s⟩) (hk : k ≤ 40) (hl : l ≤ 40) (ho : l ≤ k) :
    Calls Try.prog 107 #[.agg #[.int .i64 a, .int .i64 b, .int .i64 c, .int .i64 d, .int .i64 k], .agg #[.int .i64 p, .int .i64 q, .int .i64 r, .int .i64 s, .int .i64 l], .int .i64 1] w fun e w' => e = Ret4 (comb ⟨⟨a, b, c, d⟩, k⟩ ⟨⟨p, q, r, s⟩, l⟩ 1) ∧ Below w.heap.size w w' := by
  have hoI : ¬ (k : Int) < (l : Int) := by omega
  have bx := trn_bd (n := k - k) hx (by omega)
  obtain ⟨x0, x1, x2, x3, hX⟩ : ∃ x0 x1 x2 x3, Hid (trn (k - k) ⟨a, b, c, d⟩ = ⟨x0, x1, x2, x3⟩) := ⟨_, _, _, _, rfl⟩
  rw [hX.out] at bx
  have by_ := trn_bd (n := k - l) hy (by omega)
  obtain ⟨y0, y1, y2, y3, hY⟩ : ∃ x0 x1 x2 x3, Hid (trn (k - l) ⟨p, q, r, s⟩ = ⟨x0, x1, x2, x3⟩) := ⟨_, _, _, _, rfl⟩
  rw [hY.out] at by_
  obtain ⟨⟨i0, i1⟩, ⟨i2, i3⟩, ⟨i4, i5⟩, ⟨i6, i7⟩⟩ := bx
  simp only at i0 i1 i2 i3 i4 i5 i6 i7
  obtain ⟨⟨j0, j1⟩, ⟨j2, j3⟩, ⟨j4, j5⟩, ⟨j6, j7⟩⟩ := by_
  simp only at j0 j1 j2 j3 j4 j5 j6 j7
  go_enter Try.func107, Try.ntmps107
  go_upto_region 2 with fail
  have A0 : Has5 (((w.alloc (.cells #[.int .i64 a, .int .i64 b, .int .i64 c, .int .i64 d, .int .i64 k] 63)).alloc (.cells #[.int .i64 p, .int .i64 q, .int .i64 r, .int .i64 s, .int .i64 l] 63)).alloc (.cells #[.int .i64 0, .int .i64 0, .int .i64 0, .int .i64 0] 128)) w.heap.size a b c d k := by refine ⟨⟨?_, ?_, ?_, ?_, ?_⟩, ?_, ?_, ?_, ?_, ?_⟩ <;> go_cell
  have B0 : Has5 (((w.alloc (.cells #[.int .i64 a, .int .i64 b, .int .i64 c, .int .i64 d, .int .i64 k] 63)).alloc (.cells #[.int .i64 p, .int .i64 q, .int .i64 r, .int .i64 s, .int .i64 l] 63)).alloc (.cells #[.int .i64 0, .int .i64 0, .int .i64 0, .int .i64 0] 128)) (w.heap.size + 1) p q r s l := by refine ⟨⟨?_, ?_, ?_, ?_, ?_⟩, ?_, ?_, ?_, ?_, ?_⟩ <;> go_cell
  have C0 : Has4 (((w.alloc (.cells #[.int .i64 a, .int .i64 b, .int .i64 c, .int .i64 d, .int .i64 k] 63)).alloc (.cells #[.int .i64 p, .int .i64 q, .int .i64 r, .int .i64 s, .int .i64 l] 63)).alloc (.cells #[.int .i64 0, .int .i64 0, .int .i64 0, .int .i64 0] 128)) (w.heap.size + 1 + 1) 0 0 0 0 := by refine ⟨⟨?_, ?_, ?_, ?_⟩, ?_, ?_, ?_, ?_⟩ <;> go_cell
  have D0 : Below w.heap.size w (((w.alloc (.cells #[.int .i64 a, .int .i64 b, .int .i64 c, .int .i64 d, .int .i64 k] 63)).alloc (.cells #[.int .i64 p, .int .i64 q, .int .i64 r, .int .i64 s, .int .i64 l] 63)).alloc (.cells #[.int .i64 0, .int .i64 0, .int .i64 0, .int .i64 0] 128)) := by go_grown
  have s0 : w.heap.size + 3 ≤ (((w.alloc (.cells #[.int .i64 a, .int .i64 b, .int .i64 c, .int .i64 d, .int .i64 k] 63)).alloc (.cells #[.int .i64 p, .int .i64 q, .int .i64 r, .int .i64 s, .int .i64 l] 63)).alloc (.cells #[.int .i64 0, .int .i64 0, .int .i64 0, .int .i64 0] 128)).heap.size := by simp
  generalize (((w.alloc (.cells #[.int .i64 a, .int .i64 b, .int .i64 c, .int .i64 d, .int .i64 k] 63)).alloc (.cells #[.int .i64 p, .int .i64 q, .int .i64 r, .int .i64 s, .int .i64 l] 63)).alloc (.cells #[.int .i64 0, .int .i64 0, .int .i64 0, .int .i64 0] 128)) = W0 at *
  have G0 : ∀ w', Below W0.heap.size W0 w' → w'.cell? ⟨w.heap.size, 0, none⟩ = some (.int .i64 a) ∧ w'.cell? ⟨w.heap.size, 1, none⟩ = some (.int .i64 b) ∧ w'.cell? ⟨w.heap.size, 2, none⟩ = some (.int .i64 c) ∧ w'.cell? ⟨w.heap.size, 3, none⟩ = some (.int .i64 d) ∧ w'.cell? ⟨w.heap.size, 4, none⟩ = some (.int .i64 k) ∧ w'.cell? ⟨w.heap.size + 1, 0, none⟩ = some (.int .i64 p) ∧ w'.cell? ⟨w.heap.size + 1, 1, none⟩ = some (.int .i64 q) ∧ w'.cell? ⟨w.heap.size + 1, 2, none⟩ = some (.int .i64 r) ∧ w'.cell? ⟨w.heap.size + 1, 3, none⟩ = some (.int .i64 s) ∧ w'.cell? ⟨w.heap.size + 1, 4, none⟩ = some (.int .i64 l) := by
    intro w' hb
    have A1 := A0.keep hb (by omega)
    have B1 := B0.keep hb (by omega)
    obtain ⟨⟨_, _, _, _, _⟩, _⟩ := A1
    obtain ⟨⟨_, _, _, _, _⟩, _⟩ := B1
    refine ⟨?_, ?_, ?_, ?_, ?_, ?_, ?_, ?_, ?_, ?_⟩ <;> assumption
  have G0 := Lib.hid G0
  go_cut [9, 10] (fun v9 v10 wx => ∃ b9 b10 : Nat, v9 = .pointer (some ⟨b9, 0, none⟩) ∧ v10 = .pointer (some ⟨b10, 0, none⟩) ∧ Has4 wx b9 x0 x1 x2 x3 ∧ Has4 wx b10 y0 y1 y2 y3 ∧ b9 ≠ b10 ∧ W0.heap.size ≤ b9 ∧ W0.heap.size ≤ b10 ∧ b9 < wx.heap.size ∧ b10 < wx.heap.size ∧ Below W0.heap.size W0 wx)
  case first =>
    go_region_held3 (fun w' => w'.cell? ⟨w.heap.size, 0, none⟩ = some (.int .i64 a) ∧ w'.cell? ⟨w.heap.size, 1, none⟩ = some (.int .i64 b) ∧ w'.cell? ⟨w.heap.size, 2, none⟩ = some (.int .i64 c) ∧ w'.cell? ⟨w.heap.size, 3, none⟩ = some (.int .i64 d) ∧ w'.cell? ⟨w.heap.size, 4, none⟩ = some (.int .i64 k) ∧ w'.cell? ⟨w.heap.size + 1, 0, none⟩ = some (.int .i64 p) ∧ w'.cell? ⟨w.heap.size + 1, 1, none⟩ = some (.int .i64 q) ∧ w'.cell? ⟨w.heap.size + 1, 2, none⟩ = some (.int .i64 r) ∧ w'.cell? ⟨w.heap.size + 1, 3, none⟩ = some (.int .i64 s) ∧ w'.cell? ⟨w.heap.size + 1, 4, none⟩ = some (.int .i64 l))
      ((refine G0.out _ ?_; go_grown))
      (first | (go_at_call_of 119 a; refine (raised_any _ _ _ _ _ _ _ hx (by omega) (by omega)).mono ?_; rintro e wA ⟨rfl, hb⟩; rw [hX.out]; have HDwA : Below W0.heap.size W0 wA := Below.trans (by go_grown) (hb.mono (by first | omega | (simp; done) | (simp; omega))); have hzwA := HDwA.size; (try (refine with_keep hb (W0.heap.size) ?_ ?_ ?_; (refine ⟨⟨?_, ?_, ?_, ?_⟩, ?_, ?_, ?_, ?_⟩ <;> go_cell); (focus (first | omega | (simp; done) | (simp; omega))); rintro ⟨⟨_, _, _, _⟩, _, _, _, _⟩ _ _ _)); (try (refine with_keep hb (W0.heap.size + 1) ?_ ?_ ?_; (refine ⟨⟨?_, ?_, ?_, ?_⟩, ?_, ?_, ?_, ?_⟩ <;> go_cell); (focus (first | omega | (simp; done) | (simp; omega))); rintro ⟨⟨_, _, _, _⟩, _, _, _, _⟩ _ _ _)); clear hb) | (go_at_call_of 119 p; refine (raised_any _ _ _ _ _ _ _ hy (by omega) (by omega)).mono ?_; rintro e wB ⟨rfl, hb⟩; rw [hY.out]; have HDwB : Below W0.heap.size W0 wB := Below.trans (by go_grown) (hb.mono (by first | omega | (simp; done) | (simp; omega))); have hzwB := HDwB.size; (try (refine with_keep hb (W0.heap.size) ?_ ?_ ?_; (refine ⟨⟨?_, ?_, ?_, ?_⟩, ?_, ?_, ?_, ?_⟩ <;> go_cell); (focus (first | omega | (simp; done) | (simp; omega))); rintro ⟨⟨_, _, _, _⟩, _, _, _, _⟩ _ _ _)); (try (refine with_keep hb (W0.heap.size + 1) ?_ ?_ ?_; (refine ⟨⟨?_, ?_, ?_, ?_⟩, ?_, ?_, ?_, ?_⟩ <;> go_cell); (focus (first | omega | (simp; done) | (simp; omega))); rintro ⟨⟨_, _, _, _⟩, _, _, _, _⟩ _ _ _)); (try (refine with_keep hb (wA.heap.size) ?_ ?_ ?_; (refine ⟨⟨?_, ?_, ?_, ?_⟩, ?_, ?_, ?_, ?_⟩ <;> go_cell); (focus (first | omega | (simp; done) | (simp; omega))); rintro ⟨⟨_, _, _, _⟩, _, _, _, _⟩ _ _ _)); (try (refine with_keep hb (wA.heap.size + 1) ?_ ?_ ?_; (refine ⟨⟨?_, ?_, ?_, ?_⟩, ?_, ?_, ?_, ?_⟩ <;> go_cell); (focus (first | omega | (simp; done) | (simp; omega))); rintro ⟨⟨_, _, _, _⟩, _, _, _, _⟩ _ _ _)); clear hb))
    all_goals
      go_wp2_with fail
      go_meet
      refine ⟨_, _, rfl, rfl, ?_, ?_, ?_, ?_, ?_, ?_, ?_, ?_⟩
      · refine ⟨⟨?_, ?_, ?_, ?_⟩, ?_, ?_, ?_, ?_⟩ <;> go_cell
      · refine ⟨⟨?_, ?_, ?_, ?_⟩, ?_, ?_, ?_, ?_⟩ <;> go_cell
      · first | omega | (simp; done) | (simp; omega)
      · first | omega | (simp; done) | (simp; omega)
      · first | omega | (simp; done) | (simp; omega)
      · first | omega | (simp; done) | (simp; omega)
      · first | omega | (simp; done) | (simp; omega)
      · go_grown
  case rest =>
    obtain ⟨b9, b10, rfl, rfl, A3, E3, hne, l9, l10, m9, m10, hbc⟩ := hcut
    have C3 := C0.keep hbc (by omega)
    have D3 : Below w.heap.size w wc := D0.trans (hbc.mono (by omega))
    have n1 : ¬ b9 = b10 := hne
    have n2 : ¬ b10 = b9 := fun h => hne h.symm
    have n3 : ¬ b9 = w.heap.size + 1 + 1 := by omega
    have n4 : ¬ w.heap.size + 1 + 1 = b9 := by omega
    have n5 : w.heap.size ≤ b9 := by omega
    clear hbc C0 D0 A0 B0 G0 l9 l10
    obtain ⟨⟨c0, c1, c2, c3⟩, f0, f1, f2, f3⟩ := A3
    obtain ⟨⟨g0, g1, g2, g3⟩, e0, e1, e2, e3⟩ := C3
    obtain ⟨⟨o0, o1, o2, o3⟩, _⟩ := E3
    go_wp2_with fail
    refine wp_loop_rounds 5 ?_
    rw [rounds_succ]; go_wp2_with fail
    go_region
    go_wp2_with fail
    rw [rounds_succ]; go_wp2_with fail
    go_region
    go_wp2_with fail
    rw [rounds_succ]; go_wp2_with fail
    go_region
    go_wp2_with fail
    rw [rounds_succ]; go_wp2_with fail
    go_region
    go_wp2_with fail
    have Z4 : Has4 (((((wc.setCell ⟨b9, 0, none⟩ (.int .i64 (x0 + y0))).setCell ⟨b9, 1, none⟩ (.int .i64 (x1 + y1))).setCell ⟨b9, 2, none⟩ (.int .i64 (x2 + y2))).setCell ⟨b9, 3, none⟩ (.int .i64 (x3 + y3))).drew.drew.drew.drew) b9 (x0 + y0) (x1 + y1) (x2 + y2) (x3 + y3) := by refine ⟨⟨?_, ?_, ?_, ?_⟩, ?_, ?_, ?_, ?_⟩ <;> go_cell
    have Y5 : Has4 (((((wc.setCell ⟨b9, 0, none⟩ (.int .i64 (x0 + y0))).setCell ⟨b9, 1, none⟩ (.int .i64 (x1 + y1))).setCell ⟨b9, 2, none⟩ (.int .i64 (x2 + y2))).setCell ⟨b9, 3, none⟩ (.int .i64 (x3 + y3))).drew.drew.drew.drew) (w.heap.size + 1 + 1) 0 0 0 0 := by refine ⟨⟨?_, ?_, ?_, ?_⟩, ?_, ?_, ?_, ?_⟩ <;> go_cell
    have D4 : Below w.heap.size w (((((wc.setCell ⟨b9, 0, none⟩ (.int .i64 (x0 + y0))).setCell ⟨b9, 1, none⟩ (.int .i64 (x1 + y1))).setCell ⟨b9, 2, none⟩ (.int .i64 (x2 + y2))).setCell ⟨b9, 3, none⟩ (.int .i64 (x3 + y3))).drew.drew.drew.drew) := by go_grown
    clear D3 c0 c1 c2 c3 f0 f1 f2 f3 g0 g1 g2 g3 e0 e1 e2 e3 o0 o1 o2 o3
    generalize ((((wc.setCell ⟨b9, 0, none⟩ (.int .i64 (x0 + y0))).setCell ⟨b9, 1, none⟩ (.int .i64 (x1 + y1))).setCell ⟨b9, 2, none⟩ (.int .i64 (x2 + y2))).setCell ⟨b9, 3, none⟩ (.int .i64 (x3 + y3))).drew.drew.drew.drew = w4 at *
    obtain ⟨⟨c0, c1, c2, c3⟩, f0, f1, f2, f3⟩ := Z4
    obtain ⟨⟨g0, g1, g2, g3⟩, e0, e1, e2, e3⟩ := Y5
    rw [rounds_succ]; go_wp2_with fail
    refine bodyPost_ret (v := .tuple #[.agg #[.int .i64 (x0 + y0), .int .i64 (x1 + y1), .int .i64 (x2 + y2), .int .i64 (x3 + y3)], .int .i64 k]) (by simp [results, Try.results107, go_sem, *]) rfl ⟨?_, by go_grown⟩
    unfold comb Ret4
    simp only [Int.toNat_natCast]
    rw [show max k l = k from by omega, hX.out, hY.out]
    simp only [add, smul]
    simp only [Int.one_mul]

set_option maxHeartbeats 4000000 in
theorem rCombined_sub_le (a b c d p q r s : Int) (k l : Nat) (w : World) (hx : big 1000000000 ⟨a, b, c, d⟩) (hy : big 1000000000 ⟨p, q, r, s⟩) (hk : k ≤ 40) (hl : l ≤ 40) (ho : k < l) :
    Calls Try.prog 107 #[.agg #[.int .i64 a, .int .i64 b, .int .i64 c, .int .i64 d, .int .i64 k], .agg #[.int .i64 p, .int .i64 q, .int .i64 r, .int .i64 s, .int .i64 l], .int .i64 (-1)] w fun e w' => e = Ret4 (comb ⟨⟨a, b, c, d⟩, k⟩ ⟨⟨p, q, r, s⟩, l⟩ (-1)) ∧ Below w.heap.size w w' := by
  have hoI : (k : Int) < (l : Int) := by omega
  have bx := trn_bd (n := l - k) hx (by omega)
  obtain ⟨x0, x1, x2, x3, hX⟩ : ∃ x0 x1 x2 x3, Hid (trn (l - k) ⟨a, b, c, d⟩ = ⟨x0, x1, x2, x3⟩) := ⟨_, _, _, _, rfl⟩
  rw [hX.out] at bx
  have by_ := trn_bd (n := l - l) hy (by omega)
  obtain ⟨y0, y1, y2, y3, hY⟩ : ∃ x0 x1 x2 x3, Hid (trn (l - l) ⟨p, q, r, s⟩ = ⟨x0, x1, x2, x3⟩) := ⟨_, _, _, _, rfl⟩
  rw [hY.out] at by_
  obtain ⟨⟨i0, i1⟩, ⟨i2, i3⟩, ⟨i4, i5⟩, ⟨i6, i7⟩⟩ := bx
  simp only at i0 i1 i2 i3 i4 i5 i6 i7
  obtain ⟨⟨j0, j1⟩, ⟨j2, j3⟩, ⟨j4, j5⟩, ⟨j6, j7⟩⟩ := by_
  simp only at j0 j1 j2 j3 j4 j5 j6 j7
  go_enter Try.func107, Try.ntmps107
  go_upto_region 2 with fail
  have A0 : Has5 (((w.alloc (.cells #[.int .i64 a, .int .i64 b, .int .i64 c, .int .i64 d, .int .i64 k] 63)).alloc (.cells #[.int .i64 p, .int .i64 q, .int .i64 r, .int .i64 s, .int .i64 l] 63)).alloc (.cells #[.int .i64 0, .int .i64 0, .int .i64 0, .int .i64 0] 128)) w.heap.size a b c d k := by refine ⟨⟨?_, ?_, ?_, ?_, ?_⟩, ?_, ?_, ?_, ?_, ?_⟩ <;> go_cell
  have B0 : Has5 (((w.alloc (.cells #[.int .i64 a, .int .i64 b, .int .i64 c, .int .i64 d, .int .i64 k] 63)).alloc (.cells #[.int .i64 p, .int .i64 q, .int .i64 r, .int .i64 s, .int .i64 l] 63)).alloc (.cells #[.int .i64 0, .int .i64 0, .int .i64 0, .int .i64 0] 128)) (w.heap.size + 1) p q r s l := by refine ⟨⟨?_, ?_, ?_, ?_, ?_⟩, ?_, ?_, ?_, ?_, ?_⟩ <;> go_cell
  have C0 : Has4 (((w.alloc (.cells #[.int .i64 a, .int .i64 b, .int .i64 c, .int .i64 d, .int .i64 k] 63)).alloc (.cells #[.int .i64 p, .int .i64 q, .int .i64 r, .int .i64 s, .int .i64 l] 63)).alloc (.cells #[.int .i64 0, .int .i64 0, .int .i64 0, .int .i64 0] 128)) (w.heap.size + 1 + 1) 0 0 0 0 := by refine ⟨⟨?_, ?_, ?_, ?_⟩, ?_, ?_, ?_, ?_⟩ <;> go_cell
  have D0 : Below w.heap.size w (((w.alloc (.cells #[.int .i64 a, .int .i64 b, .int .i64 c, .int .i64 d, .int .i64 k] 63)).alloc (.cells #[.int .i64 p, .int .i64 q, .int .i64 r, .int .i64 s, .int .i64 l] 63)).alloc (.cells #[.int .i64 0, .int .i64 0, .int .i64 0, .int .i64 0] 128)) := by go_grown
  have s0 : w.heap.size + 3 ≤ (((w.alloc (.cells #[.int .i64 a, .int .i64 b, .int .i64 c, .int .i64 d, .int .i64 k] 63)).alloc (.cells #[.int .i64 p, .int .i64 q, .int .i64 r, .int .i64 s, .int .i64 l] 63)).alloc (.cells #[.int .i64 0, .int .i64 0, .int .i64 0, .int .i64 0] 128)).heap.size := by simp
  generalize (((w.alloc (.cells #[.int .i64 a, .int .i64 b, .int .i64 c, .int .i64 d, .int .i64 k] 63)).alloc (.cells #[.int .i64 p, .int .i64 q, .int .i64 r, .int .i64 s, .int .i64 l] 63)).alloc (.cells #[.int .i64 0, .int .i64 0, .int .i64 0, .int .i64 0] 128)) = W0 at *
  have G0 : ∀ w', Below W0.heap.size W0 w' → w'.cell? ⟨w.heap.size, 0, none⟩ = some (.int .i64 a) ∧ w'.cell? ⟨w.heap.size, 1, none⟩ = some (.int .i64 b) ∧ w'.cell? ⟨w.heap.size, 2, none⟩ = some (.int .i64 c) ∧ w'.cell? ⟨w.heap.size, 3, none⟩ = some (.int .i64 d) ∧ w'.cell? ⟨w.heap.size, 4, none⟩ = some (.int .i64 k) ∧ w'.cell? ⟨w.heap.size + 1, 0, none⟩ = some (.int .i64 p) ∧ w'.cell? ⟨w.heap.size + 1, 1, none⟩ = some (.int .i64 q) ∧ w'.cell? ⟨w.heap.size + 1, 2, none⟩ = some (.int .i64 r) ∧ w'.cell? ⟨w.heap.size + 1, 3, none⟩ = some (.int .i64 s) ∧ w'.cell? ⟨w.heap.size + 1, 4, none⟩ = some (.int .i64 l) := by
    intro w' hb
    have A1 := A0.keep hb (by omega)
    have B1 := B0.keep hb (by omega)
    obtain ⟨⟨_, _, _, _, _⟩, _⟩ := A1
    obtain ⟨⟨_, _, _, _, _⟩, _⟩ := B1
    refine ⟨?_, ?_, ?_, ?_, ?_, ?_, ?_, ?_, ?_, ?_⟩ <;> assumption
  have G0 := Lib.hid G0
  go_cut [9, 10] (fun v9 v10 wx => ∃ b9 b10 : Nat, v9 = .pointer (some ⟨b9, 0, none⟩) ∧ v10 = .pointer (some ⟨b10, 0, none⟩) ∧ Has4 wx b9 x0 x1 x2 x3 ∧ Has4 wx b10 y0 y1 y2 y3 ∧ b9 ≠ b10 ∧ W0.heap.size ≤ b9 ∧ W0.heap.size ≤ b10 ∧ b9 < wx.heap.size ∧ b10 < wx.heap.size ∧ Below W0.heap.size W0 wx)
  case first =>
    go_region_held3 (fun w' => w'.cell? ⟨w.heap.size, 0, none⟩ = some (.int .i64 a) ∧ w'.cell? ⟨w.heap.size, 1, none⟩ = some (.int .i64 b) ∧ w'.cell? ⟨w.heap.size, 2, none⟩ = some (.int .i64 c) ∧ w'.cell? ⟨w.heap.size, 3, none⟩ = some (.int .i64 d) ∧ w'.cell? ⟨w.heap.size, 4, none⟩ = some (.int .i64 k) ∧ w'.cell? ⟨w.heap.size + 1, 0, none⟩ = some (.int .i64 p) ∧ w'.cell? ⟨w.heap.size + 1, 1, none⟩ = some (.int .i64 q) ∧ w'.cell? ⟨w.heap.size + 1, 2, none⟩ = some (.int .i64 r) ∧ w'.cell? ⟨w.heap.size + 1, 3, none⟩ = some (.int .i64 s) ∧ w'.cell? ⟨w.heap.size + 1, 4, none⟩ = some (.int .i64 l))
      ((refine G0.out _ ?_; go_grown))
      (first | (go_at_call_of 119 a; refine (raised_any _ _ _ _ _ _ _ hx (by omega) (by omega)).mono ?_; rintro e wA ⟨rfl, hb⟩; rw [hX.out]; have HDwA : Below W0.heap.size W0 wA := Below.trans (by go_grown) (hb.mono (by first | omega | (simp; done) | (simp; omega))); have hzwA := HDwA.size; (try (refine with_keep hb (W0.heap.size) ?_ ?_ ?_; (refine ⟨⟨?_, ?_, ?_, ?_⟩, ?_, ?_, ?_, ?_⟩ <;> go_cell); (focus (first | omega | (simp; done) | (simp; omega))); rintro ⟨⟨_, _, _, _⟩, _, _, _, _⟩ _ _ _)); (try (refine with_keep hb (W0.heap.size + 1) ?_ ?_ ?_; (refine ⟨⟨?_, ?_, ?_, ?_⟩, ?_, ?_, ?_, ?_⟩ <;> go_cell); (focus (first | omega | (simp; done) | (simp; omega))); rintro ⟨⟨_, _, _, _⟩, _, _, _, _⟩ _ _ _)); clear hb) | (go_at_call_of 119 p; refine (raised_any _ _ _ _ _ _ _ hy (by omega) (by omega)).mono ?_; rintro e wB ⟨rfl, hb⟩; rw [hY.out]; have HDwB : Below W0.heap.size W0 wB := Below.trans (by go_grown) (hb.mono (by first | omega | (simp; done) | (simp; omega))); have hzwB := HDwB.size; (try (refine with_keep hb (W0.heap.size) ?_ ?_ ?_; (refine ⟨⟨?_, ?_, ?_, ?_⟩, ?_, ?_, ?_, ?_⟩ <;> go_cell); (focus (first | omega | (simp; done) | (simp; omega))); rintro ⟨⟨_, _, _, _⟩, _, _, _, _⟩ _ _ _)); (try (refine with_keep hb (W0.heap.size + 1) ?_ ?_ ?_; (refine ⟨⟨?_, ?_, ?_, ?_⟩, ?_, ?_, ?_, ?_⟩ <;> go_cell); (focus (first | omega | (simp; done) | (simp; omega))); rintro ⟨⟨_, _, _, _⟩, _, _, _, _⟩ _ _ _)); (try (refine with_keep hb (wA.heap.size) ?_ ?_ ?_; (refine ⟨⟨?_, ?_, ?_, ?_⟩, ?_, ?_, ?_, ?_⟩ <;> go_cell); (focus (first | omega | (simp; done) | (simp; omega))); rintro ⟨⟨_, _, _, _⟩, _, _, _, _⟩ _ _ _)); (try (refine with_keep hb (wA.heap.size + 1) ?_ ?_ ?_; (refine ⟨⟨?_, ?_, ?_, ?_⟩, ?_, ?_, ?_, ?_⟩ <;> go_cell); (focus (first | omega | (simp; done) | (simp; omega))); rintro ⟨⟨_, _, _, _⟩, _, _, _, _⟩ _ _ _)); clear hb))
    all_goals
      go_wp2_with fail
      go_meet
      refine ⟨_, _, rfl, rfl, ?_, ?_, ?_, ?_, ?_, ?_, ?_, ?_⟩
      · refine ⟨⟨?_, ?_, ?_, ?_⟩, ?_, ?_, ?_, ?_⟩ <;> go_cell
      · refine ⟨⟨?_, ?_, ?_, ?_⟩, ?_, ?_, ?_, ?_⟩ <;> go_cell
      · first | omega | (simp; done) | (simp; omega)
      · first | omega | (simp; done) | (simp; omega)
      · first | omega | (simp; done) | (simp; omega)
      · first | omega | (simp; done) | (simp; omega)
      · first | omega | (simp; done) | (simp; omega)
      · go_grown
  case rest =>
    obtain ⟨b9, b10, rfl, rfl, A3, E3, hne, l9, l10, m9, m10, hbc⟩ := hcut
    have C3 := C0.keep hbc (by omega)
    have D3 : Below w.heap.size w wc := D0.trans (hbc.mono (by omega))
    have n1 : ¬ b9 = b10 := hne
    have n2 : ¬ b10 = b9 := fun h => hne h.symm
    have n3 : ¬ b9 = w.heap.size + 1 + 1 := by omega
    have n4 : ¬ w.heap.size + 1 + 1 = b9 := by omega
    have n5 : w.heap.size ≤ b9 := by omega
    clear hbc C0 D0 A0 B0 G0 l9 l10
    obtain ⟨⟨c0, c1, c2, c3⟩, f0, f1, f2, f3⟩ := A3
    obtain ⟨⟨g0, g1, g2, g3⟩, e0, e1, e2, e3⟩ := C3
    obtain ⟨⟨o0, o1, o2, o3⟩, _⟩ := E3
    go_wp2_with fail
    refine wp_loop_rounds 5 ?_
    rw [rounds_succ]; go_wp2_with fail
    go_region
    go_wp2_with fail
    rw [rounds_succ]; go_wp2_with fail
    go_region
    go_wp2_with fail
    rw [rounds_succ]; go_wp2_with fail
    go_region
    go_wp2_with fail
    rw [rounds_succ]; go_wp2_with fail
    go_region
    go_wp2_with fail
    have Z4 : Has4 (((((wc.setCell ⟨b9, 0, none⟩ (.int .i64 (x0 + -y0))).setCell ⟨b9, 1, none⟩ (.int .i64 (x1 + -y1))).setCell ⟨b9, 2, none⟩ (.int .i64 (x2 + -y2))).setCell ⟨b9, 3, none⟩ (.int .i64 (x3 + -y3))).drew.drew.drew.drew) b9 (x0 + -y0) (x1 + -y1) (x2 + -y2) (x3 + -y3) := by refine ⟨⟨?_, ?_, ?_, ?_⟩, ?_, ?_, ?_, ?_⟩ <;> go_cell
    have Y5 : Has4 (((((wc.setCell ⟨b9, 0, none⟩ (.int .i64 (x0 + -y0))).setCell ⟨b9, 1, none⟩ (.int .i64 (x1 + -y1))).setCell ⟨b9, 2, none⟩ (.int .i64 (x2 + -y2))).setCell ⟨b9, 3, none⟩ (.int .i64 (x3 + -y3))).drew.drew.drew.drew) (w.heap.size + 1 + 1) 0 0 0 0 := by refine ⟨⟨?_, ?_, ?_, ?_⟩, ?_, ?_, ?_, ?_⟩ <;> go_cell
    have D4 : Below w.heap.size w (((((wc.setCell ⟨b9, 0, none⟩ (.int .i64 (x0 + -y0))).setCell ⟨b9, 1, none⟩ (.int .i64 (x1 + -y1))).setCell ⟨b9, 2, none⟩ (.int .i64 (x2 + -y2))).setCell ⟨b9, 3, none⟩ (.int .i64 (x3 + -y3))).drew.drew.drew.drew) := by go_grown
    clear D3 c0 c1 c2 c3 f0 f1 f2 f3 g0 g1 g2 g3 e0 e1 e2 e3 o0 o1 o2 o3
    generalize ((((wc.setCell ⟨b9, 0, none⟩ (.int .i64 (x0 + -y0))).setCell ⟨b9, 1, none⟩ (.int .i64 (x1 + -y1))).setCell ⟨b9, 2, none⟩ (.int .i64 (x2 + -y2))).setCell ⟨b9, 3, none⟩ (.int .i64 (x3 + -y3))).drew.drew.drew.drew = w4 at *
    obtain ⟨⟨c0, c1, c2, c3⟩, f0, f1, f2, f3⟩ := Z4
    obtain ⟨⟨g0, g1, g2, g3⟩, e0, e1, e2, e3⟩ := Y5
    rw [rounds_succ]; go_wp2_with fail
    refine bodyPost_ret (v := .tuple #[.agg #[.int .i64 (x0 + -y0), .int .i64 (x1 + -y1), .int .i64 (x2 + -y2), .int .i64 (x3 + -y3)], .int .i64 l]) (by simp [results, Try.results107, go_sem, *]) rfl ⟨?_, by go_grown⟩
    unfold comb Ret4
    simp only [Int.toNat_natCast]
    rw [show max k l = l from by omega, hX.out, hY.out]
    simp only [add, smul]
    simp only [Int.one_mul, Int.neg_mul]

set_option maxHeartbeats 4000000 in
theorem rCombined_sub_gt (a b c d p q r s : Int) (k l : Nat) (w : World) (hx : big 1000000000 ⟨a, b, c, d⟩) (hy : big 1000000000 ⟨p, q, r, s⟩) (hk : k ≤ 40) (hl : l ≤ 40) (ho : l ≤ k) :
    Calls Try.prog 107 #[.agg #[.int .i64 a, .int .i64 b, .int .i64 c, .int .i64 d, .int .i64 k], .agg #[.int .i64 p, .int .i64 q, .int .i64 r, .int .i64 s, .int .i64 l], .int .i64 (-1)] w fun e w' => e = Ret4 (comb ⟨⟨a, b, c, d⟩, k⟩ ⟨⟨p, q, r, s⟩, l⟩ (-1)) ∧ Below w.heap.size w w' := by
  have hoI : ¬ (k : Int) < (l : Int) := by omega
  have bx := trn_bd (n := k - k) hx (by omega)
  obtain ⟨x0, x1, x2, x3, hX⟩ : ∃ x0 x1 x2 x3, Hid (trn (k - k) ⟨a, b, c, d⟩ = ⟨x0, x1, x2, x3⟩) := ⟨_, _, _, _, rfl⟩
  rw [hX.out] at bx
  have by_ := trn_bd (n := k - l) hy (by omega)
  obtain ⟨y0, y1, y2, y3, hY⟩ : ∃ x0 x1 x2 x3, Hid (trn (k - l) ⟨p, q, r, s⟩ = ⟨x0, x1, x2, x3⟩) := ⟨_, _, _, _, rfl⟩
  rw [hY.out] at by_
  obtain ⟨⟨i0, i1⟩, ⟨i2, i3⟩, ⟨i4, i5⟩, ⟨i6, i7⟩⟩ := bx
  simp only at i0 i1 i2 i3 i4 i5 i6 i7
  obtain ⟨⟨j0, j1⟩, ⟨j2, j3⟩, ⟨j4, j5⟩, ⟨j6, j7⟩⟩ := by_
  simp only at j0 j1 j2 j3 j4 j5 j6 j7
  go_enter Try.func107, Try.ntmps107
  go_upto_region 2 with fail
  have A0 : Has5 (((w.alloc (.cells #[.int .i64 a, .int .i64 b, .int .i64 c, .int .i64 d, .int .i64 k] 63)).alloc (.cells #[.int .i64 p, .int .i64 q, .int .i64 r, .int .i64 s, .int .i64 l] 63)).alloc (.cells #[.int .i64 0, .int .i64 0, .int .i64 0, .int .i64 0] 128)) w.heap.size a b c d k := by refine ⟨⟨?_, ?_, ?_, ?_, ?_⟩, ?_, ?_, ?_, ?_, ?_⟩ <;> go_cell
  have B0 : Has5 (((w.alloc (.cells #[.int .i64 a, .int .i64 b, .int .i64 c, .int .i64 d, .int .i64 k] 63)).alloc (.cells #[.int .i64 p, .int .i64 q, .int .i64 r, .int .i64 s, .int .i64 l] 63)).alloc (.cells #[.int .i64 0, .int .i64 0, .int .i64 0, .int .i64 0] 128)) (w.heap.size + 1) p q r s l := by refine ⟨⟨?_, ?_, ?_, ?_, ?_⟩, ?_, ?_, ?_, ?_, ?_⟩ <;> go_cell
  have C0 : Has4 (((w.alloc (.cells #[.int .i64 a, .int .i64 b, .int .i64 c, .int .i64 d, .int .i64 k] 63)).alloc (.cells #[.int .i64 p, .int .i64 q, .int .i64 r, .int .i64 s, .int .i64 l] 63)).alloc (.cells #[.int .i64 0, .int .i64 0, .int .i64 0, .int .i64 0] 128)) (w.heap.size + 1 + 1) 0 0 0 0 := by refine ⟨⟨?_, ?_, ?_, ?_⟩, ?_, ?_, ?_, ?_⟩ <;> go_cell
  have D0 : Below w.heap.size w (((w.alloc (.cells #[.int .i64 a, .int .i64 b, .int .i64 c, .int .i64 d, .int .i64 k] 63)).alloc (.cells #[.int .i64 p, .int .i64 q, .int .i64 r, .int .i64 s, .int .i64 l] 63)).alloc (.cells #[.int .i64 0, .int .i64 0, .int .i64 0, .int .i64 0] 128)) := by go_grown
  have s0 : w.heap.size + 3 ≤ (((w.alloc (.cells #[.int .i64 a, .int .i64 b, .int .i64 c, .int .i64 d, .int .i64 k] 63)).alloc (.cells #[.int .i64 p, .int .i64 q, .int .i64 r, .int .i64 s, .int .i64 l] 63)).alloc (.cells #[.int .i64 0, .int .i64 0, .int .i64 0, .int .i64 0] 128)).heap.size := by simp
  generalize (((w.alloc (.cells #[.int .i64 a, .int .i64 b, .int .i64 c, .int .i64 d, .int .i64 k] 63)).alloc (.cells #[.int .i64 p, .int .i64 q, .int .i64 r, .int .i64 s, .int .i64 l] 63)).alloc (.cells #[.int .i64 0, .int .i64 0, .int .i64 0, .int .i64 0] 128)) = W0 at *
  have G0 : ∀ w', Below W0.heap.size W0 w' → w'.cell? ⟨w.heap.size, 0, none⟩ = some (.int .i64 a) ∧ w'.cell? ⟨w.heap.size, 1, none⟩ = some (.int .i64 b) ∧ w'.cell? ⟨w.heap.size, 2, none⟩ = some (.int .i64 c) ∧ w'.cell? ⟨w.heap.size, 3, none⟩ = some (.int .i64 d) ∧ w'.cell? ⟨w.heap.size, 4, none⟩ = some (.int .i64 k) ∧ w'.cell? ⟨w.heap.size + 1, 0, none⟩ = some (.int .i64 p) ∧ w'.cell? ⟨w.heap.size + 1, 1, none⟩ = some (.int .i64 q) ∧ w'.cell? ⟨w.heap.size + 1, 2, none⟩ = some (.int .i64 r) ∧ w'.cell? ⟨w.heap.size + 1, 3, none⟩ = some (.int .i64 s) ∧ w'.cell? ⟨w.heap.size + 1, 4, none⟩ = some (.int .i64 l) := by
    intro w' hb
    have A1 := A0.keep hb (by omega)
    have B1 := B0.keep hb (by omega)
    obtain ⟨⟨_, _, _, _, _⟩, _⟩ := A1
    obtain ⟨⟨_, _, _, _, _⟩, _⟩ := B1
    refine ⟨?_, ?_, ?_, ?_, ?_, ?_, ?_, ?_, ?_, ?_⟩ <;> assumption
  have G0 := Lib.hid G0
  go_cut [9, 10] (fun v9 v10 wx => ∃ b9 b10 : Nat, v9 = .pointer (some ⟨b9, 0, none⟩) ∧ v10 = .pointer (some ⟨b10, 0, none⟩) ∧ Has4 wx b9 x0 x1 x2 x3 ∧ Has4 wx b10 y0 y1 y2 y3 ∧ b9 ≠ b10 ∧ W0.heap.size ≤ b9 ∧ W0.heap.size ≤ b10 ∧ b9 < wx.heap.size ∧ b10 < wx.heap.size ∧ Below W0.heap.size W0 wx)
  case first =>
    go_region_held3 (fun w' => w'.cell? ⟨w.heap.size, 0, none⟩ = some (.int .i64 a) ∧ w'.cell? ⟨w.heap.size, 1, none⟩ = some (.int .i64 b) ∧ w'.cell? ⟨w.heap.size, 2, none⟩ = some (.int .i64 c) ∧ w'.cell? ⟨w.heap.size, 3, none⟩ = some (.int .i64 d) ∧ w'.cell? ⟨w.heap.size, 4, none⟩ = some (.int .i64 k) ∧ w'.cell? ⟨w.heap.size + 1, 0, none⟩ = some (.int .i64 p) ∧ w'.cell? ⟨w.heap.size + 1, 1, none⟩ = some (.int .i64 q) ∧ w'.cell? ⟨w.heap.size + 1, 2, none⟩ = some (.int .i64 r) ∧ w'.cell? ⟨w.heap.size + 1, 3, none⟩ = some (.int .i64 s) ∧ w'.cell? ⟨w.heap.size + 1, 4, none⟩ = some (.int .i64 l))
      ((refine G0.out _ ?_; go_grown))
      (first | (go_at_call_of 119 a; refine (raised_any _ _ _ _ _ _ _ hx (by omega) (by omega)).mono ?_; rintro e wA ⟨rfl, hb⟩; rw [hX.out]; have HDwA : Below W0.heap.size W0 wA := Below.trans (by go_grown) (hb.mono (by first | omega | (simp; done) | (simp; omega))); have hzwA := HDwA.size; (try (refine with_keep hb (W0.heap.size) ?_ ?_ ?_; (refine ⟨⟨?_, ?_, ?_, ?_⟩, ?_, ?_, ?_, ?_⟩ <;> go_cell); (focus (first | omega | (simp; done) | (simp; omega))); rintro ⟨⟨_, _, _, _⟩, _, _, _, _⟩ _ _ _)); (try (refine with_keep hb (W0.heap.size + 1) ?_ ?_ ?_; (refine ⟨⟨?_, ?_, ?_, ?_⟩, ?_, ?_, ?_, ?_⟩ <;> go_cell); (focus (first | omega | (simp; done) | (simp; omega))); rintro ⟨⟨_, _, _, _⟩, _, _, _, _⟩ _ _ _)); clear hb) | (go_at_call_of 119 p; refine (raised_any _ _ _ _ _ _ _ hy (by omega) (by omega)).mono ?_; rintro e wB ⟨rfl, hb⟩; rw [hY.out]; have HDwB : Below W0.heap.size W0 wB := Below.trans (by go_grown) (hb.mono (by first | omega | (simp; done) | (simp; omega))); have hzwB := HDwB.size; (try (refine with_keep hb (W0.heap.size) ?_ ?_ ?_; (refine ⟨⟨?_, ?_, ?_, ?_⟩, ?_, ?_, ?_, ?_⟩ <;> go_cell); (focus (first | omega | (simp; done) | (simp; omega))); rintro ⟨⟨_, _, _, _⟩, _, _, _, _⟩ _ _ _)); (try (refine with_keep hb (W0.heap.size + 1) ?_ ?_ ?_; (refine ⟨⟨?_, ?_, ?_, ?_⟩, ?_, ?_, ?_, ?_⟩ <;> go_cell); (focus (first | omega | (simp; done) | (simp; omega))); rintro ⟨⟨_, _, _, _⟩, _, _, _, _⟩ _ _ _)); (try (refine with_keep hb (wA.heap.size) ?_ ?_ ?_; (refine ⟨⟨?_, ?_, ?_, ?_⟩, ?_, ?_, ?_, ?_⟩ <;> go_cell); (focus (first | omega | (simp; done) | (simp; omega))); rintro ⟨⟨_, _, _, _⟩, _, _, _, _⟩ _ _ _)); (try (refine with_keep hb (wA.heap.size + 1) ?_ ?_ ?_; (refine ⟨⟨?_, ?_, ?_, ?_⟩, ?_, ?_, ?_, ?_⟩ <;> go_cell); (focus (first | omega | (simp; done) | (simp; omega))); rintro ⟨⟨_, _, _, _⟩, _, _, _, _⟩ _ _ _)); clear hb))
    all_goals
      go_wp2_with fail
      go_meet
      refine ⟨_, _, rfl, rfl, ?_, ?_, ?_, ?_, ?_, ?_, ?_, ?_⟩
      · refine ⟨⟨?_, ?_, ?_, ?_⟩, ?_, ?_, ?_, ?_⟩ <;> go_cell
      · refine ⟨⟨?_, ?_, ?_, ?_⟩, ?_, ?_, ?_, ?_⟩ <;> go_cell
      · first | omega | (simp; done) | (simp; omega)
      · first | omega | (simp; done) | (simp; omega)
      · first | omega | (simp; done) | (simp; omega)
      · first | omega | (simp; done) | (simp; omega)
      · first | omega | (simp; done) | (simp; omega)
      · go_grown
  case rest =>
    obtain ⟨b9, b10, rfl, rfl, A3, E3, hne, l9, l10, m9, m10, hbc⟩ := hcut
    have C3 := C0.keep hbc (by omega)
    have D3 : Below w.heap.size w wc := D0.trans (hbc.mono (by omega))
    have n1 : ¬ b9 = b10 := hne
    have n2 : ¬ b10 = b9 := fun h => hne h.symm
    have n3 : ¬ b9 = w.heap.size + 1 + 1 := by omega
    have n4 : ¬ w.heap.size + 1 + 1 = b9 := by omega
    have n5 : w.heap.size ≤ b9 := by omega
    clear hbc C0 D0 A0 B0 G0 l9 l10
    obtain ⟨⟨c0, c1, c2, c3⟩, f0, f1, f2, f3⟩ := A3
    obtain ⟨⟨g0, g1, g2, g3⟩, e0, e1, e2, e3⟩ := C3
    obtain ⟨⟨o0, o1, o2, o3⟩, _⟩ := E3
    go_wp2_with fail
    refine wp_loop_rounds 5 ?_
    rw [rounds_succ]; go_wp2_with fail
    go_region
    go_wp2_with fail
    rw [rounds_succ]; go_wp2_with fail
    go_region
    go_wp2_with fail
    rw [rounds_succ]; go_wp2_with fail
    go_region
    go_wp2_with fail
    rw [rounds_succ]; go_wp2_with fail
    go_region
    go_wp2_with fail
    have Z4 : Has4 (((((wc.setCell ⟨b9, 0, none⟩ (.int .i64 (x0 + -y0))).setCell ⟨b9, 1, none⟩ (.int .i64 (x1 + -y1))).setCell ⟨b9, 2, none⟩ (.int .i64 (x2 + -y2))).setCell ⟨b9, 3, none⟩ (.int .i64 (x3 + -y3))).drew.drew.drew.drew) b9 (x0 + -y0) (x1 + -y1) (x2 + -y2) (x3 + -y3) := by refine ⟨⟨?_, ?_, ?_, ?_⟩, ?_, ?_, ?_, ?_⟩ <;> go_cell
    have Y5 : Has4 (((((wc.setCell ⟨b9, 0, none⟩ (.int .i64 (x0 + -y0))).setCell ⟨b9, 1, none⟩ (.int .i64 (x1 + -y1))).setCell ⟨b9, 2, none⟩ (.int .i64 (x2 + -y2))).setCell ⟨b9, 3, none⟩ (.int .i64 (x3 + -y3))).drew.drew.drew.drew) (w.heap.size + 1 + 1) 0 0 0 0 := by refine ⟨⟨?_, ?_, ?_, ?_⟩, ?_, ?_, ?_, ?_⟩ <;> go_cell
    have D4 : Below w.heap.size w (((((wc.setCell ⟨b9, 0, none⟩ (.int .i64 (x0 + -y0))).setCell ⟨b9, 1, none⟩ (.int .i64 (x1 + -y1))).setCell ⟨b9, 2, none⟩ (.int .i64 (x2 + -y2))).setCell ⟨b9, 3, none⟩ (.int .i64 (x3 + -y3))).drew.drew.drew.drew) := by go_grown
    clear D3 c0 c1 c2 c3 f0 f1 f2 f3 g0 g1 g2 g3 e0 e1 e2 e3 o0 o1 o2 o3
    generalize ((((wc.setCell ⟨b9, 0, none⟩ (.int .i64 (x0 + -y0))).setCell ⟨b9, 1, none⟩ (.int .i64 (x1 + -y1))).setCell ⟨b9, 2, none⟩ (.int .i64 (x2 + -y2))).setCell ⟨b9, 3, none⟩ (.int .i64 (x3 + -y3))).drew.drew.drew.drew = w4 at *
    obtain ⟨⟨c0, c1, c2, c3⟩, f0, f1, f2, f3⟩ := Z4
    obtain ⟨⟨g0, g1, g2, g3⟩, e0, e1, e2, e3⟩ := Y5
    rw [rounds_succ]; go_wp2_with fail
    refine bodyPost_ret (v := .tuple #[.agg #[.int .i64 (x0 + -y0), .int .i64 (x1 + -y1), .int .i64 (x2 + -y2), .int .i64 (x3 + -y3)], .int .i64 k]) (by simp [results, Try.results107, go_sem, *]) rfl ⟨?_, by go_grown⟩
    unfold comb Ret4
    simp only [Int.toNat_natCast]
    rw [show max k l = k from by omega, hX.out, hY.out]
    simp only [add, smul]
    simp only [Int.one_mul, Int.neg_mul]

theorem rCombined_add (a b c d k p q r s l : Int) (w : World) (hx : vld ⟨⟨a, b, c, d⟩, k⟩ = true) (hy : vld ⟨⟨p, q, r, s⟩, l⟩ = true) :
    Calls Try.prog 107 #[.agg #[.int .i64 a, .int .i64 b, .int .i64 c, .int .i64 d, .int .i64 k], .agg #[.int .i64 p, .int .i64 q, .int .i64 r, .int .i64 s, .int .i64 l], .int .i64 1] w fun e w' => e = Ret4 (comb ⟨⟨a, b, c, d⟩, k⟩ ⟨⟨p, q, r, s⟩, l⟩ 1) ∧ Below w.heap.size w w' := by
  have k1 := vld_k hx
  have k2 := vld_k hy
  have v1 := vld_sm hx
  have v2 := vld_sm hy
  simp only at k1 k2 v1 v2
  obtain ⟨k, rfl⟩ := Int.eq_ofNat_of_zero_le k1.1
  obtain ⟨l, rfl⟩ := Int.eq_ofNat_of_zero_le k2.1
  by_cases h : k < l
  · exact rCombined_add_le a b c d p q r s k l w v1 v2 (by omega) (by omega) h
  · exact rCombined_add_gt a b c d p q r s k l w v1 v2 (by omega) (by omega) (by omega)

theorem rCombined_sub (a b c d k p q r s l : Int) (w : World) (hx : vld ⟨⟨a, b, c, d⟩, k⟩ = true) (hy : vld ⟨⟨p, q, r, s⟩, l⟩ = true) :
    Calls Try.prog 107 #[.agg #[.int .i64 a, .int .i64 b, .int .i64 c, .int .i64 d, .int .i64 k], .agg #[.int .i64 p, .int .i64 q, .int .i64 r, .int .i64 s, .int .i64 l], .int .i64 (-1)] w fun e w' => e = Ret4 (comb ⟨⟨a, b, c, d⟩, k⟩ ⟨⟨p, q, r, s⟩, l⟩ (-1)) ∧ Below w.heap.size w w' := by
  have k1 := vld_k hx
  have k2 := vld_k hy
  have v1 := vld_sm hx
  have v2 := vld_sm hy
  simp only at k1 k2 v1 v2
  obtain ⟨k, rfl⟩ := Int.eq_ofNat_of_zero_le k1.1
  obtain ⟨l, rfl⟩ := Int.eq_ofNat_of_zero_le k2.1
  by_cases h : k < l
  · exact rCombined_sub_le a b c d p q r s k l w v1 v2 (by omega) (by omega) h
  · exact rCombined_sub_gt a b c d p q r s k l w v1 v2 (by omega) (by omega) (by omega)
end Go.Proofs.Ytjodjfllgofkaaa
