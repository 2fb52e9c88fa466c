import Derived.Test.YtkkcnhhfdicppaaTh7
namespace Lay
theorem rt_cost {op : Int → Int → Bool} {M B p q x y i c : Int} {F : Int → Int → Int → Option Int} {n : Nat} {l : List (Int × Int)} (h : Fin7 op M B p q F) (hM : 1 ≤ M) (hB : 0 ≤ B) (hn : ¬ (x = p ∧ y = q)) (hr : rt F M B p q n x y i = some (l, c)) : (chp F B x y i).1 ≠ -1 ∧ c = (chp F B x y i).2 := by
  obtain ⟨_, _, _, hd, _⟩ := rt_go hn hr
  obtain ⟨l', h2⟩ := h.rt_some hM hB ((chp F B x y i).2.toNat) x y i hn hd (by omega)
  have := rt_uniq hr h2
  exact ⟨hd, (Prod.mk.inj this).2⟩
end Lay
namespace Go.Proofs.Ytkkcnhhfdicppaa
open Go.RowKit Lay

set_option maxRecDepth 100000 in
set_option maxHeartbeats 32000000 in
theorem rRoute_ok (W H M B fx fy tx ty : Int) (nb cb : Nat) (ao : Option Addr) (XB YB : Nat → Int) (w : World) (Wn Hn N : Nat) (F : Int → Int → Int → Option Int) (hc : XYs w ao nb XB YB) (hv : vaG W H M B nb XB YB = true) (hof : opB W H (blkN XB YB nb) fx fy = true) (hot : opB W H (blkN XB YB nb) tx ty = true) (hW : W = Wn) (hH : H = Hn) (hN : N = Hn * Wn) (hF : Costs W H (blkN XB YB nb) M B tx ty F) (nn : Nat) (l : List (Int × Int)) (c : Int) (hr : rt F M B tx ty nn fx fy (-1) = some (l, c)) (hc9 : c ≤ 9000000) :
    Calls Try.prog 29 #[.agg #[.int .i64 W, .int .i64 H, .int .i64 M, .int .i64 B, .slice ao nb cb], .agg #[.int .i64 fx, .int .i64 fy], .agg #[.int .i64 tx, .int .i64 ty]] w fun e w' => ∃ v, e = .returned (.tuple #[v, .int .i64 c, .int .i64 0]) ∧ w'.ownsRow w.heap.size 26 2 v (l.length + 1) (xyC ((fx, fy) :: l)) ∧ Below w.heap.size w w' := by
  have HRT0 := Lib.hid hr
  clear hr
  obtain ⟨i0, hi, hi0, hi1, hi2⟩ := info_parts xy_info
  have HI := Lib.hid (And.intro hi (And.intro hi0 (And.intro hi1 hi2)))
  clear hi hi0 hi1 hi2
  have HF := Lib.hid hF
  have HOT := Lib.hid hot
  have HNW := Lib.hid (And.intro hW (And.intro hH hN))
  have hN9 : N ≤ 900 := by rw [hN]; exact Nat.le_trans (Nat.mul_le_mul (show Hn ≤ 30 by have := (vaG_num hv).1; omega) (show Wn ≤ 30 by have := (vaG_num hv).1; omega)) (by decide)
  have hWn0 : 0 < Wn := by have := (vaG_num hv).1; omega
  clear hF hW hH hN hot
  have HC := Lib.hid hc
  have HV := Lib.hid hv
  have HOF := Lib.hid hof
  obtain ⟨hnum, _⟩ := vaG_num hv
  have hn63 : nb ≤ 9223372036854775807 := by omega
  clear hc hv hof
  go_enter Try.func29, Try.ntmps29
  go_wp2_with fail
  refine (rValid_any W H M B nb cb ao XB YB _ hn63 (HC.out.keep (by go_grown))).mono ?_
  rw [HV.out]
  rintro e w1 ⟨rfl, hb⟩
  obtain ⟨bG, hbG⟩ : ∃ b, b = w.heap.size := ⟨_, rfl⟩
  obtain ⟨bf, hbf⟩ : ∃ b, b = w.heap.size + 1 := ⟨_, rfl⟩
  obtain ⟨bt, hbt⟩ : ∃ b, b = w.heap.size + 1 + 1 := ⟨_, rfl⟩
  have hz1 : bt < w1.heap.size := by have h9 := hb.size; simp at h9; omega
  have KG1 : Hid (G5 w1 bG W H M B ao nb cb) := Lib.hid ((hb.block _ (by simp; omega)).trans (by rw [hbG]; exact (Below.heap_alloc _ _ _ (by simp; omega)).trans ((Below.heap_alloc _ _ _ (by simp)).trans (heap_alloc_new w _))))
  have KF1 : Hid (w1.heap[bf]? = some (.cells #[.int .i64 fx, .int .i64 fy] 26 (0, 0))) := Lib.hid ((hb.block _ (by simp; omega)).trans ((Below.heap_alloc _ _ _ (by simp; omega)).trans (by rw [hbf]; have h := heap_alloc_new (w.alloc (.cells #[.int .i64 W, .int .i64 H, .int .i64 M, .int .i64 B, .slice ao nb cb] 24)) (.cells #[.int .i64 fx, .int .i64 fy] 26); rwa [World.size_alloc] at h)))
  have KT1 : Hid (w1.heap[bt]? = some (.cells #[.int .i64 tx, .int .i64 ty] 26 (0, 0))) := Lib.hid ((hb.block _ (by simp; omega)).trans (by rw [hbt]; have h := heap_alloc_new ((w.alloc (.cells #[.int .i64 W, .int .i64 H, .int .i64 M, .int .i64 B, .slice ao nb cb] 24)).alloc (.cells #[.int .i64 fx, .int .i64 fy] 26)) (.cells #[.int .i64 tx, .int .i64 ty] 26); simpa using h))
  have HB1 : Hid (Below w.heap.size w w1) := Lib.hid (Below.trans (by go_grown) (hb.mono (by simp; omega)))
  have hGt : w.heap.size ≤ bG ∧ bG < bf ∧ bf < bt := by omega
  have HXS := Lib.hid (And.intro hbG (And.intro hbf hbt))
  clear hb hbG hbf hbt
  obtain ⟨g0, g1, g2, g3, g4⟩ := G5.c KG1.out
  obtain ⟨q0, q1⟩ : w1.cell? ⟨bf, 0, none⟩ = some (.int .i64 fx) ∧ w1.cell? ⟨bf, 1, none⟩ = some (.int .i64 fy) := ⟨cell_of_blk KF1.out rfl, cell_of_blk KF1.out rfl⟩
  obtain ⟨p0, p1⟩ : w1.cell? ⟨bt, 0, none⟩ = some (.int .i64 tx) ∧ w1.cell? ⟨bt, 1, none⟩ = some (.int .i64 ty) := ⟨cell_of_blk KT1.out rfl, cell_of_blk KT1.out rfl⟩
  go_upto_region 3 with fail
  try rw [← HXS.out.2.2]
  try rw [← HXS.out.2.1]
  try rw [← HXS.out.1]
  clear HXS
  go_wp2_with fail
  refine (rOpen_any W H M B fx fy nb cb ao XB YB _ hn63 (HC.out.keep HB1.out)).mono ?_
  rw [HOF.out]
  rintro e w2 ⟨rfl, hb⟩
  have HB2 : Hid (Below w.heap.size w w2) := Lib.hid (HB1.out.trans (hb.mono HB1.out.size))
  have KG2 : Hid (G5 w2 bG W H M B ao nb cb) := Lib.hid ((hb.block _ (by omega)).trans KG1.out)
  have KF2 : Hid (w2.heap[bf]? = some (.cells #[.int .i64 fx, .int .i64 fy] 26 (0, 0))) := Lib.hid ((hb.block _ (by omega)).trans KF1.out)
  have KT2 : Hid (w2.heap[bt]? = some (.cells #[.int .i64 tx, .int .i64 ty] 26 (0, 0))) := Lib.hid ((hb.block _ (by omega)).trans KT1.out)
  have hz2 : bt < w2.heap.size := by have := hb.size; omega
  clear hb g0 g1 g2 g3 g4 p0 p1 q0 q1 KG1 KF1 KT1 HB1 hz1
  obtain ⟨g0, g1, g2, g3, g4⟩ := G5.c KG2.out
  obtain ⟨q0, q1⟩ : w2.cell? ⟨bf, 0, none⟩ = some (.int .i64 fx) ∧ w2.cell? ⟨bf, 1, none⟩ = some (.int .i64 fy) := ⟨cell_of_blk KF2.out rfl, cell_of_blk KF2.out rfl⟩
  obtain ⟨p0, p1⟩ : w2.cell? ⟨bt, 0, none⟩ = some (.int .i64 tx) ∧ w2.cell? ⟨bt, 1, none⟩ = some (.int .i64 ty) := ⟨cell_of_blk KT2.out rfl, cell_of_blk KT2.out rfl⟩
  go_wp2_with fail
  refine (rOpen_any W H M B tx ty nb cb ao XB YB _ hn63 (HC.out.keep HB2.out)).mono ?_
  rw [HOT.out]
  rintro e w3 ⟨rfl, hb⟩
  have HB3 : Hid (Below w.heap.size w w3) := Lib.hid (HB2.out.trans (hb.mono HB2.out.size))
  have KG3 : Hid (G5 w3 bG W H M B ao nb cb) := Lib.hid ((hb.block _ (by omega)).trans KG2.out)
  have KF3 : Hid (w3.heap[bf]? = some (.cells #[.int .i64 fx, .int .i64 fy] 26 (0, 0))) := Lib.hid ((hb.block _ (by omega)).trans KF2.out)
  have KT3 : Hid (w3.heap[bt]? = some (.cells #[.int .i64 tx, .int .i64 ty] 26 (0, 0))) := Lib.hid ((hb.block _ (by omega)).trans KT2.out)
  have hz3 : bt < w3.heap.size := by have := hb.size; omega
  clear hb g0 g1 g2 g3 g4 p0 p1 q0 q1 KG2 KF2 KT2 HB2 hz2
  obtain ⟨g0, g1, g2, g3, g4⟩ := G5.c KG3.out
  obtain ⟨p0, p1⟩ : w3.cell? ⟨bt, 0, none⟩ = some (.int .i64 tx) ∧ w3.cell? ⟨bt, 1, none⟩ = some (.int .i64 ty) := ⟨cell_of_blk KT3.out rfl, cell_of_blk KT3.out rfl⟩
  go_wp2_with fail
  refine (table_any W H M B tx ty nb cb Wn Hn N ao XB YB _ (HC.out.keep HB3.out) HV.out HOT.out HNW.out.1 HNW.out.2.1 HNW.out.2.2).mono ?_
  rintro e w4 ⟨bT, T, rfl, hT, hfin, hbT, hb⟩
  have KG4 : Hid (G5 w4 bG W H M B ao nb cb) := Lib.hid ((hb.block _ (by omega)).trans KG3.out)
  have KF4 : Hid (w4.heap[bf]? = some (.cells #[.int .i64 fx, .int .i64 fy] 26 (0, 0))) := Lib.hid ((hb.block _ (by omega)).trans KF3.out)
  have KT4 : Hid (w4.heap[bt]? = some (.cells #[.int .i64 tx, .int .i64 ty] 26 (0, 0))) := Lib.hid ((hb.block _ (by omega)).trans KT3.out)
  have HT4 := Lib.hid hT
  have HB4 : Hid (Below w.heap.size w w4) := Lib.hid (HB3.out.trans (hb.mono HB3.out.size))
  have hz4 : bt < w4.heap.size ∧ bT < w4.heap.size := ⟨by have := hb.size; omega, hT.lt⟩
  have HSP : Hid (∀ i c : Nat, i < N → c < 4 → T (i * 4 + c) = tS F B tx ty (i % Wn : Nat) (i / Wn : Nat) c) := Lib.hid (fun i c hi hc => hfin.spec HNW.out.2.2 (fun x y ho => by
    have h := (opB_iff.1 ho).1
    rw [HNW.out.1, HNW.out.2.1] at h
    omega) HOT.out HF.out.1 HF.out.2 (by omega) hi hc)
  have hofn := (opB_iff.1 HOF.out).1
  obtain ⟨jf, hjf⟩ : ∃ j : Nat, fy * W + fx = j := ⟨(fy * W + fx).toNat, by have := Int.mul_nonneg hofn.2.2.1 (show 0 ≤ W by omega); omega⟩
  have hjd : jf < N ∧ ((jf % Wn : Nat) : Int) = fx ∧ ((jf / Wn : Nat) : Int) = fy := by
    obtain ⟨e2, e3, e4⟩ := HNW.out
    obtain ⟨xa, hxa⟩ : ∃ k : Nat, fx = k := ⟨fx.toNat, by omega⟩
    obtain ⟨ya, hya⟩ : ∃ k : Nat, fy = k := ⟨fy.toNat, by omega⟩
    have hj : jf = ya * Wn + xa := by have h := hjf; rw [e2, hxa, hya, ← Int.natCast_mul, ← Int.natCast_add] at h; exact (Int.ofNat.inj h).symm
    obtain ⟨d1, d2, d3⟩ := idx_dm3 (x := xa) (y := ya) e4 (by omega) (by omega)
    rw [hj, d2, d3]
    exact ⟨d1, hxa.symm, hya.symm⟩
  obtain ⟨mv, hmv⟩ : ∃ z, mn4 (T (jf * 4)) (T (jf * 4 + 1)) (T (jf * 4 + 2)) (T (jf * 4 + 3)) = z := ⟨_, rfl⟩
  have hms : mv = if fx = tx ∧ fy = ty then 0 else if (chp F B fx fy (-1)).1 = -1 then Nn else (chp F B fx fy (-1)).2 := by
    rw [← hmv]
    have h0 := HSP.out jf 0 hjd.1 (by omega)
    have h1 := HSP.out jf 1 hjd.1 (by omega)
    have h2 := HSP.out jf 2 hjd.1 (by omega)
    have h3 := HSP.out jf 3 hjd.1 (by omega)
    rw [Nat.add_zero] at h0
    rw [h0, h1, h2, h3, hjd.2.1, hjd.2.2]
    exact least_spec (by omega)
  have HMV := Lib.hid hmv
  have HMS := Lib.hid hms
  clear hb g0 g1 g2 g3 g4 p0 p1 KG3 KF3 KT3 HB3 hz3 hT hfin hmv hms
  obtain ⟨g0, g1, g2, g3, g4⟩ := G5.c KG4.out
  obtain ⟨q0, q1⟩ : w4.cell? ⟨bf, 0, none⟩ = some (.int .i64 fx) ∧ w4.cell? ⟨bf, 1, none⟩ = some (.int .i64 fy) := ⟨cell_of_blk KF4.out rfl, cell_of_blk KF4.out rfl⟩
  go_wp2_with fail
  refine (least_any W H M B fx fy nb cb N bT jf ao T _ HT4.out hjf hjd.1 hN9 (by omega) (by omega) (by omega)).mono ?_
  rw [HMV.out]
  rintro e w5 ⟨rfl, hb⟩
  have HB5 : Hid (Below w.heap.size w w5) := Lib.hid (HB4.out.trans (hb.mono HB4.out.size))
  have hmc : mv = c := by
    rw [HMS.out]
    by_cases ht : fx = tx ∧ fy = ty
    · rw [if_pos ht]
      have h := HRT0.out
      rw [ht.1, ht.2] at h
      exact (rt_at h).2.symm
    · obtain ⟨h1, h2⟩ := rt_cost HF.out.1 (by omega) (by omega) ht HRT0.out
      rw [if_neg ht, if_neg h1, h2]
  subst hmc
  have HLC := Lib.hid (rt_len hnum.2.2.2.2.1 hnum.2.2.2.2.2.2.1 _ _ _ _ _ _ HRT0.out)
  have KG5 : Hid (G5 w5 bG W H M B ao nb cb) := Lib.hid ((hb.block _ (by omega)).trans KG4.out)
  have KF5 : Hid (w5.heap[bf]? = some (.cells #[.int .i64 fx, .int .i64 fy] 26 (0, 0))) := Lib.hid ((hb.block _ (by omega)).trans KF4.out)
  have KT5 : Hid (w5.heap[bt]? = some (.cells #[.int .i64 tx, .int .i64 ty] 26 (0, 0))) := Lib.hid ((hb.block _ (by omega)).trans KT4.out)
  have HT5 := Lib.hid (HT4.out.keep (hb.block _ hz4.2))
  have hz5 : bt < w5.heap.size ∧ bT < w5.heap.size := by have := hb.size; omega
  clear hb g0 g1 g2 g3 g4 q0 q1 KG4 KF4 KT4 HT4 HB4 hz4 HMV HMS
  obtain ⟨q0, q1⟩ : w5.cell? ⟨bf, 0, none⟩ = some (.int .i64 fx) ∧ w5.cell? ⟨bf, 1, none⟩ = some (.int .i64 fy) := ⟨cell_of_blk KF5.out rfl, cell_of_blk KF5.out rfl⟩
  obtain ⟨bo, hbo⟩ : ∃ z, z = w5.heap.size := ⟨_, rfl⟩
  obtain ⟨w6, hw6⟩ : ∃ z, z = (w5.alloc (.cells #[.int .i64 fx, .int .i64 fy] 26)).alloc (.cells #[.int .i64 fx, .int .i64 fy] 26) := ⟨_, rfl⟩
  have hb6 : Below w5.heap.size w5 w6 := by rw [hw6]; exact bal (bal (Below.refl _ _) _) _
  have KP6 : Hid (w6.heap[bo]? = some (.cells #[.int .i64 fx, .int .i64 fy] 26 (0, 0))) := Lib.hid (by rw [hw6, hbo]; exact (Below.heap_alloc _ _ _ (by simp)).trans (heap_alloc_new w5 _))
  have KX6 : Hid (w6.heap[bo + 1]? = some (.cells #[.int .i64 fx, .int .i64 fy] 26 (0, 0))) := Lib.hid (by rw [hw6, hbo]; have h := heap_alloc_new (w5.alloc (.cells #[.int .i64 fx, .int .i64 fy] 26)) (.cells #[.int .i64 fx, .int .i64 fy] 26); rwa [World.size_alloc] at h)
  have hz6 : w6.heap.size = bo + 2 := by rw [hw6]; simp; omega
  have KG6 : Hid (G5 w6 bG W H M B ao nb cb) := Lib.hid ((hb6.block _ (by omega)).trans KG5.out)
  have KT6 : Hid (w6.heap[bt]? = some (.cells #[.int .i64 tx, .int .i64 ty] 26 (0, 0))) := Lib.hid ((hb6.block _ (by omega)).trans KT5.out)
  have HT6 := Lib.hid (HT5.out.keep (hb6.block _ hz5.2))
  have HB6 : Hid (Below w.heap.size w w6) := Lib.hid (HB5.out.trans (hb6.mono HB5.out.size))
  have HOW6 : Hid (w6.ownsRow bo 26 2 (.slice (some ⟨bo, 0, none⟩) 1 1) 1 (xyC [(fx, fy)])) := Lib.hid ⟨rfl, Or.inr ⟨bo, 1, _, rfl, Nat.le_refl _, KP6.out, Nat.le_refl _, by unfold maxLen; omega, rfl, rfl⟩⟩
  have hbo0 : w.heap.size ≤ bo ∧ bT < bo ∧ bt < bo := by omega
  have HW6 := Lib.hid hw6
  have HBO := Lib.hid hbo
  have r1 : bf < w5.heap.size := by omega
  have r2 : ¬ bf = w5.heap.size := by omega
  have r3 : ¬ w5.heap.size = bf := by omega
  clear hw6 hbo hb6 KG5 KT5 HT5 HB5 hz5 KP6
  go_wp2_with fail
  rw [← HBO.out, ← HW6.out]
  clear q0 q1 r1 r2 r3 HBO HW6 KF5
  go_loopg [11, 12, 13, 14] l.length (fun gg v11 v12 v13 v14 wr => ∃ (x y i c' : Int) (pre l' : List (Int × Int)) (k bx : Nat), v12 = .int .i64 c' ∧ v13 = .int .i64 i ∧ v14 = .pointer (some ⟨bx, 0, none⟩) ∧ Hid (l'.length ≤ gg) ∧ Hid (rt F M B tx ty k x y i = some (l', c')) ∧ Hid (pre ++ l' = (fx, fy) :: l) ∧ Hid (wr.ownsRow bo 26 2 v11 pre.length (xyC pre)) ∧ Hid (v11.ownBlock ≠ some bx) ∧ Hid (wr.heap[bx]? = some (.cells #[.int .i64 x, .int .i64 y] 26 (0, 0))) ∧ Hid (G5 wr bG W H M B ao nb cb) ∧ Hid (wr.heap[bt]? = some (.cells #[.int .i64 tx, .int .i64 ty] 26 (0, 0))) ∧ Hid (TBk wr bT (N * 4) T) ∧ Hid (Below w.heap.size w wr) ∧ bo ≤ bx ∧ bx < wr.heap.size ∧ ((0 ≤ x ∧ x < W) ∧ 0 ≤ y ∧ y < H) ∧ (-1 ≤ i ∧ i < 4) ∧ opB W H (blkN XB YB nb) x y = true)
  case atStart => exact ⟨fx, fy, -1, mv, [(fx, fy)], l, nn, bo + 1, rfl, rfl, rfl, Lib.hid (Nat.le_refl _), HRT0, Lib.hid rfl, HOW6, Lib.hid (by intro e; simp [Value.ownBlock] at e), KX6, KG6, KT6, HT6, HB6, by omega, by omega, by omega, by omega, HOF.out⟩
  case round =>
    obtain ⟨x, y, i, c', pre, l', k, bx, rfl, rfl, rfl, HG, HRT, HPL, HOW, HOB, KX, KG, KT, HT, HB, hbx, hz, hxy, hir, hopx⟩ := hrel
    clear KX6 KG6 KT6 HT6 HB6 hz6 HOW6
    obtain ⟨x0, x1⟩ : wr.cell? ⟨bx, 0, none⟩ = some (.int .i64 x) ∧ wr.cell? ⟨bx, 1, none⟩ = some (.int .i64 y) := ⟨cell_of_blk KX.out rfl, cell_of_blk KX.out rfl⟩
    obtain ⟨p0, p1⟩ : wr.cell? ⟨bt, 0, none⟩ = some (.int .i64 tx) ∧ wr.cell? ⟨bt, 1, none⟩ = some (.int .i64 ty) := ⟨cell_of_blk KT.out rfl, cell_of_blk KT.out rfl⟩
    by_cases hp : x = tx ∧ y = ty
    · obtain ⟨rfl, rfl⟩ := hp
      have hne : ∀ w, (binOp .neq 26 (.agg #[.int .i64 x, .int .i64 y]) (.agg #[.int .i64 x, .int .i64 y])).run Try.prog w = .ok (.bool false) w := fun w => by have h := neXY x y x y w; simpa using h
      obtain ⟨hl0, hc0'⟩ := rt_at HRT.out
      have HPre : Hid (pre = (fx, fy) :: l) := Lib.hid (by have := HPL.out; rw [hl0] at this; simpa using this)
      clear hl0 hc0'
      go_wp2_with fail
      refine bodyPost_ret (v := .tuple #[u11, .int .i64 mv, .int .i64 0]) (by simp [results, Try.results29, go_sem, *]) rfl ⟨u11, rfl, ?_, HB.out⟩
      have h := HOW.out
      rw [HPre.out] at h
      exact ownsRow_base h (by omega)
    have hne : ∀ w, (binOp .neq 26 (.agg #[.int .i64 x, .int .i64 y]) (.agg #[.int .i64 tx, .int .i64 ty])).run Try.prog w = .ok (.bool true) w := fun w => by
      have h := neXY x y tx ty w
      rw [show (x == tx && y == ty) = false from Bool.eq_false_iff.2 (fun e => hp (by simpa using e))] at h
      exact h
    obtain ⟨hd, hcc⟩ := rt_cost HF.out.1 (by omega) (by omega) hp HRT.out
    obtain ⟨db, hdb⟩ : ∃ z, (chp F B x y i).1 = z := ⟨_, rfl⟩
    have hsb := step_best HF.out.1 (by omega) (by omega) HOT.out hd
    have hbef : ∀ d : Int, 0 ≤ d → d < (chp F B x y i).1 → M + bd B i d + tS F B tx ty (nx x d) (ny y d) d ≠ (chp F B x y i).2 := fun d h0 h1 => step_before HF.out.1 (by omega) (by omega) HF.out.2 (by omega) hd h0 h1 hopx
    obtain ⟨n2, l2, c2, _, hr2, hl2, hc2⟩ := rt_go hp HRT.out
    obtain ⟨hdr, _, _⟩ := chp_is hd
    rw [hdb] at hsb hbef hr2 hl2 hc2 hdr
    rw [← hcc] at hsb hbef
    have HSB := Lib.hid hsb
    have HBEF := Lib.hid hbef
    have HR2 := Lib.hid hr2
    have HL2 := Lib.hid hl2
    have HC2 := Lib.hid hc2
    have hc20 := rt_low (by omega) (by omega) _ _ _ _ _ _ hr2
    clear hsb hbef hr2 hl2 hc2 hcc hd hdb
    go_wp2_with fail
    clear hne p0 p1 x0 x1
    obtain ⟨wo, hwo⟩ : ∃ z, z = wr := ⟨wr, rfl⟩
    subst hwo
    go_loopg [11, 12, 13, 47] 4 (fun gg v11 v12 v13 v47 wr => v11 = u11 ∧ v12 = .int .i64 c' ∧ v13 = .int .i64 i ∧ ∃ d : Nat, v47 = .int .i64 d ∧ (d : Int) ≤ db ∧ Hid (4 - d ≤ gg) ∧ Hid (wr.ownsRow bo 26 2 u11 pre.length (xyC pre)) ∧ Hid (wr.heap[bx]? = some (.cells #[.int .i64 x, .int .i64 y] 26 (0, 0))) ∧ Hid (G5 wr bG W H M B ao nb cb) ∧ Hid (wr.heap[bt]? = some (.cells #[.int .i64 tx, .int .i64 ty] 26 (0, 0))) ∧ Hid (TBk wr bT (N * 4) T) ∧ Hid (Below w.heap.size w wr) ∧ bx < wr.heap.size)
    case atStart => exact ⟨rfl, rfl, rfl, 0, rfl, by omega, Lib.hid (by omega), HOW, KX, KG, KT, HT, HB, hz⟩
    case round =>
      clear HOW KX KG KT HT HB hz
      obtain ⟨rfl, rfl, rfl, d, rfl, hdl, HGI, HO, KX, KG, KT, HT, HB, hz⟩ := hrel
      have hd4 : d < 4 := by omega
      have hd4' : (d : Int) < 4 := by omega
      obtain ⟨px, hpx⟩ : ∃ z, nx x d = z := ⟨_, rfl⟩
      obtain ⟨py, hpy⟩ : ∃ z, ny y d = z := ⟨_, rfl⟩
      have HPX := Lib.hid (And.intro hpx hpy)
      clear hpx hpy
      obtain ⟨x0, x1⟩ : wr.cell? ⟨bx, 0, none⟩ = some (.int .i64 x) ∧ wr.cell? ⟨bx, 1, none⟩ = some (.int .i64 y) := ⟨cell_of_blk KX.out rfl, cell_of_blk KX.out rfl⟩
      go_wp2_with fail
      refine (rNextd x y d _ hd4 (by omega) (by omega)).mono ?_
      rw [HPX.out.1, HPX.out.2]
      rintro e w7 ⟨rfl, hb⟩
      have HO7 := Lib.hid (own_below' HO.out hb)
      have KX7 : Hid (w7.heap[bx]? = some (.cells #[.int .i64 x, .int .i64 y] 26 (0, 0))) := Lib.hid ((hb.block _ (by omega)).trans KX.out)
      have KG7 : Hid (G5 w7 bG W H M B ao nb cb) := Lib.hid ((hb.block _ (by omega)).trans KG.out)
      have KT7 : Hid (w7.heap[bt]? = some (.cells #[.int .i64 tx, .int .i64 ty] 26 (0, 0))) := Lib.hid ((hb.block _ (by omega)).trans KT.out)
      have HT7 := Lib.hid (HT.out.keep (hb.block _ HT.out.lt))
      have HB7 : Hid (Below w.heap.size w w7) := Lib.hid (HB.out.trans (hb.mono HB.out.size))
      have hz7 : bx < w7.heap.size := by have := hb.size; omega
      clear hb x0 x1 HO KX KG KT HT HB hz
      obtain ⟨b16, hb16⟩ : ∃ z, z = w7.heap.size := ⟨_, rfl⟩
      obtain ⟨w8, hw8⟩ : ∃ z, z = w7.alloc (.cells #[.int .i64 px, .int .i64 py] 26) := ⟨_, rfl⟩
      have hb : Below w7.heap.size w7 w8 := by rw [hw8]; exact bal (Below.refl _ _) _
      have KC8 : Hid (w8.heap[b16]? = some (.cells #[.int .i64 px, .int .i64 py] 26 (0, 0))) := Lib.hid (by rw [hw8, hb16]; exact heap_alloc_new w7 _)
      have HO8 := Lib.hid (own_below' HO7.out hb)
      have KX8 : Hid (w8.heap[bx]? = some (.cells #[.int .i64 x, .int .i64 y] 26 (0, 0))) := Lib.hid ((hb.block _ (by omega)).trans KX7.out)
      have KG8 : Hid (G5 w8 bG W H M B ao nb cb) := Lib.hid ((hb.block _ (by omega)).trans KG7.out)
      have KT8 : Hid (w8.heap[bt]? = some (.cells #[.int .i64 tx, .int .i64 ty] 26 (0, 0))) := Lib.hid ((hb.block _ (by omega)).trans KT7.out)
      have HT8 := Lib.hid (HT7.out.keep (hb.block _ HT7.out.lt))
      have HB8 : Hid (Below w.heap.size w w8) := Lib.hid (HB7.out.trans (hb.mono HB7.out.size))
      have hz8 : bx < b16 ∧ b16 < w8.heap.size := by rw [hw8, hb16]; simp; omega
      have HW8 := Lib.hid (And.intro hw8 hb16)
      clear hb hw8 hb16 HO7 KX7 KG7 KT7 HT7 HB7 hz7
      obtain ⟨c0, c1⟩ : w8.cell? ⟨b16, 0, none⟩ = some (.int .i64 px) ∧ w8.cell? ⟨b16, 1, none⟩ = some (.int .i64 py) := ⟨cell_of_blk KC8.out rfl, cell_of_blk KC8.out rfl⟩
      obtain ⟨g0, g1, g2, g3, g4⟩ := G5.c KG8.out
      go_upto_region 17 with fail
      rw [← HW8.out.1]
      try rw [← HW8.out.2]
      clear HW8
      go_wp2_with fail
      refine (rOpen_any W H M B px py nb cb ao XB YB _ hn63 (HC.out.keep HB8.out)).mono ?_
      obtain ⟨op, hop⟩ : ∃ z, opB W H (blkN XB YB nb) px py = z := ⟨_, rfl⟩
      rw [hop]
      have HOP := Lib.hid hop
      clear hop
      rintro e w9 ⟨rfl, hb⟩
      have HO9 := Lib.hid (own_below' HO8.out hb)
      have KX9 : Hid (w9.heap[bx]? = some (.cells #[.int .i64 x, .int .i64 y] 26 (0, 0))) := Lib.hid ((hb.block _ (by omega)).trans KX8.out)
      have KG9 : Hid (G5 w9 bG W H M B ao nb cb) := Lib.hid ((hb.block _ (by omega)).trans KG8.out)
      have KT9 : Hid (w9.heap[bt]? = some (.cells #[.int .i64 tx, .int .i64 ty] 26 (0, 0))) := Lib.hid ((hb.block _ (by omega)).trans KT8.out)
      have HT9 := Lib.hid (HT8.out.keep (hb.block _ HT8.out.lt))
      have HB9 : Hid (Below w.heap.size w w9) := Lib.hid (HB8.out.trans (hb.mono HB8.out.size))
      have KC9 : Hid (w9.heap[b16]? = some (.cells #[.int .i64 px, .int .i64 py] 26 (0, 0))) := Lib.hid ((hb.block _ (by omega)).trans KC8.out)
      have hz9' : b16 < w9.heap.size := by have := hb.size; omega
      have hz9 : bx < w9.heap.size := by omega
      clear hb c0 c1 g0 g1 g2 g3 g4 KC8 HO8 KX8 KG8 KT8 HT8 HB8
      cases op with
      | false =>
        have hdn : (d : Int) + 1 ≤ db := by
          rcases Int.lt_or_eq_of_le hdl with h | h
          · omega
          · have h1 := HSB.out.1
            rw [← h, HPX.out.1, HPX.out.2, HOP.out] at h1
            cases h1
        go_wp2_with fail
        go_roundg (4 - (d + 1))
        case measure => have := HGI.out; omega
        case rel => exact ⟨rfl, rfl, rfl, d + 1, by go_num, by omega, Lib.hid (Nat.le_refl _), HO9, KX9, KG9, KT9, HT9, HB9, hz9⟩
      | true =>
        have hpo := (opB_iff.1 HOP.out).1
        obtain ⟨jn, hjn⟩ : ∃ j : Nat, py * W + px = j := ⟨(py * W + px).toNat, by have := Int.mul_nonneg hpo.2.2.1 (show 0 ≤ W by omega); omega⟩
        have hjx : jn < N ∧ ((jn % Wn : Nat) : Int) = px ∧ ((jn / Wn : Nat) : Int) = py := by
          obtain ⟨e2, e3, e4⟩ := HNW.out
          obtain ⟨xa, hxa⟩ : ∃ k : Nat, px = k := ⟨px.toNat, by omega⟩
          obtain ⟨ya, hya⟩ : ∃ k : Nat, py = k := ⟨py.toNat, by omega⟩
          have hj : jn = ya * Wn + xa := by have h := hjn; rw [e2, hxa, hya, ← Int.natCast_mul, ← Int.natCast_add] at h; exact (Int.ofNat.inj h).symm
          obtain ⟨d1, d2, d3⟩ := idx_dm3 (x := xa) (y := ya) e4 (by omega) (by omega)
          rw [hj, d2, d3]
          exact ⟨d1, hxa.symm, hya.symm⟩
        have hjN := hjx.1
        obtain ⟨tv, htv⟩ : ∃ z, T (jn * 4 + d) = z := ⟨_, rfl⟩
        have hts : tv = tS F B tx ty px py d := by rw [← htv, HSP.out jn d hjN hd4, hjx.2.1, hjx.2.2]
        have tc := HT9.out.cell (j := jn * 4 + d) (by omega)
        rw [htv] at tc
        have htl : 0 ≤ tv ∧ tv ≤ 1099511627776 := by
          rw [hts]
          unfold tS
          split
          · omega
          · split
            · exact ⟨by decide, Int.le_refl _⟩
            · rename_i h9
              obtain ⟨_, gf, _⟩ := chp_is h9
              have g1 := (((HF.out.1 _ _ _).1 _ gf).1).low (by omega) (by omega)
              have g2 := HF.out.2 _ _ _ _ gf
              have g3 := bd_le' (B := B) (i := (d : Int)) (o := (chp F B px py d).1) (by omega)
              omega
        obtain ⟨bv, hbv⟩ : ∃ z, bd B i d = z := ⟨_, rfl⟩
        have hb0 := bd_le' (B := B) (i := i) (o := (d : Int)) (by omega)
        rw [hbv] at hb0
        have heq : ((d : Int) = db → M + bv + tv = c' ∧ c' = c2 + (M + bv)) ∧ (¬ (d : Int) = db → ¬ M + bv + tv = c') := by
          refine ⟨fun e => ?_, fun e => ?_⟩
          · have h1 := HSB.out.2
            have h2 := HC2.out
            rw [← e, HPX.out.1, HPX.out.2, hbv, ← hts] at h1
            rw [← e, hbv] at h2
            exact ⟨h1, h2⟩
          · have h1 := HBEF.out d (by omega) (by omega)
            rw [HPX.out.1, HPX.out.2, hbv, ← hts] at h1
            exact h1
        have HEQ := Lib.hid heq
        have hmt : 0 ≤ py * W := Int.mul_nonneg hpo.2.2.1 (by omega)
        have z2 : IntKind.i64.wrap (py * W) = py * W := by rw [IntKind.wrap_i64]; omega
        have z4 : IntKind.i64.wrap (jn : Int) = jn := by rw [IntKind.wrap_i64]; omega
        have z6 : (jn : Int) < (N : Int) := by omega
        have z7 : IntKind.i64.wrap (M + B) = M + B := by rw [IntKind.wrap_i64]; omega
        have z8 : IntKind.i64.wrap (M + bv + tv) = M + bv + tv := by rw [IntKind.wrap_i64]; omega
        obtain ⟨c0, c1⟩ : w9.cell? ⟨b16, 0, none⟩ = some (.int .i64 px) ∧ w9.cell? ⟨b16, 1, none⟩ = some (.int .i64 py) := ⟨cell_of_blk KC9.out rfl, cell_of_blk KC9.out rfl⟩
        obtain ⟨g0, g1, g2, g3, g4⟩ := G5.c KG9.out
        clear hjx htv hts heq hmt
        by_cases hde : (d : Int) = db
        case neg =>
          have hne2 := HEQ.out.2 hde
          have hdn : (d : Int) + 1 ≤ db := by omega
          by_cases k0 : i = -1
          · have hbz : bv = 0 := by rw [← hbv]; unfold bd; rw [if_neg (by omega)]
            have hi0 : ¬ (0 : Int) ≤ i := by omega
            have HBZ := Lib.hid hbz
            have z9 : IntKind.i64.wrap (M + tv) = M + tv := by rw [IntKind.wrap_i64]; omega
            have hbe : (M + tv == c') = false := beq_eq_false_iff_ne.2 (by omega)
            clear hbz hne2 z8 hbv k0
            go_wp2_with fail
            go_roundg (4 - (d + 1))
            case measure => have := HGI.out; omega
            case rel => exact ⟨rfl, rfl, rfl, d + 1, by go_num, by omega, Lib.hid (Nat.le_refl _), HO9, KX9, KG9, KT9, HT9, HB9, hz9⟩
          by_cases k1 : i = d
          · have hbz : bv = 0 := by rw [← hbv]; unfold bd; rw [if_neg (by omega)]
            have hi0 : (0 : Int) ≤ i := by omega
            have hq : (i != (d : Int)) = false := by rw [k1]; simp
            have HBZ := Lib.hid hbz
            have z9 : IntKind.i64.wrap (M + tv) = M + tv := by rw [IntKind.wrap_i64]; omega
            have hbe : (M + tv == c') = false := beq_eq_false_iff_ne.2 (by omega)
            clear hbz hne2 z8 hbv k1
            go_wp2_with fail
            go_roundg (4 - (d + 1))
            case measure => have := HGI.out; omega
            case rel => exact ⟨rfl, rfl, rfl, d + 1, by go_num, by omega, Lib.hid (Nat.le_refl _), HO9, KX9, KG9, KT9, HT9, HB9, hz9⟩
          have hbz : bv = B := by rw [← hbv]; unfold bd; rw [if_pos (by omega)]
          have hi0 : (0 : Int) ≤ i := by omega
          have hq : (i != (d : Int)) = true := bne_iff_ne.2 (by omega)
          have HBZ := Lib.hid hbz
          have z9 : IntKind.i64.wrap (M + B + tv) = M + B + tv := by rw [IntKind.wrap_i64]; omega
          have hbe : (M + B + tv == c') = false := beq_eq_false_iff_ne.2 (by omega)
          clear hbz hne2 z8 hbv
          go_wp2_with fail
          go_roundg (4 - (d + 1))
          case measure => have := HGI.out; omega
          case rel => exact ⟨rfl, rfl, rfl, d + 1, by go_num, by omega, Lib.hid (Nat.le_refl _), HO9, KX9, KG9, KT9, HT9, HB9, hz9⟩
        obtain ⟨hs1, hs2⟩ := HEQ.out.1 hde
        subst hde
        by_cases k0 : i = -1
        · have hbz : bv = 0 := by rw [← hbv]; unfold bd; rw [if_neg (by omega)]
          have hi0 : ¬ (0 : Int) ≤ i := by omega
          have HBZ := Lib.hid hbz
          have z9 : IntKind.i64.wrap (M + tv) = M + tv := by rw [IntKind.wrap_i64]; omega
          have hbe : (M + tv == c') = true := beq_iff_eq.2 (by omega)
          have z10 : IntKind.i64.wrap (c' - M) = c2 := by rw [IntKind.wrap_i64]; omega
          obtain ⟨x0, x1⟩ : w9.cell? ⟨bx, 0, none⟩ = some (.int .i64 x) ∧ w9.cell? ⟨bx, 1, none⟩ = some (.int .i64 y) := ⟨cell_of_blk KX9.out rfl, cell_of_blk KX9.out rfl⟩
          have yf : ∀ j, w9.frozen? ⟨bx, j, none⟩ = false := fun j => by simp [World.frozen?, KX9.out]
          clear hbz z8 hbv k0 hs1 hs2

          obtain ⟨w10, hw10⟩ : ∃ z, z = (w9.setCell ⟨bx, 0, none⟩ (.int .i64 px)).setCell ⟨bx, 1, none⟩ (.int .i64 py) := ⟨_, rfl⟩
          have kx10 : w10.heap[bx]? = some (.cells #[.int .i64 px, .int .i64 py] 26 (0, 0)) := by rw [hw10]; exact blk_set (blk_set KX9.out _) _
          have hs10 : w10.heap.size = w9.heap.size := by rw [hw10]; simp
          have ho10 : ∀ k, k ≠ bx → w10.heap[k]? = w9.heap[k]? := fun k hk => by rw [hw10, Below.heap_setCell _ _ _ _ hk, Below.heap_setCell _ _ _ _ hk]
          have KG10 : Hid (G5 w10 bG W H M B ao nb cb) := Lib.hid ((ho10 _ (by omega)).trans KG9.out)
          have KT10 : Hid (w10.heap[bt]? = some (.cells #[.int .i64 tx, .int .i64 ty] 26 (0, 0))) := Lib.hid ((ho10 _ (by omega)).trans KT9.out)
          have KC10 : Hid (w10.heap[b16]? = some (.cells #[.int .i64 px, .int .i64 py] 26 (0, 0))) := Lib.hid ((ho10 _ (by omega)).trans KC9.out)
          have HT10 := Lib.hid (HT9.out.keep (ho10 _ (by omega)))
          have HB10 : Hid (Below w.heap.size w w10) := Lib.hid (by rw [hw10]; exact (HB9.out.setCell (p := ⟨bx, 0, none⟩) (by show w.heap.size ≤ bx; omega) _).setCell (p := ⟨bx, 1, none⟩) (by show w.heap.size ≤ bx; omega) _)
          have HO10 : Hid (w10.ownsRow bo 26 2 u11 pre.length (xyC pre)) := Lib.hid (by
            obtain ⟨q1, q2 | ⟨g, cap, cur, q3, q4, q5, q6⟩⟩ := HO9.out
            · exact ⟨q1, Or.inl q2⟩
            · exact ⟨q1, Or.inr ⟨g, cap, cur, q3, q4, (ho10 g (fun e => HOB.out (by rw [q3]; simp [Value.ownBlock]; exact e))).trans q5, q6⟩⟩)
          have hz10 : bx < w10.heap.size := by omega
          have HW10 := Lib.hid hw10
          have KX10 := Lib.hid kx10
          clear ho10 kx10 hw10 hs10
          go_upto_region 24 with fail
          rw [← HW10.out]
          clear HW10 yf x0 x1 c0 c1 g0 g1 g2 g3 g4 KX9 KG9 KT9 KC9 HT9 HB9 HO9
          obtain ⟨c0, c1⟩ : w10.cell? ⟨b16, 0, none⟩ = some (.int .i64 px) ∧ w10.cell? ⟨b16, 1, none⟩ = some (.int .i64 py) := ⟨cell_of_blk KC10.out rfl, cell_of_blk KC10.out rfl⟩
          refine wp_region_lit ?_
          refine wpList_step (fun K hK => ?_); go_simp; refine hK _ _ ?_; clear hK K
          refine wpList_step (fun K hK => ?_); go_simp; refine hK _ _ ?_; clear hK K
          refine wpList_step (fun K hK => ?_); go_simp; refine hK _ _ ?_; clear hK K
          have hNB : (w10.alloc (.cells #[.int .i64 px, .int .i64 py] 26)).heap[w10.heap.size]? = some (.cells #[.int .i64 px, .int .i64 py] 26 (0, 0)) := heap_alloc_new w10 _
          have hpl : (pre ++ [(px, py)]) ++ l2 = (fx, fy) :: l := by
            have h := HPL.out
            rw [HL2.out, HPX.out.1, HPX.out.2] at h
            rw [List.append_assoc]; exact h
          have hll : pre.length + 1 + l2.length = l.length + 1 := by
            have h1 := congrArg List.length hpl
            simp at h1
            omega
          have hlen : (pre.length : Int) ≤ 10000000 := by
            have h2 := HLC.out
            omega
          refine wpList_step (fun K hK => ?_)
          refine step_append_lies _ (by rfl) _ _ 22 (by rfl) bo 26 i0 _ 2 16 Try.underlying22 HI.out.1 HI.out.2.1 HI.out.2.2.1 HI.out.2.2.2 (by rfl) (by decide) u11 pre.length (xyC pre) (by rfl) (HO10.out.alloc _) ⟨w10.heap.size, 0, none⟩ 1 1 [.int .i64 px, .int .i64 py] (by rfl) rfl (fun j u hu => World.news_of_block (cs := #[.int .i64 px, .int .i64 py]) hNB j u hu) (by intro u hu; simp only [List.mem_cons, List.not_mem_nil, or_false] at hu; rcases hu with rfl | rfl <;> rfl) (by omega) (by unfold maxLen; omega) (by omega) (by simp; omega) _ rfl ?_
          intro g' cap' w11 hown' hgrow hor hlg'
          have hz11 : bx < w11.heap.size := by have := hgrow.size; simp at this; omega
          have hlb : ∀ k, u11.ownBlock = some k → bo ≤ k := fun k hk => (HO10.out.lt k hk).1
          have hk11 : ∀ k, k < w10.heap.size → (k < bo ∨ k = bx) → w11.heap[k]? = w10.heap[k]? := fun k hk hkk => (hgrow.block k (by simp; omega) (fun e => by
            rcases hkk with h | h
            · have := hlb k e.symm; omega
            · subst h; exact HOB.out e.symm)).trans (Below.heap_alloc _ _ _ hk)
          have KX11 : Hid (w11.heap[bx]? = some (.cells #[.int .i64 px, .int .i64 py] 26 (0, 0))) := Lib.hid ((hk11 _ hz10 (Or.inr rfl)).trans KX10.out)
          have KG11 : Hid (G5 w11 bG W H M B ao nb cb) := Lib.hid ((hk11 _ (by omega) (Or.inl (by omega))).trans KG10.out)
          have KT11 : Hid (w11.heap[bt]? = some (.cells #[.int .i64 tx, .int .i64 ty] 26 (0, 0))) := Lib.hid ((hk11 _ (by omega) (Or.inl (by omega))).trans KT10.out)
          have HT11 := Lib.hid (HT10.out.keep (hk11 _ (by omega) (Or.inl (by omega))))
          have HB11 : Hid (Below w.heap.size w w11) := Lib.hid ((HB10.out.alloc (by omega) _).grown hgrow (by simp; omega) (fun k hk => by have := hlb k hk; omega))
          have HO11 : Hid (w11.ownsRow bo 26 2 (.slice (some ⟨g', 0, none⟩) (pre.length + 1) cap') (pre ++ [(px, py)]).length (xyC (pre ++ [(px, py)]))) := Lib.hid (by rw [xyC_snoc, List.length_append]; exact hown')
          have HPL11 := Lib.hid hpl
          refine hK _ _ ?_
          clear hK K hown' hgrow hor hlg' hk11 hlb hNB KX10 KG10 KT10 KC10 HT10 HB10 HO10 c0 c1 hpl
          refine wpList_step (fun K hK => ?_); go_simp; refine hK _ _ ?_; clear hK K
          refine wpList_nil ?_
          obtain ⟨x0, x1⟩ : w11.cell? ⟨bx, 0, none⟩ = some (.int .i64 px) ∧ w11.cell? ⟨bx, 1, none⟩ = some (.int .i64 py) := ⟨cell_of_blk KX11.out rfl, cell_of_blk KX11.out rfl⟩
          obtain ⟨b', hb'⟩ : ∃ z, z = w11.heap.size := ⟨_, rfl⟩
          obtain ⟨w12, hw12⟩ : ∃ z, z = w11.alloc (.cells #[.int .i64 px, .int .i64 py] 26) := ⟨_, rfl⟩
          have hb : Below w11.heap.size w11 w12 := by rw [hw12]; exact bal (Below.refl _ _) _
          have KX12 : Hid (w12.heap[b']? = some (.cells #[.int .i64 px, .int .i64 py] 26 (0, 0))) := Lib.hid (by rw [hw12, hb']; exact heap_alloc_new w11 _)
          have HO12 := Lib.hid (own_below' HO11.out hb)
          have KG12 : Hid (G5 w12 bG W H M B ao nb cb) := Lib.hid ((hb.block _ (by omega)).trans KG11.out)
          have KT12 : Hid (w12.heap[bt]? = some (.cells #[.int .i64 tx, .int .i64 ty] 26 (0, 0))) := Lib.hid ((hb.block _ (by omega)).trans KT11.out)
          have HT12 := Lib.hid (HT11.out.keep (hb.block _ HT11.out.lt))
          have HB12 : Hid (Below w.heap.size w w12) := Lib.hid (HB11.out.trans (hb.mono HB11.out.size))
          have hz12 : bo ≤ b' ∧ b' < w12.heap.size := by rw [hw12, hb']; simp; omega
          have HOB12 : Hid ((Value.slice (some ⟨g', 0, none⟩) (pre.length + 1) cap').ownBlock ≠ some b') := Lib.hid (fun e => by have := (HO11.out.lt _ e).2; omega)
          have HW12 := Lib.hid (And.intro hw12 hb')
          have HRT12 : Hid (rt F M B tx ty n2 px py d = some (l2, c2)) := Lib.hid (by have h := HR2.out; rw [HPX.out.1, HPX.out.2] at h; exact h)
          clear hb hw12 hb'
          go_wp2_with fail
          rw [← HW12.out.1]
          try rw [← HW12.out.2]
          go_roundg l2.length
          case measure => have h := congrArg List.length HL2.out; have h2 := HG.out; simp at h; omega
          case rel => exact ⟨px, py, d, c2, pre ++ [(px, py)], l2, n2, b', rfl, rfl, by simp [HW12.out.2], Lib.hid (Nat.le_refl _), HRT12, HPL11, HO12, HOB12, KX12, KG12, KT12, HT12, HB12, by omega, by omega, ⟨⟨by omega, by omega⟩, by omega, by omega⟩, ⟨by omega, by omega⟩, HOP.out⟩
        by_cases k1 : i = d
        · have hbz : bv = 0 := by rw [← hbv]; unfold bd; rw [if_neg (by omega)]
          have hi0 : (0 : Int) ≤ i := by omega
          have hq : (i != (d : Int)) = false := by rw [k1]; simp
          have HBZ := Lib.hid hbz
          have z9 : IntKind.i64.wrap (M + tv) = M + tv := by rw [IntKind.wrap_i64]; omega
          have hbe : (M + tv == c') = true := beq_iff_eq.2 (by omega)
          have z10 : IntKind.i64.wrap (c' - M) = c2 := by rw [IntKind.wrap_i64]; omega
          obtain ⟨x0, x1⟩ : w9.cell? ⟨bx, 0, none⟩ = some (.int .i64 x) ∧ w9.cell? ⟨bx, 1, none⟩ = some (.int .i64 y) := ⟨cell_of_blk KX9.out rfl, cell_of_blk KX9.out rfl⟩
          have yf : ∀ j, w9.frozen? ⟨bx, j, none⟩ = false := fun j => by simp [World.frozen?, KX9.out]
          clear hbz z8 hbv k1 hs1 hs2

          obtain ⟨w10, hw10⟩ : ∃ z, z = (w9.setCell ⟨bx, 0, none⟩ (.int .i64 px)).setCell ⟨bx, 1, none⟩ (.int .i64 py) := ⟨_, rfl⟩
          have kx10 : w10.heap[bx]? = some (.cells #[.int .i64 px, .int .i64 py] 26 (0, 0)) := by rw [hw10]; exact blk_set (blk_set KX9.out _) _
          have hs10 : w10.heap.size = w9.heap.size := by rw [hw10]; simp
          have ho10 : ∀ k, k ≠ bx → w10.heap[k]? = w9.heap[k]? := fun k hk => by rw [hw10, Below.heap_setCell _ _ _ _ hk, Below.heap_setCell _ _ _ _ hk]
          have KG10 : Hid (G5 w10 bG W H M B ao nb cb) := Lib.hid ((ho10 _ (by omega)).trans KG9.out)
          have KT10 : Hid (w10.heap[bt]? = some (.cells #[.int .i64 tx, .int .i64 ty] 26 (0, 0))) := Lib.hid ((ho10 _ (by omega)).trans KT9.out)
          have KC10 : Hid (w10.heap[b16]? = some (.cells #[.int .i64 px, .int .i64 py] 26 (0, 0))) := Lib.hid ((ho10 _ (by omega)).trans KC9.out)
          have HT10 := Lib.hid (HT9.out.keep (ho10 _ (by omega)))
          have HB10 : Hid (Below w.heap.size w w10) := Lib.hid (by rw [hw10]; exact (HB9.out.setCell (p := ⟨bx, 0, none⟩) (by show w.heap.size ≤ bx; omega) _).setCell (p := ⟨bx, 1, none⟩) (by show w.heap.size ≤ bx; omega) _)
          have HO10 : Hid (w10.ownsRow bo 26 2 u11 pre.length (xyC pre)) := Lib.hid (by
            obtain ⟨q1, q2 | ⟨g, cap, cur, q3, q4, q5, q6⟩⟩ := HO9.out
            · exact ⟨q1, Or.inl q2⟩
            · exact ⟨q1, Or.inr ⟨g, cap, cur, q3, q4, (ho10 g (fun e => HOB.out (by rw [q3]; simp [Value.ownBlock]; exact e))).trans q5, q6⟩⟩)
          have hz10 : bx < w10.heap.size := by omega
          have HW10 := Lib.hid hw10
          have KX10 := Lib.hid kx10
          clear ho10 kx10 hw10 hs10
          go_upto_region 24 with fail
          rw [← HW10.out]
          clear HW10 yf x0 x1 c0 c1 g0 g1 g2 g3 g4 KX9 KG9 KT9 KC9 HT9 HB9 HO9
          obtain ⟨c0, c1⟩ : w10.cell? ⟨b16, 0, none⟩ = some (.int .i64 px) ∧ w10.cell? ⟨b16, 1, none⟩ = some (.int .i64 py) := ⟨cell_of_blk KC10.out rfl, cell_of_blk KC10.out rfl⟩
          refine wp_region_lit ?_
          refine wpList_step (fun K hK => ?_); go_simp; refine hK _ _ ?_; clear hK K
          refine wpList_step (fun K hK => ?_); go_simp; refine hK _ _ ?_; clear hK K
          refine wpList_step (fun K hK => ?_); go_simp; refine hK _ _ ?_; clear hK K
          have hNB : (w10.alloc (.cells #[.int .i64 px, .int .i64 py] 26)).heap[w10.heap.size]? = some (.cells #[.int .i64 px, .int .i64 py] 26 (0, 0)) := heap_alloc_new w10 _
          have hpl : (pre ++ [(px, py)]) ++ l2 = (fx, fy) :: l := by
            have h := HPL.out
            rw [HL2.out, HPX.out.1, HPX.out.2] at h
            rw [List.append_assoc]; exact h
          have hll : pre.length + 1 + l2.length = l.length + 1 := by
            have h1 := congrArg List.length hpl
            simp at h1
            omega
          have hlen : (pre.length : Int) ≤ 10000000 := by
            have h2 := HLC.out
            omega
          refine wpList_step (fun K hK => ?_)
          refine step_append_lies _ (by rfl) _ _ 22 (by rfl) bo 26 i0 _ 2 16 Try.underlying22 HI.out.1 HI.out.2.1 HI.out.2.2.1 HI.out.2.2.2 (by rfl) (by decide) u11 pre.length (xyC pre) (by rfl) (HO10.out.alloc _) ⟨w10.heap.size, 0, none⟩ 1 1 [.int .i64 px, .int .i64 py] (by rfl) rfl (fun j u hu => World.news_of_block (cs := #[.int .i64 px, .int .i64 py]) hNB j u hu) (by intro u hu; simp only [List.mem_cons, List.not_mem_nil, or_false] at hu; rcases hu with rfl | rfl <;> rfl) (by omega) (by unfold maxLen; omega) (by omega) (by simp; omega) _ rfl ?_
          intro g' cap' w11 hown' hgrow hor hlg'
          have hz11 : bx < w11.heap.size := by have := hgrow.size; simp at this; omega
          have hlb : ∀ k, u11.ownBlock = some k → bo ≤ k := fun k hk => (HO10.out.lt k hk).1
          have hk11 : ∀ k, k < w10.heap.size → (k < bo ∨ k = bx) → w11.heap[k]? = w10.heap[k]? := fun k hk hkk => (hgrow.block k (by simp; omega) (fun e => by
            rcases hkk with h | h
            · have := hlb k e.symm; omega
            · subst h; exact HOB.out e.symm)).trans (Below.heap_alloc _ _ _ hk)
          have KX11 : Hid (w11.heap[bx]? = some (.cells #[.int .i64 px, .int .i64 py] 26 (0, 0))) := Lib.hid ((hk11 _ hz10 (Or.inr rfl)).trans KX10.out)
          have KG11 : Hid (G5 w11 bG W H M B ao nb cb) := Lib.hid ((hk11 _ (by omega) (Or.inl (by omega))).trans KG10.out)
          have KT11 : Hid (w11.heap[bt]? = some (.cells #[.int .i64 tx, .int .i64 ty] 26 (0, 0))) := Lib.hid ((hk11 _ (by omega) (Or.inl (by omega))).trans KT10.out)
          have HT11 := Lib.hid (HT10.out.keep (hk11 _ (by omega) (Or.inl (by omega))))
          have HB11 : Hid (Below w.heap.size w w11) := Lib.hid ((HB10.out.alloc (by omega) _).grown hgrow (by simp; omega) (fun k hk => by have := hlb k hk; omega))
          have HO11 : Hid (w11.ownsRow bo 26 2 (.slice (some ⟨g', 0, none⟩) (pre.length + 1) cap') (pre ++ [(px, py)]).length (xyC (pre ++ [(px, py)]))) := Lib.hid (by rw [xyC_snoc, List.length_append]; exact hown')
          have HPL11 := Lib.hid hpl
          refine hK _ _ ?_
          clear hK K hown' hgrow hor hlg' hk11 hlb hNB KX10 KG10 KT10 KC10 HT10 HB10 HO10 c0 c1 hpl
          refine wpList_step (fun K hK => ?_); go_simp; refine hK _ _ ?_; clear hK K
          refine wpList_nil ?_
          obtain ⟨x0, x1⟩ : w11.cell? ⟨bx, 0, none⟩ = some (.int .i64 px) ∧ w11.cell? ⟨bx, 1, none⟩ = some (.int .i64 py) := ⟨cell_of_blk KX11.out rfl, cell_of_blk KX11.out rfl⟩
          obtain ⟨b', hb'⟩ : ∃ z, z = w11.heap.size := ⟨_, rfl⟩
          obtain ⟨w12, hw12⟩ : ∃ z, z = w11.alloc (.cells #[.int .i64 px, .int .i64 py] 26) := ⟨_, rfl⟩
          have hb : Below w11.heap.size w11 w12 := by rw [hw12]; exact bal (Below.refl _ _) _
          have KX12 : Hid (w12.heap[b']? = some (.cells #[.int .i64 px, .int .i64 py] 26 (0, 0))) := Lib.hid (by rw [hw12, hb']; exact heap_alloc_new w11 _)
          have HO12 := Lib.hid (own_below' HO11.out hb)
          have KG12 : Hid (G5 w12 bG W H M B ao nb cb) := Lib.hid ((hb.block _ (by omega)).trans KG11.out)
          have KT12 : Hid (w12.heap[bt]? = some (.cells #[.int .i64 tx, .int .i64 ty] 26 (0, 0))) := Lib.hid ((hb.block _ (by omega)).trans KT11.out)
          have HT12 := Lib.hid (HT11.out.keep (hb.block _ HT11.out.lt))
          have HB12 : Hid (Below w.heap.size w w12) := Lib.hid (HB11.out.trans (hb.mono HB11.out.size))
          have hz12 : bo ≤ b' ∧ b' < w12.heap.size := by rw [hw12, hb']; simp; omega
          have HOB12 : Hid ((Value.slice (some ⟨g', 0, none⟩) (pre.length + 1) cap').ownBlock ≠ some b') := Lib.hid (fun e => by have := (HO11.out.lt _ e).2; omega)
          have HW12 := Lib.hid (And.intro hw12 hb')
          have HRT12 : Hid (rt F M B tx ty n2 px py d = some (l2, c2)) := Lib.hid (by have h := HR2.out; rw [HPX.out.1, HPX.out.2] at h; exact h)
          clear hb hw12 hb'
          go_wp2_with fail
          rw [← HW12.out.1]
          try rw [← HW12.out.2]
          go_roundg l2.length
          case measure => have h := congrArg List.length HL2.out; have h2 := HG.out; simp at h; omega
          case rel => exact ⟨px, py, d, c2, pre ++ [(px, py)], l2, n2, b', rfl, rfl, by simp [HW12.out.2], Lib.hid (Nat.le_refl _), HRT12, HPL11, HO12, HOB12, KX12, KG12, KT12, HT12, HB12, by omega, by omega, ⟨⟨by omega, by omega⟩, by omega, by omega⟩, ⟨by omega, by omega⟩, HOP.out⟩
        have hbz : bv = B := by rw [← hbv]; unfold bd; rw [if_pos (by omega)]
        have hi0 : (0 : Int) ≤ i := by omega
        have hq : (i != (d : Int)) = true := bne_iff_ne.2 (by omega)
        have HBZ := Lib.hid hbz
        have z9 : IntKind.i64.wrap (M + B + tv) = M + B + tv := by rw [IntKind.wrap_i64]; omega
        have hbe : (M + B + tv == c') = true := beq_iff_eq.2 (by omega)
        have z10 : IntKind.i64.wrap (c' - (M + B)) = c2 := by rw [IntKind.wrap_i64]; omega
        obtain ⟨x0, x1⟩ : w9.cell? ⟨bx, 0, none⟩ = some (.int .i64 x) ∧ w9.cell? ⟨bx, 1, none⟩ = some (.int .i64 y) := ⟨cell_of_blk KX9.out rfl, cell_of_blk KX9.out rfl⟩
        have yf : ∀ j, w9.frozen? ⟨bx, j, none⟩ = false := fun j => by simp [World.frozen?, KX9.out]
        clear hbz z8 hbv hs1 hs2

        obtain ⟨w10, hw10⟩ : ∃ z, z = (w9.setCell ⟨bx, 0, none⟩ (.int .i64 px)).setCell ⟨bx, 1, none⟩ (.int .i64 py) := ⟨_, rfl⟩
        have kx10 : w10.heap[bx]? = some (.cells #[.int .i64 px, .int .i64 py] 26 (0, 0)) := by rw [hw10]; exact blk_set (blk_set KX9.out _) _
        have hs10 : w10.heap.size = w9.heap.size := by rw [hw10]; simp
        have ho10 : ∀ k, k ≠ bx → w10.heap[k]? = w9.heap[k]? := fun k hk => by rw [hw10, Below.heap_setCell _ _ _ _ hk, Below.heap_setCell _ _ _ _ hk]
        have KG10 : Hid (G5 w10 bG W H M B ao nb cb) := Lib.hid ((ho10 _ (by omega)).trans KG9.out)
        have KT10 : Hid (w10.heap[bt]? = some (.cells #[.int .i64 tx, .int .i64 ty] 26 (0, 0))) := Lib.hid ((ho10 _ (by omega)).trans KT9.out)
        have KC10 : Hid (w10.heap[b16]? = some (.cells #[.int .i64 px, .int .i64 py] 26 (0, 0))) := Lib.hid ((ho10 _ (by omega)).trans KC9.out)
        have HT10 := Lib.hid (HT9.out.keep (ho10 _ (by omega)))
        have HB10 : Hid (Below w.heap.size w w10) := Lib.hid (by rw [hw10]; exact (HB9.out.setCell (p := ⟨bx, 0, none⟩) (by show w.heap.size ≤ bx; omega) _).setCell (p := ⟨bx, 1, none⟩) (by show w.heap.size ≤ bx; omega) _)
        have HO10 : Hid (w10.ownsRow bo 26 2 u11 pre.length (xyC pre)) := Lib.hid (by
          obtain ⟨q1, q2 | ⟨g, cap, cur, q3, q4, q5, q6⟩⟩ := HO9.out
          · exact ⟨q1, Or.inl q2⟩
          · exact ⟨q1, Or.inr ⟨g, cap, cur, q3, q4, (ho10 g (fun e => HOB.out (by rw [q3]; simp [Value.ownBlock]; exact e))).trans q5, q6⟩⟩)
        have hz10 : bx < w10.heap.size := by omega
        have HW10 := Lib.hid hw10
        have KX10 := Lib.hid kx10
        clear ho10 kx10 hw10 hs10
        go_upto_region 24 with fail
        rw [← HW10.out]
        clear HW10 yf x0 x1 c0 c1 g0 g1 g2 g3 g4 KX9 KG9 KT9 KC9 HT9 HB9 HO9
        obtain ⟨c0, c1⟩ : w10.cell? ⟨b16, 0, none⟩ = some (.int .i64 px) ∧ w10.cell? ⟨b16, 1, none⟩ = some (.int .i64 py) := ⟨cell_of_blk KC10.out rfl, cell_of_blk KC10.out rfl⟩
        refine wp_region_lit ?_
        refine wpList_step (fun K hK => ?_); go_simp; refine hK _ _ ?_; clear hK K
        refine wpList_step (fun K hK => ?_); go_simp; refine hK _ _ ?_; clear hK K
        refine wpList_step (fun K hK => ?_); go_simp; refine hK _ _ ?_; clear hK K
        have hNB : (w10.alloc (.cells #[.int .i64 px, .int .i64 py] 26)).heap[w10.heap.size]? = some (.cells #[.int .i64 px, .int .i64 py] 26 (0, 0)) := heap_alloc_new w10 _
        have hpl : (pre ++ [(px, py)]) ++ l2 = (fx, fy) :: l := by
          have h := HPL.out
          rw [HL2.out, HPX.out.1, HPX.out.2] at h
          rw [List.append_assoc]; exact h
        have hll : pre.length + 1 + l2.length = l.length + 1 := by
          have h1 := congrArg List.length hpl
          simp at h1
          omega
        have hlen : (pre.length : Int) ≤ 10000000 := by
          have h2 := HLC.out
          omega
        refine wpList_step (fun K hK => ?_)
        refine step_append_lies _ (by rfl) _ _ 22 (by rfl) bo 26 i0 _ 2 16 Try.underlying22 HI.out.1 HI.out.2.1 HI.out.2.2.1 HI.out.2.2.2 (by rfl) (by decide) u11 pre.length (xyC pre) (by rfl) (HO10.out.alloc _) ⟨w10.heap.size, 0, none⟩ 1 1 [.int .i64 px, .int .i64 py] (by rfl) rfl (fun j u hu => World.news_of_block (cs := #[.int .i64 px, .int .i64 py]) hNB j u hu) (by intro u hu; simp only [List.mem_cons, List.not_mem_nil, or_false] at hu; rcases hu with rfl | rfl <;> rfl) (by omega) (by unfold maxLen; omega) (by omega) (by simp; omega) _ rfl ?_
        intro g' cap' w11 hown' hgrow hor hlg'
        have hz11 : bx < w11.heap.size := by have := hgrow.size; simp at this; omega
        have hlb : ∀ k, u11.ownBlock = some k → bo ≤ k := fun k hk => (HO10.out.lt k hk).1
        have hk11 : ∀ k, k < w10.heap.size → (k < bo ∨ k = bx) → w11.heap[k]? = w10.heap[k]? := fun k hk hkk => (hgrow.block k (by simp; omega) (fun e => by
          rcases hkk with h | h
          · have := hlb k e.symm; omega
          · subst h; exact HOB.out e.symm)).trans (Below.heap_alloc _ _ _ hk)
        have KX11 : Hid (w11.heap[bx]? = some (.cells #[.int .i64 px, .int .i64 py] 26 (0, 0))) := Lib.hid ((hk11 _ hz10 (Or.inr rfl)).trans KX10.out)
        have KG11 : Hid (G5 w11 bG W H M B ao nb cb) := Lib.hid ((hk11 _ (by omega) (Or.inl (by omega))).trans KG10.out)
        have KT11 : Hid (w11.heap[bt]? = some (.cells #[.int .i64 tx, .int .i64 ty] 26 (0, 0))) := Lib.hid ((hk11 _ (by omega) (Or.inl (by omega))).trans KT10.out)
        have HT11 := Lib.hid (HT10.out.keep (hk11 _ (by omega) (Or.inl (by omega))))
        have HB11 : Hid (Below w.heap.size w w11) := Lib.hid ((HB10.out.alloc (by omega) _).grown hgrow (by simp; omega) (fun k hk => by have := hlb k hk; omega))
        have HO11 : Hid (w11.ownsRow bo 26 2 (.slice (some ⟨g', 0, none⟩) (pre.length + 1) cap') (pre ++ [(px, py)]).length (xyC (pre ++ [(px, py)]))) := Lib.hid (by rw [xyC_snoc, List.length_append]; exact hown')
        have HPL11 := Lib.hid hpl
        refine hK _ _ ?_
        clear hK K hown' hgrow hor hlg' hk11 hlb hNB KX10 KG10 KT10 KC10 HT10 HB10 HO10 c0 c1 hpl
        refine wpList_step (fun K hK => ?_); go_simp; refine hK _ _ ?_; clear hK K
        refine wpList_nil ?_
        obtain ⟨x0, x1⟩ : w11.cell? ⟨bx, 0, none⟩ = some (.int .i64 px) ∧ w11.cell? ⟨bx, 1, none⟩ = some (.int .i64 py) := ⟨cell_of_blk KX11.out rfl, cell_of_blk KX11.out rfl⟩
        obtain ⟨b', hb'⟩ : ∃ z, z = w11.heap.size := ⟨_, rfl⟩
        obtain ⟨w12, hw12⟩ : ∃ z, z = w11.alloc (.cells #[.int .i64 px, .int .i64 py] 26) := ⟨_, rfl⟩
        have hb : Below w11.heap.size w11 w12 := by rw [hw12]; exact bal (Below.refl _ _) _
        have KX12 : Hid (w12.heap[b']? = some (.cells #[.int .i64 px, .int .i64 py] 26 (0, 0))) := Lib.hid (by rw [hw12, hb']; exact heap_alloc_new w11 _)
        have HO12 := Lib.hid (own_below' HO11.out hb)
        have KG12 : Hid (G5 w12 bG W H M B ao nb cb) := Lib.hid ((hb.block _ (by omega)).trans KG11.out)
        have KT12 : Hid (w12.heap[bt]? = some (.cells #[.int .i64 tx, .int .i64 ty] 26 (0, 0))) := Lib.hid ((hb.block _ (by omega)).trans KT11.out)
        have HT12 := Lib.hid (HT11.out.keep (hb.block _ HT11.out.lt))
        have HB12 : Hid (Below w.heap.size w w12) := Lib.hid (HB11.out.trans (hb.mono HB11.out.size))
        have hz12 : bo ≤ b' ∧ b' < w12.heap.size := by rw [hw12, hb']; simp; omega
        have HOB12 : Hid ((Value.slice (some ⟨g', 0, none⟩) (pre.length + 1) cap').ownBlock ≠ some b') := Lib.hid (fun e => by have := (HO11.out.lt _ e).2; omega)
        have HW12 := Lib.hid (And.intro hw12 hb')
        have HRT12 : Hid (rt F M B tx ty n2 px py d = some (l2, c2)) := Lib.hid (by have h := HR2.out; rw [HPX.out.1, HPX.out.2] at h; exact h)
        clear hb hw12 hb'
        go_wp2_with fail
        rw [← HW12.out.1]
        try rw [← HW12.out.2]
        go_roundg l2.length
        case measure => have h := congrArg List.length HL2.out; have h2 := HG.out; simp at h; omega
        case rel => exact ⟨px, py, d, c2, pre ++ [(px, py)], l2, n2, b', rfl, rfl, by simp [HW12.out.2], Lib.hid (Nat.le_refl _), HRT12, HPL11, HO12, HOB12, KX12, KG12, KT12, HT12, HB12, by omega, by omega, ⟨⟨by omega, by omega⟩, by omega, by omega⟩, ⟨by omega, by omega⟩, HOP.out⟩

end Go.Proofs.Ytkkcnhhfdicppaa
