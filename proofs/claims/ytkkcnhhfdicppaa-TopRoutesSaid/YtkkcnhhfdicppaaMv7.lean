import Derived.Test.YtkkcnhhfdicppaaMu7
namespace Lay
theorem mu_dup {P : Nat → Int} {j k : Nat} (hj : j < k) (hk : k < 4) (h : P k = P j) : muO P = false := by
  unfold muO
  rw [decide_eq_false_iff_not]
  rintro ⟨_, h1, h2, h3, h4, h5, h6⟩
  have : (j = 0 ∧ k = 1) ∨ (j = 0 ∧ k = 2) ∨ (j = 1 ∧ k = 2) ∨ (j = 0 ∧ k = 3) ∨ (j = 1 ∧ k = 3) ∨ (j = 2 ∧ k = 3) := by omega
  rcases this with ⟨rfl, rfl⟩ | ⟨rfl, rfl⟩ | ⟨rfl, rfl⟩ | ⟨rfl, rfl⟩ | ⟨rfl, rfl⟩ | ⟨rfl, rfl⟩
  · exact h1 h.symm
  · exact h2 h.symm
  · exact h3 h.symm
  · exact h4 h.symm
  · exact h5 h.symm
  · exact h6 h.symm
theorem mu_neg {P : Nat → Int} {k : Nat} (hk : k < 4) (h : P k < 0) : muO P = false := by
  unfold muO
  rw [decide_eq_false_iff_not]
  rintro ⟨⟨h0, h1, h2, h3⟩, _⟩
  have : k = 0 ∨ k = 1 ∨ k = 2 ∨ k = 3 := by omega
  rcases this with rfl | rfl | rfl | rfl <;> omega
theorem mu_all {P : Nat → Int} (h : ∀ a, a < 4 → 0 ≤ P a ∧ ∀ b, b < a → P a ≠ P b) : muO P = true := by
  unfold muO
  rw [decide_eq_true_eq]
  refine ⟨⟨(h 0 (by omega)).1, (h 1 (by omega)).1, (h 2 (by omega)).1, (h 3 (by omega)).1⟩, ?_, ?_, ?_, ?_, ?_, ?_⟩
  · exact fun e => (h 1 (by omega)).2 0 (by omega) e.symm
  · exact fun e => (h 2 (by omega)).2 0 (by omega) e.symm
  · exact fun e => (h 2 (by omega)).2 1 (by omega) e.symm
  · exact fun e => (h 3 (by omega)).2 0 (by omega) e.symm
  · exact fun e => (h 3 (by omega)).2 1 (by omega) e.symm
  · exact fun e => (h 3 (by omega)).2 2 (by omega) e.symm
end Lay
namespace Go.Proofs.Ytkkcnhhfdicppaa
open Go.RowKit Lay
set_option maxRecDepth 100000 in
set_option maxHeartbeats 4000000 in
theorem own_cap {w : World} {b N : Nat} {e : TypeId} {ao : Option Addr} {n cap : Nat} {xs : List Value} (h : w.ownsRow b e 1 (.slice ao n cap) N xs) : N ≤ cap := by
  obtain ⟨_, ⟨h1, hn⟩ | ⟨g, c2, cur, h1, hg, hb, hle, _, hs, ht⟩⟩ := h
  · omega
  · injection h1 with _ _ h3
    omega
set_option maxRecDepth 100000 in
set_option maxHeartbeats 4000000 in
theorem rMust_grid (W H M B : Int) (n cp : Nat) (ao : Option Addr) (XB YB X Y : Nat → Int) (w : World) (hn : n ≤ 9223372036854775807) (hc : XYs w ao n XB YB) (hv : vaG W H M B n XB YB = false) :
    Calls Try.prog 15 #[.agg #[.int .i64 W, .int .i64 H, .int .i64 M, .int .i64 B, .slice ao n cp], .agg #[.int .i64 (X 0), .int .i64 (Y 0)], .agg #[.int .i64 (X 1), .int .i64 (Y 1)], .agg #[.int .i64 (X 2), .int .i64 (Y 2)], .agg #[.int .i64 (X 3), .int .i64 (Y 3)]] w fun e w' => e = .returned (.tuple #[.bool false, .int .i64 70]) ∧ Below w.heap.size w w' := by
  have HC := Lib.hid hc
  have HV := Lib.hid hv
  clear hc hv
  go_enter Try.func15, Try.ntmps15
  go_wp2_with fail
  refine (rValid_any W H M B n cp ao XB YB _ hn (HC.out.keep (by go_grown))).mono ?_
  rw [HV.out]
  rintro e w1 ⟨rfl, hb⟩
  have HB1 : Hid (Below w.heap.size w w1) := Lib.hid (Below.trans (by go_grown) (hb.mono (by simp; omega)))
  clear hb
  go_wp2_with fail
  refine bodyPost_ret (v := .tuple #[.bool false, .int .i64 70]) (by simp [results, Try.results15, go_sem]) rfl ⟨rfl, HB1.out⟩
set_option maxRecDepth 100000 in
set_option maxHeartbeats 16000000 in
theorem rMust_ok (W H M B : Int) (n cp : Nat) (ao : Option Addr) (XB YB X Y P : Nat → Int) (w : World) (hc : XYs w ao n XB YB) (hv : vaG W H M B n XB YB = true) (hP : ∀ k, P k = riP W H (X k) (Y k)) (on ok : Bool) (hon : allOn W H X Y 4 = on) (hok : muO P = ok) :
    Calls Try.prog 15 #[.agg #[.int .i64 W, .int .i64 H, .int .i64 M, .int .i64 B, .slice ao n cp], .agg #[.int .i64 (X 0), .int .i64 (Y 0)], .agg #[.int .i64 (X 1), .int .i64 (Y 1)], .agg #[.int .i64 (X 2), .int .i64 (Y 2)], .agg #[.int .i64 (X 3), .int .i64 (Y 3)]] w fun e w' => e = .returned (.tuple #[.bool (muV on ok (muR P)), .int .i64 (muE on ok)]) ∧ Below w.heap.size w w' := by
  obtain ⟨i0, hi, hi0, hi1, hi2⟩ := info_parts int_info
  have HI := Lib.hid (And.intro hi (And.intro hi0 (And.intro hi1 hi2)))
  clear hi hi0 hi1 hi2
  have HPP := Lib.hid hP
  have HON := Lib.hid hon
  have HOK := Lib.hid hok
  have HC := Lib.hid hc
  have HV := Lib.hid hv
  obtain ⟨hnum, _⟩ := vaG_num hv
  clear hc hv hP hon hok
  go_enter Try.func15, Try.ntmps15
  go_wp2_with fail
  refine (rValid_any W H M B n cp ao XB YB _ (by omega) (HC.out.keep (by go_grown))).mono ?_
  rw [HV.out]
  rintro e w1 ⟨rfl, hb⟩
  obtain ⟨bG, hbG⟩ : ∃ b, b = w.heap.size := ⟨_, rfl⟩
  obtain ⟨bX0, hbX0⟩ : ∃ b, b = w.heap.size + 1 := ⟨_, rfl⟩
  obtain ⟨bX1, hbX1⟩ : ∃ b, b = w.heap.size + 1 + 1 := ⟨_, rfl⟩
  obtain ⟨bX2, hbX2⟩ : ∃ b, b = w.heap.size + 1 + 1 + 1 := ⟨_, rfl⟩
  obtain ⟨bX3, hbX3⟩ : ∃ b, b = w.heap.size + 1 + 1 + 1 + 1 := ⟨_, rfl⟩
  have hz1 : bX3 < w1.heap.size := by have h9 := hb.size; simp at h9; omega
  have KG1 : Hid (G5 w1 bG W H M B ao n cp) := Lib.hid ((hb.block _ (by simp; omega)).trans ((Below.heap_alloc _ _ _ (by simp; omega)).trans ((Below.heap_alloc _ _ _ (by simp; omega)).trans ((Below.heap_alloc _ _ _ (by simp; omega)).trans ((Below.heap_alloc _ _ _ (by simp; omega)).trans (by rw [hbG]; exact heap_alloc_new w _))))))
  have KX01 : Hid (w1.heap[bX0]? = some (.cells #[.int .i64 (X 0), .int .i64 (Y 0)] 26 (0, 0))) := Lib.hid ((hb.block _ (by simp; omega)).trans ((Below.heap_alloc _ _ _ (by simp; omega)).trans ((Below.heap_alloc _ _ _ (by simp; omega)).trans ((Below.heap_alloc _ _ _ (by simp; omega)).trans (by rw [hbX0]; have h := heap_alloc_new (w.alloc (.cells #[.int .i64 W, .int .i64 H, .int .i64 M, .int .i64 B, .slice ao n cp] 24)) (.cells #[.int .i64 (X 0), .int .i64 (Y 0)] 26); rwa [World.size_alloc] at h)))))
  have KX11 : Hid (w1.heap[bX1]? = some (.cells #[.int .i64 (X 1), .int .i64 (Y 1)] 26 (0, 0))) := Lib.hid ((hb.block _ (by simp; omega)).trans ((Below.heap_alloc _ _ _ (by simp; omega)).trans ((Below.heap_alloc _ _ _ (by simp; omega)).trans (by rw [hbX1]; have h := heap_alloc_new ((w.alloc (.cells #[.int .i64 W, .int .i64 H, .int .i64 M, .int .i64 B, .slice ao n cp] 24)).alloc (.cells #[.int .i64 (X 0), .int .i64 (Y 0)] 26)) (.cells #[.int .i64 (X 1), .int .i64 (Y 1)] 26); rwa [World.size_alloc, World.size_alloc] at h))))
  have KX21 : Hid (w1.heap[bX2]? = some (.cells #[.int .i64 (X 2), .int .i64 (Y 2)] 26 (0, 0))) := Lib.hid ((hb.block _ (by simp; omega)).trans ((Below.heap_alloc _ _ _ (by simp; omega)).trans (by rw [hbX2]; have h := heap_alloc_new (((w.alloc (.cells #[.int .i64 W, .int .i64 H, .int .i64 M, .int .i64 B, .slice ao n cp] 24)).alloc (.cells #[.int .i64 (X 0), .int .i64 (Y 0)] 26)).alloc (.cells #[.int .i64 (X 1), .int .i64 (Y 1)] 26)) (.cells #[.int .i64 (X 2), .int .i64 (Y 2)] 26); rwa [World.size_alloc, World.size_alloc, World.size_alloc] at h)))
  have KX31 : Hid (w1.heap[bX3]? = some (.cells #[.int .i64 (X 3), .int .i64 (Y 3)] 26 (0, 0))) := Lib.hid ((hb.block _ (by simp; omega)).trans (by rw [hbX3]; have h := heap_alloc_new ((((w.alloc (.cells #[.int .i64 W, .int .i64 H, .int .i64 M, .int .i64 B, .slice ao n cp] 24)).alloc (.cells #[.int .i64 (X 0), .int .i64 (Y 0)] 26)).alloc (.cells #[.int .i64 (X 1), .int .i64 (Y 1)] 26)).alloc (.cells #[.int .i64 (X 2), .int .i64 (Y 2)] 26)) (.cells #[.int .i64 (X 3), .int .i64 (Y 3)] 26); rwa [World.size_alloc, World.size_alloc, World.size_alloc, World.size_alloc] at h))
  have HB1 : Hid (Below w.heap.size w w1) := Lib.hid (Below.trans (by go_grown) (hb.mono (by simp; omega)))
  have hG0 : w.heap.size ≤ bG := by omega
  have h01 : bG < bX0 ∧ bX0 < bX1 ∧ bX1 < bX2 ∧ bX2 < bX3 := by omega
  have HXS := Lib.hid (And.intro hbG (And.intro hbX0 (And.intro hbX1 (And.intro hbX2 hbX3))))
  clear hb hbG hbX0 hbX1 hbX2 hbX3
  obtain ⟨g0, g1, g2, g3, g4⟩ := G5.c KG1.out
  go_upto_region 4 with fail
  try rw [← HXS.out.2.2.2.2]
  try rw [← HXS.out.2.2.2.1]
  try rw [← HXS.out.2.2.1]
  try rw [← HXS.out.2.1]
  try rw [← HXS.out.1]
  go_wp2_with fail
  refine (rRim_any W H M B n cp ao _ (by omega) (by omega) (by omega) (by omega)).mono ?_
  rintro e w3 ⟨vl, l, rfl, hrim, hl9, hown, hb⟩
  obtain ⟨al, cl, rfl, hx⟩ := own_xys hown rfl
  have HRIM := Lib.hid hrim
  have HXB : Hid (∀ b o, al = some ⟨b, o, none⟩ → 0 < l.length → b < w3.heap.size) := Lib.hid (fun b o e h => by
    obtain ⟨b', o', e', hc⟩ := hx h
    rw [e] at e'
    cases e'
    exact World.block_lt_of_cell? w3 _ (hc 0 h).1)
  have KG3 : Hid (G5 w3 bG W H M B ao n cp) := Lib.hid ((hb.block _ (by omega)).trans KG1.out)
  have HB3 : Hid (Below w.heap.size w w3) := Lib.hid (HB1.out.trans (hb.mono HB1.out.size))
  obtain ⟨bE, hbE⟩ : ∃ z, z = w3.heap.size := ⟨_, rfl⟩
  have hxE : bX3 < bE := by have := hb.size; omega
  obtain ⟨w4, hw4⟩ : ∃ z, z = w3.alloc (.cells #[.int .i64 (X 0), .int .i64 (Y 0), .int .i64 (X 1), .int .i64 (Y 1), .int .i64 (X 2), .int .i64 (Y 2), .int .i64 (X 3), .int .i64 (Y 3)] 26) := ⟨_, rfl⟩
  have hs4 : w4.heap.size = bE + 1 := by rw [hw4]; simp; omega
  have hc34 : Below w3.heap.size w3 w4 := by rw [hw4]; exact bal (Below.refl _ _) _
  have KE4 : Hid (w4.heap[bE]? = some (.cells #[.int .i64 (X 0), .int .i64 (Y 0), .int .i64 (X 1), .int .i64 (Y 1), .int .i64 (X 2), .int .i64 (Y 2), .int .i64 (X 3), .int .i64 (Y 3)] 26 (0, 0))) := Lib.hid (by rw [hw4, hbE]; exact heap_alloc_new w3 _)
  have KG4 : Hid (G5 w4 bG W H M B ao n cp) := Lib.hid ((hc34.block _ (by omega)).trans KG3.out)
  have HX4 := Lib.hid (hx.keep hc34)
  have HB4 : Hid (Below w.heap.size w w4) := Lib.hid (HB3.out.trans (hc34.mono (by omega)))
  obtain ⟨x00, x01, x10, x11, x20, x21, x30, x31⟩ : w3.cell? ⟨bX0, 0, none⟩ = some (.int .i64 (X 0)) ∧ w3.cell? ⟨bX0, 1, none⟩ = some (.int .i64 (Y 0)) ∧ w3.cell? ⟨bX1, 0, none⟩ = some (.int .i64 (X 1)) ∧ w3.cell? ⟨bX1, 1, none⟩ = some (.int .i64 (Y 1)) ∧ w3.cell? ⟨bX2, 0, none⟩ = some (.int .i64 (X 2)) ∧ w3.cell? ⟨bX2, 1, none⟩ = some (.int .i64 (Y 2)) ∧ w3.cell? ⟨bX3, 0, none⟩ = some (.int .i64 (X 3)) ∧ w3.cell? ⟨bX3, 1, none⟩ = some (.int .i64 (Y 3)) := ⟨cell_of_blk ((hb.block _ (by omega)).trans KX01.out) rfl, cell_of_blk ((hb.block _ (by omega)).trans KX01.out) rfl, cell_of_blk ((hb.block _ (by omega)).trans KX11.out) rfl, cell_of_blk ((hb.block _ (by omega)).trans KX11.out) rfl, cell_of_blk ((hb.block _ (by omega)).trans KX21.out) rfl, cell_of_blk ((hb.block _ (by omega)).trans KX21.out) rfl, cell_of_blk ((hb.block _ (by omega)).trans KX31.out) rfl, cell_of_blk ((hb.block _ (by omega)).trans KX31.out) rfl⟩
  have HW4 := Lib.hid hw4
  have HBE := Lib.hid hbE
  have HBE' := Lib.hid hbE
  clear hb hx hown hrim hw4 hbE hc34 KG1 KX01 KX11 KX21 KX31 HB1 HB3 KG3 HXS g0 g1 g2 g3 g4
  go_upto_region 6 with fail
  rw [← HBE.out, ← HW4.out]
  clear HBE HW4 x00 x01 x10 x11 x20 x21 x30 x31
  go_loopg [12, 35] 4 (fun gg v12 v35 wr => ∃ k : Nat, v35 = .int .i64 k ∧ k ≤ 4 ∧ Hid (4 - k ≤ gg) ∧ Hid (∀ j, j < k → onB W H (X j) (Y j) = true) ∧ Hid (wr.ownsRow (bE + 1) 3 1 v12 k (intC P k)) ∧ Hid (G5 wr bG W H M B ao n cp) ∧ Hid (wr.heap[bE]? = some (.cells #[.int .i64 (X 0), .int .i64 (Y 0), .int .i64 (X 1), .int .i64 (Y 1), .int .i64 (X 2), .int .i64 (Y 2), .int .i64 (X 3), .int .i64 (Y 3)] 26 (0, 0))) ∧ Hid (XYs wr al l.length (fun j => (l.getD j (0, 0)).1) (fun j => (l.getD j (0, 0)).2)) ∧ Hid (Below w.heap.size w wr) ∧ bE + 1 ≤ wr.heap.size)
  case atStart => exact ⟨0, rfl, by omega, Lib.hid (by omega), Lib.hid (fun j h => by omega), Lib.hid (World.ownsRow_nil _ _ _ _), KG4, KE4, HX4, HB4, by omega⟩
  case round =>
    clear KG4 KE4 HX4 HB4
    obtain ⟨k, rfl, hk, HG, HL, HO, KG, KE, HX, HB, hz⟩ := hrel
    by_cases hlt : k < 4
    case pos =>
      have HGG := HG
      clear HG
      obtain ⟨x, hx⟩ : ∃ z, X k = z := ⟨_, rfl⟩
      obtain ⟨y, hy⟩ : ∃ z, Y k = z := ⟨_, rfl⟩
      obtain ⟨e0, e1⟩ : wr.cell? ⟨bE, k * 2, none⟩ = some (.int .i64 x) ∧ wr.cell? ⟨bE, k * 2 + 1, none⟩ = some (.int .i64 y) := by
        rw [← hx, ← hy]
        have h4 : k = 0 ∨ k = 1 ∨ k = 2 ∨ k = 3 := by omega
        rcases h4 with rfl | rfl | rfl | rfl <;> exact ⟨cell_of_blk KE.out rfl, cell_of_blk KE.out rfl⟩
      have HXY := Lib.hid (And.intro hx hy)
      clear hx hy
      obtain ⟨wq, hwq⟩ : ∃ z, z = wr.alloc (.cells #[.int .i64 x, .int .i64 y] 26) := ⟨_, rfl⟩
      obtain ⟨bq, hbq⟩ : ∃ z, z = wr.heap.size := ⟨_, rfl⟩
      have hcq : Below wr.heap.size wr wq := by rw [hwq]; exact bal (Below.refl _ _) _
      have hsq : bq < wq.heap.size := by rw [hwq]; simp; omega
      have KQq : Hid (wq.heap[bq]? = some (.cells #[.int .i64 x, .int .i64 y] 26 (0, 0))) := Lib.hid (by rw [hwq, hbq]; exact heap_alloc_new wr _)
      have HOq := Lib.hid (own_below' HO.out hcq)
      have HXq := Lib.hid (HX.out.keep hcq)
      have HBq : Hid (Below w.heap.size w wq) := Lib.hid (HB.out.trans (hcq.mono (by omega)))
      have KGq : Hid (G5 wq bG W H M B ao n cp) := Lib.hid ((hcq.block _ (by omega)).trans KG.out)
      have KEq : Hid (wq.heap[bE]? = some (.cells #[.int .i64 (X 0), .int .i64 (Y 0), .int .i64 (X 1), .int .i64 (Y 1), .int .i64 (X 2), .int .i64 (Y 2), .int .i64 (X 3), .int .i64 (Y 3)] 26 (0, 0))) := Lib.hid ((hcq.block _ (by omega)).trans KE.out)
      have HWQ := Lib.hid hwq
      have HBQ := Lib.hid hbq
      have hbqB : bE + 1 ≤ bq := by omega
      clear hcq hwq hbq HO KG KE HB HX
      go_upto_region 8 with fail
      rw [← HBQ.out, ← HWQ.out]
      clear HWQ HBQ e0 e1 hz
      obtain ⟨g0, g1, g2, g3, g4⟩ := G5.c KGq.out
      obtain ⟨x0, x1⟩ : wq.cell? ⟨bq, 0, none⟩ = some (.int .i64 x) ∧ wq.cell? ⟨bq, 1, none⟩ = some (.int .i64 y) := ⟨cell_of_blk KQq.out rfl, cell_of_blk KQq.out rfl⟩
      go_wp2_with fail
      refine (rOn_any W H M B x y _ rfl _).mono ?_
      by_cases hxy : onB W H x y = true
      case neg =>
        have hxy' : onB W H x y = false := by simpa using hxy
        have HOFF : Hid (on = false) := Lib.hid (by rw [← HON.out]; exact allOn_stop (k := k) (by rw [HXY.out.1, HXY.out.2]; exact hxy') 4 hlt)
        rw [hxy']
        rintro e w5 ⟨rfl, hb⟩
        have HB5 : Hid (Below w.heap.size w w5) := Lib.hid (HBq.out.trans (hb.mono HBq.out.size))
        clear hb hxy hxy' g0 g1 g2 g3 g4 x0 x1
        go_wp2_with fail
        refine bodyPost_ret (v := .tuple #[.bool false, .int .i64 72]) (by simp [results, Try.results15, go_sem]) rfl ⟨by rw [HOFF.out]; rfl, HB5.out⟩
      rw [hxy]
      have h0 := onB_iff.1 hxy
      have HL' : Hid (∀ j, j < k + 1 → onB W H (X j) (Y j) = true) := Lib.hid (fun j hj => by
        by_cases e : j = k
        · rw [e, HXY.out.1, HXY.out.2]; exact hxy
        · exact HL.out j (by omega))
      rintro e w5 ⟨rfl, hb⟩
      have KQ5 : Hid (w5.heap[bq]? = some (.cells #[.int .i64 x, .int .i64 y] 26 (0, 0))) := Lib.hid ((hb.block _ (by omega)).trans KQq.out)
      have hs5 : bq < w5.heap.size := by have := hb.size; omega
      have KG5 : Hid (G5 w5 bG W H M B ao n cp) := Lib.hid ((hb.block _ (by omega)).trans KGq.out)
      have KE5 : Hid (w5.heap[bE]? = some (.cells #[.int .i64 (X 0), .int .i64 (Y 0), .int .i64 (X 1), .int .i64 (Y 1), .int .i64 (X 2), .int .i64 (Y 2), .int .i64 (X 3), .int .i64 (Y 3)] 26 (0, 0))) := Lib.hid ((hb.block _ (by omega)).trans KEq.out)
      have HX5 := Lib.hid (HXq.out.keep hb)
      have HO5 := Lib.hid (own_below' HOq.out hb)
      have HB5 : Hid (Below w.heap.size w w5) := Lib.hid (HBq.out.trans (hb.mono HBq.out.size))
      clear hb hxy g0 g1 g2 g3 g4 x0 x1 HL KGq KEq HOq HBq KQq HXq
      obtain ⟨x0, x1⟩ : w5.cell? ⟨bq, 0, none⟩ = some (.int .i64 x) ∧ w5.cell? ⟨bq, 1, none⟩ = some (.int .i64 y) := ⟨cell_of_blk KQ5.out rfl, cell_of_blk KQ5.out rfl⟩
      go_upto_region 10 with fail
      refine wp_region_lit ?_
      refine wpList_step (fun K hK => ?_); go_simp; refine hK _ _ ?_; clear hK K
      refine wpList_step (fun K hK => ?_); go_simp; refine hK _ _ ?_; clear hK K
      refine wpList_step (fun K hK => ?_); go_simp; refine hK _ _ ?_; clear hK K
      refine wpList_step (fun K hK => ?_); go_simp
      refine (rIndex_any x y l.length cl al _ _ _ (by omega) HX5.out).mono ?_
      rintro e_ w6 ⟨⟨r, rfl, hix⟩, hb⟩
      have hrp : r = P k := by rw [HPP.out, HXY.out.1, HXY.out.2]; exact rim_index HRIM.out h0 hix
      have KG6 : Hid (G5 w6 bG W H M B ao n cp) := Lib.hid ((hb.block _ (by omega)).trans KG5.out)
      have KE6 : Hid (w6.heap[bE]? = some (.cells #[.int .i64 (X 0), .int .i64 (Y 0), .int .i64 (X 1), .int .i64 (Y 1), .int .i64 (X 2), .int .i64 (Y 2), .int .i64 (X 3), .int .i64 (Y 3)] 26 (0, 0))) := Lib.hid ((hb.block _ (by omega)).trans KE5.out)
      have HX6 := Lib.hid (HX5.out.keep hb)
      have HO6 := Lib.hid (own_below' HO5.out hb)
      have HB6 : Hid (Below w.heap.size w w6) := Lib.hid (HB5.out.trans (hb.mono HB5.out.size))
      have hs6 : bq < w6.heap.size := by have := hb.size; omega
      have HRP := Lib.hid hrp
      clear hb hix hrp KG5 KE5 HO5 HB5 KQ5 HX5 x0 x1
      refine hK _ _ ?_; clear hK K
      refine wpList_step (fun K hK => ?_); go_simp; refine hK _ _ ?_; clear hK K
      have hNB : (w6.alloc (.cells #[.int .i64 r] 3)).heap[w6.heap.size]? = some (.cells #[.int .i64 r] 3 (0, 0)) := heap_alloc_new w6 _
      refine wpList_append_own _ rfl _ _ 34 rfl (bE + 1) 3 i0 _ 1 8 Try.underlying34 HI.out.1 HI.out.2.1 HI.out.2.2.1 HI.out.2.2.2 (by rfl) (by decide) u12 k (intC P k) (by rfl) (HO6.out.alloc _) ⟨w6.heap.size, 0, none⟩ 1 1 [.int .i64 r] (by rfl) rfl (fun j u hu => World.news_of_block (cs := #[.int .i64 r]) hNB j u hu) (by intro u hu; simp only [List.mem_cons, List.not_mem_nil, or_false] at hu; subst hu; rfl) (by unfold maxLen; omega) (by omega) (by simp; omega) ?_
      intro v' w9 hown' hgrow hnil
      have hlb := HO6.out.lt
      have hk9 : ∀ j, j < bE + 1 → w9.heap[j]? = w6.heap[j]? := fun j hj => (hgrow.block _ (by simp; omega) (fun e => by have := (hlb _ e.symm).1; omega)).trans (Below.heap_alloc _ _ _ (by omega))
      have HO9 : Hid (w9.ownsRow (bE + 1) 3 1 v' (k + 1) (intC P (k + 1))) := Lib.hid (by rw [intC_next, ← HRP.out]; exact hown')
      have HB9 : Hid (Below w.heap.size w w9) := Lib.hid ((HB6.out.alloc (by omega) _).grown hgrow (by simp; omega) (fun j hj => by have := (hlb j hj).1; omega))
      have hs9 : bE + 1 ≤ w9.heap.size := by have := hgrow.size; simp at this; omega
      have HX9 : Hid (XYs w9 al l.length (fun j => (l.getD j (0, 0)).1) (fun j => (l.getD j (0, 0)).2)) := Lib.hid (fun h => by
        obtain ⟨b, o, e1, hcell⟩ := HX6.out h
        have hbE : b < bE := by have := HXB.out b o e1 h; have := HBE'.out; omega
        exact ⟨b, o, e1, fun i hi => ⟨(World.cell?_of_block (hk9 _ (by simp only; omega))).trans (hcell i hi).1, (World.cell?_of_block (hk9 _ (by simp only; omega))).trans (hcell i hi).2⟩⟩)
      have KG9 : Hid (G5 w9 bG W H M B ao n cp) := Lib.hid ((hk9 _ (by omega)).trans KG6.out)
      have KE9 : Hid (w9.heap[bE]? = some (.cells #[.int .i64 (X 0), .int .i64 (Y 0), .int .i64 (X 1), .int .i64 (Y 1), .int .i64 (X 2), .int .i64 (Y 2), .int .i64 (X 3), .int .i64 (Y 3)] 26 (0, 0))) := Lib.hid ((hk9 _ (by omega)).trans KE6.out)
      clear hown' hgrow hnil hlb hk9 hNB HO6 HB6 KG6 KE6 HX6
      refine wpList_step (fun K hK => ?_); go_simp; refine hK _ _ ?_; clear hK K
      refine wpList_nil ?_
      go_wp2_with fail
      go_roundg (4 - (k + 1))
      case measure => have := HGG.out; omega
      case rel => exact ⟨k + 1, by go_num, by omega, Lib.hid (Nat.le_refl _), HL', HO9, KG9, KE9, HX9, HB9, hs9⟩
    obtain rfl : k = 4 := by omega
    have HON1 : Hid (on = true) := Lib.hid (by
      rw [← HON.out]
      simp only [allOn, HL.out 0 (by omega), HL.out 1 (by omega), HL.out 2 (by omega), HL.out 3 (by omega)]
      rfl)
    have hown := HO.out
    rw [show intC P 4 = intsL [P 0, P 1, P 2, P 3] from rfl] at hown
    obtain ⟨g, cg, rfl, hg0, hgl, q0, q1, q2, q3⟩ := own_ints4 hown
    obtain ⟨hcg, _⟩ : 4 ≤ cg ∧ True := ⟨own_cap hown, trivial⟩
    have HQ : Hid (∀ j, j < 4 → wr.cell? ⟨g, j, none⟩ = some (.int .i64 (P j))) := Lib.hid (fun j hj => by
      have : j = 0 ∨ j = 1 ∨ j = 2 ∨ j = 3 := by omega
      rcases this with rfl | rfl | rfl | rfl
      · exact q0
      · exact q1
      · exact q2
      · exact q3)
    clear hown HO HL KG KE HX HG q0 q1 q2 q3
    obtain ⟨wo, hwo⟩ : ∃ z, z = wr := ⟨wr, rfl⟩
    subst hwo
    go_wp2_with fail
    go_loopg [52] 4 (fun gg v52 wr => ∃ k : Nat, v52 = .int .i64 k ∧ k ≤ 4 ∧ Hid (4 - k ≤ gg) ∧ Hid (∀ a, a < k → 0 ≤ P a ∧ ∀ b, b < a → P a ≠ P b) ∧ wr = wo)
    case atStart => exact ⟨0, rfl, by omega, Lib.hid (by omega), Lib.hid (fun j h => by omega), rfl⟩
    case round =>
      obtain ⟨k, rfl, hk, HG, HD, hwo⟩ := hrel
      subst hwo
      by_cases hlt : k < 4
      case pos =>
        have HGG := HG
        have hqk := HQ.out k hlt
        obtain ⟨pk, hpk⟩ : ∃ z, P k = z := ⟨_, rfl⟩
        rw [hpk] at hqk
        have HPK := Lib.hid hpk
        clear HG hpk
        obtain ⟨wp, hwp⟩ : ∃ z, z = wr := ⟨wr, rfl⟩
        subst hwp
        go_wp2_with fail
        go_loopg [61] k (fun gg v61 wx => ∃ j : Nat, v61 = .int .i64 j ∧ j ≤ k ∧ Hid (k - j ≤ gg) ∧ Hid (∀ b, b < j → P k ≠ P b) ∧ wx = wp)
        case atStart => exact ⟨0, rfl, by omega, Lib.hid (by omega), Lib.hid (fun j h => by omega), rfl⟩
        case round =>
          obtain ⟨j, rfl, hj, HG2, HE, hwx⟩ := hrel
          subst hwx
          by_cases hlj : j < k
          case pos =>
            have HGH := HG2
            have hqj := HQ.out j (by omega)
            obtain ⟨pj, hpj⟩ : ∃ z, P j = z := ⟨_, rfl⟩
            rw [hpj] at hqj
            by_cases he : pk = pj
            case pos =>
              have HR : Hid (muV on ok (muR P) = false ∧ muE on ok = 2) := Lib.hid (by
                rw [HON1.out, ← HOK.out, mu_dup hlj hlt (by rw [HPK.out, hpj, he])]; exact ⟨rfl, rfl⟩)
              clear hpj HG2
              go_wp2_with fail
              refine bodyPost_ret (v := .tuple #[.bool false, .int .i64 2]) (by simp [results, Try.results15, go_sem]) rfl ⟨by rw [HR.out.1, HR.out.2], HB.out⟩
            case neg =>
              have HE' : Hid (∀ b, b < j + 1 → P k ≠ P b) := Lib.hid (fun b hb => by
                by_cases e : b = j
                · rw [e, HPK.out, hpj]; exact he
                · exact HE.out b (by omega))
              clear hpj HG2
              go_wp2_with fail
              go_roundg (k - (j + 1))
              case measure => have := HGH.out; omega
              case rel => exact ⟨j + 1, by go_num, by omega, Lib.hid (Nat.le_refl _), HE', rfl⟩
          obtain rfl : j = k := by omega
          clear HG2
          by_cases hn : pk < 0
          case pos =>
            have HR : Hid (muV on ok (muR P) = false ∧ muE on ok = 2) := Lib.hid (by
              rw [HON1.out, ← HOK.out, mu_neg hlt (by rw [HPK.out]; exact hn)]; exact ⟨rfl, rfl⟩)
            go_wp2_with fail
            refine bodyPost_ret (v := .tuple #[.bool false, .int .i64 2]) (by simp [results, Try.results15, go_sem]) rfl ⟨by rw [HR.out.1, HR.out.2], HB.out⟩
          case neg =>
            have HD' : Hid (∀ a, a < j + 1 → 0 ≤ P a ∧ ∀ b, b < a → P a ≠ P b) := Lib.hid (fun a ha => by
              by_cases e : a = j
              · subst e; exact ⟨by rw [HPK.out]; omega, fun b hb => HE.out b hb⟩
              · exact HD.out a (by omega))
            go_wp2_with fail
            go_roundg (4 - (j + 1))
            case measure => have := HGG.out; omega
            case rel => exact ⟨j + 1, by go_num, by omega, Lib.hid (Nat.le_refl _), HD', rfl⟩
      obtain rfl : k = 4 := by omega
      have HR : Hid (muV on ok (muR P) = muR P ∧ muE on ok = 0) := Lib.hid (by
        rw [HON1.out, ← HOK.out, mu_all HD.out]; exact ⟨rfl, rfl⟩)
      have q0 := HQ.out 0 (by omega)
      have q1 := HQ.out 1 (by omega)
      have q2 := HQ.out 2 (by omega)
      have q3 := HQ.out 3 (by omega)
      obtain ⟨p0, hp0⟩ : ∃ z, P 0 = z := ⟨_, rfl⟩
      obtain ⟨p1, hp1⟩ : ∃ z, P 1 = z := ⟨_, rfl⟩
      obtain ⟨p2, hp2⟩ : ∃ z, P 2 = z := ⟨_, rfl⟩
      obtain ⟨p3, hp3⟩ : ∃ z, P 3 = z := ⟨_, rfl⟩
      rw [hp0] at q0
      rw [hp1] at q1
      rw [hp2] at q2
      rw [hp3] at q3
      have HPV := Lib.hid (And.intro hp0 (And.intro hp1 (And.intro hp2 hp3)))
      obtain ⟨lo, hlo⟩ : ∃ z, (if p1 < p0 then p1 else p0) = z := ⟨_, rfl⟩
      obtain ⟨hi, hhi⟩ : ∃ z, (if p0 < p1 then p1 else p0) = z := ⟨_, rfl⟩
      have HMM : Hid (min p0 p1 = lo ∧ max p0 p1 = hi) := Lib.hid (by rw [← hlo, ← hhi]; constructor <;> split <;> omega)
      have HLH := Lib.hid (And.intro hlo hhi)
      clear hlo hhi hp0 hp1 hp2 hp3 HG HD
      obtain ⟨wp, hwp⟩ : ∃ z, z = wr := ⟨wr, rfl⟩
      subst hwp
      go_upto_region 24 with fail
      go_cut [20, 21] (fun v20 v21 wx => v20 = .int .i64 lo ∧ v21 = .int .i64 hi ∧ Below wp.heap.size wp wx)
      case first =>
        have G0 : Hid (∀ w' : World, Below wp.heap.size wp w' → w'.cell? ⟨g, 0, none⟩ = some (.int .i64 p0) ∧ w'.cell? ⟨g, 1, none⟩ = some (.int .i64 p1)) := Lib.hid (fun w' hb => ⟨(World.cell?_of_block (hb.block _ hgl)).trans q0, (World.cell?_of_block (hb.block _ hgl)).trans q1⟩)
        have D0 : Below wp.heap.size wp wp.drew := (Below.refl _ _).drew
        refine wp_region_held_drew (S := fun w' => w'.cell? ⟨g, 0, none⟩ = some (.int .i64 p0) ∧ w'.cell? ⟨g, 1, none⟩ = some (.int .i64 p1)) (by kernel_rfl) (G0.out _ D0) (fun hHeld => ?_)
        refine wpAnyH_take (i := 0) (oi := _) (v := ?_) rfl (by kernel_rfl) (by kernel_rfl) (by kernel_rfl) (fun _ _ _ h => h) (Or.inl ⟨by rfl, ?_⟩) (by assumption) ?_
        rotate_left
        · intro w hSw; obtain ⟨s0, s1⟩ := hSw; go_simp; (try with_reducible rfl)
        try change wpAnyH _ _ _ _ _ _ _ (Act.put _ (some 72) _) _
        try simp only [act_all]
        refine wpAnyH_take (i := 1) (oi := _) (v := ?_) rfl (by kernel_rfl) (by kernel_rfl) (by kernel_rfl) (fun _ _ _ h => h) (Or.inl ⟨by rfl, ?_⟩) (by assumption) ?_
        rotate_left
        · intro w hSw; obtain ⟨s0, s1⟩ := hSw; go_simp; (try with_reducible rfl)
        try change wpAnyH _ _ _ _ _ _ _ (Act.put _ (some 73) _) _
        try simp only [act_all]
        refine wpAnyH_take (i := 2) (oi := _) (v := ?_) rfl (by kernel_rfl) (by kernel_rfl) (by kernel_rfl) (fun _ _ _ h => h) (Or.inl ⟨by rfl, ?_⟩) (by assumption) ?_
        rotate_left
        · intro w hSw; obtain ⟨s0, s1⟩ := hSw; go_simp; (try with_reducible rfl)
        try change wpAnyH _ _ _ _ _ _ _ (Act.put _ (some 74) _) _
        try simp only [act_all]
        refine wpAnyH_take (i := 3) (oi := _) (v := ?_) rfl (by kernel_rfl) (by kernel_rfl) (by kernel_rfl) (fun _ _ _ h => h) (Or.inl ⟨by rfl, ?_⟩) (by assumption) ?_
        rotate_left
        · intro w hSw; obtain ⟨s0, s1⟩ := hSw; go_simp; (try with_reducible rfl)
        try change wpAnyH _ _ _ _ _ _ _ (Act.put _ (some 75) _) _
        try simp only [act_all]
        refine wpAnyH_take (i := 4) (oi := _) (v := ?_) rfl (by kernel_rfl) (by kernel_rfl) (by kernel_rfl) (fun _ _ _ h => h) (Or.inl ⟨by rfl, ?_⟩) (by assumption) ?_
        rotate_left
        · intro w hSw; obtain ⟨s0, s1⟩ := hSw; go_simp; (try with_reducible rfl)
        try change wpAnyH _ _ _ _ _ _ _ (Act.put _ (some 76) _) _
        try simp only [act_all]
        refine wpAnyH_take (i := 5) (oi := _) (v := ?_) rfl (by kernel_rfl) (by kernel_rfl) (by kernel_rfl) (fun _ _ _ h => h) (Or.inl ⟨by rfl, ?_⟩) (by assumption) ?_
        rotate_left
        · intro w hSw; obtain ⟨s0, s1⟩ := hSw; go_simp; (try with_reducible rfl)
        try change wpAnyH _ _ _ _ _ _ _ (Act.put _ (some 77) _) _
        try simp only [act_all]
        refine wpAnyH_take (i := 6) (oi := _) (v := ?_) rfl (by kernel_rfl) (by kernel_rfl) (by kernel_rfl) (fun _ _ _ h => h) (Or.inl ⟨by rfl, ?_⟩) (by assumption) ?_
        rotate_left
        · intro w hSw; obtain ⟨s0, s1⟩ := hSw; go_simp; (try with_reducible rfl)
        try change wpAnyH _ _ _ _ _ _ _ (Act.put _ (some 78) _) _
        try simp only [act_all]
        rw [HLH.out.1]
        refine wpAnyH_take (i := 7) (oi := _) (v := ?_) rfl (by kernel_rfl) (by kernel_rfl) (by kernel_rfl) (fun _ _ _ h => h) (Or.inl ⟨by rfl, ?_⟩) (by assumption) ?_
        rotate_left
        · intro w hSw; obtain ⟨s0, s1⟩ := hSw; go_simp; (try with_reducible rfl)
        try change wpAnyH _ _ _ _ _ _ _ (Act.put _ (some 79) _) _
        try simp only [act_all]
        refine wpAnyH_take (i := 8) (oi := _) (v := ?_) rfl (by kernel_rfl) (by kernel_rfl) (by kernel_rfl) (fun _ _ _ h => h) (Or.inl ⟨by rfl, ?_⟩) (by assumption) ?_
        rotate_left
        · intro w hSw; obtain ⟨s0, s1⟩ := hSw; go_simp; (try with_reducible rfl)
        try change wpAnyH _ _ _ _ _ _ _ (Act.put _ (some 80) _) _
        try simp only [act_all]
        refine wpAnyH_take (i := 9) (oi := _) (v := ?_) rfl (by kernel_rfl) (by kernel_rfl) (by kernel_rfl) (fun _ _ _ h => h) (Or.inl ⟨by rfl, ?_⟩) (by assumption) ?_
        rotate_left
        · intro w hSw; obtain ⟨s0, s1⟩ := hSw; go_simp; (try with_reducible rfl)
        try change wpAnyH _ _ _ _ _ _ _ (Act.put _ (some 81) _) _
        try simp only [act_all]
        refine wpAnyH_take (i := 10) (oi := _) (v := ?_) rfl (by kernel_rfl) (by kernel_rfl) (by kernel_rfl) (fun _ _ _ h => h) (Or.inl ⟨by rfl, ?_⟩) (by assumption) ?_
        rotate_left
        · intro w hSw; obtain ⟨s0, s1⟩ := hSw; go_simp; (try with_reducible rfl)
        try change wpAnyH _ _ _ _ _ _ _ (Act.put _ (some 82) _) _
        try simp only [act_all]
        refine wpAnyH_take (i := 11) (oi := _) (v := ?_) rfl (by kernel_rfl) (by kernel_rfl) (by kernel_rfl) (fun _ _ _ h => h) (Or.inl ⟨by rfl, ?_⟩) (by assumption) ?_
        rotate_left
        · intro w hSw; obtain ⟨s0, s1⟩ := hSw; go_simp; (try with_reducible rfl)
        try change wpAnyH _ _ _ _ _ _ _ (Act.put _ (some 83) _) _
        try simp only [act_all]
        refine wpAnyH_take (i := 12) (oi := _) (v := ?_) rfl (by kernel_rfl) (by kernel_rfl) (by kernel_rfl) (fun _ _ _ h => h) (Or.inl ⟨by rfl, ?_⟩) (by assumption) ?_
        rotate_left
        · intro w hSw; obtain ⟨s0, s1⟩ := hSw; go_simp; (try with_reducible rfl)
        try change wpAnyH _ _ _ _ _ _ _ (Act.put _ (some 84) _) _
        try simp only [act_all]
        refine wpAnyH_take (i := 13) (oi := _) (v := ?_) rfl (by kernel_rfl) (by kernel_rfl) (by kernel_rfl) (fun _ _ _ h => h) (Or.inl ⟨by rfl, ?_⟩) (by assumption) ?_
        rotate_left
        · intro w hSw; obtain ⟨s0, s1⟩ := hSw; go_simp; (try with_reducible rfl)
        try change wpAnyH _ _ _ _ _ _ _ (Act.put _ (some 85) _) _
        try simp only [act_all]
        rw [HLH.out.2]
        refine wpAnyH_take (i := 14) (oi := _) (v := ?_) rfl (by kernel_rfl) (by kernel_rfl) (by kernel_rfl) (fun _ _ _ h => h) (Or.inl ⟨by rfl, ?_⟩) (by assumption) ?_
        rotate_left
        · intro w hSw; obtain ⟨s0, s1⟩ := hSw; go_simp; (try with_reducible rfl)
        try change wpAnyH _ _ _ _ _ _ _ (Act.put _ (some 20) _) _
        try simp only [act_all]
        refine wpAnyH_take (i := 15) (oi := _) (v := ?_) rfl (by kernel_rfl) (by kernel_rfl) (by kernel_rfl) (fun _ _ _ h => h) (Or.inl ⟨by rfl, ?_⟩) (by assumption) ?_
        rotate_left
        · intro w hSw; obtain ⟨s0, s1⟩ := hSw; go_simp; (try with_reducible rfl)
        try change wpAnyH _ _ _ _ _ _ _ (Act.put _ (some 21) _) _
        try simp only [act_all]
        refine wpAnyH_done (by kernel_rfl) ?_ _
        clear hHeld
        go_wp2_with fail
        go_meet
        exact ⟨rfl, rfl, D0⟩
      case rest =>
      obtain ⟨rfl, rfl, hbx⟩ := hcut
      obtain ⟨C, hC⟩ : ∃ z, z = wc := ⟨wc, rfl⟩
      subst hC
      have HBC : Hid (Below w.heap.size w C) := Lib.hid (HB.out.trans (hbx.mono HB.out.size))
      have c2 : C.cell? ⟨g, 2, none⟩ = some (.int .i64 p2) := (World.cell?_of_block (hbx.block _ hgl)).trans q2
      have c3 : C.cell? ⟨g, 3, none⟩ = some (.int .i64 p3) := (World.cell?_of_block (hbx.block _ hgl)).trans q3
      clear hbx q0 q1 q2 q3 hgl HB HQ
      have HF : Hid (muR P = (btw lo hi p2 != btw lo hi p3)) := Lib.hid (by unfold muR; rw [HPV.out.1, HPV.out.2.1, HPV.out.2.2.1, HPV.out.2.2.2, HMM.out.1, HMM.out.2])
      clear HLH HMM HPV HPP
      by_cases k2 : lo < p2 <;> by_cases k3 : lo < p3
      all_goals
        by_cases j2 : p2 < hi <;> by_cases j3 : p3 < hi
        all_goals
          have HBT : Hid ((btw lo hi p2 != btw lo hi p3) = ((decide (lo < p2) && decide (p2 < hi)) != (decide (lo < p3) && decide (p3 < hi)))) := Lib.hid rfl
          go_upto_region 25 with fail
          go_quiet (fail)
          have HZ : Hid (Below w.heap.size w (C.drewN nq)) := Lib.hid (drewN_below HBC.out)
          go_wp2_with fail
          refine bodyPost_ret (v := .tuple #[.bool ((decide (lo < p2) && decide (p2 < hi)) != (decide (lo < p3) && decide (p3 < hi))), .int .i64 0]) (by simp [results, Try.results15, go_sem, k2, k3, j2, j3]; try (first | omega | (by_cases a1 : lo < p2 <;> by_cases a2 : p2 < hi <;> by_cases a3 : lo < p3 <;> by_cases a4 : p3 < hi <;> first | (simp [a1, a2, a3, a4]; done) | omega))) rfl ⟨by rw [HR.out.1, HR.out.2, HF.out, HBT.out], HZ.out⟩
end Go.Proofs.Ytkkcnhhfdicppaa
