import Derived.Test.YtkkcnhhfdicppaaMv7
namespace Lay
def eX (a b c d : Int) (k : Nat) : Int := match k with | 0 => a | 1 => b | 2 => c | _ => d
end Lay
namespace Go.Proofs.Ytkkcnhhfdicppaa
open Go.RowKit Lay
set_option maxRecDepth 100000 in
set_option maxHeartbeats 16000000 in
theorem rims_law (W H M B ax ay bx by_ cx cy dx dy : Int) (n cp : Nat) (ao : Option Addr) (w : World) (k e : Int) (b : Bool) (me : Int) (mb : Bool)
    (hR : ∀ w1, Below w.heap.size w w1 → Calls Try.prog 12 #[.agg #[.int .i64 W, .int .i64 H, .int .i64 M, .int .i64 B, .slice ao n cp], .agg #[.int .i64 ax, .int .i64 ay]] w1 fun e_ w' => e_ = .returned (.tuple #[.int .i64 k, .bool b, .int .i64 e]) ∧ Below w1.heap.size w1 w')
    (hS : ∀ w1, Below w.heap.size w w1 → Calls Try.prog 13 #[.agg #[.int .i64 W, .int .i64 H, .int .i64 M, .int .i64 B, .slice ao n cp], .agg #[.int .i64 ax, .int .i64 ay]] w1 fun e_ w' => e_ = .returned (.tuple #[.int .i64 k, .bool b, .int .i64 e]) ∧ Below w1.heap.size w1 w')
    (hM : ∀ w1, Below w.heap.size w w1 → Calls Try.prog 14 #[.agg #[.int .i64 W, .int .i64 H, .int .i64 M, .int .i64 B, .slice ao n cp], .agg #[.int .i64 ax, .int .i64 ay], .agg #[.int .i64 bx, .int .i64 by_], .agg #[.int .i64 cx, .int .i64 cy], .agg #[.int .i64 dx, .int .i64 dy]] w1 fun e_ w' => e_ = .returned (.tuple #[.bool mb, .int .i64 me]) ∧ Below w1.heap.size w1 w')
    (hN : ∀ w1, Below w.heap.size w w1 → Calls Try.prog 15 #[.agg #[.int .i64 W, .int .i64 H, .int .i64 M, .int .i64 B, .slice ao n cp], .agg #[.int .i64 ax, .int .i64 ay], .agg #[.int .i64 bx, .int .i64 by_], .agg #[.int .i64 cx, .int .i64 cy], .agg #[.int .i64 dx, .int .i64 dy]] w1 fun e_ w' => e_ = .returned (.tuple #[.bool mb, .int .i64 me]) ∧ Below w1.heap.size w1 w') :
    Calls Try.prog 3 #[.agg #[.int .i64 W, .int .i64 H, .int .i64 M, .int .i64 B, .slice ao n cp], .agg #[.int .i64 ax, .int .i64 ay], .agg #[.int .i64 bx, .int .i64 by_], .agg #[.int .i64 cx, .int .i64 cy], .agg #[.int .i64 dx, .int .i64 dy]] w fun e w' => e = .returned (.bool true) ∧ Below w.heap.size w w' := by
  have HR := Lib.hid hR
  have HS := Lib.hid hS
  have HM := Lib.hid hM
  have HN := Lib.hid hN
  clear hR hS hM hN
  go_enter Try.func3, Try.ntmps3
  go_wp2_with fail
  refine (HR.out _ (by go_grown)).mono ?_
  rintro e w1 ⟨rfl, hb⟩
  obtain ⟨bG, hbG⟩ : ∃ b, b = w.heap.size := ⟨_, rfl⟩
  obtain ⟨bX0, hbX0⟩ : ∃ b, b = w.heap.size + 1 := ⟨_, rfl⟩
  obtain ⟨bX1, hbX1⟩ : ∃ b, b = w.heap.size + 1 + 1 := ⟨_, rfl⟩
  obtain ⟨bX2, hbX2⟩ : ∃ b, b = w.heap.size + 1 + 1 + 1 := ⟨_, rfl⟩
  obtain ⟨bX3, hbX3⟩ : ∃ b, b = w.heap.size + 1 + 1 + 1 + 1 := ⟨_, rfl⟩
  have hz1 : bX3 < w1.heap.size := by have h9 := hb.size; simp at h9; omega
  have KG1 : Hid (G5 w1 bG W H M B ao n cp) := Lib.hid ((hb.block _ (by simp; omega)).trans ((Below.heap_alloc _ _ _ (by simp; omega)).trans ((Below.heap_alloc _ _ _ (by simp; omega)).trans ((Below.heap_alloc _ _ _ (by simp; omega)).trans ((Below.heap_alloc _ _ _ (by simp; omega)).trans (by rw [hbG]; exact heap_alloc_new w _))))))
  have KX01 : Hid (w1.heap[bX0]? = some (.cells #[.int .i64 ax, .int .i64 ay] 26 (0, 0))) := Lib.hid ((hb.block _ (by simp; omega)).trans ((Below.heap_alloc _ _ _ (by simp; omega)).trans ((Below.heap_alloc _ _ _ (by simp; omega)).trans ((Below.heap_alloc _ _ _ (by simp; omega)).trans (by rw [hbX0]; have h := heap_alloc_new (w.alloc (.cells #[.int .i64 W, .int .i64 H, .int .i64 M, .int .i64 B, .slice ao n cp] 24)) (.cells #[.int .i64 ax, .int .i64 ay] 26); rwa [World.size_alloc] at h)))))
  have KX11 : Hid (w1.heap[bX1]? = some (.cells #[.int .i64 bx, .int .i64 by_] 26 (0, 0))) := Lib.hid ((hb.block _ (by simp; omega)).trans ((Below.heap_alloc _ _ _ (by simp; omega)).trans ((Below.heap_alloc _ _ _ (by simp; omega)).trans (by rw [hbX1]; have h := heap_alloc_new ((w.alloc (.cells #[.int .i64 W, .int .i64 H, .int .i64 M, .int .i64 B, .slice ao n cp] 24)).alloc (.cells #[.int .i64 ax, .int .i64 ay] 26)) (.cells #[.int .i64 bx, .int .i64 by_] 26); rwa [World.size_alloc, World.size_alloc] at h))))
  have KX21 : Hid (w1.heap[bX2]? = some (.cells #[.int .i64 cx, .int .i64 cy] 26 (0, 0))) := Lib.hid ((hb.block _ (by simp; omega)).trans ((Below.heap_alloc _ _ _ (by simp; omega)).trans (by rw [hbX2]; have h := heap_alloc_new (((w.alloc (.cells #[.int .i64 W, .int .i64 H, .int .i64 M, .int .i64 B, .slice ao n cp] 24)).alloc (.cells #[.int .i64 ax, .int .i64 ay] 26)).alloc (.cells #[.int .i64 bx, .int .i64 by_] 26)) (.cells #[.int .i64 cx, .int .i64 cy] 26); rwa [World.size_alloc, World.size_alloc, World.size_alloc] at h)))
  have KX31 : Hid (w1.heap[bX3]? = some (.cells #[.int .i64 dx, .int .i64 dy] 26 (0, 0))) := Lib.hid ((hb.block _ (by simp; omega)).trans (by rw [hbX3]; have h := heap_alloc_new ((((w.alloc (.cells #[.int .i64 W, .int .i64 H, .int .i64 M, .int .i64 B, .slice ao n cp] 24)).alloc (.cells #[.int .i64 ax, .int .i64 ay] 26)).alloc (.cells #[.int .i64 bx, .int .i64 by_] 26)).alloc (.cells #[.int .i64 cx, .int .i64 cy] 26)) (.cells #[.int .i64 dx, .int .i64 dy] 26); rwa [World.size_alloc, World.size_alloc, World.size_alloc, World.size_alloc] at h))
  have HB1 : Hid (Below w.heap.size w w1) := Lib.hid (Below.trans (by go_grown) (hb.mono (by simp; omega)))
  have hG0 : w.heap.size ≤ bG := by omega
  have h01 : bG < bX0 ∧ bX0 < bX1 ∧ bX1 < bX2 ∧ bX2 < bX3 := by omega
  have HXS := Lib.hid (And.intro hbG (And.intro hbX0 (And.intro hbX1 (And.intro hbX2 hbX3))))
  clear hb hbG hbX0 hbX1 hbX2 hbX3
  obtain ⟨g0, g1, g2, g3, g4⟩ := G5.c KG1.out
  obtain ⟨x00, x01, x10, x11, x20, x21, x30, x31⟩ : w1.cell? ⟨bX0, 0, none⟩ = some (.int .i64 ax) ∧ w1.cell? ⟨bX0, 1, none⟩ = some (.int .i64 ay) ∧ w1.cell? ⟨bX1, 0, none⟩ = some (.int .i64 bx) ∧ w1.cell? ⟨bX1, 1, none⟩ = some (.int .i64 by_) ∧ w1.cell? ⟨bX2, 0, none⟩ = some (.int .i64 cx) ∧ w1.cell? ⟨bX2, 1, none⟩ = some (.int .i64 cy) ∧ w1.cell? ⟨bX3, 0, none⟩ = some (.int .i64 dx) ∧ w1.cell? ⟨bX3, 1, none⟩ = some (.int .i64 dy) := ⟨cell_of_blk KX01.out rfl, cell_of_blk KX01.out rfl, cell_of_blk KX11.out rfl, cell_of_blk KX11.out rfl, cell_of_blk KX21.out rfl, cell_of_blk KX21.out rfl, cell_of_blk KX31.out rfl, cell_of_blk KX31.out rfl⟩
  go_upto_region 2 with fail
  try rw [← HXS.out.2.2.2.2]
  try rw [← HXS.out.2.2.2.1]
  try rw [← HXS.out.2.2.1]
  try rw [← HXS.out.2.1]
  try rw [← HXS.out.1]
  clear HXS
  go_wp2_with fail
  refine (HS.out _ HB1.out).mono ?_
  rintro e w2 ⟨rfl, hb⟩
  have KG2 : Hid (G5 w2 bG W H M B ao n cp) := Lib.hid ((hb.block _ (by omega)).trans KG1.out)
  have KX02 : Hid (w2.heap[bX0]? = some (.cells #[.int .i64 ax, .int .i64 ay] 26 (0, 0))) := Lib.hid ((hb.block _ (by omega)).trans KX01.out)
  have KX12 : Hid (w2.heap[bX1]? = some (.cells #[.int .i64 bx, .int .i64 by_] 26 (0, 0))) := Lib.hid ((hb.block _ (by omega)).trans KX11.out)
  have KX22 : Hid (w2.heap[bX2]? = some (.cells #[.int .i64 cx, .int .i64 cy] 26 (0, 0))) := Lib.hid ((hb.block _ (by omega)).trans KX21.out)
  have KX32 : Hid (w2.heap[bX3]? = some (.cells #[.int .i64 dx, .int .i64 dy] 26 (0, 0))) := Lib.hid ((hb.block _ (by omega)).trans KX31.out)
  have HB2 : Hid (Below w.heap.size w w2) := Lib.hid (HB1.out.trans (hb.mono HB1.out.size))
  have hz2 : bX3 < w2.heap.size := by have := hb.size; omega
  clear hb g0 g1 g2 g3 g4 x00 x01 x10 x11 x20 x21 x30 x31 KG1 KX01 KX11 KX21 KX31 HB1
  obtain ⟨g0, g1, g2, g3, g4⟩ := G5.c KG2.out
  obtain ⟨x00, x01, x10, x11, x20, x21, x30, x31⟩ : w2.cell? ⟨bX0, 0, none⟩ = some (.int .i64 ax) ∧ w2.cell? ⟨bX0, 1, none⟩ = some (.int .i64 ay) ∧ w2.cell? ⟨bX1, 0, none⟩ = some (.int .i64 bx) ∧ w2.cell? ⟨bX1, 1, none⟩ = some (.int .i64 by_) ∧ w2.cell? ⟨bX2, 0, none⟩ = some (.int .i64 cx) ∧ w2.cell? ⟨bX2, 1, none⟩ = some (.int .i64 cy) ∧ w2.cell? ⟨bX3, 0, none⟩ = some (.int .i64 dx) ∧ w2.cell? ⟨bX3, 1, none⟩ = some (.int .i64 dy) := ⟨cell_of_blk KX02.out rfl, cell_of_blk KX02.out rfl, cell_of_blk KX12.out rfl, cell_of_blk KX12.out rfl, cell_of_blk KX22.out rfl, cell_of_blk KX22.out rfl, cell_of_blk KX32.out rfl, cell_of_blk KX32.out rfl⟩
  go_wp2_with fail
  refine (HM.out _ HB2.out).mono ?_
  rintro e w3 ⟨rfl, hb⟩
  have KG3 : Hid (G5 w3 bG W H M B ao n cp) := Lib.hid ((hb.block _ (by omega)).trans KG2.out)
  have KX03 : Hid (w3.heap[bX0]? = some (.cells #[.int .i64 ax, .int .i64 ay] 26 (0, 0))) := Lib.hid ((hb.block _ (by omega)).trans KX02.out)
  have KX13 : Hid (w3.heap[bX1]? = some (.cells #[.int .i64 bx, .int .i64 by_] 26 (0, 0))) := Lib.hid ((hb.block _ (by omega)).trans KX12.out)
  have KX23 : Hid (w3.heap[bX2]? = some (.cells #[.int .i64 cx, .int .i64 cy] 26 (0, 0))) := Lib.hid ((hb.block _ (by omega)).trans KX22.out)
  have KX33 : Hid (w3.heap[bX3]? = some (.cells #[.int .i64 dx, .int .i64 dy] 26 (0, 0))) := Lib.hid ((hb.block _ (by omega)).trans KX32.out)
  have HB3 : Hid (Below w.heap.size w w3) := Lib.hid (HB2.out.trans (hb.mono HB2.out.size))
  have hz3 : bX3 < w3.heap.size := by have := hb.size; omega
  clear hb g0 g1 g2 g3 g4 x00 x01 x10 x11 x20 x21 x30 x31 KG2 KX02 KX12 KX22 KX32 HB2
  obtain ⟨g0, g1, g2, g3, g4⟩ := G5.c KG3.out
  obtain ⟨x00, x01, x10, x11, x20, x21, x30, x31⟩ : w3.cell? ⟨bX0, 0, none⟩ = some (.int .i64 ax) ∧ w3.cell? ⟨bX0, 1, none⟩ = some (.int .i64 ay) ∧ w3.cell? ⟨bX1, 0, none⟩ = some (.int .i64 bx) ∧ w3.cell? ⟨bX1, 1, none⟩ = some (.int .i64 by_) ∧ w3.cell? ⟨bX2, 0, none⟩ = some (.int .i64 cx) ∧ w3.cell? ⟨bX2, 1, none⟩ = some (.int .i64 cy) ∧ w3.cell? ⟨bX3, 0, none⟩ = some (.int .i64 dx) ∧ w3.cell? ⟨bX3, 1, none⟩ = some (.int .i64 dy) := ⟨cell_of_blk KX03.out rfl, cell_of_blk KX03.out rfl, cell_of_blk KX13.out rfl, cell_of_blk KX13.out rfl, cell_of_blk KX23.out rfl, cell_of_blk KX23.out rfl, cell_of_blk KX33.out rfl, cell_of_blk KX33.out rfl⟩
  go_wp2_with fail
  refine (HN.out _ HB3.out).mono ?_
  rintro e w4 ⟨rfl, hb⟩
  have KG4 : Hid (G5 w4 bG W H M B ao n cp) := Lib.hid ((hb.block _ (by omega)).trans KG3.out)
  have KX04 : Hid (w4.heap[bX0]? = some (.cells #[.int .i64 ax, .int .i64 ay] 26 (0, 0))) := Lib.hid ((hb.block _ (by omega)).trans KX03.out)
  have KX14 : Hid (w4.heap[bX1]? = some (.cells #[.int .i64 bx, .int .i64 by_] 26 (0, 0))) := Lib.hid ((hb.block _ (by omega)).trans KX13.out)
  have KX24 : Hid (w4.heap[bX2]? = some (.cells #[.int .i64 cx, .int .i64 cy] 26 (0, 0))) := Lib.hid ((hb.block _ (by omega)).trans KX23.out)
  have KX34 : Hid (w4.heap[bX3]? = some (.cells #[.int .i64 dx, .int .i64 dy] 26 (0, 0))) := Lib.hid ((hb.block _ (by omega)).trans KX33.out)
  have HB4 : Hid (Below w.heap.size w w4) := Lib.hid (HB3.out.trans (hb.mono HB3.out.size))
  have hz4 : bX3 < w4.heap.size := by have := hb.size; omega
  clear hb g0 g1 g2 g3 g4 x00 x01 x10 x11 x20 x21 x30 x31 KG3 KX03 KX13 KX23 KX33 HB3
  go_wp2_with fail
  refine (lawake_any _).mono ?_
  rintro e wA ⟨rfl, hb⟩
  have HBA : Hid (Below w.heap.size w wA) := Lib.hid (HB4.out.trans (hb.mono HB4.out.size))
  clear hb HB4
  go_wp2_with fail
  refine bodyPost_ret (v := .bool true) (by simp [results, Try.results3, go_sem]) rfl ⟨rfl, HBA.out⟩
theorem LayoutRims_any (W H M B ax ay bx by_ cx cy dx dy : Int) (n cp : Nat) (ao : Option Addr) (XB YB : Nat → Int) (w : World) (hn : n ≤ 9223372036854775807) (hc : XYs w ao n XB YB) :
    Calls Try.prog 3 #[.agg #[.int .i64 W, .int .i64 H, .int .i64 M, .int .i64 B, .slice ao n cp], .agg #[.int .i64 ax, .int .i64 ay], .agg #[.int .i64 bx, .int .i64 by_], .agg #[.int .i64 cx, .int .i64 cy], .agg #[.int .i64 dx, .int .i64 dy]] w fun e w' => e = .returned (.bool true) ∧ Below w.heap.size w w' := by
  by_cases hv : vaG W H M B n XB YB = true
  case neg =>
    have hv' : vaG W H M B n XB YB = false := by simpa using hv
    refine rims_law W H M B ax ay bx by_ cx cy dx dy n cp ao w 0 70 false 70 false (fun w1 hb => pRim_grid W H M B ax ay n cp ao XB YB w1 hn (hc.keep hb) hv') (fun w1 hb => rRim_grid W H M B ax ay n cp ao XB YB w1 hn (hc.keep hb) hv') (fun w1 hb => ?_) (fun w1 hb => ?_)
    · exact pMust_grid W H M B n cp ao XB YB (eX ax bx cx dx) (eX ay by_ cy dy) w1 hn (hc.keep hb) hv'
    · exact rMust_grid W H M B n cp ao XB YB (eX ax bx cx dx) (eX ay by_ cy dy) w1 hn (hc.keep hb) hv'
  refine rims_law W H M B ax ay bx by_ cx cy dx dy n cp ao w (riK (onB W H ax ay) (riP W H ax ay)) (riE (onB W H ax ay)) (riB (onB W H ax ay) (riP W H ax ay)) (muE (allOn W H (eX ax bx cx dx) (eX ay by_ cy dy) 4) (muO (fun k => riP W H (eX ax bx cx dx k) (eX ay by_ cy dy k)))) (muV (allOn W H (eX ax bx cx dx) (eX ay by_ cy dy) 4) (muO (fun k => riP W H (eX ax bx cx dx k) (eX ay by_ cy dy k))) (muR (fun k => riP W H (eX ax bx cx dx k) (eX ay by_ cy dy k)))) (fun w1 hb => pRim_any W H M B ax ay n cp ao XB YB w1 (hc.keep hb) hv _ rfl) (fun w1 hb => rRim_ok W H M B ax ay n cp ao XB YB w1 (hc.keep hb) hv _ rfl) (fun w1 hb => ?_) (fun w1 hb => ?_)
  · exact pMust_ok W H M B n cp ao XB YB (eX ax bx cx dx) (eX ay by_ cy dy) (fun k => riP W H (eX ax bx cx dx k) (eX ay by_ cy dy k)) w1 (hc.keep hb) hv (fun _ => rfl) _ _ rfl rfl
  · exact rMust_ok W H M B n cp ao XB YB (eX ax bx cx dx) (eX ay by_ cy dy) (fun k => riP W H (eX ax bx cx dx k) (eX ay by_ cy dy k)) w1 (hc.keep hb) hv (fun _ => rfl) _ _ rfl rfl
end Go.Proofs.Ytkkcnhhfdicppaa
