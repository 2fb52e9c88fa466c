import Derived.Test.YtkkcnhhfdicppaaBk7
import Derived.Deep.QuietTactic
import Derived.BigQuiet
namespace Go.Proofs.Ytkkcnhhfdicppaa
open Go.RowKit Lay
/-- Far, whatever it answers. -/
theorem pFar_any (W H M B tx ty : Int) (n cp : Nat) (ao : Option Addr) (X Y : Nat → Int) (w : World) (hn : n ≤ 9223372036854775807) (hc : XYs w ao n X Y) :
    Calls Try.prog 25 #[.agg #[.int .i64 W, .int .i64 H, .int .i64 M, .int .i64 B, .slice ao n cp], .agg #[.int .i64 tx, .int .i64 ty]] w fun e w' => ∃ (k : Int) (N cc : Nat) (ac : Option Addr), e = .returned (.tuple #[.slice ac N cc, .int .i64 k]) ∧ Below w.heap.size w w' ∧ (k = 0 → vaG W H M B n X Y = true ∧ opB W H (blkN X Y n) tx ty = true ∧ (N : Int) = W * H ∧ ∃ F, Costs W H (blkN X Y n) M B tx ty F ∧ Ints w' ac N (fun j => farS F B tx ty (j % W.toNat : Nat) (j / W.toNat : Nat))) := by
  by_cases hv : vaG W H M B n X Y = true
  case neg =>
    refine (pFar_grid W H M B tx ty n cp ao X Y w hn hc (by simpa using hv)).mono ?_
    rintro e w1 ⟨rfl, hb⟩
    exact ⟨70, 0, 0, none, rfl, hb, fun h => absurd h (by decide)⟩
  by_cases ho : opB W H (blkN X Y n) tx ty = true
  case neg =>
    refine (pFar_block W H M B tx ty n cp ao X Y w hc hv (by simpa using ho)).mono ?_
    rintro e w1 ⟨rfl, hb⟩
    exact ⟨72, 0, 0, none, rfl, hb, fun h => absurd h (by decide)⟩
  obtain ⟨hnum, _⟩ := vaG_num hv
  have hwh := wh_le hnum.1 hnum.2.1 hnum.2.2.1 hnum.2.2.2.1
  obtain ⟨N, hN⟩ : ∃ k : Nat, (k : Int) = W * H := ⟨(W * H).toNat, by omega⟩
  refine (pFar_ok W H M B tx ty n cp N ao X Y w hc hv ho hN).mono ?_
  rintro e w1 ⟨v, F, rfl, hco, hown, hb⟩
  obtain ⟨ac, cc, rfl, hi⟩ := own_ints hown
  exact ⟨0, N, cc, ac, rfl, hb, fun _ => ⟨hv, ho, hN, F, hco, hi⟩⟩

set_option maxRecDepth 100000 in
set_option maxHeartbeats 16000000 in
theorem LayoutBlocks_any (W H M B tx ty ux uy : Int) (n cp : Nat) (ao : Option Addr) (X Y : Nat → Int) (w : World) (hn : n ≤ 9223372036854775807) (hc : XYs w ao n X Y) (h16 : n * 16 ≤ 140737488351232) (hnil : ao = none → n = 0 ∧ cp = 0) :
    Calls Try.prog 9 #[.agg #[.int .i64 W, .int .i64 H, .int .i64 M, .int .i64 B, .slice ao n cp], .agg #[.int .i64 tx, .int .i64 ty], .agg #[.int .i64 ux, .int .i64 uy]] w fun e w' => e = .returned (.bool true) ∧ Below w.heap.size w w' := by
  have HC := Lib.hid hc
  have HNL := Lib.hid hnil
  have hn9 : n ≤ 9000000000000000 := by omega
  clear hc hnil
  go_enter Try.func9, Try.ntmps9
  go_wp2_with fail
  refine (small_any W H M B n cp ao X Y _ hn (HC.out.keep (by go_grown))).mono ?_
  obtain ⟨s, hs⟩ : ∃ z, smG W H M B n X Y = z := ⟨_, rfl⟩
  rw [hs]
  rintro e w1 ⟨rfl, hb⟩
  clear hs
  obtain ⟨b3, hb3⟩ : ∃ b, b = w.heap.size := ⟨_, rfl⟩
  obtain ⟨bt, hbt⟩ : ∃ b, b = w.heap.size + 1 := ⟨_, rfl⟩
  obtain ⟨bu, hbu⟩ : ∃ b, b = w.heap.size + 1 + 1 := ⟨_, rfl⟩
  have hz1 : bu < w1.heap.size := by have h9 := hb.size; simp at h9; omega
  have KG1 : Hid (w1.heap[b3]? = some (.cells #[.int .i64 W, .int .i64 H, .int .i64 M, .int .i64 B, .slice ao n cp] 24 (0, 0))) := Lib.hid ((hb.block _ (by simp; omega)).trans ((Below.heap_alloc _ _ _ (by simp; omega)).trans ((Below.heap_alloc _ _ _ (by simp; omega)).trans (by rw [hb3]; exact heap_alloc_new w _))))
  have KT1 : Hid (w1.heap[bt]? = some (.cells #[.int .i64 tx, .int .i64 ty] 26 (0, 0))) := Lib.hid ((hb.block _ (by simp; omega)).trans ((Below.heap_alloc _ _ _ (by simp; omega)).trans (by rw [hbt]; have h := heap_alloc_new (w.alloc (.cells #[.int .i64 W, .int .i64 H, .int .i64 M, .int .i64 B, .slice ao n cp] 24)) (.cells #[.int .i64 tx, .int .i64 ty] 26); rwa [World.size_alloc] at h)))
  have KU1 : Hid (w1.heap[bu]? = some (.cells #[.int .i64 ux, .int .i64 uy] 26 (0, 0))) := Lib.hid ((hb.block _ (by simp; omega)).trans (by rw [hbu]; have h := heap_alloc_new ((w.alloc (.cells #[.int .i64 W, .int .i64 H, .int .i64 M, .int .i64 B, .slice ao n cp] 24)).alloc (.cells #[.int .i64 tx, .int .i64 ty] 26)) (.cells #[.int .i64 ux, .int .i64 uy] 26); rwa [World.size_alloc, World.size_alloc] at h))
  have HB1 : Hid (Below w.heap.size w w1) := Lib.hid (Below.trans (by go_grown) (hb.mono (by simp; omega)))
  have h3t : b3 < bt := by omega
  have htu : bt < bu := by omega
  have hw3 : w.heap.size ≤ b3 := by omega
  have HB3 := Lib.hid hb3
  have HBT := Lib.hid hbt
  have HBU := Lib.hid hbu
  clear hb hb3 hbt hbu
  cases s with
  | false =>
    go_wp2_with fail
    refine (lawake_any _).mono ?_
    rintro e wA ⟨rfl, hb⟩
    have HBA : Hid (Below w.heap.size w wA) := Lib.hid (HB1.out.trans (hb.mono HB1.out.size))
    clear hb HB1
    go_wp2_with fail
    refine bodyPost_ret (v := .bool true) (by simp [results, Try.results9, go_sem]) rfl ⟨rfl, HBA.out⟩
  | true =>
    obtain ⟨g0, g1, g2, g3, g4⟩ : w1.cell? ⟨b3, 0, none⟩ = some (.int .i64 W) ∧ w1.cell? ⟨b3, 1, none⟩ = some (.int .i64 H) ∧ w1.cell? ⟨b3, 2, none⟩ = some (.int .i64 M) ∧ w1.cell? ⟨b3, 3, none⟩ = some (.int .i64 B) ∧ w1.cell? ⟨b3, 4, none⟩ = some (.slice ao n cp) := ⟨cell_of_blk KG1.out rfl, cell_of_blk KG1.out rfl, cell_of_blk KG1.out rfl, cell_of_blk KG1.out rfl, cell_of_blk KG1.out rfl⟩
    obtain ⟨t0, t1⟩ : w1.cell? ⟨bt, 0, none⟩ = some (.int .i64 tx) ∧ w1.cell? ⟨bt, 1, none⟩ = some (.int .i64 ty) := ⟨cell_of_blk KT1.out rfl, cell_of_blk KT1.out rfl⟩
    go_upto_region 3 with fail
    try rw [← HBU.out]
    try rw [← HBT.out]
    try rw [← HB3.out]
    clear HBU HBT HB3
    go_wp2_with fail
    refine (pFar_any W H M B tx ty n cp ao X Y _ hn (HC.out.keep HB1.out)).mono ?_
    rintro e w2 ⟨k1, N1, c1, a1, rfl, hb, hF1⟩
    have KG2 : Hid (w2.heap[b3]? = some (.cells #[.int .i64 W, .int .i64 H, .int .i64 M, .int .i64 B, .slice ao n cp] 24 (0, 0))) := Lib.hid ((hb.block _ (by omega)).trans KG1.out)
    have KT2 : Hid (w2.heap[bt]? = some (.cells #[.int .i64 tx, .int .i64 ty] 26 (0, 0))) := Lib.hid ((hb.block _ (by omega)).trans KT1.out)
    have KU2 : Hid (w2.heap[bu]? = some (.cells #[.int .i64 ux, .int .i64 uy] 26 (0, 0))) := Lib.hid ((hb.block _ (by omega)).trans KU1.out)
    have HB2 : Hid (Below w.heap.size w w2) := Lib.hid (HB1.out.trans (hb.mono (by omega)))
    have hz2 : bu < w2.heap.size := by have := hb.size; omega
    have HF1 := Lib.hid hF1
    clear hb hF1 HB1 KG1 KT1 KU1 g0 g1 g2 g3 g4 t0 t1
    obtain ⟨g0, g1, g2, g3, g4⟩ : w2.cell? ⟨b3, 0, none⟩ = some (.int .i64 W) ∧ w2.cell? ⟨b3, 1, none⟩ = some (.int .i64 H) ∧ w2.cell? ⟨b3, 2, none⟩ = some (.int .i64 M) ∧ w2.cell? ⟨b3, 3, none⟩ = some (.int .i64 B) ∧ w2.cell? ⟨b3, 4, none⟩ = some (.slice ao n cp) := ⟨cell_of_blk KG2.out rfl, cell_of_blk KG2.out rfl, cell_of_blk KG2.out rfl, cell_of_blk KG2.out rfl, cell_of_blk KG2.out rfl⟩
    obtain ⟨b9, hb9⟩ : ∃ b, b = w2.heap.size := ⟨_, rfl⟩
    obtain ⟨w3, hw3⟩ : ∃ z, z = w2.alloc (.cells #[.int .i64 W, .int .i64 H, .int .i64 M, .int .i64 B, .slice ao n cp] 24) := ⟨_, rfl⟩
    have hb2 : Below w2.heap.size w2 w3 := by rw [hw3]; exact bal (Below.refl _ _) _
    have KM3 : Hid (w3.heap[b9]? = some (.cells #[.int .i64 W, .int .i64 H, .int .i64 M, .int .i64 B, .slice ao n cp] 24 (0, 0))) := Lib.hid (by rw [hw3, hb9]; exact heap_alloc_new w2 _)
    have hz3' : w3.heap.size = b9 + 1 := by rw [hw3]; simp; omega
    have KG3 : Hid (w3.heap[b3]? = some (.cells #[.int .i64 W, .int .i64 H, .int .i64 M, .int .i64 B, .slice ao n cp] 24 (0, 0))) := Lib.hid ((hb2.block _ (by omega)).trans KG2.out)
    have KT3 : Hid (w3.heap[bt]? = some (.cells #[.int .i64 tx, .int .i64 ty] 26 (0, 0))) := Lib.hid ((hb2.block _ (by omega)).trans KT2.out)
    have KU3 : Hid (w3.heap[bu]? = some (.cells #[.int .i64 ux, .int .i64 uy] 26 (0, 0))) := Lib.hid ((hb2.block _ (by omega)).trans KU2.out)
    have HB3 : Hid (Below w.heap.size w w3) := Lib.hid (HB2.out.trans (hb2.mono (by omega)))
    have hz3 : bu < w3.heap.size := by have := hb2.size; omega
    have HE0 : Hid (Below b9 w2 w3) := Lib.hid (by rw [hb9]; exact hb2)
    have hb9u : bu < b9 := by omega
    have HW3 := Lib.hid hw3
    have HB9 := Lib.hid hb9
    clear hb2 hw3 hb9 g0 g1 g2 g3 g4
    have KTs := KT2
    clear KG2 KT2 KU2
    have HZ : Hid (b9 = w2.heap.size) := HB9
    have HN1 : Hid (w2.heap.size ≤ b9) := Lib.hid (Nat.le_of_eq HB9.out.symm)
    obtain ⟨g0, g1, g2, g3, g4⟩ : w2.cell? ⟨b3, 0, none⟩ = some (.int .i64 W) ∧ w2.cell? ⟨b3, 1, none⟩ = some (.int .i64 H) ∧ w2.cell? ⟨b3, 2, none⟩ = some (.int .i64 M) ∧ w2.cell? ⟨b3, 3, none⟩ = some (.int .i64 B) ∧ w2.cell? ⟨b3, 4, none⟩ = some (.slice ao n cp) := by
      have h := HW3.out
      have k : w2.heap[b3]? = some (.cells #[.int .i64 W, .int .i64 H, .int .i64 M, .int .i64 B, .slice ao n cp] 24 (0, 0)) := by
        have k3 := KG3.out
        rw [h] at k3
        exact (Below.heap_alloc _ _ _ (by omega)).symm.trans k3
      exact ⟨cell_of_blk k rfl, cell_of_blk k rfl, cell_of_blk k rfl, cell_of_blk k rfl, cell_of_blk k rfl⟩
    go_upto_region 5 with fail
    rw [← HB9.out, ← HW3.out]
    clear HW3 HB9 g0 g1 g2 g3 g4
    go_cut [] (fun wx => ∃ am cm, wx.heap[b9]? = some (.cells #[.int .i64 W, .int .i64 H, .int .i64 M, .int .i64 B, .slice am (n + 1) cm] 24 (0, 0)) ∧ XYs wx am (n + 1) (fun j => ((exL X Y n (ux, uy)).getD j (0, 0)).1) (fun j => ((exL X Y n (ux, uy)).getD j (0, 0)).2) ∧ Below b9 w2 wx ∧ b9 < wx.heap.size)
    case first =>
      have HCA : Hid (XYs w3 ao n X Y) := Lib.hid (HC.out.keep HB3.out)
      obtain ⟨i0, hi, hi0, hi1, hi2⟩ := info_parts xy_info
      have HI := Lib.hid (And.intro hi (And.intro hi0 (And.intro hi1 hi2)))
      clear hi hi0 hi1 hi2
      have G0 : Hid (∀ w' : World, Below (b9 + 1) w3 w' → (w'.cell? ⟨b3, 4, none⟩ = some (.slice ao n cp) ∧ w'.heap[bu]? = some (.cells #[.int .i64 ux, .int .i64 uy] 26 (0, 0))) ∧ w'.heap[b9]? = some (.cells #[.int .i64 W, .int .i64 H, .int .i64 M, .int .i64 B, .slice ao n cp] 24 (0, 0))) := Lib.hid (fun w' hb => ⟨⟨cell_of_blk ((hb.block _ (by omega)).trans KG3.out) rfl, (hb.block _ (by omega)).trans KU3.out⟩, (hb.block _ (by omega)).trans KM3.out⟩)
      have DI : Below (b9 + 1) w3 w3 := Below.refl _ _
      have D0 : Below (b9 + 1) w3 w3.drew := DI.drew
      refine wp_region_held_drew (S := fun w' => w'.cell? ⟨b3, 4, none⟩ = some (.slice ao n cp) ∧ w'.heap[bu]? = some (.cells #[.int .i64 ux, .int .i64 uy] 26 (0, 0))) (by kernel_rfl) (G0.out _ D0).1 (fun hHeld => ?_)
      refine wpAnyH_take (i := 1) (oi := _) (v := ?_) rfl (by kernel_rfl) (by kernel_rfl) (by kernel_rfl) (fun _ _ _ h => h) (Or.inl ⟨by rfl, ?_⟩) (by assumption) ?_
      rotate_left
      · intro w hSw; obtain ⟨s0, s1⟩ := hSw; go_simp; (try with_reducible rfl)
      try change wpAnyH _ _ _ _ _ _ _ (Act.put _ (some 25) _) _
      try simp only [act_all]
      refine wpAnyH_take (i := 2) (oi := _) (v := ?_) rfl (by kernel_rfl) (by kernel_rfl) (by kernel_rfl) (fun _ _ _ h => h) (Or.inl ⟨by rfl, ?_⟩) (by assumption) ?_
      rotate_left
      · intro w hSw; obtain ⟨s0, s1⟩ := hSw; go_simp; (try with_reducible rfl)
      try change wpAnyH _ _ _ _ _ _ _ (Act.put _ (some 26) _) _
      try simp only [act_all]
      refine wpAnyH_take (i := 4) (oi := _) (v := _) rfl (by kernel_rfl) (by kernel_rfl) (by kernel_rfl) (fun _ _ _ h => h) (yieldsIf_load_mid (by rfl) 26 _ rfl bu 0 rfl ([.int .i64 ux, .int .i64 uy]) _ (fun w' hh => range_row hh.2 0 [.int .i64 ux, .int .i64 uy] (fun j hj => by simp only [Nat.zero_add, List.getElem?_toArray])) Try.underlying26 rfl (by kernel_rfl)) (by assumption) ?_
      try change wpAnyH _ _ _ _ _ _ _ (Act.put _ (some 28) _) _
      try simp only [act_all]
      refine wpAnyH_ready (rs := [0, 5]) (by kernel_rfl) (by simp) ?_
      refine AllReadyH.cons (o := _) rfl (fun K hK => ?_) ?_
      ·
        go_simp
        have D1 : Below (b9 + 1) w3 (w3.alloc (Obj.cells #[] 26)) := (show Below (b9 + 1) w3 w3 from DI).alloc (by have := (show Below (b9 + 1) w3 w3 from DI).size; omega) _
        have hq1 : w3.heap.size = b9 + 1 := hz3'
        have O1 : (w3.alloc (Obj.cells #[] 26)).ownsRow (b9 + 1) 26 2 (.slice (some ⟨b9 + 1, 0, none⟩) 0 0) 0 [] := by have h := World.ownsRow_made (size := 2) (base := b9 + 1) w3 (e := 26) #[] 0 (by have := (show Below (b9 + 1) w3 w3 from DI).size; omega) (by unfold maxLen; omega) rfl; rwa [hq1] at h
        have E1 : Below (b9 + 1) w3 (w3.alloc (Obj.cells #[] 26)).drew := D1.drew
        refine hK.out _ _ (G0.out _ E1).1 (fun hHeld => ?_)
        clear hK K
        try simp only [act_all]
        refine wpAnyH_ready (rs := [3, 5]) (by kernel_rfl) (by simp) ?_
        refine AllReadyH.cons (o := _) rfl (fun K hK => ?_) ?_
        ·
          refine step_app_src (by rfl) _ _ (by rfl) (b9 + 1) (.slice (some ⟨b9 + 1, 0, none⟩) 0 0) (by rfl) O1 ao n cp X Y (by rfl) (HCA.out.keep (by rw [hz3']; exact E1)) HNL.out h16 (by have := E1.size; omega) ?_
          intro v4 w4 hown4 hgrow4
          have D2 : Below (b9 + 1) w3 w4 := E1.grown hgrow4 (by have := E1.size; omega) (fun q hq => by have h1 : b9 + 1 = q := Option.some.inj hq; omega)
          clear hgrow4 hHeld
          refine hK.out _ _ (G0.out _ D2).1 (fun hHeld => ?_)
          clear hK K
          try simp only [act_all]
          refine wpAnyH_ready (rs := [5]) (by kernel_rfl) (by simp) ?_
          refine AllReadyH.cons (o := _) rfl (fun K hK => ?_) AllReadyH.nil
          go_simp
          have D3 : Below (b9 + 1) w3 (w4.alloc (Obj.cells #[.int .i64 ux, .int .i64 uy] 26)) := (show Below (b9 + 1) w3 w4 from D2).alloc (by have := (show Below (b9 + 1) w3 w4 from D2).size; omega) _
          have hq3 : w4.heap.size = w4.heap.size := rfl
          have C3 : (w4.alloc (Obj.cells #[.int .i64 ux, .int .i64 uy] 26)).heap[w4.heap.size]? = some (.cells #[.int .i64 ux, .int .i64 uy] 26 (0, 0)) := by have h := heap_alloc_new w4 (.cells #[.int .i64 ux, .int .i64 uy] 26); rwa [hq3] at h
          have O3 : (w4.alloc (Obj.cells #[.int .i64 ux, .int .i64 uy] 26)).ownsRow (b9 + 1) 26 2 v4 n (xyC (prL X Y n)) := hown4.alloc _
          have E3 : Below (b9 + 1) w3 (w4.alloc (Obj.cells #[.int .i64 ux, .int .i64 uy] 26)).drew := D3.drew
          refine hK.out _ _ (G0.out _ D3).1 (fun hHeld => ?_)
          clear hK K
          try simp only [act_all]
          refine wpAnyH_ready (rs := [6]) (by kernel_rfl) (by simp) ?_
          refine AllReadyH.cons (o := _) rfl (fun K hK => ?_) AllReadyH.nil
          refine step_append_lies _ (by rfl) _ _ 22 (by rfl) (b9 + 1) 26 i0 _ 2 16 Try.underlying22 HI.out.1 HI.out.2.1 HI.out.2.2.1 HI.out.2.2.2 (by rfl) (by decide) v4 n (xyC (prL X Y n)) (by rfl) O3 ⟨w4.heap.size, 0, none⟩ 1 1 [.int .i64 ux, .int .i64 uy] (by rfl) rfl (fun j u hu => World.news_of_block (cs := #[.int .i64 ux, .int .i64 uy]) C3 j u hu) (by intro u hu; simp only [List.mem_cons, List.not_mem_nil, or_false] at hu; rcases hu with rfl | rfl <;> rfl) (by omega) (by unfold maxLen; omega) (by omega) (by have := D3.size; omega) _ rfl ?_
          intro g cm w8 hown8 hgrow8 hor8 hlg8
          have HLT := O3.lt
          have D4 : Below (b9 + 1) w3 w8 := D3.grown hgrow8 (by have := D3.size; omega) (fun q hq => by have h1 := (HLT _ hq).1; omega)
          have HX8 : Hid (∃ am cm', (Value.slice (some ⟨g, 0, none⟩) (n + 1) cm) = .slice am (n + 1) cm' ∧ XYs w8 am (n + 1) (fun j => ((exL X Y n (ux, uy)).getD j (0, 0)).1) (fun j => ((exL X Y n (ux, uy)).getD j (0, 0)).2)) := Lib.hid (own_xys (l := exL X Y n (ux, uy)) (by unfold exL; rw [xyC_snoc]; exact hown8) (exL_len _ _ _ _))
          have q8 : w8.heap[b9]? = some (.cells #[.int .i64 W, .int .i64 H, .int .i64 M, .int .i64 B, .slice ao n cp] 24 (0, 0)) := (G0.out _ D4).2
          have hgne : Hid (∀ b, b = g → b ≠ b9) := Lib.hid (fun b e => by have h1 : b9 + 1 ≤ g := (hown8.lt _ rfl).1; omega)
          clear hgrow8 hor8 hown8 HLT hHeld
          refine hK.out _ _ (G0.out _ D4).1 (fun hHeld => ?_)
          clear hK K
          try simp only [act_all]
          refine wpAnyH_take (i := 7) (oi := _) (v := ?_) rfl (by kernel_rfl) (by kernel_rfl) (by kernel_rfl) (fun _ _ _ h => h) (Or.inl ⟨by rfl, ?_⟩) (by assumption) ?_
          rotate_left
          · intro w hSw; obtain ⟨s0, s1⟩ := hSw; go_simp; (try with_reducible rfl)
          try change wpAnyH _ _ _ _ _ _ _ (Act.put _ (some 31) _) _
          try simp only [act_all]
          refine wpAnyH_ready (rs := [8]) (by kernel_rfl) (by simp) ?_
          refine AllReadyH.cons (o := _) rfl (fun K hK => ?_) AllReadyH.nil
          have v0 : w8.cell? ⟨b9, 4, none⟩ = some (.slice ao n cp) := cell_of_blk q8 rfl
          have v1 : w8.frozen? ⟨b9, 4, none⟩ = false := by simp [World.frozen?, q8]
          go_simp
          have HXN : Hid (∃ am cm', (Value.slice (some ⟨g, 0, none⟩) (n + 1) cm) = .slice am (n + 1) cm' ∧ XYs (w8.setCell ⟨b9, 4, none⟩ (.slice (some ⟨g, 0, none⟩) (n + 1) cm)) am (n + 1) (fun j => ((exL X Y n (ux, uy)).getD j (0, 0)).1) (fun j => ((exL X Y n (ux, uy)).getD j (0, 0)).2)) := Lib.hid (by
            obtain ⟨am, cm', he, hx⟩ := HX8.out
            refine ⟨am, cm', he, fun h0 => ?_⟩
            obtain ⟨b, o, e1, hcell⟩ := hx h0
            refine ⟨b, o, e1, fun i hi => ?_⟩
            have hne : b ≠ b9 := hgne.out _ (by have h := he; injection h with h; rw [e1] at h; injection h with h; injection h with h; exact h.symm)
            have hk : ∀ z, (w8.setCell ⟨b9, 4, none⟩ (.slice (some ⟨g, 0, none⟩) (n + 1) cm)).cell? ⟨b, z, none⟩ = w8.cell? ⟨b, z, none⟩ := fun z => World.cell?_of_block (Below.heap_setCell _ _ _ _ hne)
            exact ⟨(hk _).trans (hcell i hi).1, (hk _).trans (hcell i hi).2⟩)
          have q9 : (w8.setCell ⟨b9, 4, none⟩ (.slice (some ⟨g, 0, none⟩) (n + 1) cm)).heap[b9]? = some (.cells #[.int .i64 W, .int .i64 H, .int .i64 M, .int .i64 B, .slice (some ⟨g, 0, none⟩) (n + 1) cm] 24 (0, 0)) := blk_set q8 _
          have DN : Below b9 w2 (w8.setCell ⟨b9, 4, none⟩ (.slice (some ⟨g, 0, none⟩) (n + 1) cm)) := below_mids (Nat.le_refl _) [_] 4 (HE0.out.trans (D4.mono (by omega)))
          have sN : (w8.setCell ⟨b9, 4, none⟩ (.slice (some ⟨g, 0, none⟩) (n + 1) cm)).cell? ⟨b3, 4, none⟩ = some (.slice ao n cp) ∧ (w8.setCell ⟨b9, 4, none⟩ (.slice (some ⟨g, 0, none⟩) (n + 1) cm)).heap[bu]? = some (.cells #[.int .i64 ux, .int .i64 uy] 26 (0, 0)) := ⟨(World.cell?_of_block (Below.heap_setCell _ _ _ _ (show b3 ≠ b9 by omega))).trans (G0.out _ D4).1.1, (Below.heap_setCell _ _ _ _ (show bu ≠ b9 by omega)).trans (G0.out _ D4).1.2⟩
          have zN : b9 < (w8.setCell ⟨b9, 4, none⟩ (.slice (some ⟨g, 0, none⟩) (n + 1) cm)).heap.size := (Array.getElem?_eq_some_iff.1 q9).1
          refine hK.out _ _ sN (fun hHeld => ?_)
          clear hK K
          try simp only [act_all]
          clear v0 v1
          refine wpAnyH_done (by kernel_rfl) ?_ _
          clear hHeld
          go_wp2_with fail
          go_meet
          obtain ⟨am, cm', he, hx⟩ := HXN.out
          injection he with e1 e2 e3
          subst e1
          exact ⟨_, _, q9, hx, DN, zN⟩
        refine AllReadyH.cons (o := _) rfl (fun K hK => ?_) AllReadyH.nil
        go_simp
        have D6 : Below (b9 + 1) w3 ((w3.alloc (Obj.cells #[] 26)).alloc (Obj.cells #[.int .i64 ux, .int .i64 uy] 26)) := (show Below (b9 + 1) w3 (w3.alloc (Obj.cells #[] 26)) from D1).alloc (by have := (show Below (b9 + 1) w3 (w3.alloc (Obj.cells #[] 26)) from D1).size; omega) _
        have hq6 : (w3.alloc (Obj.cells #[] 26)).heap.size = b9 + 1 + 1 := (by rw [World.size_alloc, hq1])
        have C6 : ((w3.alloc (Obj.cells #[] 26)).alloc (Obj.cells #[.int .i64 ux, .int .i64 uy] 26)).heap[b9 + 1 + 1]? = some (.cells #[.int .i64 ux, .int .i64 uy] 26 (0, 0)) := by have h := heap_alloc_new (w3.alloc (Obj.cells #[] 26)) (.cells #[.int .i64 ux, .int .i64 uy] 26); rwa [hq6] at h
        have O6 : ((w3.alloc (Obj.cells #[] 26)).alloc (Obj.cells #[.int .i64 ux, .int .i64 uy] 26)).ownsRow (b9 + 1) 26 2 (.slice (some ⟨b9 + 1, 0, none⟩) 0 0) 0 [] := O1.alloc _
        have E6 : Below (b9 + 1) w3 ((w3.alloc (Obj.cells #[] 26)).alloc (Obj.cells #[.int .i64 ux, .int .i64 uy] 26)).drew := D6.drew
        refine hK.out _ _ (G0.out _ E6).1 (fun hHeld => ?_)
        clear hK K
        try simp only [act_all]
        refine wpAnyH_ready (rs := [3]) (by kernel_rfl) (by simp) ?_
        refine AllReadyH.cons (o := _) rfl (fun K hK => ?_) AllReadyH.nil
        refine step_app_src (by rfl) _ _ (by rfl) (b9 + 1) (.slice (some ⟨b9 + 1, 0, none⟩) 0 0) (by rfl) O6 ao n cp X Y (by rfl) (HCA.out.keep (by rw [hz3']; exact E6)) HNL.out h16 (by have := E6.size; omega) ?_
        intro v4 w4 hown4 hgrow4
        have D7 : Below (b9 + 1) w3 w4 := E6.grown hgrow4 (by have := E6.size; omega) (fun q hq => by have h1 : b9 + 1 = q := Option.some.inj hq; omega)
        have C7 : w4.heap[b9 + 1 + 1]? = some (.cells #[.int .i64 ux, .int .i64 uy] 26 (0, 0)) := (hgrow4.block _ (Array.getElem?_eq_some_iff.1 C6).1 (fun e => by have h1 : b9 + 1 = b9 + 1 + 1 := (Option.some.inj e).symm; omega)).trans C6
        clear hgrow4 hHeld
        refine hK.out _ _ (G0.out _ D7).1 (fun hHeld => ?_)
        clear hK K
        try simp only [act_all]
        refine wpAnyH_ready (rs := [6]) (by kernel_rfl) (by simp) ?_
        refine AllReadyH.cons (o := _) rfl (fun K hK => ?_) AllReadyH.nil
        refine step_append_lies _ (by rfl) _ _ 22 (by rfl) (b9 + 1) 26 i0 _ 2 16 Try.underlying22 HI.out.1 HI.out.2.1 HI.out.2.2.1 HI.out.2.2.2 (by rfl) (by decide) v4 n (xyC (prL X Y n)) (by rfl) hown4 ⟨b9 + 1 + 1, 0, none⟩ 1 1 [.int .i64 ux, .int .i64 uy] (by rfl) rfl (fun j u hu => World.news_of_block (cs := #[.int .i64 ux, .int .i64 uy]) C7 j u hu) (by intro u hu; simp only [List.mem_cons, List.not_mem_nil, or_false] at hu; rcases hu with rfl | rfl <;> rfl) (by omega) (by unfold maxLen; omega) (by omega) (by have := D7.size; omega) _ rfl ?_
        intro g cm w8 hown8 hgrow8 hor8 hlg8
        have HLT := hown4.lt
        have D8 : Below (b9 + 1) w3 w8 := D7.grown hgrow8 (by have := D7.size; omega) (fun q hq => by have h1 := (HLT _ hq).1; omega)
        have HX8 : Hid (∃ am cm', (Value.slice (some ⟨g, 0, none⟩) (n + 1) cm) = .slice am (n + 1) cm' ∧ XYs w8 am (n + 1) (fun j => ((exL X Y n (ux, uy)).getD j (0, 0)).1) (fun j => ((exL X Y n (ux, uy)).getD j (0, 0)).2)) := Lib.hid (own_xys (l := exL X Y n (ux, uy)) (by unfold exL; rw [xyC_snoc]; exact hown8) (exL_len _ _ _ _))
        have q8 : w8.heap[b9]? = some (.cells #[.int .i64 W, .int .i64 H, .int .i64 M, .int .i64 B, .slice ao n cp] 24 (0, 0)) := (G0.out _ D8).2
        have hgne : Hid (∀ b, b = g → b ≠ b9) := Lib.hid (fun b e => by have h1 : b9 + 1 ≤ g := (hown8.lt _ rfl).1; omega)
        clear hgrow8 hor8 hown8 HLT hHeld
        refine hK.out _ _ (G0.out _ D8).1 (fun hHeld => ?_)
        clear hK K
        try simp only [act_all]
        refine wpAnyH_take (i := 7) (oi := _) (v := ?_) rfl (by kernel_rfl) (by kernel_rfl) (by kernel_rfl) (fun _ _ _ h => h) (Or.inl ⟨by rfl, ?_⟩) (by assumption) ?_
        rotate_left
        · intro w hSw; obtain ⟨s0, s1⟩ := hSw; go_simp; (try with_reducible rfl)
        try change wpAnyH _ _ _ _ _ _ _ (Act.put _ (some 31) _) _
        try simp only [act_all]
        refine wpAnyH_ready (rs := [8]) (by kernel_rfl) (by simp) ?_
        refine AllReadyH.cons (o := _) rfl (fun K hK => ?_) AllReadyH.nil
        have v0 : w8.cell? ⟨b9, 4, none⟩ = some (.slice ao n cp) := cell_of_blk q8 rfl
        have v1 : w8.frozen? ⟨b9, 4, none⟩ = false := by simp [World.frozen?, q8]
        go_simp
        have HXN : Hid (∃ am cm', (Value.slice (some ⟨g, 0, none⟩) (n + 1) cm) = .slice am (n + 1) cm' ∧ XYs (w8.setCell ⟨b9, 4, none⟩ (.slice (some ⟨g, 0, none⟩) (n + 1) cm)) am (n + 1) (fun j => ((exL X Y n (ux, uy)).getD j (0, 0)).1) (fun j => ((exL X Y n (ux, uy)).getD j (0, 0)).2)) := Lib.hid (by
          obtain ⟨am, cm', he, hx⟩ := HX8.out
          refine ⟨am, cm', he, fun h0 => ?_⟩
          obtain ⟨b, o, e1, hcell⟩ := hx h0
          refine ⟨b, o, e1, fun i hi => ?_⟩
          have hne : b ≠ b9 := hgne.out _ (by have h := he; injection h with h; rw [e1] at h; injection h with h; injection h with h; exact h.symm)
          have hk : ∀ z, (w8.setCell ⟨b9, 4, none⟩ (.slice (some ⟨g, 0, none⟩) (n + 1) cm)).cell? ⟨b, z, none⟩ = w8.cell? ⟨b, z, none⟩ := fun z => World.cell?_of_block (Below.heap_setCell _ _ _ _ hne)
          exact ⟨(hk _).trans (hcell i hi).1, (hk _).trans (hcell i hi).2⟩)
        have q9 : (w8.setCell ⟨b9, 4, none⟩ (.slice (some ⟨g, 0, none⟩) (n + 1) cm)).heap[b9]? = some (.cells #[.int .i64 W, .int .i64 H, .int .i64 M, .int .i64 B, .slice (some ⟨g, 0, none⟩) (n + 1) cm] 24 (0, 0)) := blk_set q8 _
        have DN : Below b9 w2 (w8.setCell ⟨b9, 4, none⟩ (.slice (some ⟨g, 0, none⟩) (n + 1) cm)) := below_mids (Nat.le_refl _) [_] 4 (HE0.out.trans (D8.mono (by omega)))
        have sN : (w8.setCell ⟨b9, 4, none⟩ (.slice (some ⟨g, 0, none⟩) (n + 1) cm)).cell? ⟨b3, 4, none⟩ = some (.slice ao n cp) ∧ (w8.setCell ⟨b9, 4, none⟩ (.slice (some ⟨g, 0, none⟩) (n + 1) cm)).heap[bu]? = some (.cells #[.int .i64 ux, .int .i64 uy] 26 (0, 0)) := ⟨(World.cell?_of_block (Below.heap_setCell _ _ _ _ (show b3 ≠ b9 by omega))).trans (G0.out _ D8).1.1, (Below.heap_setCell _ _ _ _ (show bu ≠ b9 by omega)).trans (G0.out _ D8).1.2⟩
        have zN : b9 < (w8.setCell ⟨b9, 4, none⟩ (.slice (some ⟨g, 0, none⟩) (n + 1) cm)).heap.size := (Array.getElem?_eq_some_iff.1 q9).1
        refine hK.out _ _ sN (fun hHeld => ?_)
        clear hK K
        try simp only [act_all]
        clear v0 v1
        refine wpAnyH_done (by kernel_rfl) ?_ _
        clear hHeld
        go_wp2_with fail
        go_meet
        obtain ⟨am, cm', he, hx⟩ := HXN.out
        injection he with e1 e2 e3
        subst e1
        exact ⟨_, _, q9, hx, DN, zN⟩
      refine AllReadyH.cons (o := _) rfl (fun K hK => ?_) AllReadyH.nil
      go_simp
      have D10 : Below (b9 + 1) w3 (w3.alloc (Obj.cells #[.int .i64 ux, .int .i64 uy] 26)) := (show Below (b9 + 1) w3 w3 from DI).alloc (by have := (show Below (b9 + 1) w3 w3 from DI).size; omega) _
      have hq10 : w3.heap.size = b9 + 1 := hz3'
      have C10 : (w3.alloc (Obj.cells #[.int .i64 ux, .int .i64 uy] 26)).heap[b9 + 1]? = some (.cells #[.int .i64 ux, .int .i64 uy] 26 (0, 0)) := by have h := heap_alloc_new w3 (.cells #[.int .i64 ux, .int .i64 uy] 26); rwa [hq10] at h
      have E10 : Below (b9 + 1) w3 (w3.alloc (Obj.cells #[.int .i64 ux, .int .i64 uy] 26)).drew := D10.drew
      refine hK.out _ _ (G0.out _ E10).1 (fun hHeld => ?_)
      clear hK K
      try simp only [act_all]
      refine wpAnyH_ready (rs := [0]) (by kernel_rfl) (by simp) ?_
      refine AllReadyH.cons (o := _) rfl (fun K hK => ?_) AllReadyH.nil
      go_simp
      have D11 : Below (b9 + 1) w3 ((w3.alloc (Obj.cells #[.int .i64 ux, .int .i64 uy] 26)).alloc (Obj.cells #[] 26)) := (show Below (b9 + 1) w3 (w3.alloc (Obj.cells #[.int .i64 ux, .int .i64 uy] 26)) from D10).alloc (by have := (show Below (b9 + 1) w3 (w3.alloc (Obj.cells #[.int .i64 ux, .int .i64 uy] 26)) from D10).size; omega) _
      have hq11 : (w3.alloc (Obj.cells #[.int .i64 ux, .int .i64 uy] 26)).heap.size = b9 + 1 + 1 := (by rw [World.size_alloc, hq10])
      have O11 : ((w3.alloc (Obj.cells #[.int .i64 ux, .int .i64 uy] 26)).alloc (Obj.cells #[] 26)).ownsRow (b9 + 1) 26 2 (.slice (some ⟨b9 + 1 + 1, 0, none⟩) 0 0) 0 [] := by have h := World.ownsRow_made (size := 2) (base := b9 + 1) (w3.alloc (Obj.cells #[.int .i64 ux, .int .i64 uy] 26)) (e := 26) #[] 0 (by have := (show Below (b9 + 1) w3 (w3.alloc (Obj.cells #[.int .i64 ux, .int .i64 uy] 26)) from D10).size; omega) (by unfold maxLen; omega) rfl; rwa [hq11] at h
      have C11 : ((w3.alloc (Obj.cells #[.int .i64 ux, .int .i64 uy] 26)).alloc (Obj.cells #[] 26)).heap[b9 + 1]? = some (.cells #[.int .i64 ux, .int .i64 uy] 26 (0, 0)) := (Below.heap_alloc _ _ _ (by rw [hq11]; omega)).trans C10
      have E11 : Below (b9 + 1) w3 ((w3.alloc (Obj.cells #[.int .i64 ux, .int .i64 uy] 26)).alloc (Obj.cells #[] 26)).drew := D11.drew
      refine hK.out _ _ (G0.out _ E11).1 (fun hHeld => ?_)
      clear hK K
      try simp only [act_all]
      refine wpAnyH_ready (rs := [3]) (by kernel_rfl) (by simp) ?_
      refine AllReadyH.cons (o := _) rfl (fun K hK => ?_) AllReadyH.nil
      refine step_app_src (by rfl) _ _ (by rfl) (b9 + 1) (.slice (some ⟨b9 + 1 + 1, 0, none⟩) 0 0) (by rfl) O11 ao n cp X Y (by rfl) (HCA.out.keep (by rw [hz3']; exact E11)) HNL.out h16 (by have := E11.size; omega) ?_
      intro v4 w4 hown4 hgrow4
      have D12 : Below (b9 + 1) w3 w4 := E11.grown hgrow4 (by have := E11.size; omega) (fun q hq => by have h1 : b9 + 1 + 1 = q := Option.some.inj hq; omega)
      have C12 : w4.heap[b9 + 1]? = some (.cells #[.int .i64 ux, .int .i64 uy] 26 (0, 0)) := (hgrow4.block _ (Array.getElem?_eq_some_iff.1 C11).1 (fun e => by have h1 : b9 + 1 + 1 = b9 + 1 := (Option.some.inj e).symm; omega)).trans C11
      clear hgrow4 hHeld
      refine hK.out _ _ (G0.out _ D12).1 (fun hHeld => ?_)
      clear hK K
      try simp only [act_all]
      refine wpAnyH_ready (rs := [6]) (by kernel_rfl) (by simp) ?_
      refine AllReadyH.cons (o := _) rfl (fun K hK => ?_) AllReadyH.nil
      refine step_append_lies _ (by rfl) _ _ 22 (by rfl) (b9 + 1) 26 i0 _ 2 16 Try.underlying22 HI.out.1 HI.out.2.1 HI.out.2.2.1 HI.out.2.2.2 (by rfl) (by decide) v4 n (xyC (prL X Y n)) (by rfl) hown4 ⟨b9 + 1, 0, none⟩ 1 1 [.int .i64 ux, .int .i64 uy] (by rfl) rfl (fun j u hu => World.news_of_block (cs := #[.int .i64 ux, .int .i64 uy]) C12 j u hu) (by intro u hu; simp only [List.mem_cons, List.not_mem_nil, or_false] at hu; rcases hu with rfl | rfl <;> rfl) (by omega) (by unfold maxLen; omega) (by omega) (by have := D12.size; omega) _ rfl ?_
      intro g cm w8 hown8 hgrow8 hor8 hlg8
      have HLT := hown4.lt
      have D13 : Below (b9 + 1) w3 w8 := D12.grown hgrow8 (by have := D12.size; omega) (fun q hq => by have h1 := (HLT _ hq).1; omega)
      have HX8 : Hid (∃ am cm', (Value.slice (some ⟨g, 0, none⟩) (n + 1) cm) = .slice am (n + 1) cm' ∧ XYs w8 am (n + 1) (fun j => ((exL X Y n (ux, uy)).getD j (0, 0)).1) (fun j => ((exL X Y n (ux, uy)).getD j (0, 0)).2)) := Lib.hid (own_xys (l := exL X Y n (ux, uy)) (by unfold exL; rw [xyC_snoc]; exact hown8) (exL_len _ _ _ _))
      have q8 : w8.heap[b9]? = some (.cells #[.int .i64 W, .int .i64 H, .int .i64 M, .int .i64 B, .slice ao n cp] 24 (0, 0)) := (G0.out _ D13).2
      have hgne : Hid (∀ b, b = g → b ≠ b9) := Lib.hid (fun b e => by have h1 : b9 + 1 ≤ g := (hown8.lt _ rfl).1; omega)
      clear hgrow8 hor8 hown8 HLT hHeld
      refine hK.out _ _ (G0.out _ D13).1 (fun hHeld => ?_)
      clear hK K
      try simp only [act_all]
      refine wpAnyH_take (i := 7) (oi := _) (v := ?_) rfl (by kernel_rfl) (by kernel_rfl) (by kernel_rfl) (fun _ _ _ h => h) (Or.inl ⟨by rfl, ?_⟩) (by assumption) ?_
      rotate_left
      · intro w hSw; obtain ⟨s0, s1⟩ := hSw; go_simp; (try with_reducible rfl)
      try change wpAnyH _ _ _ _ _ _ _ (Act.put _ (some 31) _) _
      try simp only [act_all]
      refine wpAnyH_ready (rs := [8]) (by kernel_rfl) (by simp) ?_
      refine AllReadyH.cons (o := _) rfl (fun K hK => ?_) AllReadyH.nil
      have v0 : w8.cell? ⟨b9, 4, none⟩ = some (.slice ao n cp) := cell_of_blk q8 rfl
      have v1 : w8.frozen? ⟨b9, 4, none⟩ = false := by simp [World.frozen?, q8]
      go_simp
      have HXN : Hid (∃ am cm', (Value.slice (some ⟨g, 0, none⟩) (n + 1) cm) = .slice am (n + 1) cm' ∧ XYs (w8.setCell ⟨b9, 4, none⟩ (.slice (some ⟨g, 0, none⟩) (n + 1) cm)) am (n + 1) (fun j => ((exL X Y n (ux, uy)).getD j (0, 0)).1) (fun j => ((exL X Y n (ux, uy)).getD j (0, 0)).2)) := Lib.hid (by
        obtain ⟨am, cm', he, hx⟩ := HX8.out
        refine ⟨am, cm', he, fun h0 => ?_⟩
        obtain ⟨b, o, e1, hcell⟩ := hx h0
        refine ⟨b, o, e1, fun i hi => ?_⟩
        have hne : b ≠ b9 := hgne.out _ (by have h := he; injection h with h; rw [e1] at h; injection h with h; injection h with h; exact h.symm)
        have hk : ∀ z, (w8.setCell ⟨b9, 4, none⟩ (.slice (some ⟨g, 0, none⟩) (n + 1) cm)).cell? ⟨b, z, none⟩ = w8.cell? ⟨b, z, none⟩ := fun z => World.cell?_of_block (Below.heap_setCell _ _ _ _ hne)
        exact ⟨(hk _).trans (hcell i hi).1, (hk _).trans (hcell i hi).2⟩)
      have q9 : (w8.setCell ⟨b9, 4, none⟩ (.slice (some ⟨g, 0, none⟩) (n + 1) cm)).heap[b9]? = some (.cells #[.int .i64 W, .int .i64 H, .int .i64 M, .int .i64 B, .slice (some ⟨g, 0, none⟩) (n + 1) cm] 24 (0, 0)) := blk_set q8 _
      have DN : Below b9 w2 (w8.setCell ⟨b9, 4, none⟩ (.slice (some ⟨g, 0, none⟩) (n + 1) cm)) := below_mids (Nat.le_refl _) [_] 4 (HE0.out.trans (D13.mono (by omega)))
      have sN : (w8.setCell ⟨b9, 4, none⟩ (.slice (some ⟨g, 0, none⟩) (n + 1) cm)).cell? ⟨b3, 4, none⟩ = some (.slice ao n cp) ∧ (w8.setCell ⟨b9, 4, none⟩ (.slice (some ⟨g, 0, none⟩) (n + 1) cm)).heap[bu]? = some (.cells #[.int .i64 ux, .int .i64 uy] 26 (0, 0)) := ⟨(World.cell?_of_block (Below.heap_setCell _ _ _ _ (show b3 ≠ b9 by omega))).trans (G0.out _ D13).1.1, (Below.heap_setCell _ _ _ _ (show bu ≠ b9 by omega)).trans (G0.out _ D13).1.2⟩
      have zN : b9 < (w8.setCell ⟨b9, 4, none⟩ (.slice (some ⟨g, 0, none⟩) (n + 1) cm)).heap.size := (Array.getElem?_eq_some_iff.1 q9).1
      refine hK.out _ _ sN (fun hHeld => ?_)
      clear hK K
      try simp only [act_all]
      clear v0 v1
      refine wpAnyH_done (by kernel_rfl) ?_ _
      clear hHeld
      go_wp2_with fail
      go_meet
      obtain ⟨am, cm', he, hx⟩ := HXN.out
      injection he with e1 e2 e3
      subst e1
      exact ⟨_, _, q9, hx, DN, zN⟩
    case rest =>
    obtain ⟨am, cm, hKM, hXM, hBM, hzM⟩ := hcut
    obtain ⟨C, hC⟩ : ∃ z, z = wc := ⟨wc, rfl⟩
    subst hC
    have KM := Lib.hid hKM
    have HXM := Lib.hid hXM
    have KTC : Hid (C.heap[bt]? = some (.cells #[.int .i64 tx, .int .i64 ty] 26 (0, 0))) := Lib.hid ((hBM.block _ (by have := HZ.out; omega)).trans KTs.out)
    have HBC : Hid (Below w.heap.size w C) := Lib.hid (HB2.out.trans ((show Below b9 w2 C from hBM).mono (by omega)))
    have HF1C : Hid (k1 = 0 → vaG W H M B n X Y = true ∧ opB W H (blkN X Y n) tx ty = true ∧ (N1 : Int) = W * H ∧ ∃ F, Costs W H (blkN X Y n) M B tx ty F ∧ Ints C a1 N1 (fun j => farS F B tx ty (j % W.toNat : Nat) (j / W.toNat : Nat))) := Lib.hid (fun h => by
      obtain ⟨p1, p2, p3, F, p4, p5⟩ := HF1.out h
      exact ⟨p1, p2, p3, F, p4, p5.keep (by rw [← HZ.out]; exact hBM)⟩)
    clear hKM hXM hBM HF1 KTs HB2 HB3 KM3 KG3 KT3 KU3 HE0
    obtain ⟨g0, g1, g2, g3, g4⟩ : C.cell? ⟨b9, 0, none⟩ = some (.int .i64 W) ∧ C.cell? ⟨b9, 1, none⟩ = some (.int .i64 H) ∧ C.cell? ⟨b9, 2, none⟩ = some (.int .i64 M) ∧ C.cell? ⟨b9, 3, none⟩ = some (.int .i64 B) ∧ C.cell? ⟨b9, 4, none⟩ = some (.slice am (n + 1) cm) := ⟨cell_of_blk KM.out rfl, cell_of_blk KM.out rfl, cell_of_blk KM.out rfl, cell_of_blk KM.out rfl, cell_of_blk KM.out rfl⟩
    obtain ⟨t0, t1⟩ : C.cell? ⟨bt, 0, none⟩ = some (.int .i64 tx) ∧ C.cell? ⟨bt, 1, none⟩ = some (.int .i64 ty) := ⟨cell_of_blk KTC.out rfl, cell_of_blk KTC.out rfl⟩
    go_wp2_with fail
    refine (pFar_any W H M B tx ty (n + 1) cm am _ _ _ (by omega) HXM.out).mono ?_
    rintro e w6 ⟨k2, N2, c2, a2, rfl, hb, hF2⟩
    have HB6 : Hid (Below w.heap.size w w6) := Lib.hid (HBC.out.trans (hb.mono HBC.out.size))
    have HF16 : Hid (k1 = 0 → vaG W H M B n X Y = true ∧ opB W H (blkN X Y n) tx ty = true ∧ (N1 : Int) = W * H ∧ ∃ F, Costs W H (blkN X Y n) M B tx ty F ∧ Ints w6 a1 N1 (fun j => farS F B tx ty (j % W.toNat : Nat) (j / W.toNat : Nat))) := Lib.hid (fun h => by
      obtain ⟨p1, p2, p3, F, p4, p5⟩ := HF1C.out h
      exact ⟨p1, p2, p3, F, p4, p5.keep hb⟩)
    have HF2 := Lib.hid hF2
    clear hb hF2 HF1C KM KTC HBC g0 g1 g2 g3 g4 t0 t1
    by_cases hk1 : k1 = 0
    case neg =>
      have hb1 : (k1 != 0) = true := bne_iff_ne.2 hk1
      go_wp2_with fail
      refine (lawake_any _).mono ?_
      rintro e wA ⟨rfl, hb⟩
      have HBA : Hid (Below w.heap.size w wA) := Lib.hid (HB6.out.trans (hb.mono HB6.out.size))
      clear hb HB6
      go_wp2_with fail
      refine bodyPost_ret (v := .bool true) (by simp [results, Try.results9, go_sem]) rfl ⟨rfl, HBA.out⟩
    have hb1 : (k1 != 0) = false := by rw [hk1]; rfl
    by_cases hk2 : k2 = 0
    case neg =>
      have hb2 : (k2 != 0) = true := bne_iff_ne.2 hk2
      go_wp2_with fail
      refine (lawake_any _).mono ?_
      rintro e wA ⟨rfl, hb⟩
      have HBA : Hid (Below w.heap.size w wA) := Lib.hid (HB6.out.trans (hb.mono HB6.out.size))
      clear hb HB6
      go_wp2_with fail
      refine bodyPost_ret (v := .bool true) (by simp [results, Try.results9, go_sem]) rfl ⟨rfl, HBA.out⟩
    have hb2 : (k2 != 0) = false := by rw [hk2]; rfl
    obtain ⟨p1, p2, p3, F, p4, p5⟩ := HF16.out hk1
    obtain ⟨_, _, q3, G, q4, q5⟩ := HF2.out hk2
    have hNN : N2 = N1 := by omega
    rw [hNN] at q5 ⊢
    clear hNN q3
    have hN9 := wh_le (vaG_num p1).1.1 (vaG_num p1).1.2.1 (vaG_num p1).1.2.2.1 (vaG_num p1).1.2.2.2.1
    have hN1 : N1 ≤ 900 := by omega
    have HFA := Lib.hid p5
    have HFB := Lib.hid q5
    have HLE : Hid (∀ x y, 0 ≤ farS G B tx ty x y → 0 ≤ farS F B tx ty x y ∧ farS F B tx ty x y ≤ farS G B tx ty x y) := Lib.hid (by
      have hnum := (vaG_num p1).1
      rw [blkN_ex] at q4
      exact fun x y h => far_more (by omega) (by omega) (fun _ _ h => opB_less h) p4 q4 x y h)
    clear p1 p2 p3 p4 p5 q4 q5 HF16 HF2 hN9 hk1 hk2
    go_wp2_with fail
    go_loopg [52] N1 (fun gg v52 wr => ∃ k : Nat, v52 = .int .i64 k ∧ k ≤ N1 ∧ Hid (N1 - k ≤ gg) ∧ Hid (Ints wr a1 N1 (fun j => farS F B tx ty (j % W.toNat : Nat) (j / W.toNat : Nat))) ∧ Hid (Ints wr a2 N1 (fun j => farS G B tx ty (j % W.toNat : Nat) (j / W.toNat : Nat))) ∧ Hid (Below w.heap.size w wr))
    case atStart => exact ⟨0, rfl, by omega, Lib.hid (by omega), HFA, HFB, HB6⟩
    case round =>
      obtain ⟨k, rfl, hk, HG, HA, HBB, HB⟩ := hrel
      clear HFA HFB HB6
      by_cases hlt : k < N1
      case neg =>
        go_wp2_with fail
        refine (lawake_any _).mono ?_
        rintro e wA ⟨rfl, hb⟩
        have HBA : Hid (Below w.heap.size w wA) := Lib.hid (HB.out.trans (hb.mono HB.out.size))
        clear hb HB
        go_wp2_with fail
        refine bodyPost_ret (v := .bool true) (by simp [results, Try.results9, go_sem]) rfl ⟨rfl, HBA.out⟩
      have HGG : Hid (N1 - k ≤ gk) := Lib.hid HG.out
      clear HG
      obtain ⟨ba, oa, rfl, hca⟩ := HA.out (by omega)
      obtain ⟨bb, ob, rfl, hcb⟩ := HBB.out (by omega)
      have ca := hca k hlt
      have cb := hcb k hlt
      have hl := HLE.out ((k % W.toNat : Nat) : Int) ((k / W.toNat : Nat) : Int)
      simp only at ca cb
      obtain ⟨av, hav⟩ : ∃ z, farS F B tx ty ((k % W.toNat : Nat) : Int) ((k / W.toNat : Nat) : Int) = z := ⟨_, rfl⟩
      obtain ⟨bv, hbv⟩ : ∃ z, farS G B tx ty ((k % W.toNat : Nat) : Int) ((k / W.toNat : Nat) : Int) = z := ⟨_, rfl⟩
      rw [hav] at ca hl
      rw [hbv] at cb hl
      clear hca hcb hav hbv
      by_cases h0 : 0 ≤ bv
      case pos =>
        obtain ⟨h1, h2⟩ := hl h0
        clear hl
        have e1 : ¬ av < 0 := by omega
        have e2 : ¬ bv < av := by omega
        go_upto_region 14 with fail
        go_quiet (fail)
        have DQ : Below wr.heap.size wr (wr.drewN nq) := drewN_below (Below.refl _ _)
        go_wp2_with fail
        go_roundg (N1 - (k + 1))
        case measure => have := HGG.out; omega
        case rel => exact ⟨k + 1, by go_num, by omega, Lib.hid (Nat.le_refl _), Lib.hid (HA.out.keep DQ), Lib.hid (HBB.out.keep DQ), Lib.hid (HB.out.trans (DQ.mono HB.out.size))⟩
      case neg =>
        clear hl
        by_cases h1 : av < 0
        case pos =>
          go_upto_region 14 with fail
          go_quiet (fail)
          have DQ : Below wr.heap.size wr (wr.drewN nq) := drewN_below (Below.refl _ _)
          go_wp2_with fail
          go_roundg (N1 - (k + 1))
          case measure => have := HGG.out; omega
          case rel => exact ⟨k + 1, by go_num, by omega, Lib.hid (Nat.le_refl _), Lib.hid (HA.out.keep DQ), Lib.hid (HBB.out.keep DQ), Lib.hid (HB.out.trans (DQ.mono HB.out.size))⟩
        case neg =>
          go_upto_region 14 with fail
          go_quiet (fail)
          have DQ : Below wr.heap.size wr (wr.drewN nq) := drewN_below (Below.refl _ _)
          go_wp2_with fail
          go_roundg (N1 - (k + 1))
          case measure => have := HGG.out; omega
          case rel => exact ⟨k + 1, by go_num, by omega, Lib.hid (Nat.le_refl _), Lib.hid (HA.out.keep DQ), Lib.hid (HBB.out.keep DQ), Lib.hid (HB.out.trans (DQ.mono HB.out.size))⟩
end Go.Proofs.Ytkkcnhhfdicppaa
