import Derived.Test.YtkkcnhhfdicppaaIt7
namespace Go.Proofs.Ytkkcnhhfdicppaa
open Go.RowKit Lay Go.Lib
theorem insert_any (B n i vb vc : Nat) (V : Value) (xs : List Value) (y0 y1 y2 y3 : Value) (w : World) (hi : i < n) (hn9 : n ≤ 100000) (hB : B ≤ w.heap.size) (hown : w.ownsRow B 26 2 V n xs) (h1 : ∀ v ∈ xs, v.oneCell' = true)
    (hv : w.heap[vb]? = some (.cells #[y0, y1, y2, y3] 26 (0, 0))) (hne : V.ownBlock ≠ some vb) (h1v : ∀ v ∈ [y0, y1, y2, y3], v.oneCell' = true) :
    Calls Try.prog 59 #[V, .int .i64 (i : Int), .slice (some ⟨vb, 0, none⟩) 2 vc] w fun e w' => ∃ v', e = .returned v' ∧ w'.ownsRow B 26 2 v' (n + 2) (xs.take (i * 2) ++ ([y0, y1, y2, y3] ++ xs.drop (i * 2))) ∧ Below B w w' ∧ (∀ k, k < w.heap.size → V.ownBlock ≠ some k → w'.heap[k]? = w.heap[k]?) ∧ (v'.ownBlock = V.ownBlock ∨ ∃ g, v'.ownBlock = some g ∧ w.heap.size ≤ g) := by
  obtain ⟨hxl, h2⟩ := hown
  have hlen : (xs.take (i * 2) ++ ([y0, y1, y2, y3] ++ xs.drop (i * 2))).length = (n + 2) * 2 := by
    rw [List.length_append, List.length_append, List.length_take, List.length_drop]; simp; omega
  rcases h2 with ⟨_, h0⟩ | ⟨g, cap, cur, rfl, hbg, hg, hnc, hcm, hcs, hx⟩
  · omega
  have hvg : vb ≠ g := fun e => hne (by rw [e]; rfl)
  have hgl : g < w.heap.size := (Array.getElem?_eq_some_iff.1 hg).1
  have hdl : (xs.drop (i * 2)).length = (n - i) * 2 := by rw [List.length_drop]; omega
  by_cases hr : n + 2 ≤ cap
  · refine (insert_room g n i cap vb vc cur (xs.drop (i * 2)) y0 y1 y2 y3 w hi hr (by unfold maxLen at hcm; omega) hg hcs (by rw [hx]) (fun v hv => h1 v (List.mem_of_mem_drop hv)) hv hvg h1v).mono ?_
    rintro e w' ⟨rfl, rfl⟩
    refine ⟨_, rfl, ⟨hlen, Or.inr ⟨g, cap, _, rfl, hbg, block_setCells' _ _ _ _ (block_setCells' _ _ _ _ hg), hr, hcm, by rw [putAt'_size, putAt'_size]; exact hcs, ins_list hi hxl rfl (by rw [putAt'_size, putAt'_size]; omega) fun j hj => ?_⟩⟩, below_mids hbg _ _ (below_mids hbg _ _ (Below.refl B w).drew), fun k hk hne' => ?_, Or.inl rfl⟩
    · rw [putAt'_get _ _ _ (by rw [putAt'_size]; simp; omega), putAt'_get _ _ _ (by rw [hdl]; omega)]
      by_cases a1 : j < i * 2
      · rw [if_pos a1, if_pos (by omega), if_pos a1, ← hx, List.getElem?_take_of_lt (by omega), Array.getElem?_toList]
      · rw [if_neg a1, if_neg a1]
        by_cases a2 : j < i * 2 + 4
        · rw [if_pos (by simpa using a2), if_pos a2]
        · rw [if_neg (by simpa using a2), if_neg a2, if_neg (by omega), if_pos (by omega), List.getElem?_drop, show i * 2 + (j - (i + 2) * 2) = j - 4 by omega]
    · have hkg : k ≠ g := fun e => hne' (by rw [e]; rfl)
      exact (heap_setCells_other _ _ _ hkg).trans (heap_setCells_other _ _ _ hkg)
  · refine (insert_grow g n i cap vb vc cur xs y0 y1 y2 y3 w hi hn9 hnc (by omega) hg hcs hx h1 hv h1v).mono ?_
    rintro e w' ⟨G, ROW, rfl, hG, hGm, hRs, hRx, rfl⟩
    have hnew : ((w.alloc (.cells ROW 26)).drew).heap[w.heap.size]? = some (.cells ROW 26 (0, 0)) := heap_alloc_new w _
    refine ⟨_, rfl, ⟨hlen, Or.inr ⟨w.heap.size, G, _, rfl, hB, block_setCells' _ _ _ _ (block_setCells' (b := w.heap.size) _ _ _ _ hnew), hG, hGm, by rw [putAt'_size, putAt'_size]; exact hRs, ins_list hi hxl rfl (by rw [putAt'_size, putAt'_size]; omega) fun j hj => ?_⟩⟩, below_mids hB _ _ (below_mids hB _ _ ((Below.refl B w).alloc hB _).drew).drew, fun k hk hne' => ?_, Or.inr ⟨_, rfl, Nat.le_refl _⟩⟩
    · rw [putAt'_get _ _ _ (by rw [putAt'_size, hdl]; omega), putAt'_get _ _ _ (by simp; omega)]
      by_cases a1 : j < i * 2
      · rw [if_pos (by omega), if_pos a1, if_pos a1, hRx j a1]
      · rw [if_neg a1, if_neg a1]
        by_cases a2 : j < i * 2 + 4
        · rw [if_pos (by omega), if_pos (by simpa using a2), if_pos a2]
        · rw [if_neg (by omega), if_pos (by omega), if_neg a2, List.getElem?_drop, show i * 2 + (j - (i + 2) * 2) = j - 4 by omega]
    · have hkg : k ≠ w.heap.size := by omega
      exact (heap_setCells_other _ _ _ hkg).trans ((heap_setCells_other _ _ _ hkg).trans (Below.heap_alloc _ _ _ hk))
set_option maxRecDepth 100000 in
set_option maxHeartbeats 4000000 in
theorem clone_any (n cp : Nat) (ao : Option Addr) (X Y : Nat → Int) (w : World) (h0 : 1 ≤ n) (hn : n ≤ 100000) (hc : XYs w ao n X Y) :
    Calls Try.prog 56 #[.slice ao n cp] w fun e w' => ∃ v, e = .returned v ∧ w'.ownsRow w.heap.size 26 2 v n (xyC (prL X Y n)) ∧ Below w.heap.size w w' := by
  obtain ⟨i0, hi, hz0, hz1', hz2'⟩ := info_parts xy_info
  have HI := Lib.hid (And.intro hi (And.intro hz0 (And.intro hz1' hz2')))
  clear hi hz0 hz1' hz2'
  obtain ⟨b, o, rfl, hcell⟩ := hc (by omega)
  have HN : Hid (∀ j u, (xyC (prL X Y n))[j]? = some u → w.cell? ((⟨b, o, none⟩ : Addr).add j) = some u) := Lib.hid (news_xys hcell)
  have hbl : b < w.heap.size := World.block_lt_of_cell? w _ (hcell 0 (by omega)).1
  clear hc hcell
  have he : ∀ w : World, (binOp .eql 22 (.slice (some ⟨b, o, none⟩) n cp) (.slice none 0 0)).run Try.prog w = .ok (.bool false) w := fun _ => rfl
  go_enter Try.func56, Try.ntmps56
  go_upto_region 3 with fail
  refine wp_region_lit ?_
  refine wpList_step (fun K hK => ?_); go_simp; refine hK _ _ ?_; clear hK K
  refine wpList_step (fun K hK => ?_); go_simp; refine hK _ _ ?_; clear hK K
  have hmade : (w.alloc (.cells #[] 26)).ownsRow w.heap.size 26 2 (.slice (some ⟨w.heap.size, 0, none⟩) 0 0) 0 [] := World.ownsRow_made (size := 2) (base := w.heap.size) w (e := 26) #[] 0 (Nat.le_refl _) (by unfold maxLen; omega) rfl
  have hnews : ∀ j u, (xyC (prL X Y n))[j]? = some u → (w.alloc (.cells #[] 26)).cell? ((⟨b, o, none⟩ : Addr).add j) = some u := fun j u hu => (World.cell?_of_block (Below.heap_alloc _ _ _ (by rw [Addr.add_lit]; exact hbl))).trans (HN.out j u hu)
  refine wpList_append_own _ rfl _ _ 22 rfl w.heap.size 26 i0 _ 2 16 Try.underlying22 HI.out.1 HI.out.2.1 HI.out.2.2.1 HI.out.2.2.2 (by rfl) (by decide) (.slice (some ⟨w.heap.size, 0, none⟩) 0 0) 0 [] (by rfl) hmade ⟨b, o, none⟩ n cp (xyC (prL X Y n)) (by rfl) (by rw [xyC_len, prL_len]) hnews (xyC_one _) (by unfold maxLen; omega) (by omega) (by simp) ?_
  intro v' w9 hown' hgrow hnil
  have hown : w9.ownsRow w.heap.size 26 2 v' n (xyC (prL X Y n)) := by rw [Nat.zero_add] at hown'; exact hown'
  have HO := Lib.hid hown
  have HB : Hid (Below w.heap.size w w9) := Lib.hid (((Below.refl w.heap.size w).alloc (Nat.le_refl _) _).grown hgrow (by simp) (fun j hj => by have : w.heap.size = j := Option.some.inj hj; omega))
  clear hown hown' hgrow hnil hmade hnews
  refine wpList_step (fun K hK => ?_); go_simp; refine hK _ _ ?_; clear hK K
  refine wpList_nil ?_
  go_wp2_with fail
  refine bodyPost_ret (v := v') (by simp [results, Try.results56, go_sem]) rfl ⟨v', rfl, HO.out, HB.out⟩
end Go.Proofs.Ytkkcnhhfdicppaa
