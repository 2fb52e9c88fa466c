import Derived.Test.YtkkcnhhfdicppaaCq7
namespace Lay
/-- What Rim answers. -/
def riK (on : Bool) (p : Int) : Int := if on = true then max p 0 else 0
def riB (on : Bool) (p : Int) : Bool := on && decide (0 ≤ p)
def riE (on : Bool) : Int := if on = true then 0 else 72
theorem rim_index {W H x y r : Int} {l : List (Int × Int)} (h : Rim W H l) (hon : 0 ≤ x ∧ x < W ∧ 0 ≤ y ∧ y < H) (hr : (r = -1 ∧ blkN (fun j => (l.getD j (0, 0)).1) (fun j => (l.getD j (0, 0)).2) l.length x y = false) ∨ ∃ k : Nat, r = k ∧ k < l.length ∧ (l.getD k (0, 0)).1 = x ∧ (l.getD k (0, 0)).2 = y) : r = riP W H x y := by
  rcases hr with ⟨h1, h2⟩ | ⟨k, h1, h2, h3, h4⟩
  · rw [blkN_mem, decide_eq_false_iff_not, h.1.mem hon] at h2
    have := riP_low hon
    have := h.2 x y hon
    omega
  · have hk : l[k]? = some l[k] := List.getElem?_eq_getElem h2
    have := (h.1 k _ hk).2
    rw [List.getD_eq_getElem?_getD, hk] at h3 h4
    simp only [Option.getD_some] at h3 h4
    rw [h3, h4] at this
    omega
end Lay
namespace Go.Proofs.Ytkkcnhhfdicppaa
open Go.RowKit Lay
set_option maxRecDepth 100000 in
set_option maxHeartbeats 4000000 in
theorem pRim_grid (W H M B x y : Int) (n cp : Nat) (ao : Option Addr) (X Y : Nat → Int) (w : World) (hn : n ≤ 9223372036854775807) (hc : XYs w ao n X Y) (hv : vaG W H M B n X Y = false) :
    Calls Try.prog 12 #[.agg #[.int .i64 W, .int .i64 H, .int .i64 M, .int .i64 B, .slice ao n cp], .agg #[.int .i64 x, .int .i64 y]] w fun e w' => e = .returned (.tuple #[.int .i64 0, .bool false, .int .i64 70]) ∧ Below w.heap.size w w' := by
  have HC := Lib.hid hc
  have HV := Lib.hid hv
  clear hc hv
  go_enter Try.func12, Try.ntmps12
  go_wp2_with fail
  refine (pRead_no W H M B n cp ao X Y _ hn (HC.out.keep (by go_grown)) HV.out).mono ?_
  rintro e w1 ⟨rfl, hb⟩
  have HB1 : Hid (Below w.heap.size w w1) := Lib.hid (Below.trans (by go_grown) (hb.mono (by simp; omega)))
  have hz : w.heap.size ≤ w1.heap.size := HB1.out.size
  clear hb
  go_wp2_with fail
  refine bodyPost_ret (v := .tuple #[.int .i64 0, .bool false, .int .i64 70]) (by simp [results, Try.results12, go_sem]) rfl ⟨rfl, HB1.out.alloc hz _⟩
set_option maxRecDepth 100000 in
set_option maxHeartbeats 4000000 in
theorem pRim_any (W H M B x y : Int) (n cp : Nat) (ao : Option Addr) (X Y : Nat → Int) (w : World) (hc : XYs w ao n X Y) (hv : vaG W H M B n X Y = true) (on : Bool) (hon : onB W H x y = on) :
    Calls Try.prog 12 #[.agg #[.int .i64 W, .int .i64 H, .int .i64 M, .int .i64 B, .slice ao n cp], .agg #[.int .i64 x, .int .i64 y]] w fun e w' => e = .returned (.tuple #[.int .i64 (riK on (riP W H x y)), .bool (riB on (riP W H x y)), .int .i64 (riE on)]) ∧ Below w.heap.size w w' := by
  have HON := Lib.hid hon
  clear hon
  have HC := Lib.hid hc
  have HV := Lib.hid hv
  obtain ⟨hnum, _⟩ := vaG_num hv
  clear hc hv
  go_enter Try.func12, Try.ntmps12
  go_wp2_with fail
  refine (pRead_ok W H M B n cp ao X Y _ (HC.out.keep (by go_grown)) HV.out).mono ?_
  rintro e w1 ⟨m, rfl, hm1, hbm, hb⟩
  obtain ⟨b2, hb2⟩ : ∃ b, b = w.heap.size := ⟨_, rfl⟩
  obtain ⟨bt, hbt⟩ : ∃ b, b = w.heap.size + 1 := ⟨_, rfl⟩
  obtain ⟨b9, hb9⟩ : ∃ b, b = w1.heap.size := ⟨_, rfl⟩
  have hz1 : bt < b9 := by have h9 := hb.size; simp at h9; omega
  have KG1 : Hid (G5 w1 b2 W H M B ao n cp) := Lib.hid ((hb.block _ (by simp; omega)).trans ((Below.heap_alloc _ _ _ (by simp; omega)).trans (by rw [hb2]; exact heap_alloc_new w _)))
  have KT1 : Hid (w1.heap[bt]? = some (.cells #[.int .i64 x, .int .i64 y] 26 (0, 0))) := Lib.hid ((hb.block _ (by simp; omega)).trans (by rw [hbt]; have h := heap_alloc_new (w.alloc (.cells #[.int .i64 W, .int .i64 H, .int .i64 M, .int .i64 B, .slice ao n cp] 24)) (.cells #[.int .i64 x, .int .i64 y] 26); rwa [World.size_alloc] at h))
  have HB1 : Hid (Below w.heap.size w w1) := Lib.hid (Below.trans (by go_grown) (hb.mono (by simp; omega)))
  obtain ⟨w2, hw2⟩ : ∃ z, z = w1.alloc (.cells #[.int .i64 W, .int .i64 H, .int .i64 M, .int .i64 B, .slice ao n cp, .map (some m)] 68) := ⟨_, rfl⟩
  have hbb : Below w1.heap.size w1 w2 := by rw [hw2]; exact bal (Below.refl _ _) _
  have KB2 : Hid (w2.heap[b9]? = some (.cells #[.int .i64 W, .int .i64 H, .int .i64 M, .int .i64 B, .slice ao n cp, .map (some m)] 68 (0, 0))) := Lib.hid (by rw [hw2, hb9]; exact heap_alloc_new w1 _)
  have hz2 : w2.heap.size = b9 + 1 := by rw [hw2]; simp; omega
  have HB2 : Hid (Below w.heap.size w w2) := Lib.hid (HB1.out.trans (hbb.mono (by omega)))
  have KT2 : Hid (w2.heap[bt]? = some (.cells #[.int .i64 x, .int .i64 y] 26 (0, 0))) := Lib.hid ((hbb.block _ (by first | omega | (simp; done) | (simp; omega))).trans KT1.out)
  have KG2 : Hid (G5 w2 b2 W H M B ao n cp) := Lib.hid ((hbb.block _ (by omega)).trans KG1.out)
  have hwm : b2 < bt := by omega
  have hwb : w.heap.size ≤ b2 := by omega
  clear hb hbm KT1 HB1 hbb KG1
  have HW2 := Lib.hid hw2
  have HB9 := Lib.hid hb9
  have HBT := Lib.hid hbt
  have HBB := Lib.hid hb2
  clear hb9 hw2 hm1 hbt hb2
  go_upto_region 4 with fail
  rw [← HB9.out, ← HW2.out]
  try rw [← HBT.out]
  try rw [← HBB.out]
  clear HBT HW2 HB9 HBB
  obtain ⟨g0, g1, g2, g3, g4⟩ := G5.c KG2.out
  obtain ⟨t0, t1⟩ : w2.cell? ⟨bt, 0, none⟩ = some (.int .i64 x) ∧ w2.cell? ⟨bt, 1, none⟩ = some (.int .i64 y) := ⟨cell_of_blk KT2.out rfl, cell_of_blk KT2.out rfl⟩
  go_wp2_with fail
  refine (isOn_any W H M B x y _ rfl _).mono ?_
  rw [HON.out]
  rintro e w4 ⟨rfl, hb⟩
  have KB4 : Hid (w4.heap[b9]? = some (.cells #[.int .i64 W, .int .i64 H, .int .i64 M, .int .i64 B, .slice ao n cp, .map (some m)] 68 (0, 0))) := Lib.hid ((hb.block _ (by omega)).trans KB2.out)
  have KT4 : Hid (w4.heap[bt]? = some (.cells #[.int .i64 x, .int .i64 y] 26 (0, 0))) := Lib.hid ((hb.block _ (by omega)).trans KT2.out)
  have HB4 : Hid (Below w.heap.size w w4) := Lib.hid (HB2.out.trans (hb.mono (by omega)))
  clear hb KB2 KT2 HB2 KG2 g0 g1 g2 g3 g4 t0 t1
  cases on with
  | false =>
    go_wp2_with fail
    refine bodyPost_ret (v := .tuple #[.int .i64 0, .bool false, .int .i64 72]) (by simp [results, Try.results12, go_sem]) rfl ⟨rfl, HB4.out⟩
  | true =>
    have h0 := onB_iff.1 HON.out
    obtain ⟨cB0, cB1, cB2, cB3, cB4, cB5⟩ : w4.cell? ⟨b9, 0, none⟩ = some (.int .i64 W) ∧ w4.cell? ⟨b9, 1, none⟩ = some (.int .i64 H) ∧ w4.cell? ⟨b9, 2, none⟩ = some (.int .i64 M) ∧ w4.cell? ⟨b9, 3, none⟩ = some (.int .i64 B) ∧ w4.cell? ⟨b9, 4, none⟩ = some (.slice ao n cp) ∧ w4.cell? ⟨b9, 5, none⟩ = some (.map (some m)) := ⟨cell_of_blk KB4.out rfl, cell_of_blk KB4.out rfl, cell_of_blk KB4.out rfl, cell_of_blk KB4.out rfl, cell_of_blk KB4.out rfl, cell_of_blk KB4.out rfl⟩
    obtain ⟨t0, t1⟩ : w4.cell? ⟨bt, 0, none⟩ = some (.int .i64 x) ∧ w4.cell? ⟨bt, 1, none⟩ = some (.int .i64 y) := ⟨cell_of_blk KT4.out rfl, cell_of_blk KT4.out rfl⟩
    go_wp2_with fail
    refine (place_any W H M B x y n cp m ao _ (by omega) (by omega) (by omega) (by omega) (by omega) (by omega)).mono ?_
    obtain ⟨p, hp⟩ : ∃ z, max (riP W H x y) 0 = z := ⟨_, rfl⟩
    obtain ⟨q, hq⟩ : ∃ z, decide (0 ≤ riP W H x y) = z := ⟨_, rfl⟩
    rw [hp, hq]
    have HPQ := Lib.hid (And.intro hp hq)
    rintro e w5 ⟨rfl, hb⟩
    have HB5 : Hid (Below w.heap.size w w5) := Lib.hid (HB4.out.trans (hb.mono HB4.out.size))
    clear hb hp hq
    go_wp2_with fail
    refine bodyPost_ret (v := .tuple #[.int .i64 p, .bool q, .int .i64 0]) (by simp [results, Try.results12, go_sem]) rfl ⟨by rw [show riK true (riP W H x y) = p from HPQ.out.1, show riB true (riP W H x y) = q from HPQ.out.2]; rfl, HB5.out⟩
set_option maxRecDepth 100000 in
set_option maxHeartbeats 4000000 in
theorem rRim_grid (W H M B x y : Int) (n cp : Nat) (ao : Option Addr) (X Y : Nat → Int) (w : World) (hn : n ≤ 9223372036854775807) (hc : XYs w ao n X Y) (hv : vaG W H M B n X Y = false) :
    Calls Try.prog 13 #[.agg #[.int .i64 W, .int .i64 H, .int .i64 M, .int .i64 B, .slice ao n cp], .agg #[.int .i64 x, .int .i64 y]] w fun e w' => e = .returned (.tuple #[.int .i64 0, .bool false, .int .i64 70]) ∧ Below w.heap.size w w' := by
  have HC := Lib.hid hc
  have HV := Lib.hid hv
  clear hc hv
  go_enter Try.func13, Try.ntmps13
  go_wp2_with fail
  refine (rValid_any W H M B n cp ao X Y _ hn (HC.out.keep (by go_grown))).mono ?_
  rw [HV.out]
  rintro e w1 ⟨rfl, hb⟩
  have HB1 : Hid (Below w.heap.size w w1) := Lib.hid (Below.trans (by go_grown) (hb.mono (by simp; omega)))
  clear hb
  go_wp2_with fail
  refine bodyPost_ret (v := .tuple #[.int .i64 0, .bool false, .int .i64 70]) (by simp [results, Try.results13, go_sem]) rfl ⟨rfl, HB1.out⟩
set_option maxRecDepth 100000 in
set_option maxHeartbeats 8000000 in
theorem rRim_ok (W H M B x y : Int) (n cp : Nat) (ao : Option Addr) (X Y : Nat → Int) (w : World) (hc : XYs w ao n X Y) (hv : vaG W H M B n X Y = true) (on : Bool) (hon : onB W H x y = on) :
    Calls Try.prog 13 #[.agg #[.int .i64 W, .int .i64 H, .int .i64 M, .int .i64 B, .slice ao n cp], .agg #[.int .i64 x, .int .i64 y]] w fun e w' => e = .returned (.tuple #[.int .i64 (riK on (riP W H x y)), .bool (riB on (riP W H x y)), .int .i64 (riE on)]) ∧ Below w.heap.size w w' := by
  have HON := Lib.hid hon
  clear hon
  have HC := Lib.hid hc
  have HV := Lib.hid hv
  obtain ⟨hnum, _⟩ := vaG_num hv
  clear hc hv
  go_enter Try.func13, Try.ntmps13
  go_wp2_with fail
  refine (rValid_any W H M B n cp ao X Y _ (by omega) (HC.out.keep (by go_grown))).mono ?_
  rw [HV.out]
  rintro e w1 ⟨rfl, hb⟩
  obtain ⟨b2, hb2⟩ : ∃ b, b = w.heap.size := ⟨_, rfl⟩
  obtain ⟨bt, hbt⟩ : ∃ b, b = w.heap.size + 1 := ⟨_, rfl⟩
  have hz1 : bt < w1.heap.size := by have h9 := hb.size; simp at h9; omega
  have KG1 : Hid (G5 w1 b2 W H M B ao n cp) := Lib.hid ((hb.block _ (by simp; omega)).trans ((Below.heap_alloc _ _ _ (by simp; omega)).trans (by rw [hb2]; exact heap_alloc_new w _)))
  have KT1 : Hid (w1.heap[bt]? = some (.cells #[.int .i64 x, .int .i64 y] 26 (0, 0))) := Lib.hid ((hb.block _ (by simp; omega)).trans (by rw [hbt]; have h := heap_alloc_new (w.alloc (.cells #[.int .i64 W, .int .i64 H, .int .i64 M, .int .i64 B, .slice ao n cp] 24)) (.cells #[.int .i64 x, .int .i64 y] 26); rwa [World.size_alloc] at h))
  have HB1 : Hid (Below w.heap.size w w1) := Lib.hid (Below.trans (by go_grown) (hb.mono (by simp; omega)))
  have hwm : b2 < bt := by omega
  have hwb : w.heap.size ≤ b2 := by omega
  have HBT := Lib.hid hbt
  have HBB := Lib.hid hb2
  clear hb hbt hb2
  go_upto_region 3 with fail
  try rw [← HBT.out]
  try rw [← HBB.out]
  clear HBT HBB
  obtain ⟨g0, g1, g2, g3, g4⟩ := G5.c KG1.out
  obtain ⟨t0, t1⟩ : w1.cell? ⟨bt, 0, none⟩ = some (.int .i64 x) ∧ w1.cell? ⟨bt, 1, none⟩ = some (.int .i64 y) := ⟨cell_of_blk KT1.out rfl, cell_of_blk KT1.out rfl⟩
  go_wp2_with fail
  refine (rOn_any W H M B x y _ rfl _).mono ?_
  rw [HON.out]
  rintro e w4 ⟨rfl, hb⟩
  have KG4 : Hid (w4.heap[b2]? = some (.cells #[.int .i64 W, .int .i64 H, .int .i64 M, .int .i64 B, .slice ao n cp] 24 (0, 0))) := Lib.hid ((hb.block _ (by omega)).trans KG1.out)
  have KT4 : Hid (w4.heap[bt]? = some (.cells #[.int .i64 x, .int .i64 y] 26 (0, 0))) := Lib.hid ((hb.block _ (by omega)).trans KT1.out)
  have HB4 : Hid (Below w.heap.size w w4) := Lib.hid (HB1.out.trans (hb.mono (by omega)))
  have hz4 : bt < w4.heap.size := by have := hb.size; omega
  clear hb KT1 HB1 KG1 g0 g1 g2 g3 g4 t0 t1
  cases on with
  | false =>
    go_wp2_with fail
    refine bodyPost_ret (v := .tuple #[.int .i64 0, .bool false, .int .i64 72]) (by simp [results, Try.results13, go_sem]) rfl ⟨rfl, HB4.out⟩
  | true =>
    have h0 := onB_iff.1 HON.out
    go_upto_region 5 with fail
    have G0 : Hid (∀ w' : World, Below w4.heap.size w4 w' → w'.heap[b2]? = some (.cells #[.int .i64 W, .int .i64 H, .int .i64 M, .int .i64 B, .slice ao n cp] 24 (0, 0)) ∧ w'.heap[bt]? = some (.cells #[.int .i64 x, .int .i64 y] 26 (0, 0))) := Lib.hid (fun w' hb => ⟨(hb.block _ (by omega)).trans KG4.out, (hb.block _ (by omega)).trans KT4.out⟩)
    have D0 : Below w4.heap.size w4 w4.drew := (Below.refl _ _).drew
    refine wp_region_held_drew (S := fun w' => w'.heap[b2]? = some (.cells #[.int .i64 W, .int .i64 H, .int .i64 M, .int .i64 B, .slice ao n cp] 24 (0, 0)) ∧ w'.heap[bt]? = some (.cells #[.int .i64 x, .int .i64 y] 26 (0, 0))) (by kernel_rfl) (G0.out _ D0) (fun hHeld => ?_)
    refine wpAnyH_take (i := 0) (oi := _) (v := _) rfl (by kernel_rfl) (by kernel_rfl) (by kernel_rfl) (fun _ _ _ h => h) (yieldsIf_load_mid (by rfl) 24 _ rfl b2 0 rfl ([.int .i64 W, .int .i64 H, .int .i64 M, .int .i64 B, .slice ao n cp]) _ (fun w' hh => range_row hh.1 0 [.int .i64 W, .int .i64 H, .int .i64 M, .int .i64 B, .slice ao n cp] (fun j hj => by simp only [Nat.zero_add, List.getElem?_toArray])) Try.underlying24 rfl (by kernel_rfl)) (by assumption) ?_
    try change wpAnyH _ _ _ _ _ _ _ (Act.put _ (some 15) _) _
    try simp only [act_all]
    refine wpAnyH_take (i := 2) (oi := _) (v := _) rfl (by kernel_rfl) (by kernel_rfl) (by kernel_rfl) (fun _ _ _ h => h) (yieldsIf_load_mid (by rfl) 26 _ rfl bt 0 rfl ([.int .i64 x, .int .i64 y]) _ (fun w' hh => range_row hh.2 0 [.int .i64 x, .int .i64 y] (fun j hj => by simp only [Nat.zero_add, List.getElem?_toArray])) Try.underlying26 rfl (by kernel_rfl)) (by assumption) ?_
    try change wpAnyH _ _ _ _ _ _ _ (Act.put _ (some 17) _) _
    try simp only [act_all]
    refine wpAnyH_ready (rs := [1]) (by kernel_rfl) (by simp) ?_
    refine AllReadyH.cons (o := _) rfl (fun K hK => ?_) AllReadyH.nil
    go_simp
    refine (rRim_any W H M B n cp ao _ (by omega) (by omega) (by omega) (by omega)).mono ?_
    rintro e_ w5 ⟨vl, l, rfl, hrim, hl9, hown, hb⟩
    obtain ⟨al, cl, rfl, hx⟩ := own_xys hown rfl
    have HXL := Lib.hid hx
    have HRIM := Lib.hid hrim
    have D1 : Below w4.heap.size w4 w5 := D0.trans hb
    clear hb hHeld hx hrim hown
    refine hK.out _ _ (G0.out _ D1) (fun hHeld => ?_)
    clear hK K
    try simp only [act_all]
    refine wpAnyH_ready (rs := [3]) (by kernel_rfl) (by simp) ?_
    refine AllReadyH.cons (o := _) rfl (fun K hK => ?_) AllReadyH.nil
    go_simp
    refine (rIndex_any x y l.length cl al _ _ _ (by omega) HXL.out).mono ?_
    rintro e_ w6 ⟨⟨r, rfl, hix⟩, hb⟩
    have D2 : Below w4.heap.size w4 w6 := D1.trans (hb.mono D1.size)
    have HR : Hid (r = riP W H x y) := Lib.hid (rim_index HRIM.out h0 hix)
    clear hb hHeld hix HXL HRIM
    refine hK.out _ _ (G0.out _ D2) (fun hHeld => ?_)
    clear hK K
    try simp only [act_all]
    refine wpAnyH_take (i := 4) (oi := _) (v := ?_) rfl (by kernel_rfl) (by kernel_rfl) (by kernel_rfl) (fun _ _ _ h => h) (Or.inl ⟨by rfl, ?_⟩) (by assumption) ?_
    rotate_left
    · intro w hSw; go_simp; (try with_reducible rfl)
    try change wpAnyH _ _ _ _ _ _ _ (Act.put _ (some 7) _) _
    try simp only [act_all]
    refine wpAnyH_done (by kernel_rfl) ?_ _
    clear hHeld G0 D0 D1
    have HB6 : Hid (Below w.heap.size w w6) := Lib.hid (HB4.out.trans (D2.mono HB4.out.size))
    clear D2 KG4 KT4 HB4
    have hlo : -1 ≤ r ∧ r ≤ 2 * W + 2 * H := by rw [HR.out]; exact riP_low h0
    by_cases h9 : 0 ≤ r
    · have HE : Hid (riK true (riP W H x y) = r ∧ riB true (riP W H x y) = true) := Lib.hid (by rw [← HR.out]; exact ⟨Int.max_eq_left h9, decide_eq_true h9⟩)
      go_wp2_with fail
      refine bodyPost_ret (v := .tuple #[.int .i64 r, .bool true, .int .i64 0]) (by simp [results, Try.results13, go_sem]; try omega) rfl ⟨by rw [HE.out.1, HE.out.2]; rfl, HB6.out⟩
    · have HE : Hid (riK true (riP W H x y) = 0 ∧ riB true (riP W H x y) = false) := Lib.hid (by rw [← HR.out]; exact ⟨Int.max_eq_right (by omega), decide_eq_false h9⟩)
      go_wp2_with fail
      refine bodyPost_ret (v := .tuple #[.int .i64 0, .bool false, .int .i64 0]) (by simp [results, Try.results13, go_sem]; try omega) rfl ⟨by rw [HE.out.1, HE.out.2]; rfl, HB6.out⟩
end Go.Proofs.Ytkkcnhhfdicppaa
