import Derived.Test.YtdhlikedjephmaaIn6
namespace Go.Proofs.Ytdhlikedjephmaa
open Go.RowKit Heat
set_option maxRecDepth 100000 in
set_option maxHeartbeats 16000000 in
theorem rInverse_any (N cap : Nat) (ao : Option Addr) (A : Nat → Option Addr) (l c : Nat → Nat) (F : Nat → Nat → Int) (w : World) (hN : N ≤ 9223372036854775807) (hR : Rowsw w ao N A l c F) :
    Calls Try.prog 42 #[.agg #[.slice ao N cap]] w fun e w' => InR w' e N l F ∧ Below w.heap.size w w' := by
  have HG := Lib.hid hR
  clear hR
  obtain ⟨bk, hbk⟩ : ∃ bk, okG N l F = bk := ⟨_, rfl⟩
  have HOK := Lib.hid hbk
  clear hbk
  have hbx : (w.alloc (Obj.cells #[.slice ao N cap] 40)).cell? ⟨w.heap.size, 0, none⟩ = some (.slice ao N cap) := by go_cell
  have hb0 : Below w.heap.size w (w.alloc (Obj.cells #[.slice ao N cap] 40)) := by go_grown
  have hsz : w.heap.size < (w.alloc (Obj.cells #[.slice ao N cap] 40)).heap.size := by simp
  go_enter Try.func42, Try.ntmps42
  go_upto_region 1 with fail
  generalize (w.alloc (Obj.cells #[.slice ao N cap] 40)) = W at *
  have HB0 := Lib.hid hb0
  clear hb0
  go_wp2_with fail
  refine (rhValid_any N cap ao A l c F _ hN (HG.out.keep (HB0.out.mono (Nat.le_refl _)))).mono ?_
  rw [HOK.out]
  rintro e w1 ⟨rfl, hb⟩
  have HB1 := Lib.hid (HB0.out.trans (hb.mono HB0.out.size))
  have hbx1 := (hb.cell (p := ⟨w.heap.size, 0, none⟩) hsz).trans hbx
  have hs1 : w.heap.size < w1.heap.size := by have := hb.size; omega
  clear hb HB0 hbx hsz
  cases bk with
  | false =>
    have HE : Hid (inE N l F = 60) := Lib.hid (in_no HOK.out)
    have hbl := HB1.out
    go_wp2_with fail
    refine bodyPost_ret (v := .tuple #[.slice none 0 0, .int .i64 60]) (by simp [results, Try.results42, go_sem, *]) rfl ⟨inR_no HE.out (by decide), hbl⟩
  | true =>
  have hN5 := (okG_iff.1 HOK.out).1.2
  have hN1 := (okG_iff.1 HOK.out).1.1
  have HL : Hid (∀ i, i < N → l i = N) := Lib.hid (fun i hi => ((okG_iff.1 HOK.out).2 i hi).1)
  obtain ⟨d, hd⟩ : ∃ d, detM N F = d := ⟨_, rfl⟩
  have HdE := Lib.hid hd
  obtain ⟨i0, hi0, hx0, hx1, hx2⟩ := info_parts infoInt
  have HI := Lib.hid (And.intro hi0 (And.intro hx0 (And.intro hx1 hx2)))
  obtain ⟨i1, hi', hz0', hz1', hz2'⟩ := info_parts infoRs
  have HS := Lib.hid (And.intro hi' (And.intro hz0' (And.intro hz1' hz2')))
  obtain ⟨i2, hi2, hy0, hy1, hy2⟩ := info_parts infoRat
  have HT := Lib.hid (And.intro hi2 (And.intro hy0 (And.intro hy1 hy2)))
  clear hd hi0 hx0 hx1 hx2 hi' hz0' hz1' hz2' hi2 hy0 hy1 hy2
  go_wp2_with fail
  refine (rdet_any N cap ao A l c F _ hN5 (HG.out.keep HB1.out) HL.out).mono ?_
  rw [HdE.out]
  rintro e w4 ⟨rfl, hb⟩
  have HB4 := Lib.hid (HB1.out.trans (hb.mono HB1.out.size))
  have hbx4 := (hb.cell (p := ⟨w.heap.size, 0, none⟩) hs1).trans hbx1
  have hs4 : w.heap.size < w4.heap.size := by have := hb.size; omega
  clear hb HB1 hbx1 hs1
  by_cases hd0 : d = 0
  · have HE : Hid (inE N l F = 61) := Lib.hid (in_sing HOK.out (by rw [HdE.out, hd0]))
    have hdb : (d == 0) = true := by simp [hd0]
    have hbl := HB4.out
    clear hd0
    go_wp2_with fail
    refine bodyPost_ret (v := .tuple #[.slice none 0 0, .int .i64 61]) (by simp [results, Try.results42, go_sem, *]) rfl ⟨inR_no HE.out (by decide), hbl⟩
  have HE : Hid (inE N l F = 0) := Lib.hid (in_ok HOK.out (by rw [HdE.out]; exact hd0))
  have hdb : (d == 0) = false := beq_eq_false_iff_ne.2 hd0
  have HD0 : Hid (¬ detM N F = 0) := Lib.hid (by rw [HdE.out]; exact hd0)
  have hbl := HB4.out
  have hsz := hbl.size
  clear hd0
  go_wp2_with (refine wpList_make_full _ rfl (.tmp 20) (.tmp 20) 55 rfl w4.heap.size 22 i1 _ 1 Try.underlying55 HS.out.1 HS.out.2.1 HS.out.2.2.1 .i64 .i64 _ _ N rfl rfl (by simp) (by simp) ?c1 ?c2 ?c3 ?_)
  case c1 => rw [HS.out.2.2.2]; omega
  case c2 => unfold maxLen; omega
  case c3 => exact Nat.le_refl _
  intro w5 hown hgrow
  have HV5 : Hid (InvS w5 w4.heap.size N 0 0 (fun _ => .slice none 0 0) (inP N F) (inQ N F)) := Lib.hid (fun j hj => ⟨⟨by rw [hown.cellAt j (by omega)]; first | exact made_sl N j hj | (rw [Nat.mul_one]; exact made_sl N j hj), hown.frozenAt j⟩, by rw [if_neg (by omega)]; exact World.ownsRow_nil _ _ _ _, fun _ _ _ => .inl rfl⟩)
  have hs5 : w4.heap.size < w5.heap.size := (hown.lt _ rfl).2
  have DW : Below w4.heap.size w4 w5 := Below.grown (Below.refl _ _) hgrow (Nat.le_refl _) (fun k hk => by cases hk)
  have HB5 : Hid (Below w.heap.size w w5) := Lib.hid (hbl.trans (DW.mono hsz))
  have HX5 : Hid (w5.cell? ⟨w.heap.size, 0, none⟩ = some (.slice ao N cap)) := Lib.hid ((DW.cell (p := ⟨w.heap.size, 0, none⟩) hs4).trans hbx4)
  have hgo : w.heap.size < w4.heap.size := hs4
  clear hown hgrow DW HB4 hbl hsz hs4 hbx4
  generalize w4.heap.size = go at *
  have n00 : (0 : Int) ≤ (N : Int) := by omega
  go_wp2_with fail
  go_loopw [6] (fun iv wr => ∃ (z : Int) (k : Nat) (V : Nat → Value), iv = .int .i64 z ∧ z = k ∧ k ≤ N ∧ Hid (InvS wr go N k 0 V (inP N F) (inQ N F)) ∧ Hid (wr.cell? ⟨w.heap.size, 0, none⟩ = some (.slice ao N cap)) ∧ Hid (Below w.heap.size w wr) ∧ go < wr.heap.size) (fun iv _ => N - (intOf iv).toNat)
  case atStart => exact ⟨0, 0, _, rfl, by omega, by omega, HV5, HX5, HB5, hs5⟩
  case round =>
    obtain ⟨z, k, V, rfl, hz, hk, HV, HX, HB, hsw⟩ := hrel
    clear HV5 HX5 HB5 hs5
    by_cases hlt : k < N
    · have hlt' : z < (N : Int) := by omega
      subst hz
      have k00 : (0 : Int) ≤ (k : Int) := by omega
      have k5 : (k : Int) < 5 := by omega
      have hblw := HB.out.size
      go_wp2_with (refine wpList_make_full _ rfl (.tmp 27) (.tmp 27) 24 rfl wr.heap.size 3 i0 _ 1 Try.underlying24 HI.out.1 HI.out.2.1 HI.out.2.2.1 .i64 .i64 _ _ N rfl rfl (by simp) (by simp) ?d1 ?d2 ?d3 ?_)
      case d1 => rw [HI.out.2.2.2]; omega
      case d2 => unfold maxLen; omega
      case d3 => exact Nat.le_refl _
      intro w5 hown hgrow
      have HW : Hid (Intw w5 wr.heap.size N (fun _ => 0)) := Lib.hid (Intw.of_own hown fun i hi => made_get N i hi)
      have DW : Below wr.heap.size wr w5 := Below.grown (Below.refl _ _) hgrow (Nat.le_refl _) (fun k hk => by cases hk)
      have DU : Below wr.heap.size wr (w5.setCell ⟨wr.heap.size, k, none⟩ (.int .i64 1)) := DW.setCell (p := ⟨wr.heap.size, k, none⟩) (Nat.le_refl _) _
      have HUN : Hid (Intw (w5.setCell ⟨wr.heap.size, k, none⟩ (.int .i64 1)) wr.heap.size N (unF k)) := Lib.hid ((HW.out.store (j := k) hlt 1).congr fun j hj => rfl)
      have HV1 := Lib.hid (HV.out.keep DU)
      have HX1 := Lib.hid ((DU.cell (p := ⟨w.heap.size, 0, none⟩) (World.block_lt_of_cell? _ _ HX.out)).trans HX.out)
      have HB1 := Lib.hid (HB.out.trans (DU.mono hblw))
      have hs1 : go < (w5.setCell ⟨wr.heap.size, k, none⟩ (.int .i64 1)).heap.size := by have := DU.size; omega
      obtain ⟨m0, m1⟩ := HW.out k hlt
      clear hown hgrow DW DU HV HX HB hsw HW
      go_upto_region 12 with fail
      generalize (w5.setCell ⟨wr.heap.size, k, none⟩ (.int .i64 1)) = w6 at *
      clear m0 m1
      have hx6 := HX1.out
      go_wp2_with fail
      refine (rSolved_any N cap ao A l c F N (some ⟨wr.heap.size, 0, none⟩) (unF k) _ (HG.out.keep HB1.out) HOK.out HUN.out.ints (fun i _ => unF_bd) HD0.out).mono ?_
      rintro e w7 ⟨⟨g7, cap7, rfl, hr7, hg7⟩, hb⟩
      have HR7 : Hid (Ratw w7 g7 N (fun i => inP N F i k) (fun i => inQ N F i k)) := Lib.hid hr7
      have HNG7 : Hid (∀ j, j < N → (V j).ownBlock ≠ some g7) := Lib.hid (fun j hj e => by have := ((HV1.out j hj).2.1.lt _ e).2; omega)
      have hgo7 : go < g7 := by omega
      have HV7 := Lib.hid (HV1.out.keep hb)
      have HX7 := Lib.hid ((hb.cell (p := ⟨w.heap.size, 0, none⟩) (World.block_lt_of_cell? _ _ HX1.out)).trans HX1.out)
      have HB7 := Lib.hid (HB1.out.trans (hb.mono HB1.out.size))
      have hs7 : go < w7.heap.size := by have := hb.size; omega
      clear hb hr7 HV1 HX1 HB1 hs1 hx6 HUN
      go_wp2_with fail
      go_loopw [9] (fun iv wr => ∃ (y : Int) (i : Nat) (V : Nat → Value), iv = .int .i64 y ∧ y = i ∧ i ≤ N ∧ Hid (InvS wr go N k i V (inP N F) (inQ N F)) ∧ Hid (∀ j, j < N → (V j).ownBlock ≠ some g7) ∧ Hid (Ratw wr g7 N (fun i => inP N F i k) (fun i => inQ N F i k)) ∧ Hid (wr.cell? ⟨w.heap.size, 0, none⟩ = some (.slice ao N cap)) ∧ Hid (Below w.heap.size w wr) ∧ go < wr.heap.size) (fun iv _ => N - (intOf iv).toNat)
      case atStart => exact ⟨0, 0, V, rfl, by omega, by omega, HV7, HNG7, HR7, HX7, HB7, hs7⟩
      case round =>
        obtain ⟨y, i, V, rfl, hy, hi, HV, HNG, HR, HX, HB, hsw⟩ := hrel
        clear HV7 HNG7 HR7 HX7 HB7 hs7
        by_cases hit : i < N
        · have hit' : y < (N : Int) := by omega
          subst hy
          have i00 : (0 : Int) ≤ (i : Int) := by omega
          have i5 : (i : Int) < 5 := by omega
          obtain ⟨⟨t0, t1⟩, _⟩ := HR.out i hit
          obtain ⟨p, hp⟩ : ∃ p, inP N F i k = p := ⟨_, rfl⟩
          obtain ⟨q, hq⟩ : ∃ q, inQ N F i k = q := ⟨_, rfl⟩
          have HPQ := Lib.hid (And.intro hp hq)
          (try dsimp only at t0 t1)
          rw [hp] at t0
          rw [hq] at t1
          clear hp hq
          go_upto_region 16 with fail
          obtain ⟨wa, rfl⟩ : ∃ wa : World, wa = wr := ⟨_, rfl⟩
          obtain ⟨⟨v0, v1⟩, hVo, _⟩ := HV.out i hit
          rw [if_neg (by omega)] at hVo
          have HVO := Lib.hid hVo
          have HVF := Lib.hid v1
          have hg7a : g7 < wa.heap.size := World.block_lt_of_cell? _ _ t0
          have HK : Hid (∀ w', Below wa.heap.size wa w' → w'.cell? ⟨go, i, none⟩ = some (V i) ∧ w'.cell? ⟨g7, i * 2, none⟩ = some (.int .i64 p) ∧ w'.cell? ⟨g7, i * 2 + 1, none⟩ = some (.int .i64 q)) := Lib.hid (fun w' hb => ⟨(hb.cell (p := ⟨go, i, none⟩) hsw).trans v0, (hb.cell (p := ⟨g7, i * 2, none⟩) hg7a).trans t0, (hb.cell (p := ⟨g7, i * 2 + 1, none⟩) hg7a).trans t1⟩)
          have D0 : Below wa.heap.size wa wa.drew := (Below.refl _ _).drew
          clear hVo v0 v1 t0 t1
          refine wp_region_held_drew (S := fun w' => w'.cell? ⟨g7, i * 2, none⟩ = some (.int .i64 p) ∧ w'.cell? ⟨g7, i * 2 + 1, none⟩ = some (.int .i64 q)) (by kernel_rfl) (HK.out _ D0).2 (fun hHeld => ?_)
          refine wpAnyH_take (i := 0) (oi := _) (v := ?_) rfl (by kernel_rfl) (by kernel_rfl) (by kernel_rfl) (fun _ _ _ h => h) (Or.inl ⟨by rfl, ?_⟩) (by assumption) ?_
          rotate_left
          · intro w hSw; obtain ⟨_, _⟩ := hSw; go_simp; (try with_reducible rfl)
          try change wpAnyH _ _ _ _ _ _ _ (Act.put _ (some 40) _) _
          try simp only [act_all]
          refine wpAnyH_take (i := 1) (oi := _) (v := ?_) rfl (by kernel_rfl) (by kernel_rfl) (by kernel_rfl) (fun _ _ _ h => h) (Or.inl ⟨by rfl, ?_⟩) (by assumption) ?_
          rotate_left
          · intro w hSw; obtain ⟨_, _⟩ := hSw; go_simp; (try with_reducible rfl)
          try change wpAnyH _ _ _ _ _ _ _ (Act.put _ (some 41) _) _
          try simp only [act_all]
          refine wpAnyH_take (i := 2) (oi := _) (v := ?_) rfl (by kernel_rfl) (by kernel_rfl) (by kernel_rfl) (fun _ _ _ h => h) (Or.inl ⟨by rfl, ?_⟩) (by assumption) ?_
          rotate_left
          · intro w hSw; obtain ⟨_, _⟩ := hSw; go_simp; (try with_reducible rfl)
          try change wpAnyH _ _ _ _ _ _ _ (Act.put _ (some 42) _) _
          try simp only [act_all]
          refine wpAnyH_take (i := 3) (oi := _) (v := ?_) rfl (by kernel_rfl) (by kernel_rfl) (by kernel_rfl) (fun _ _ _ h => h) (Or.inl ⟨by rfl, ?_⟩) (by assumption) ?_
          rotate_left
          · intro w hSw; obtain ⟨_, _⟩ := hSw; go_simp; (try with_reducible rfl)
          try change wpAnyH _ _ _ _ _ _ _ (Act.put _ (some 43) _) _
          try simp only [act_all]
          refine wpAnyH_take (i := 4) (oi := _) (v := ?_) rfl (by kernel_rfl) (by kernel_rfl) (by kernel_rfl) (fun _ _ _ h => h) (Or.inl ⟨by rfl, ?_⟩) (by assumption) ?_
          rotate_left
          · intro w hSw; obtain ⟨_, _⟩ := hSw; go_simp; (try with_reducible rfl)
          try change wpAnyH _ _ _ _ _ _ _ (Act.put _ (some 44) _) _
          try simp only [act_all]
          refine wpAnyH_take (i := 6) (oi := _) (v := ?_) rfl (by kernel_rfl) (by kernel_rfl) (by kernel_rfl) (fun _ _ _ h => h) (Or.inl ⟨by rfl, ?_⟩) (by assumption) ?_
          rotate_left
          · intro w hSw; obtain ⟨_, _⟩ := hSw; go_simp; (try with_reducible rfl)
          try change wpAnyH _ _ _ _ _ _ _ (Act.put _ (some 46) _) _
          try simp only [act_all]
          refine wpAnyH_take (i := 7) (oi := _) (v := ?_) rfl (by kernel_rfl) (by kernel_rfl) (by kernel_rfl) (fun _ _ _ h => h) (Or.inl ⟨by rfl, ?_⟩) (by assumption) ?_
          rotate_left
          · intro w hSw; obtain ⟨_, _⟩ := hSw; go_simp; (try with_reducible rfl)
          try change wpAnyH _ _ _ _ _ _ _ (Act.put _ (some 47) _) _
          try simp only [act_all]
          refine wpAnyH_take (i := 8) (oi := _) (v := ?_) rfl (by kernel_rfl) (by kernel_rfl) (by kernel_rfl) (fun _ _ _ h => h) (Or.inl ⟨by rfl, ?_⟩) (by assumption) ?_
          rotate_left
          · intro w hSw; obtain ⟨_, _⟩ := hSw; go_simp; (try with_reducible rfl)
          try change wpAnyH _ _ _ _ _ _ _ (Act.put _ (some 48) _) _
          try simp only [act_all]
          refine wpAnyH_take (i := 9) (oi := _) (v := ?_) rfl (by kernel_rfl) (by kernel_rfl) (by kernel_rfl) (fun _ _ _ h => h) (Or.inl ⟨by rfl, ?_⟩) (by assumption) ?_
          rotate_left
          · intro w hSw; obtain ⟨_, _⟩ := hSw; go_simp; (try with_reducible rfl)
          try change wpAnyH _ _ _ _ _ _ _ (Act.put _ (some 49) _) _
          try simp only [act_all]
          refine wpAnyH_ready (rs := [5, 10]) (by kernel_rfl) (by simp) ?_
          refine AllReadyH.cons (o := _) rfl (fun K hK => ?_) ?_
          · have v0 := (HK.out wa (Below.refl _ _)).1
            go_simp
            refine hK.out _ _ (HK.out _ D0).2 (fun hHeld => ?_)
            clear hK K
            try simp only [act_all]
            clear v0
            refine wpAnyH_ready (rs := [10]) (by kernel_rfl) (by simp) ?_
            refine AllReadyH.cons (o := _) rfl (fun K hK => ?_) AllReadyH.nil
            go_simp
            have D1 : Below wa.heap.size wa (wa.drew.alloc (Obj.cells #[.int .i64 p, .int .i64 q] 68)) := bal D0 _
            refine hK.out _ _ (HK.out _ D1).2 (fun hHeld => ?_)
            clear hK K
            try simp only [act_all]
            refine wpAnyH_ready (rs := [11]) (by kernel_rfl) (by simp) ?_
            refine AllReadyH.cons (o := _) rfl (fun K hK => ?_) AllReadyH.nil
            refine step_append_lies _ (by rfl) _ _ 22 (by rfl) (go + 1) 68 i2 _ 2 16 Try.underlying22 HT.out.1 HT.out.2.1 HT.out.2.2.1 HT.out.2.2.2 (by rfl) (by decide) (V i) k (ratC (inP N F i) (inQ N F i) k) (by rfl) ((own_below' HVO.out D0).alloc _) ⟨wa.drew.heap.size, 0, none⟩ 1 1 [.int .i64 p, .int .i64 q] (by rfl) rfl (fun j u hu => World.news_of_block (cs := #[.int .i64 p, .int .i64 q]) (heap_new wa.drew _) j u hu) (by first | (intro u hu; simp only [List.mem_cons, List.not_mem_nil, or_false] at hu; rcases hu with rfl | rfl <;> rfl) | exact ⟨rfl, rfl⟩) (by omega) (by unfold maxLen; omega) (by omega) (Nat.le_trans (show go + 1 ≤ wa.heap.size by omega) D1.size) _ rfl ?_
            intro g' cap' w9 hown' hgrow hor hlg
            have HVn := Lib.hid ((HV.out.keep D1).next (g' := g') (cap' := cap') hit (by have := D1.size; omega) (by rw [HPQ.out.1, HPQ.out.2]; exact hown') hgrow (hor.imp id (fun h => Nat.le_of_eq h.symm)))
            have hk9 : ∀ b o v, wa.cell? ⟨b, o, none⟩ = some v → (V i).ownBlock ≠ some b → w9.cell? ⟨b, o, none⟩ = some v ∧ w9.frozen? ⟨b, o, none⟩ = wa.frozen? ⟨b, o, none⟩ := fun b o v hv hn => by
              have hlt9 : b < wa.heap.size := World.block_lt_of_cell? _ _ hv
              have hlt8 : b < (wa.drew.alloc (Obj.cells #[.int .i64 p, .int .i64 q] 68)).heap.size := by have := D1.size; omega
              exact ⟨((hgrow.cell_far ⟨b, o, none⟩ hlt8 (fun e => hn e.symm)).trans (D1.cell (p := ⟨b, o, none⟩) hlt9)).trans hv, (hgrow.frozen_far ⟨b, o, none⟩ hlt8 (fun e => hn e.symm)).trans (D1.frozen (p := ⟨b, o, none⟩) hlt9)⟩
            have hltk := HVO.out.lt
            have hng : (V i).ownBlock ≠ some go := fun e => by have := (hltk _ e).1; omega
            obtain ⟨x0, x1, x2⟩ := HK.out wa (Below.refl _ _)
            have y0 := hk9 go i _ x0 hng
            have y0f : w9.frozen? ⟨go, i, none⟩ = false := y0.2.trans HVF.out
            have y0c := y0.1
            have y1 := (hk9 g7 (i * 2) _ x1 (HNG.out i hit)).1
            have y2 := (hk9 g7 (i * 2 + 1) _ x2 (HNG.out i hit)).1
            have hgg7 : ¬ go = g7 := by omega
            have HRn : Hid (Ratw (w9.setCell ⟨go, i, none⟩ (.slice (some ⟨g', 0, none⟩) (k + 1) cap')) g7 N (fun i => inP N F i k) (fun i => inQ N F i k)) := Lib.hid (fun j hj => by
              obtain ⟨⟨r0, r1⟩, r2, r3⟩ := HR.out j hj
              have s0 := hk9 g7 (j * 2) _ r0 (HNG.out i hit)
              have s1 := hk9 g7 (j * 2 + 1) _ r1 (HNG.out i hit)
              have e0 := s0.1
              have e1 := s1.1
              have e2 := s0.2.trans r2
              have e3 := s1.2.trans r3
              exact ⟨⟨by go_cell, by go_cell⟩, by go_cell, by go_cell⟩)
            have DG0 : Below go wa w9 := Below.grown (D1.mono (by omega)) hgrow (by have := D1.size; omega) (fun q hq => by have := (hltk _ hq).1; omega)
            have DG : Below go wa (w9.setCell ⟨go, i, none⟩ (.slice (some ⟨g', 0, none⟩) (k + 1) cap')) := DG0.setCell (p := ⟨go, i, none⟩) (Nat.le_refl _) _
            have HXn : Hid ((w9.setCell ⟨go, i, none⟩ (.slice (some ⟨g', 0, none⟩) (k + 1) cap')).cell? ⟨w.heap.size, 0, none⟩ = some (.slice ao N cap)) := Lib.hid ((DG.cell (p := ⟨w.heap.size, 0, none⟩) (by simp only; omega)).trans HX.out)
            have HBn : Hid (Below w.heap.size w (w9.setCell ⟨go, i, none⟩ (.slice (some ⟨g', 0, none⟩) (k + 1) cap'))) := Lib.hid (HB.out.trans (DG.mono (by omega)))
            have HNGn : Hid (∀ j, j < N → (updV V i (.slice (some ⟨g', 0, none⟩) (k + 1) cap') j).ownBlock ≠ some g7) := Lib.hid (fun j hj e => by
              unfold updV at e
              split at e
              · simp only [Value.ownBlock, Option.some.injEq] at e
                subst e
                rcases hor with h | h
                · exact HNG.out i hit h
                · have h8 : wa.heap.size ≤ g' := by rw [h]; exact D1.size
                  omega
              · exact HNG.out j hj e)
            have hsn : go < (w9.setCell ⟨go, i, none⟩ (.slice (some ⟨g', 0, none⟩) (k + 1) cap')).heap.size := by have := DG.size; omega
            refine hK.out _ _ ⟨y1, y2⟩ (fun hHeld => ?_)
            clear hK K
            try simp only [act_all]
            clear hown' hgrow hor hk9 hltk hng x0 x1 x2 y0 DG
            refine wpAnyH_take (i := 12) (oi := _) (v := ?_) rfl (by kernel_rfl) (by kernel_rfl) (by kernel_rfl) (fun _ _ _ h => h) (Or.inl ⟨by rfl, ?_⟩) (by assumption) ?_
            rotate_left
            · intro w hSw; obtain ⟨_, _⟩ := hSw; go_simp; (try with_reducible rfl)
            try change wpAnyH _ _ _ _ _ _ _ (Act.put _ (some 52) _) _
            try simp only [act_all]
            refine wpAnyH_ready (rs := [13]) (by kernel_rfl) (by simp) ?_
            refine AllReadyH.cons (o := _) rfl (fun K hK => ?_) AllReadyH.nil
            go_simp
            refine hK.out _ _ ⟨by go_cell, by go_cell⟩ (fun hHeld => ?_)
            clear hK K
            try simp only [act_all]
            refine wpAnyH_done (by kernel_rfl) ?_ _
            clear hHeld HK HV HR HX HB HVO HVF HNG y0f y0c y1 y2 D0 D1
            go_wp2_with fail
            go_roundw
            case rel => exact ⟨(i : Int) + 1, i + 1, _, by first | rfl | (rw [show wrap64 ((i : Int) + 1) = (i : Int) + 1 by simp only [wrap64]; omega]), by omega, by omega, HVn, HNGn, HRn, HXn, HBn, hsn⟩
            case measure => first | (simp [intOf]; done) | (simp [intOf]; omega)
          refine AllReadyH.cons (o := _) rfl (fun K hK => ?_) AllReadyH.nil
          go_simp
          have D1 : Below wa.heap.size wa (wa.drew.alloc (Obj.cells #[.int .i64 p, .int .i64 q] 68)) := bal D0 _
          refine hK.out _ _ (HK.out _ D1).2 (fun hHeld => ?_)
          clear hK K
          try simp only [act_all]
          refine wpAnyH_ready (rs := [5]) (by kernel_rfl) (by simp) ?_
          refine AllReadyH.cons (o := _) rfl (fun K hK => ?_) AllReadyH.nil
          have v0 := (HK.out wa (Below.refl _ _)).1
          go_simp
          refine hK.out _ _ (HK.out _ D1).2 (fun hHeld => ?_)
          clear hK K
          try simp only [act_all]
          clear v0
          refine wpAnyH_ready (rs := [11]) (by kernel_rfl) (by simp) ?_
          refine AllReadyH.cons (o := _) rfl (fun K hK => ?_) AllReadyH.nil
          refine step_append_lies _ (by rfl) _ _ 22 (by rfl) (go + 1) 68 i2 _ 2 16 Try.underlying22 HT.out.1 HT.out.2.1 HT.out.2.2.1 HT.out.2.2.2 (by rfl) (by decide) (V i) k (ratC (inP N F i) (inQ N F i) k) (by rfl) ((own_below' HVO.out D0).alloc _) ⟨wa.drew.heap.size, 0, none⟩ 1 1 [.int .i64 p, .int .i64 q] (by rfl) rfl (fun j u hu => World.news_of_block (cs := #[.int .i64 p, .int .i64 q]) (heap_new wa.drew _) j u hu) (by first | (intro u hu; simp only [List.mem_cons, List.not_mem_nil, or_false] at hu; rcases hu with rfl | rfl <;> rfl) | exact ⟨rfl, rfl⟩) (by omega) (by unfold maxLen; omega) (by omega) (Nat.le_trans (show go + 1 ≤ wa.heap.size by omega) D1.size) _ rfl ?_
          intro g' cap' w9 hown' hgrow hor hlg
          have HVn := Lib.hid ((HV.out.keep D1).next (g' := g') (cap' := cap') hit (by have := D1.size; omega) (by rw [HPQ.out.1, HPQ.out.2]; exact hown') hgrow (hor.imp id (fun h => Nat.le_of_eq h.symm)))
          have hk9 : ∀ b o v, wa.cell? ⟨b, o, none⟩ = some v → (V i).ownBlock ≠ some b → w9.cell? ⟨b, o, none⟩ = some v ∧ w9.frozen? ⟨b, o, none⟩ = wa.frozen? ⟨b, o, none⟩ := fun b o v hv hn => by
            have hlt9 : b < wa.heap.size := World.block_lt_of_cell? _ _ hv
            have hlt8 : b < (wa.drew.alloc (Obj.cells #[.int .i64 p, .int .i64 q] 68)).heap.size := by have := D1.size; omega
            exact ⟨((hgrow.cell_far ⟨b, o, none⟩ hlt8 (fun e => hn e.symm)).trans (D1.cell (p := ⟨b, o, none⟩) hlt9)).trans hv, (hgrow.frozen_far ⟨b, o, none⟩ hlt8 (fun e => hn e.symm)).trans (D1.frozen (p := ⟨b, o, none⟩) hlt9)⟩
          have hltk := HVO.out.lt
          have hng : (V i).ownBlock ≠ some go := fun e => by have := (hltk _ e).1; omega
          obtain ⟨x0, x1, x2⟩ := HK.out wa (Below.refl _ _)
          have y0 := hk9 go i _ x0 hng
          have y0f : w9.frozen? ⟨go, i, none⟩ = false := y0.2.trans HVF.out
          have y0c := y0.1
          have y1 := (hk9 g7 (i * 2) _ x1 (HNG.out i hit)).1
          have y2 := (hk9 g7 (i * 2 + 1) _ x2 (HNG.out i hit)).1
          have hgg7 : ¬ go = g7 := by omega
          have HRn : Hid (Ratw (w9.setCell ⟨go, i, none⟩ (.slice (some ⟨g', 0, none⟩) (k + 1) cap')) g7 N (fun i => inP N F i k) (fun i => inQ N F i k)) := Lib.hid (fun j hj => by
            obtain ⟨⟨r0, r1⟩, r2, r3⟩ := HR.out j hj
            have s0 := hk9 g7 (j * 2) _ r0 (HNG.out i hit)
            have s1 := hk9 g7 (j * 2 + 1) _ r1 (HNG.out i hit)
            have e0 := s0.1
            have e1 := s1.1
            have e2 := s0.2.trans r2
            have e3 := s1.2.trans r3
            exact ⟨⟨by go_cell, by go_cell⟩, by go_cell, by go_cell⟩)
          have DG0 : Below go wa w9 := Below.grown (D1.mono (by omega)) hgrow (by have := D1.size; omega) (fun q hq => by have := (hltk _ hq).1; omega)
          have DG : Below go wa (w9.setCell ⟨go, i, none⟩ (.slice (some ⟨g', 0, none⟩) (k + 1) cap')) := DG0.setCell (p := ⟨go, i, none⟩) (Nat.le_refl _) _
          have HXn : Hid ((w9.setCell ⟨go, i, none⟩ (.slice (some ⟨g', 0, none⟩) (k + 1) cap')).cell? ⟨w.heap.size, 0, none⟩ = some (.slice ao N cap)) := Lib.hid ((DG.cell (p := ⟨w.heap.size, 0, none⟩) (by simp only; omega)).trans HX.out)
          have HBn : Hid (Below w.heap.size w (w9.setCell ⟨go, i, none⟩ (.slice (some ⟨g', 0, none⟩) (k + 1) cap'))) := Lib.hid (HB.out.trans (DG.mono (by omega)))
          have HNGn : Hid (∀ j, j < N → (updV V i (.slice (some ⟨g', 0, none⟩) (k + 1) cap') j).ownBlock ≠ some g7) := Lib.hid (fun j hj e => by
            unfold updV at e
            split at e
            · simp only [Value.ownBlock, Option.some.injEq] at e
              subst e
              rcases hor with h | h
              · exact HNG.out i hit h
              · have h8 : wa.heap.size ≤ g' := by rw [h]; exact D1.size
                omega
            · exact HNG.out j hj e)
          have hsn : go < (w9.setCell ⟨go, i, none⟩ (.slice (some ⟨g', 0, none⟩) (k + 1) cap')).heap.size := by have := DG.size; omega
          refine hK.out _ _ ⟨y1, y2⟩ (fun hHeld => ?_)
          clear hK K
          try simp only [act_all]
          clear hown' hgrow hor hk9 hltk hng x0 x1 x2 y0 DG
          refine wpAnyH_take (i := 12) (oi := _) (v := ?_) rfl (by kernel_rfl) (by kernel_rfl) (by kernel_rfl) (fun _ _ _ h => h) (Or.inl ⟨by rfl, ?_⟩) (by assumption) ?_
          rotate_left
          · intro w hSw; obtain ⟨_, _⟩ := hSw; go_simp; (try with_reducible rfl)
          try change wpAnyH _ _ _ _ _ _ _ (Act.put _ (some 52) _) _
          try simp only [act_all]
          refine wpAnyH_ready (rs := [13]) (by kernel_rfl) (by simp) ?_
          refine AllReadyH.cons (o := _) rfl (fun K hK => ?_) AllReadyH.nil
          go_simp
          refine hK.out _ _ ⟨by go_cell, by go_cell⟩ (fun hHeld => ?_)
          clear hK K
          try simp only [act_all]
          refine wpAnyH_done (by kernel_rfl) ?_ _
          clear hHeld HK HV HR HX HB HVO HVF HNG y0f y0c y1 y2 D0 D1
          go_wp2_with fail
          go_roundw
          case rel => exact ⟨(i : Int) + 1, i + 1, _, by first | rfl | (rw [show wrap64 ((i : Int) + 1) = (i : Int) + 1 by simp only [wrap64]; omega]), by omega, by omega, HVn, HNGn, HRn, HXn, HBn, hsn⟩
          case measure => first | (simp [intOf]; done) | (simp [intOf]; omega)
        · obtain rfl : i = N := by omega
          subst hy
          have HVt := Lib.hid HV.out.turn
          clear HV HR
          go_wp2_with fail
          go_roundw
          case rel => exact ⟨(k : Int) + 1, k + 1, V, by first | rfl | (rw [show wrap64 ((k : Int) + 1) = (k : Int) + 1 by simp only [wrap64]; omega]), by omega, by omega, HVt, HX, HB, hsw⟩
          case measure => first | (simp [intOf]; done) | (simp [intOf]; omega)
    · obtain rfl : k = N := by omega
      subst hz
      have hbl := HB.out
      clear HX HB
      go_wp2_with fail
      refine bodyPost_ret (v := .tuple #[.slice (some ⟨go, 0, none⟩) k k, .int .i64 0]) (by simp [results, Try.results42, go_sem]) rfl ⟨inR_ok hN1 HE.out HV.out, hbl⟩
end Go.Proofs.Ytdhlikedjephmaa
