import Derived.Test.YtgbnpnenejgnnaaEn5
import Derived.Test.YtgbnpnenejgnnaaEn4
import Derived.Test.YtgbnpnenejgnnaaEk
import Derived.Deep.DeepCutAuto
import Derived.Deep.CutBlock
namespace Go.Proofs.Ytgbnpnenejgnnaa
open Go.RowKit Encl
set_option maxRecDepth 100000 in
set_option maxHeartbeats 8000000 in
theorem unit_any (n : Int) (w : World) :
    Calls Try.prog 86 #[.int .i64 n] w fun e w' => IsR e (unitS n) ∧ Below w.heap.size w w' := by
  obtain ⟨SP, hsp⟩ : ∃ SP, unitS n = SP := ⟨_, rfl⟩
  have HSP := Lib.hid hsp
  rw [hsp]
  clear hsp
  go_enter Try.func86, Try.ntmps86
  go_upto_region 1 with fail
  refine wp_region_lit ?_
  refine wpList_plain rfl (fun K hK => ?_)
  go_simp
  refine (halvings_any _).mono ?_
  rintro e w1 ⟨rfl, hb⟩
  have D1 : Below w.heap.size w w1 := Below.trans (by go_grown) (hb.mono (by first | omega | (simp; done) | (simp; omega)))
  have s1 : w.heap.size < w1.heap.size := by have hs := hb.size; (try simp at hs); omega
  obtain ⟨k1, k2⟩ := bcl hb
  have hr : RcAt w1 w.heap.size 0 R0 := by
    refine ⟨⟨?_, ?_, ?_, ?_⟩, ?_, ?_, ?_, ?_⟩
    · exact (k1 _ 0 (by simp)).trans (by simp only [R0, S0]; go_cell)
    · exact (k1 _ 1 (by simp)).trans (by simp only [R0, S0]; go_cell)
    · exact (k1 _ 2 (by simp)).trans (by simp only [R0, S0]; go_cell)
    · exact (k1 _ 3 (by simp)).trans (by simp only [R0, S0]; go_cell)
    · exact (k2 _ 0 (by simp)).trans (by go_cell)
    · exact (k2 _ 1 (by simp)).trans (by go_cell)
    · exact (k2 _ 2 (by simp)).trans (by go_cell)
    · exact (k2 _ 3 (by simp)).trans (by go_cell)
  clear hb k1 k2
  refine hK _ _ ?_
  clear hK K
  refine wpList_plain rfl (fun K hK => ?_)
  go_simp
  refine hK _ _ ?_
  clear hK K
  have hT : Tab (w1.alloc (Obj.cells #[.int .i64 0, .int .i64 0, .int .i64 0, .int .i64 0, .int .i64 0, .int .i64 0, .int .i64 0, .int .i64 0, .int .i64 0, .int .i64 0, .int .i64 0, .int .i64 0, .int .i64 0, .int .i64 0, .int .i64 0, .int .i64 0, .int .i64 0, .int .i64 0, .int .i64 0, .int .i64 0, .int .i64 0, .int .i64 0, .int .i64 0, .int .i64 0, .int .i64 0, .int .i64 0, .int .i64 0, .int .i64 0, .int .i64 0, .int .i64 0, .int .i64 0, .int .i64 0, .int .i64 0, .int .i64 0, .int .i64 0, .int .i64 0, .int .i64 0, .int .i64 0, .int .i64 0, .int .i64 0] 118)) w1.heap.size (fun _ => R0) := Tab.fresh w1 _ _ rfl
  have hr1 : RcAt (w1.alloc (Obj.cells #[.int .i64 0, .int .i64 0, .int .i64 0, .int .i64 0, .int .i64 0, .int .i64 0, .int .i64 0, .int .i64 0, .int .i64 0, .int .i64 0, .int .i64 0, .int .i64 0, .int .i64 0, .int .i64 0, .int .i64 0, .int .i64 0, .int .i64 0, .int .i64 0, .int .i64 0, .int .i64 0, .int .i64 0, .int .i64 0, .int .i64 0, .int .i64 0, .int .i64 0, .int .i64 0, .int .i64 0, .int .i64 0, .int .i64 0, .int .i64 0, .int .i64 0, .int .i64 0, .int .i64 0, .int .i64 0, .int .i64 0, .int .i64 0, .int .i64 0, .int .i64 0, .int .i64 0, .int .i64 0] 118)) w.heap.size 0 R0 := hr.keep ((Below.refl w1.heap.size w1).alloc (Nat.le_refl _) _) s1
  have D2 : Below w.heap.size w (w1.alloc (Obj.cells #[.int .i64 0, .int .i64 0, .int .i64 0, .int .i64 0, .int .i64 0, .int .i64 0, .int .i64 0, .int .i64 0, .int .i64 0, .int .i64 0, .int .i64 0, .int .i64 0, .int .i64 0, .int .i64 0, .int .i64 0, .int .i64 0, .int .i64 0, .int .i64 0, .int .i64 0, .int .i64 0, .int .i64 0, .int .i64 0, .int .i64 0, .int .i64 0, .int .i64 0, .int .i64 0, .int .i64 0, .int .i64 0, .int .i64 0, .int .i64 0, .int .i64 0, .int .i64 0, .int .i64 0, .int .i64 0, .int .i64 0, .int .i64 0, .int .i64 0, .int .i64 0, .int .i64 0, .int .i64 0] 118)) := D1.alloc D1.size _
  have z2 : w1.heap.size < (w1.alloc (Obj.cells #[.int .i64 0, .int .i64 0, .int .i64 0, .int .i64 0, .int .i64 0, .int .i64 0, .int .i64 0, .int .i64 0, .int .i64 0, .int .i64 0, .int .i64 0, .int .i64 0, .int .i64 0, .int .i64 0, .int .i64 0, .int .i64 0, .int .i64 0, .int .i64 0, .int .i64 0, .int .i64 0, .int .i64 0, .int .i64 0, .int .i64 0, .int .i64 0, .int .i64 0, .int .i64 0, .int .i64 0, .int .i64 0, .int .i64 0, .int .i64 0, .int .i64 0, .int .i64 0, .int .i64 0, .int .i64 0, .int .i64 0, .int .i64 0, .int .i64 0, .int .i64 0, .int .i64 0, .int .i64 0] 118)).heap.size := by simp
  generalize w1.alloc (Obj.cells #[.int .i64 0, .int .i64 0, .int .i64 0, .int .i64 0, .int .i64 0, .int .i64 0, .int .i64 0, .int .i64 0, .int .i64 0, .int .i64 0, .int .i64 0, .int .i64 0, .int .i64 0, .int .i64 0, .int .i64 0, .int .i64 0, .int .i64 0, .int .i64 0, .int .i64 0, .int .i64 0, .int .i64 0, .int .i64 0, .int .i64 0, .int .i64 0, .int .i64 0, .int .i64 0, .int .i64 0, .int .i64 0, .int .i64 0, .int .i64 0, .int .i64 0, .int .i64 0, .int .i64 0, .int .i64 0, .int .i64 0, .int .i64 0, .int .i64 0, .int .i64 0, .int .i64 0, .int .i64 0] 118) = w2 at *
  generalize w1.heap.size = BL at *
  clear hr D1
  have HTH : Hid (w2.there BL 0 (tabL pt 10).toArray.size) := Lib.hid (by rw [show (tabL pt 10).toArray.size = 40 by rw [List.size_toArray, tabL_len]]; exact hT.there)
  have hT2 : Tab (w2.setCells BL 0 (tabL pt 10).toArray.toList) BL pt := Tab.of_range (World.rangeAt_setCells_same w2 BL 0 (tabL pt 10) (by rw [tabL_len]; exact hT.there)) (World.there_setCells hT.there _ _ _)
  have hb3 : Below BL w2 (w2.setCells BL 0 (tabL pt 10).toArray.toList) := below_setCells (Below.refl _ _) (Nat.le_refl _) _ _
  have hr2 := hr1.keep hb3 s1
  have D3 := D2.trans (hb3.mono (by omega))
  have z3 : BL < (w2.setCells BL 0 (tabL pt 10).toArray.toList).heap.size := by have := hb3.size; omega
  (refine wpList_store_mid rfl 118 _ _ rfl BL 0 (tabL pt 10).toArray rfl rfl HTH.out (infoTab pt) (all_oneCell_toArray (tabL_one pt 10)) ?_)
  generalize w2.setCells BL 0 (tabL pt 10).toArray.toList = w3 at *
  refine wpList_nil ?_
  clear hT hr1 D2 z2 HTH hb3
  have T3 := Lib.hid hT2
  have R3 := Lib.hid hr2
  have DD3 := Lib.hid D3
  clear hT2 hr2 D3
  go_wp2_with fail
  refine (whole_any 1 _ (by omega) (by omega)).mono ?_
  rw [show (1 : Int) * 1073741824 = 1073741824 from rfl]
  rintro e w4 ⟨rfl, hb⟩
  unfold retS
  (try simp only)
  have T4 := Lib.hid (T3.out.keep hb z3)
  have R4 := Lib.hid (R3.out.keep hb (by omega))
  have DD4 := Lib.hid (DD3.out.trans (hb.mono DD3.out.size))
  have z4 : BL < w4.heap.size := by have := hb.size; omega
  clear hb T3 R3 DD3
  go_wp2_with fail
  refine (onAxis_any 1073741824 1073741824 _).mono ?_
  rintro e w5 ⟨rfl, hb⟩
  unfold retR
  (try simp only)
  have T5 := Lib.hid (T4.out.keep hb z4)
  have R5 := Lib.hid (R4.out.keep hb (by omega))
  have DD5 := Lib.hid (DD4.out.trans (hb.mono DD4.out.size))
  have z5 : BL < w5.heap.size := by have := hb.size; omega
  clear hb T4 R4 DD4
  go_upto_block 0 with fail
  have hb6 : Below w5.heap.size w5 (w5.alloc (Obj.cells #[.int .i64 1073741824, .int .i64 1073741824, .int .i64 0, .int .i64 0] 25)) := (Below.refl _ _).alloc (Nat.le_refl _) _
  have T6 := Lib.hid (T5.out.keep hb6 z5)
  have R6 := Lib.hid (R5.out.keep hb6 (by omega))
  have DD6 := Lib.hid (DD5.out.trans (hb6.mono DD5.out.size))
  have Z6 : Hid (RcAt (w5.alloc (Obj.cells #[.int .i64 1073741824, .int .i64 1073741824, .int .i64 0, .int .i64 0] 25)) w5.heap.size 0 ⟨⟨1073741824, 1073741824⟩, ⟨0, 0⟩⟩) := Lib.hid (by refine ⟨⟨?_, ?_, ?_, ?_⟩, ?_, ?_, ?_, ?_⟩ <;> go_cell)
  have z6 : w5.heap.size < (w5.alloc (Obj.cells #[.int .i64 1073741824, .int .i64 1073741824, .int .i64 0, .int .i64 0] 25)).heap.size := by simp
  generalize w5.alloc (Obj.cells #[.int .i64 1073741824, .int .i64 1073741824, .int .i64 0, .int .i64 0] 25) = w6 at *
  generalize w5.heap.size = BZ at *
  clear hb6 T5 R5 DD5
  have HU : Hid (unitGo n 10 ⟨⟨1073741824, 1073741824⟩, ⟨0, 0⟩⟩ = SP) := HSP
  go_wp2_with fail
  go_loopw [5] (fun bv wr => ∃ (zc : Int) (m : Nat) (p q s t : Int), bv = .int .i64 zc ∧ zc = (m : Int) - 1 ∧ m ≤ 10 ∧ Hid (unitGo n m ⟨⟨p, q⟩, ⟨s, t⟩⟩ = SP) ∧ Hid (okS ⟨p, q⟩ = true) ∧ Hid (okS ⟨s, t⟩ = true) ∧ Hid (RcAt wr BZ 0 ⟨⟨p, q⟩, ⟨s, t⟩⟩) ∧ Hid (Tab wr BL pt) ∧ Hid (RcAt wr w.heap.size 0 R0) ∧ Hid (Below w.heap.size w wr) ∧ BZ < wr.heap.size) (fun bv _ => (intOf bv + 1).toNat)
  case atStart => exact ⟨9, 10, _, _, _, _, rfl, by omega, by omega, HU, Lib.hid (by decide), Lib.hid (by decide), Z6, T6, R6, DD6, z6⟩
  case round =>
    obtain ⟨zc, m, p, q, s, t, rfl, hz1, hm, HG, HK1, HK2, ZZ, TT, RR, DB, hsz⟩ := hrel
    by_cases hm0 : m = 0
    · subst hm0
      obtain rfl : zc = -1 := by omega
      clear hz1
      have HN : Hid (SP = .ok ⟨⟨p, q⟩, ⟨s, t⟩⟩) := Lib.hid HG.out.symm
      obtain ⟨⟨c0, c1, c2, c3⟩, d0, d1, d2, d3⟩ := ZZ.out
      obtain ⟨⟨c4, c5, c6, c7⟩, d4, d5, d6, d7⟩ := RR.out
      simp only [Nat.zero_add, R0, S0] at c0 c1 c2 c3 d0 d1 d2 d3 c4 c5 c6 c7 d4 d5 d6 d7
      have hbel := DB.out
      go_wp2_with fail
      refine bodyPost_ret (v := .agg #[.int .i64 p, .int .i64 q, .int .i64 s, .int .i64 t]) (by simp [results, Try.results86, go_sem, *]) rfl ⟨?_, by go_grown⟩
      rw [HN.out]
      rfl
    · obtain ⟨b, rfl⟩ : ∃ b, m = b + 1 := ⟨m - 1, by omega⟩
      obtain rfl : zc = (b : Int) := by omega
      clear hz1 hm0
      have hb9 : (b : Int) < 10 := by omega
      by_cases hbit : n / 2 ^ b % 2 = 1
      · have e1 : bits .and .i64 (n / 2 ^ b) 1 = 1 := by rw [and1]; exact hbit
        have HU2 : Hid ((mulR ⟨⟨p, q⟩, ⟨s, t⟩⟩ (pt b)).bind (unitGo n b) = SP) := Lib.hid (by have := HG.out; simp only [unitGo, hbit, if_true] at this; exact this)
        clear hbit
        go_upto_region 7 with fail
        obtain ⟨x0, x1, x2, x3, hx⟩ : ∃ x0 x1 x2 x3, pt b = ⟨⟨x0, x1⟩, ⟨x2, x3⟩⟩ := ⟨_, _, _, _, rfl⟩
        have HPO := pt_ok ⟨b, by omega⟩
        simp only at HPO
        rw [hx, okR_iff] at HPO
        have HP := Lib.hid HPO
        have HX := Lib.hid hx
        have HR1 : RcAt wr BL (b * 4) ⟨⟨x0, x1⟩, ⟨x2, x3⟩⟩ := by rw [← hx]; exact TT.out b (by omega)
        rw [hx] at HU2
        clear hx HPO
        have hsb : BL < wr.heap.size := by omega
        have G0 : Hid (∀ w', Below wr.heap.size wr w' → w'.cell? ⟨BL, b * 4, none⟩ = some (.int .i64 x0) ∧ w'.cell? ⟨BL, b * 4 + 1, none⟩ = some (.int .i64 x1) ∧ w'.cell? ⟨BL, b * 4 + 2, none⟩ = some (.int .i64 x2) ∧ w'.cell? ⟨BL, b * 4 + 3, none⟩ = some (.int .i64 x3)) := Lib.hid (fun w' hb => by
          have h1 := (HR1.keep hb hsb).1
          exact h1)
        have G1 : Hid (∀ w', Below wr.heap.size wr w' → RcAt w' BZ 0 ⟨⟨p, q⟩, ⟨s, t⟩⟩) := Lib.hid (fun w' hb => ZZ.out.keep hb hsz)
        have G2 : Hid (∀ w', Below wr.heap.size wr w' → RcAt w' w.heap.size 0 R0) := Lib.hid (fun w' hb => RR.out.keep hb (by omega))
        have G3 : Hid (∀ w', Below wr.heap.size wr w' → Tab w' BL pt) := Lib.hid (fun w' hb => TT.out.keep hb hsb)
        obtain ⟨W, hWr⟩ : ∃ W, W = wr := ⟨_, rfl⟩
        subst hWr
        have HD : Below W.heap.size W W := Below.refl _ _
        have HB0 := DB
        clear HR1 ZZ TT RR DB
        have HDz : True := trivial
        have HD1 : Below W.heap.size W W.drew := HD.drew
        refine wp_region_held_drew (S := fun w' => w'.cell? ⟨BL, b * 4, none⟩ = some (.int .i64 x0) ∧ w'.cell? ⟨BL, b * 4 + 1, none⟩ = some (.int .i64 x1) ∧ w'.cell? ⟨BL, b * 4 + 2, none⟩ = some (.int .i64 x2) ∧ w'.cell? ⟨BL, b * 4 + 3, none⟩ = some (.int .i64 x3)) (by kernel_rfl) (G0.out _ HD1) (fun hHeld => ?_)
        refine wpAnyH_take (i := 1) (oi := _) (v := ?_) rfl (by kernel_rfl) (by kernel_rfl) (by kernel_rfl) (fun _ _ _ h => h) (Or.inl ⟨by rfl, ?_⟩) (by assumption) ?_
        rotate_left
        · intro w hSw; obtain ⟨_, _, _, _⟩ := hSw; go_simp; (try with_reducible rfl)
        try change wpAnyH _ _ _ _ _ _ _ (Act.put _ (some 19) _) _
        try simp only [act_all]
        refine wpAnyH_take (i := 2) (oi := _) (v := ?_) rfl (by kernel_rfl) (by kernel_rfl) (by kernel_rfl) (fun _ _ _ h => h) (Or.inl ⟨by rfl, ?_⟩) (by assumption) ?_
        rotate_left
        · intro w hSw; obtain ⟨_, _, _, _⟩ := hSw; go_simp; (try with_reducible rfl)
        try change wpAnyH _ _ _ _ _ _ _ (Act.put _ (some 20) _) _
        try simp only [act_all]
        refine wpAnyH_take (i := 3) (oi := _) (v := ?_) rfl (by kernel_rfl) (by kernel_rfl) (by kernel_rfl) (fun _ _ _ h => h) (Or.inl ⟨by rfl, ?_⟩) (by assumption) ?_
        rotate_left
        · intro w hSw; obtain ⟨_, _, _, _⟩ := hSw; go_simp; (try with_reducible rfl)
        try change wpAnyH _ _ _ _ _ _ _ (Act.put _ (some 21) _) _
        try simp only [act_all]
        refine wpAnyH_ready (rs := [0]) (by kernel_rfl) (by simp) ?_
        refine AllReadyH.cons (o := _) rfl (fun K hK => ?_) AllReadyH.nil
        obtain ⟨⟨c0, c1, c2, c3⟩, d0, d1, d2, d3⟩ := G1.out _ HD1
        simp only [Nat.zero_add] at c0 c1 c2 c3 d0 d1 d2 d3
        go_simp
        clear c0 c1 c2 c3 d0 d1 d2 d3
        refine hK.out _ _ (G0.out _ HD1) (fun hHeld => ?_)
        clear hK K
        try simp only [act_all]
        refine wpAnyH_ready (rs := [4]) (by kernel_rfl) (by simp) ?_
        refine AllReadyH.cons (o := _) rfl (fun K hK => ?_) AllReadyH.nil
        go_simp
        refine (mulRect_any p q s t x0 x1 x2 x3 _ HK1.out HK2.out HP.out.1 HP.out.2).mono ?_
        rintro e w2 ⟨he, hb⟩
        have HD2 : Below W.heap.size W w2 := Below.trans HD1 (hb.mono HD1.size)
        have hz2 := HD2.size
        have DA2 := HB0.out.trans (HD2.mono (show w.heap.size ≤ W.heap.size by omega))
        clear hb hHeld
        obtain ⟨r, hr⟩ : ∃ r, (mulR ⟨⟨p, q⟩, ⟨s, t⟩⟩ ⟨⟨x0, x1⟩, ⟨x2, x3⟩⟩) = r := ⟨_, rfl⟩
        rw [hr] at he
        have HR0 := Lib.hid hr
        clear hr
        rcases r with ⟨⟨p', q'⟩, ⟨s', t'⟩⟩ | k
        case' bad =>
          obtain rfl : e = .panicked [{ v := .iface 26 (.int .i64 k), recovered := false }] := he
          refine ⟨rfl, ?_, by go_grown⟩
          rw [← HU2.out, HR0.out]; (try rfl)
        obtain rfl : e = .returned (.agg #[.int .i64 p', .int .i64 q', .int .i64 s', .int .i64 t']) := he
        refine hK.out _ _ (G0.out _ HD2) (fun hHeld => ?_)
        clear hK K
        try simp only [act_all]
        refine wpAnyH_ready (rs := [5]) (by kernel_rfl) (by simp) ?_
        refine AllReadyH.cons (o := _) rfl (fun K hK => ?_) AllReadyH.nil
        obtain ⟨_, _, _, _⟩ := G0.out _ HD2
        obtain ⟨⟨c0, c1, c2, c3⟩, d0, d1, d2, d3⟩ := G1.out _ HD2
        simp only [Nat.zero_add] at c0 c1 c2 c3 d0 d1 d2 d3
        have nb1 : ¬ BZ = BL := by omega
        go_simp
        refine hK.out _ _ (by refine ⟨?_, ?_, ?_, ?_⟩ <;> go_cell) (fun hHeld => ?_)
        clear hK K
        try simp only [act_all]
        refine wpAnyH_done (by kernel_rfl) ?_ _
        have ZZ3 := Lib.hid ((G1.out _ HD2).store p' q' s' t')
        have TT3 := Lib.hid ((G3.out _ HD2).keep (((((Below.refl BZ w2).setCell (p := ⟨BZ, 0, none⟩) (Nat.le_refl _) (.int .i64 p')).setCell (p := ⟨BZ, 1, none⟩) (Nat.le_refl _) (.int .i64 q')).setCell (p := ⟨BZ, 2, none⟩) (Nat.le_refl _) (.int .i64 s')).setCell (p := ⟨BZ, 3, none⟩) (Nat.le_refl _) (.int .i64 t')) z5)
        have RR3 := Lib.hid ((G2.out _ HD2).keep (((((Below.refl BZ w2).setCell (p := ⟨BZ, 0, none⟩) (Nat.le_refl _) (.int .i64 p')).setCell (p := ⟨BZ, 1, none⟩) (Nat.le_refl _) (.int .i64 q')).setCell (p := ⟨BZ, 2, none⟩) (Nat.le_refl _) (.int .i64 s')).setCell (p := ⟨BZ, 3, none⟩) (Nat.le_refl _) (.int .i64 t')) (by omega))
        have DB3 := Lib.hid ((HB0.out.trans (HD2.mono HB0.out.size)).trans ((((((Below.refl BZ w2).setCell (p := ⟨BZ, 0, none⟩) (Nat.le_refl _) (.int .i64 p')).setCell (p := ⟨BZ, 1, none⟩) (Nat.le_refl _) (.int .i64 q')).setCell (p := ⟨BZ, 2, none⟩) (Nat.le_refl _) (.int .i64 s')).setCell (p := ⟨BZ, 3, none⟩) (Nat.le_refl _) (.int .i64 t')).mono (by omega)))
        have HO := Lib.hid ((okR_iff _).1 (mulR_ok HR0.out))
        have HU3 : Hid (unitGo n b ⟨⟨p', q'⟩, ⟨s', t'⟩⟩ = SP) := Lib.hid (by rw [← HU2.out, HR0.out]; rfl)
        clear c0 c1 c2 c3 d0 d1 d2 d3
        go_wp2_with fail
        go_roundw
        case rel => exact ⟨(b : Int) - 1, b, p', q', s', t', by go_num, rfl, by omega, HU3, Lib.hid HO.out.1, Lib.hid HO.out.2, ZZ3, TT3, RR3, DB3, by have := HD2.size; simp; omega⟩
        case measure => (simp [intOf]; (try omega))
      · have e1 : bits .and .i64 (n / 2 ^ b) 1 = 0 := by rw [and1]; omega
        have HU2 : Hid (unitGo n b ⟨⟨p, q⟩, ⟨s, t⟩⟩ = SP) := Lib.hid (by have := HG.out; simp only [unitGo, hbit, if_false] at this; exact this)
        clear hbit
        go_wp2_with fail
        go_roundw
        case rel => exact ⟨(b : Int) - 1, b, p, q, s, t, by go_num, rfl, by omega, HU2, HK1, HK2, ZZ, TT, RR, DB, hsz⟩
        case measure => (simp [intOf]; (try omega))
end Go.Proofs.Ytgbnpnenejgnnaa
