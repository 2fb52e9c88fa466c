import Derived.Test.YtgbnpnenejgnnaaEn4
import Derived.Deep.DeepCutAuto
namespace Go.Proofs.Ytgbnpnenejgnnaa
open Go.RowKit Encl
/-- The table when the points from m on are there. -/
def ptT (m j : Nat) : Rc := if j = 9 ∨ m ≤ j then pt j else R0
set_option maxRecDepth 100000 in
set_option maxHeartbeats 8000000 in
theorem halvings_any (w : World) :
    Calls Try.prog 136 #[] w fun e w' => e = .returned (.agg (tabL pt 10).toArray) ∧ Below w.heap.size w w' := by
  go_enter Try.func136, Try.ntmps136
  go_wp2_with fail
  have hb0 : Below w.heap.size w ((w.alloc (Obj.cells #[.int .i64 0, .int .i64 0, .int .i64 0, .int .i64 0, .int .i64 0, .int .i64 0, .int .i64 0, .int .i64 0, .int .i64 0, .int .i64 0, .int .i64 0, .int .i64 0, .int .i64 0, .int .i64 0, .int .i64 0, .int .i64 0, .int .i64 0, .int .i64 0, .int .i64 0, .int .i64 0, .int .i64 0, .int .i64 0, .int .i64 0, .int .i64 0, .int .i64 0, .int .i64 0, .int .i64 0, .int .i64 0, .int .i64 0, .int .i64 0, .int .i64 0, .int .i64 0, .int .i64 0, .int .i64 0, .int .i64 0, .int .i64 0, .int .i64 0, .int .i64 0, .int .i64 0, .int .i64 0] 118)).alloc (Obj.cells #[.int .i64 0, .int .i64 0, .int .i64 0, .int .i64 0, .int .i64 0, .int .i64 0, .int .i64 0, .int .i64 0, .int .i64 0, .int .i64 0, .int .i64 0, .int .i64 0, .int .i64 0, .int .i64 0, .int .i64 0, .int .i64 0, .int .i64 0, .int .i64 0, .int .i64 0, .int .i64 0, .int .i64 0, .int .i64 0, .int .i64 0, .int .i64 0, .int .i64 0, .int .i64 0, .int .i64 0, .int .i64 0, .int .i64 0, .int .i64 0, .int .i64 0, .int .i64 0, .int .i64 0, .int .i64 0, .int .i64 0, .int .i64 0, .int .i64 0, .int .i64 0, .int .i64 0, .int .i64 0] 118)) := by go_grown
  have hT1 : Tab ((w.alloc (Obj.cells #[.int .i64 0, .int .i64 0, .int .i64 0, .int .i64 0, .int .i64 0, .int .i64 0, .int .i64 0, .int .i64 0, .int .i64 0, .int .i64 0, .int .i64 0, .int .i64 0, .int .i64 0, .int .i64 0, .int .i64 0, .int .i64 0, .int .i64 0, .int .i64 0, .int .i64 0, .int .i64 0, .int .i64 0, .int .i64 0, .int .i64 0, .int .i64 0, .int .i64 0, .int .i64 0, .int .i64 0, .int .i64 0, .int .i64 0, .int .i64 0, .int .i64 0, .int .i64 0, .int .i64 0, .int .i64 0, .int .i64 0, .int .i64 0, .int .i64 0, .int .i64 0, .int .i64 0, .int .i64 0] 118)).alloc (Obj.cells #[.int .i64 0, .int .i64 0, .int .i64 0, .int .i64 0, .int .i64 0, .int .i64 0, .int .i64 0, .int .i64 0, .int .i64 0, .int .i64 0, .int .i64 0, .int .i64 0, .int .i64 0, .int .i64 0, .int .i64 0, .int .i64 0, .int .i64 0, .int .i64 0, .int .i64 0, .int .i64 0, .int .i64 0, .int .i64 0, .int .i64 0, .int .i64 0, .int .i64 0, .int .i64 0, .int .i64 0, .int .i64 0, .int .i64 0, .int .i64 0, .int .i64 0, .int .i64 0, .int .i64 0, .int .i64 0, .int .i64 0, .int .i64 0, .int .i64 0, .int .i64 0, .int .i64 0, .int .i64 0] 118)) (w.heap.size + 1) (fun _ => R0) := Tab.fresh _ _ _ (by simp)
  have hT0 : Tab ((w.alloc (Obj.cells #[.int .i64 0, .int .i64 0, .int .i64 0, .int .i64 0, .int .i64 0, .int .i64 0, .int .i64 0, .int .i64 0, .int .i64 0, .int .i64 0, .int .i64 0, .int .i64 0, .int .i64 0, .int .i64 0, .int .i64 0, .int .i64 0, .int .i64 0, .int .i64 0, .int .i64 0, .int .i64 0, .int .i64 0, .int .i64 0, .int .i64 0, .int .i64 0, .int .i64 0, .int .i64 0, .int .i64 0, .int .i64 0, .int .i64 0, .int .i64 0, .int .i64 0, .int .i64 0, .int .i64 0, .int .i64 0, .int .i64 0, .int .i64 0, .int .i64 0, .int .i64 0, .int .i64 0, .int .i64 0] 118)).alloc (Obj.cells #[.int .i64 0, .int .i64 0, .int .i64 0, .int .i64 0, .int .i64 0, .int .i64 0, .int .i64 0, .int .i64 0, .int .i64 0, .int .i64 0, .int .i64 0, .int .i64 0, .int .i64 0, .int .i64 0, .int .i64 0, .int .i64 0, .int .i64 0, .int .i64 0, .int .i64 0, .int .i64 0, .int .i64 0, .int .i64 0, .int .i64 0, .int .i64 0, .int .i64 0, .int .i64 0, .int .i64 0, .int .i64 0, .int .i64 0, .int .i64 0, .int .i64 0, .int .i64 0, .int .i64 0, .int .i64 0, .int .i64 0, .int .i64 0, .int .i64 0, .int .i64 0, .int .i64 0, .int .i64 0] 118)) w.heap.size (fun _ => R0) := (Tab.fresh w _ _ rfl).keep ((Below.refl (w.heap.size + 1) _).alloc (by simp) _) (by omega)
  have hz : w.heap.size + 1 < ((w.alloc (Obj.cells #[.int .i64 0, .int .i64 0, .int .i64 0, .int .i64 0, .int .i64 0, .int .i64 0, .int .i64 0, .int .i64 0, .int .i64 0, .int .i64 0, .int .i64 0, .int .i64 0, .int .i64 0, .int .i64 0, .int .i64 0, .int .i64 0, .int .i64 0, .int .i64 0, .int .i64 0, .int .i64 0, .int .i64 0, .int .i64 0, .int .i64 0, .int .i64 0, .int .i64 0, .int .i64 0, .int .i64 0, .int .i64 0, .int .i64 0, .int .i64 0, .int .i64 0, .int .i64 0, .int .i64 0, .int .i64 0, .int .i64 0, .int .i64 0, .int .i64 0, .int .i64 0, .int .i64 0, .int .i64 0] 118)).alloc (Obj.cells #[.int .i64 0, .int .i64 0, .int .i64 0, .int .i64 0, .int .i64 0, .int .i64 0, .int .i64 0, .int .i64 0, .int .i64 0, .int .i64 0, .int .i64 0, .int .i64 0, .int .i64 0, .int .i64 0, .int .i64 0, .int .i64 0, .int .i64 0, .int .i64 0, .int .i64 0, .int .i64 0, .int .i64 0, .int .i64 0, .int .i64 0, .int .i64 0, .int .i64 0, .int .i64 0, .int .i64 0, .int .i64 0, .int .i64 0, .int .i64 0, .int .i64 0, .int .i64 0, .int .i64 0, .int .i64 0, .int .i64 0, .int .i64 0, .int .i64 0, .int .i64 0, .int .i64 0, .int .i64 0] 118)).heap.size := by simp
  generalize ((w.alloc (Obj.cells #[.int .i64 0, .int .i64 0, .int .i64 0, .int .i64 0, .int .i64 0, .int .i64 0, .int .i64 0, .int .i64 0, .int .i64 0, .int .i64 0, .int .i64 0, .int .i64 0, .int .i64 0, .int .i64 0, .int .i64 0, .int .i64 0, .int .i64 0, .int .i64 0, .int .i64 0, .int .i64 0, .int .i64 0, .int .i64 0, .int .i64 0, .int .i64 0, .int .i64 0, .int .i64 0, .int .i64 0, .int .i64 0, .int .i64 0, .int .i64 0, .int .i64 0, .int .i64 0, .int .i64 0, .int .i64 0, .int .i64 0, .int .i64 0, .int .i64 0, .int .i64 0, .int .i64 0, .int .i64 0] 118)).alloc (Obj.cells #[.int .i64 0, .int .i64 0, .int .i64 0, .int .i64 0, .int .i64 0, .int .i64 0, .int .i64 0, .int .i64 0, .int .i64 0, .int .i64 0, .int .i64 0, .int .i64 0, .int .i64 0, .int .i64 0, .int .i64 0, .int .i64 0, .int .i64 0, .int .i64 0, .int .i64 0, .int .i64 0, .int .i64 0, .int .i64 0, .int .i64 0, .int .i64 0, .int .i64 0, .int .i64 0, .int .i64 0, .int .i64 0, .int .i64 0, .int .i64 0, .int .i64 0, .int .i64 0, .int .i64 0, .int .i64 0, .int .i64 0, .int .i64 0, .int .i64 0, .int .i64 0, .int .i64 0, .int .i64 0] 118)) = W at *
  have T1 := Lib.hid hT1
  have T0 := Lib.hid hT0
  have D0 := Lib.hid hb0
  clear hT1 hT0 hb0
  refine (whole_any (-1) _ (by omega) (by omega)).mono ?_
  rw [show (-1 : Int) * 1073741824 = -1073741824 from rfl]
  rintro e w1 ⟨rfl, hb⟩
  unfold retS
  (try simp only)
  have T11 := Lib.hid (T1.out.keep hb (by first | omega | (simp; omega)))
  have T01 := Lib.hid (T0.out.keep hb (by first | omega | (simp; omega)))
  have D1 := Lib.hid (D0.out.trans (hb.mono D0.out.size))
  have zw1 : w.heap.size + 1 < w1.heap.size := by have hs := hb.size; (try simp at hs); omega
  clear hb
  go_wp2_with fail
  refine (onAxis_any (-1073741824) (-1073741824) _).mono ?_
  rintro e w2 ⟨rfl, hb⟩
  unfold retR
  (try simp only)
  have T12 := Lib.hid (T11.out.keep hb (by omega))
  have T02 := Lib.hid (T01.out.keep hb (by omega))
  have D2 := Lib.hid (D1.out.trans (hb.mono D1.out.size))
  have zw2 : w.heap.size + 1 < w2.heap.size := by have hs := hb.size; omega
  clear hb T1 T0 D0 T11 T01 D1 zw1
  obtain ⟨⟨a0, a1, a2, a3⟩, b0, b1, b2, b3⟩ := T12.out 9 (by omega)
  simp only [Nat.reduceMul, Nat.reduceAdd, R0, S0] at a0 a1 a2 a3 b0 b1 b2 b3
  go_wp2_with fail
  clear a0 a1 a2 a3 b0 b1 b2 b3
  have T13 := Lib.hid (Tab.store T12.out (i := 9) (by omega) (-1073741824) (-1073741824) 0 0)
  have T03 := Lib.hid (T02.out.keep ((((((Below.refl (w.heap.size + 1) w2).setCell (p := ⟨w.heap.size + 1, 36, none⟩) (Nat.le_refl _) (.int .i64 (-1073741824))).setCell (p := ⟨w.heap.size + 1, 37, none⟩) (Nat.le_refl _) (.int .i64 (-1073741824))).setCell (p := ⟨w.heap.size + 1, 38, none⟩) (Nat.le_refl _) (.int .i64 0)).setCell (p := ⟨w.heap.size + 1, 39, none⟩) (Nat.le_refl _) (.int .i64 0))) (by omega))
  have D3 := Lib.hid ((((D2.out.setCell (p := ⟨w.heap.size + 1, 36, none⟩) (Nat.le_succ _) (.int .i64 (-1073741824))).setCell (p := ⟨w.heap.size + 1, 37, none⟩) (Nat.le_succ _) (.int .i64 (-1073741824))).setCell (p := ⟨w.heap.size + 1, 38, none⟩) (Nat.le_succ _) (.int .i64 0)).setCell (p := ⟨w.heap.size + 1, 39, none⟩) (Nat.le_succ _) (.int .i64 0))
  refine (whole_any (0) _ (by omega) (by omega)).mono ?_
  rw [show (0 : Int) * 1073741824 = 0 from rfl]
  rintro e w4 ⟨rfl, hb⟩
  unfold retS
  (try simp only)
  have T14 := Lib.hid (T13.out.keep hb (by first | omega | (simp; omega)))
  have T04 := Lib.hid (T03.out.keep hb (by first | omega | (simp; omega)))
  have D4 := Lib.hid (D3.out.trans (hb.mono D3.out.size))
  have zw4 : w.heap.size + 1 < w4.heap.size := by have hs := hb.size; (try simp at hs); omega
  clear hb
  go_wp2_with fail
  refine (whole_any (1) _ (by omega) (by omega)).mono ?_
  rw [show (1 : Int) * 1073741824 = 1073741824 from rfl]
  rintro e w5 ⟨rfl, hb⟩
  unfold retS
  (try simp only)
  have T15 := Lib.hid (T14.out.keep hb (by first | omega | (simp; omega)))
  have T05 := Lib.hid (T04.out.keep hb (by first | omega | (simp; omega)))
  have D5 := Lib.hid (D4.out.trans (hb.mono D4.out.size))
  have zw5 : w.heap.size + 1 < w5.heap.size := by have hs := hb.size; (try simp at hs); omega
  clear hb
  clear T12 T02 D2 T13 T03 D3 T14 T04 D4 zw2 zw4
  obtain ⟨⟨a0, a1, a2, a3⟩, b0, b1, b2, b3⟩ := T15.out 8 (by omega)
  simp only [Nat.reduceMul, Nat.reduceAdd, Nat.reduceEqDiff, if_false, R0, S0] at a0 a1 a2 a3 b0 b1 b2 b3
  go_wp2_with fail
  clear a0 a1 a2 a3 b0 b1 b2 b3
  have T16 := Lib.hid (Tab.congr (G := ptT 8) (Tab.store T15.out (i := 8) (by omega) 0 0 1073741824 1073741824) (fun j hj => by
    unfold ptT
    by_cases h9 : j = 9
    · subst h9; decide
    · by_cases h8 : j = 8
      · subst h8; decide
      · rw [if_neg h8, if_neg h9, if_neg (by omega)]))
  have T06 := Lib.hid (T05.out.keep ((((((Below.refl (w.heap.size + 1) w5).setCell (p := ⟨w.heap.size + 1, 32, none⟩) (Nat.le_refl _) (.int .i64 0)).setCell (p := ⟨w.heap.size + 1, 33, none⟩) (Nat.le_refl _) (.int .i64 0)).setCell (p := ⟨w.heap.size + 1, 34, none⟩) (Nat.le_refl _) (.int .i64 1073741824)).setCell (p := ⟨w.heap.size + 1, 35, none⟩) (Nat.le_refl _) (.int .i64 1073741824))) (by omega))
  have D6 := Lib.hid ((((D5.out.setCell (p := ⟨w.heap.size + 1, 32, none⟩) (Nat.le_succ _) (.int .i64 0)).setCell (p := ⟨w.heap.size + 1, 33, none⟩) (Nat.le_succ _) (.int .i64 0)).setCell (p := ⟨w.heap.size + 1, 34, none⟩) (Nat.le_succ _) (.int .i64 1073741824)).setCell (p := ⟨w.heap.size + 1, 35, none⟩) (Nat.le_succ _) (.int .i64 1073741824))
  go_loopw [2] (fun bv wr => ∃ (z : Int) (m : Nat), bv = .int .i64 z ∧ z = (m : Int) - 1 ∧ m ≤ 8 ∧ Hid (Tab wr (w.heap.size + 1) (ptT m)) ∧ Hid (Tab wr w.heap.size (fun _ => R0)) ∧ Below w.heap.size w wr ∧ w.heap.size + 1 < wr.heap.size) (fun bv _ => (intOf bv + 1).toNat)
  case atStart => exact ⟨7, 8, rfl, by omega, by omega, T16, T06, D6.out, by simp; omega⟩
  case round =>
    obtain ⟨z, m, rfl, hz1, hm, TL, TR, hbel, hsz⟩ := hrel
    have DB := Lib.hid hbel
    clear hbel
    by_cases hm0 : m = 0
    · subst hm0
      obtain rfl : z = -1 := by omega
      clear hz1
      have hrange := (TL.out.congr (G := pt) (fun j hj => by unfold ptT; rw [if_pos (.inr (Nat.zero_le _))])).range
      have hthere := TR.out.there
      have HW : (wr.setCells w.heap.size 0 (tabL pt 10).toArray.toList).rangeAt w.heap.size 0 (tabL pt 10) := World.rangeAt_setCells_same wr w.heap.size 0 (tabL pt 10) (by rw [tabL_len]; exact hthere)
      have HB : Below w.heap.size w (wr.setCells w.heap.size 0 (tabL pt 10).toArray.toList) := below_setCells DB.out (by omega) _ _
      have HRG := Lib.hid hrange
      have HTH : Hid (wr.there w.heap.size 0 (tabL pt 10).toArray.size) := Lib.hid (by rw [show (tabL pt 10).toArray.size = 40 by rw [List.size_toArray, tabL_len]]; exact hthere)
      clear hrange hthere
      go_upto_region 9 with fail
      refine wp_region_lit ?_
      (refine wpList_load_mid rfl 118 _ rfl (w.heap.size + 1) 0 rfl (tabL pt 10) _ HRG.out Try.underlying118 rfl (infoTab pt) ?_)
      (refine wpList_store_mid rfl 118 _ _ rfl w.heap.size 0 (tabL pt 10).toArray rfl rfl HTH.out (infoTab pt) (all_oneCell_toArray (tabL_one pt 10)) ?_)
      generalize wr.setCells w.heap.size 0 (tabL pt 10).toArray.toList = wz at *
      have HW := Lib.hid HW
      refine wpList_nil ?_
      go_wp2_with fail
      refine bodyPost_ret (v := .agg (tabL pt 10).toArray) (results_cell_mid rfl _ _ w.heap.size 0 _ _ rfl HW.out Try.underlying118 rfl (infoTab pt)) rfl ⟨rfl, HB⟩
    · obtain ⟨b, rfl⟩ : ∃ b, m = b + 1 := ⟨m - 1, by omega⟩
      obtain rfl : z = (b : Int) := by omega
      clear hz1 hm0
      have hb7 : (b : Int) ≤ 7 := by omega
      obtain ⟨⟨a0, a1, a2, a3⟩, b0, b1, b2, b3⟩ := TL.out (b + 1) (by omega)
      clear a2 a3 b0 b1 b2 b3
      obtain ⟨p, q, hpq⟩ : ∃ p q, (ptT (b + 1) (b + 1)).re = ⟨p, q⟩ := ⟨_, _, rfl⟩
      rw [hpq] at a0 a1
      have hcis : (ptT (b + 1) (b + 1)) = cis (7 - b) := by
        unfold ptT
        rw [if_pos (.inr (Nat.le_refl _))]
        unfold pt
        rw [if_neg (by omega), show 8 - (b + 1) = 7 - b by omega]
      have hre := cis_re (k := 7 - b) (by omega)
      rw [← hcis, hpq] at hre
      obtain ⟨hp0, hp1, hp2⟩ := hre
      simp only at hp0 hp1 hp2
      have HO := Lib.hid (half_ok hp0 hp1 hp2)
      have HN : Hid (pt b = nxt ⟨p, q⟩) := Lib.hid (by
        rw [← hpq, hcis]
        unfold pt
        rw [if_neg (by omega), show 8 - b = (7 - b) + 1 by omega]
        rfl)
      clear hcis hpq
      simp only at a0 a1
      go_upto_region 8 with fail
      have hb0 : Below wr.heap.size wr (wr.alloc (Obj.cells #[.int .i64 p, .int .i64 q] 23)) := (Below.refl _ _).alloc (Nat.le_refl _) _
      have TL1 := Lib.hid (TL.out.keep hb0 (by omega))
      have TR1 := Lib.hid (TR.out.keep hb0 (by omega))
      have DB1 := Lib.hid (DB.out.trans (hb0.mono DB.out.size))
      have hx0 : (wr.alloc (Obj.cells #[.int .i64 p, .int .i64 q] 23)).cell? ⟨wr.heap.size, 0, none⟩ = some (.int .i64 p) := by go_cell
      have hx1 : (wr.alloc (Obj.cells #[.int .i64 p, .int .i64 q] 23)).cell? ⟨wr.heap.size, 1, none⟩ = some (.int .i64 q) := by go_cell
      have hzz : wr.heap.size < (wr.alloc (Obj.cells #[.int .i64 p, .int .i64 q] 23)).heap.size := by simp
      generalize wr.alloc (Obj.cells #[.int .i64 p, .int .i64 q] 23) = W at *
      generalize wr.heap.size = X at *
      clear hb0 a0 a1 TL TR DB
      have hX0 : w.heap.size < X := by omega
      have hX1 : w.heap.size + 1 < X := by omega
      have hb10 : (b : Int) < 10 := by omega
      have G0 : Hid (∀ w', Below W.heap.size W w' → w'.cell? ⟨X, 0, none⟩ = some (.int .i64 p) ∧ w'.cell? ⟨X, 1, none⟩ = some (.int .i64 q)) := Lib.hid (fun w' hb => by
        have e1 := fun o' => hb.cell (p := ⟨X, o', none⟩) hzz
        rw [e1, e1]
        exact ⟨hx0, hx1⟩)
      have HD : Below W.heap.size W W := Below.refl _ _
      have HB0 := Lib.hid DB1.out
      clear hx0 hx1
      have HD1 : Below W.heap.size W W.drew := HD.drew
      refine wp_region_held_drew (S := fun w' => w'.cell? ⟨X, 0, none⟩ = some (.int .i64 p) ∧ w'.cell? ⟨X, 1, none⟩ = some (.int .i64 q)) (by kernel_rfl) (G0.out _ HD1) (fun hHeld => ?_)
      refine wpAnyH_take (i := 0) (oi := _) (v := ?_) rfl (by kernel_rfl) (by kernel_rfl) (by kernel_rfl) (fun _ _ _ h => h) (Or.inl ⟨by rfl, ?_⟩) (by assumption) ?_
      rotate_left
      · intro w hSw; obtain ⟨_, _⟩ := hSw; go_simp; (try with_reducible rfl)
      try change wpAnyH _ _ _ _ _ _ _ (Act.put _ (some 20) _) _
      try simp only [act_all]
      refine wpAnyH_take (i := 2) (oi := _) (v := ?_) rfl (by kernel_rfl) (by kernel_rfl) (by kernel_rfl) (fun _ _ _ h => h) (Or.inl ⟨by rfl, ?_⟩) (by assumption) ?_
      rotate_left
      · intro w hSw; obtain ⟨_, _⟩ := hSw; go_simp; (try with_reducible rfl)
      try change wpAnyH _ _ _ _ _ _ _ (Act.put _ (some 22) _) _
      try simp only [act_all]
      refine wpAnyH_take (i := 7) (oi := _) (v := ?_) rfl (by kernel_rfl) (by kernel_rfl) (by kernel_rfl) (fun _ _ _ h => h) (Or.inl ⟨by rfl, ?_⟩) (by assumption) ?_
      rotate_left
      · intro w hSw; obtain ⟨_, _⟩ := hSw; go_simp; (try with_reducible rfl)
      try change wpAnyH _ _ _ _ _ _ _ (Act.put _ (some 27) _) _
      try simp only [act_all]
      refine wpAnyH_ready (rs := [1]) (by kernel_rfl) (by simp) ?_
      refine AllReadyH.cons (o := _) rfl (fun K hK => ?_) AllReadyH.nil
      go_simp
      refine (whole_any 1 _ (by omega) (by omega)).mono ?_
      rintro e w2 ⟨he, hb⟩
      have HD2 : Below W.heap.size W w2 := Below.trans HD1 (hb.mono HD1.size)
      have hz2 := HD2.size
      have DA2 := HB0.out.trans (HD2.mono (show w.heap.size ≤ W.heap.size by omega))
      clear hb hHeld
      obtain rfl : e = .returned (.agg #[.int .i64 1073741824, .int .i64 1073741824]) := he
      refine hK.out _ _ (G0.out _ HD2) (fun hHeld => ?_)
      clear hK K
      try simp only [act_all]
      refine wpAnyH_ready (rs := [3]) (by kernel_rfl) (by simp) ?_
      refine AllReadyH.cons (o := _) rfl (fun K hK => ?_) AllReadyH.nil
      go_simp
      refine (addOne_any p q _ hp0 hp1 hp2).mono ?_
      rintro e w3 ⟨he, hb⟩
      have HD3 : Below W.heap.size W w3 := Below.trans HD2 (hb.mono HD2.size)
      have hz3 := HD3.size
      have DA3 := HB0.out.trans (HD3.mono (show w.heap.size ≤ W.heap.size by omega))
      clear hb hHeld
      obtain rfl : e = .returned (.agg #[.int .i64 (1073741824 + p), .int .i64 (1073741824 + q)]) := he
      refine hK.out _ _ (G0.out _ HD3) (fun hHeld => ?_)
      clear hK K
      try simp only [act_all]
      refine wpAnyH_ready (rs := [4]) (by kernel_rfl) (by simp) ?_
      refine AllReadyH.cons (o := _) rfl (fun K hK => ?_) AllReadyH.nil
      go_simp
      refine (halfSpan_any (1073741824 + p) (1073741824 + q) _ ⟨by omega, by omega⟩ ⟨by omega, by omega⟩).mono ?_
      rintro e w4 ⟨he, hb⟩
      have HD4 : Below W.heap.size W w4 := Below.trans HD3 (hb.mono HD3.size)
      have hz4 := HD4.size
      have DA4 := HB0.out.trans (HD4.mono (show w.heap.size ≤ W.heap.size by omega))
      clear hb hHeld
      obtain ⟨r, hr⟩ : ∃ r, (halfS ⟨1073741824 + p, 1073741824 + q⟩) = r := ⟨_, rfl⟩
      rw [hr] at he
      have HR2 := Lib.hid hr
      clear hr
      obtain ⟨h1, h2⟩ := r
      obtain rfl : e = .returned (.agg #[.int .i64 h1, .int .i64 h2]) := he
      refine hK.out _ _ (G0.out _ HD4) (fun hHeld => ?_)
      clear hK K
      try simp only [act_all]
      refine wpAnyH_ready (rs := [5]) (by kernel_rfl) (by simp) ?_
      refine AllReadyH.cons (o := _) rfl (fun K hK => ?_) AllReadyH.nil
      go_simp
      refine (rootSpan_any h1 h2 _ (by rw [← HR2.out]; exact HO.out.1) (by have := HO.out.2.1; rw [HR2.out] at this; exact this)).mono ?_
      rintro e w5 ⟨he, hb⟩
      have HD5 : Below W.heap.size W w5 := Below.trans HD4 (hb.mono HD4.size)
      have hz5 := HD5.size
      have DA5 := HB0.out.trans (HD5.mono (show w.heap.size ≤ W.heap.size by omega))
      clear hb hHeld
      obtain ⟨r, hr⟩ : ∃ r, (rootS ⟨h1, h2⟩) = r := ⟨_, rfl⟩
      rw [hr] at he
      have HR3 := Lib.hid hr
      clear hr
      obtain ⟨r1, r2⟩ := r
      obtain rfl : e = .returned (.agg #[.int .i64 r1, .int .i64 r2]) := he
      refine hK.out _ _ (G0.out _ HD5) (fun hHeld => ?_)
      clear hK K
      try simp only [act_all]
      refine wpAnyH_ready (rs := [6]) (by kernel_rfl) (by simp) ?_
      refine AllReadyH.cons (o := _) rfl (fun K hK => ?_) AllReadyH.nil
      go_simp
      refine (whole_any 1 _ (by omega) (by omega)).mono ?_
      rintro e w6 ⟨he, hb⟩
      have HD6 : Below W.heap.size W w6 := Below.trans HD5 (hb.mono HD5.size)
      have hz6 := HD6.size
      have DA6 := HB0.out.trans (HD6.mono (show w.heap.size ≤ W.heap.size by omega))
      clear hb hHeld
      obtain rfl : e = .returned (.agg #[.int .i64 1073741824, .int .i64 1073741824]) := he
      refine hK.out _ _ (G0.out _ HD6) (fun hHeld => ?_)
      clear hK K
      try simp only [act_all]
      refine wpAnyH_ready (rs := [8]) (by kernel_rfl) (by simp) ?_
      refine AllReadyH.cons (o := _) rfl (fun K hK => ?_) AllReadyH.nil
      go_simp
      refine (subOne_any p q _ hp0 hp1 hp2).mono ?_
      rintro e w7 ⟨he, hb⟩
      have HD7 : Below W.heap.size W w7 := Below.trans HD6 (hb.mono HD6.size)
      have hz7 := HD7.size
      have DA7 := HB0.out.trans (HD7.mono (show w.heap.size ≤ W.heap.size by omega))
      clear hb hHeld
      obtain rfl : e = .returned (.agg #[.int .i64 (1073741824 - q), .int .i64 (1073741824 - p)]) := he
      refine hK.out _ _ (G0.out _ HD7) (fun hHeld => ?_)
      clear hK K
      try simp only [act_all]
      refine wpAnyH_ready (rs := [9]) (by kernel_rfl) (by simp) ?_
      refine AllReadyH.cons (o := _) rfl (fun K hK => ?_) AllReadyH.nil
      go_simp
      refine (halfSpan_any (1073741824 - q) (1073741824 - p) _ ⟨by omega, by omega⟩ ⟨by omega, by omega⟩).mono ?_
      rintro e w8 ⟨he, hb⟩
      have HD8 : Below W.heap.size W w8 := Below.trans HD7 (hb.mono HD7.size)
      have hz8 := HD8.size
      have DA8 := HB0.out.trans (HD8.mono (show w.heap.size ≤ W.heap.size by omega))
      clear hb hHeld
      obtain ⟨r, hr⟩ : ∃ r, (halfS ⟨1073741824 - q, 1073741824 - p⟩) = r := ⟨_, rfl⟩
      rw [hr] at he
      have HR6 := Lib.hid hr
      clear hr
      obtain ⟨h3, h4⟩ := r
      obtain rfl : e = .returned (.agg #[.int .i64 h3, .int .i64 h4]) := he
      refine hK.out _ _ (G0.out _ HD8) (fun hHeld => ?_)
      clear hK K
      try simp only [act_all]
      refine wpAnyH_ready (rs := [10]) (by kernel_rfl) (by simp) ?_
      refine AllReadyH.cons (o := _) rfl (fun K hK => ?_) AllReadyH.nil
      go_simp
      refine (rootSpan_any h3 h4 _ (by rw [← HR6.out]; exact HO.out.2.2.1) (by have := HO.out.2.2.2; rw [HR6.out] at this; exact this)).mono ?_
      rintro e w9 ⟨he, hb⟩
      have HD9 : Below W.heap.size W w9 := Below.trans HD8 (hb.mono HD8.size)
      have hz9 := HD9.size
      have DA9 := HB0.out.trans (HD9.mono (show w.heap.size ≤ W.heap.size by omega))
      clear hb hHeld
      obtain ⟨r, hr⟩ : ∃ r, (rootS ⟨h3, h4⟩) = r := ⟨_, rfl⟩
      rw [hr] at he
      have HR7 := Lib.hid hr
      clear hr
      obtain ⟨r3, r4⟩ := r
      obtain rfl : e = .returned (.agg #[.int .i64 r3, .int .i64 r4]) := he
      refine hK.out _ _ (G0.out _ HD9) (fun hHeld => ?_)
      clear hK K
      try simp only [act_all]
      refine wpAnyH_take (i := 11) (oi := _) (v := ?_) rfl (by kernel_rfl) (by kernel_rfl) (by kernel_rfl) (fun _ _ _ h => h) (Or.inl ⟨by rfl, ?_⟩) (by assumption) ?_
      rotate_left
      · intro w hSw; obtain ⟨_, _⟩ := hSw; go_simp; (try with_reducible rfl)
      try change wpAnyH _ _ _ _ _ _ _ (Act.put _ (some 31) _) _
      try simp only [act_all]
      refine wpAnyH_take (i := 12) (oi := _) (v := ?_) rfl (by kernel_rfl) (by kernel_rfl) (by kernel_rfl) (fun _ _ _ h => h) (Or.inl ⟨by rfl, ?_⟩) (by assumption) ?_
      rotate_left
      · intro w hSw; obtain ⟨_, _⟩ := hSw; go_simp; (try with_reducible rfl)
      try change wpAnyH _ _ _ _ _ _ _ (Act.put _ (some 32) _) _
      try simp only [act_all]
      refine wpAnyH_ready (rs := [13]) (by kernel_rfl) (by simp) ?_
      refine AllReadyH.cons (o := _) rfl (fun K hK => ?_) AllReadyH.nil
      obtain ⟨_, _⟩ := G0.out _ HD9
      have TL2 := Lib.hid (TL1.out.keep HD9 (by omega))
      have TR2 := Lib.hid (TR1.out.keep HD9 (by omega))
      obtain ⟨⟨_, _, _, _⟩, _, _, _, _⟩ := TL2.out b (by omega)
      go_simp
      refine hK.out _ _ (by refine ⟨?_, ?_⟩ <;> go_cell) (fun hHeld => ?_)
      clear hK K
      try simp only [act_all]
      refine wpAnyH_done (by kernel_rfl) ?_ _
      have TL3 := Lib.hid (Tab.congr (G := ptT b) (Tab.store TL2.out (i := b) (by omega) r1 r2 r3 r4) (fun j hj => by
        unfold ptT
        by_cases hj1 : j = b
        · subst hj1
          simp only [if_true]
          rw [if_pos (.inr (Nat.le_refl _)), HN.out]
          unfold nxt
          simp only [HR2.out, HR3.out, HR6.out, HR7.out]
        · simp only [hj1, if_false]
          by_cases hj2 : j = 9 ∨ b + 1 ≤ j
          · rw [if_pos hj2, if_pos (by omega)]
          · rw [if_neg hj2, if_neg (by omega)]))
      have TR3 := Lib.hid (TR2.out.keep (((((Below.refl (w.heap.size + 1) w9).setCell (p := ⟨w.heap.size + 1, b * 4, none⟩) (Nat.le_refl _) (.int .i64 r1)).setCell (p := ⟨w.heap.size + 1, b * 4 + 1, none⟩) (Nat.le_refl _) (.int .i64 r2)).setCell (p := ⟨w.heap.size + 1, b * 4 + 2, none⟩) (Nat.le_refl _) (.int .i64 r3)).setCell (p := ⟨w.heap.size + 1, b * 4 + 3, none⟩) (Nat.le_refl _) (.int .i64 r4)) (by omega))
      have DB3 := Lib.hid ((HB0.out.trans (HD9.mono (by have := HB0.out.size; omega))).trans ((((((Below.refl (w.heap.size + 1) w9).setCell (p := ⟨w.heap.size + 1, b * 4, none⟩) (Nat.le_refl _) (.int .i64 r1)).setCell (p := ⟨w.heap.size + 1, b * 4 + 1, none⟩) (Nat.le_refl _) (.int .i64 r2)).setCell (p := ⟨w.heap.size + 1, b * 4 + 2, none⟩) (Nat.le_refl _) (.int .i64 r3)).setCell (p := ⟨w.heap.size + 1, b * 4 + 3, none⟩) (Nat.le_refl _) (.int .i64 r4)).mono (by omega)))
      go_wp2_with fail
      go_roundw
      case rel => exact ⟨(b : Int) - 1, b, by go_num, rfl, by omega, TL3, TR3, DB3.out, by have := HD9.size; simp; omega⟩
      case measure => (simp [intOf]; (try omega))
end Go.Proofs.Ytgbnpnenejgnnaa
