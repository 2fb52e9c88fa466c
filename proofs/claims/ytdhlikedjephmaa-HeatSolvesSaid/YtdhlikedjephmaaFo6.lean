import Derived.Test.YtdhlikedjephmaaTm6
import Derived.Test.YtdhlikedjephmaaBk6
namespace Heat
theorem timL_bd {n : Nat} {L p : Nat → Int} (hn : n ≤ 5) (hb : ∀ i, i < n → ∀ k, k < n → (L (i * 5 + k) * p k).natAbs ≤ 1000000000000) (q : Nat) : (timL n L p n 0 q).natAbs ≤ 5000000000000 := by
  unfold timL
  by_cases h : q < n
  · rw [if_pos h]
    have := timT_bd (hb q h) n (Nat.le_refl _)
    omega
  · rw [if_neg h]
    split
    · show (0 : Int).natAbs ≤ _; decide
    · decide
/-- The list, with the first i numbers of another one taken away. -/
def offL (T wt : Nat → Int) (i q : Nat) : Int := if q < i then T q - wt q else T q
end Heat
namespace Go.Proofs.Ytdhlikedjephmaa
open Go.RowKit Heat
theorem offL_next {T wt : Nat → Int} {i : Nat} : updI (offL T wt i) i (T i - wt i) = offL T wt (i + 1) := by
  funext q
  unfold updI offL
  by_cases e : q = i
  · subst e; rw [if_pos rfl, if_pos (by omega)]
  · rw [if_neg e]
    by_cases h : q < i
    · rw [if_pos h, if_pos (by omega)]
    · rw [if_neg h, if_neg (by omega)]
set_option maxRecDepth 100000 in
set_option maxHeartbeats 8000000 in
theorem off_any (n : Nat) (L R wt p : Nat → Int) (w : World) (hn : n ≤ 5) (hb : ∀ i, i < n → ∀ k, k < n → (L (i * 5 + k) * p k).natAbs ≤ 1000000000000) (hwt : ∀ i, i < 5 → (wt i).natAbs ≤ 1000000) :
    Calls Try.prog 66 #[bkV n L R, liV wt, liV p] w fun e w' => e = .returned (liV (fun i => timL n L p n 0 i - wt i)) ∧ Below w.heap.size w w' := by
  have HBD := Lib.hid hb
  have HWT := Lib.hid hwt
  clear hb hwt
  have HSQ : Hid (Sqw ((((w.alloc (Obj.cells #[.int .i64 n, .int .i64 (L 0), .int .i64 (L 1), .int .i64 (L 2), .int .i64 (L 3), .int .i64 (L 4), .int .i64 (L 5), .int .i64 (L 6), .int .i64 (L 7), .int .i64 (L 8), .int .i64 (L 9), .int .i64 (L 10), .int .i64 (L 11), .int .i64 (L 12), .int .i64 (L 13), .int .i64 (L 14), .int .i64 (L 15), .int .i64 (L 16), .int .i64 (L 17), .int .i64 (L 18), .int .i64 (L 19), .int .i64 (L 20), .int .i64 (L 21), .int .i64 (L 22), .int .i64 (L 23), .int .i64 (L 24), .int .i64 (R 0), .int .i64 (R 1), .int .i64 (R 2), .int .i64 (R 3), .int .i64 (R 4)] 81)).alloc (Obj.cells #[.int .i64 (wt 0), .int .i64 (wt 1), .int .i64 (wt 2), .int .i64 (wt 3), .int .i64 (wt 4)] 74)).alloc (Obj.cells #[.int .i64 (p 0), .int .i64 (p 1), .int .i64 (p 2), .int .i64 (p 3), .int .i64 (p 4)] 74)).alloc (Obj.cells #[.int .i64 0, .int .i64 0, .int .i64 0, .int .i64 0, .int .i64 0] 74)) w.heap.size n L) := Lib.hid (Sqw.fresh (by refine ⟨?_, ?_, ?_, ?_, ?_, ?_, ?_, ?_, ?_, ?_, ?_, ?_, ?_, ?_, ?_, ?_, ?_, ?_, ?_, ?_, ?_, ?_, ?_, ?_, ?_, ?_⟩ <;> go_cell) (by refine ⟨?_, ?_, ?_, ?_, ?_, ?_, ?_, ?_, ?_, ?_, ?_, ?_, ?_, ?_, ?_, ?_, ?_, ?_, ?_, ?_, ?_, ?_, ?_, ?_, ?_, ?_⟩ <;> go_cell))
  have HLI : Hid (Liw ((((w.alloc (Obj.cells #[.int .i64 n, .int .i64 (L 0), .int .i64 (L 1), .int .i64 (L 2), .int .i64 (L 3), .int .i64 (L 4), .int .i64 (L 5), .int .i64 (L 6), .int .i64 (L 7), .int .i64 (L 8), .int .i64 (L 9), .int .i64 (L 10), .int .i64 (L 11), .int .i64 (L 12), .int .i64 (L 13), .int .i64 (L 14), .int .i64 (L 15), .int .i64 (L 16), .int .i64 (L 17), .int .i64 (L 18), .int .i64 (L 19), .int .i64 (L 20), .int .i64 (L 21), .int .i64 (L 22), .int .i64 (L 23), .int .i64 (L 24), .int .i64 (R 0), .int .i64 (R 1), .int .i64 (R 2), .int .i64 (R 3), .int .i64 (R 4)] 81)).alloc (Obj.cells #[.int .i64 (wt 0), .int .i64 (wt 1), .int .i64 (wt 2), .int .i64 (wt 3), .int .i64 (wt 4)] 74)).alloc (Obj.cells #[.int .i64 (p 0), .int .i64 (p 1), .int .i64 (p 2), .int .i64 (p 3), .int .i64 (p 4)] 74)).alloc (Obj.cells #[.int .i64 0, .int .i64 0, .int .i64 0, .int .i64 0, .int .i64 0] 74)) (w.heap.size + 1) wt) := Lib.hid (fun j hj => by rcases (show j = 0 ∨ j = 1 ∨ j = 2 ∨ j = 3 ∨ j = 4 by omega) with rfl | rfl | rfl | rfl | rfl <;> go_cell)
  have HLP : Hid (Liw ((((w.alloc (Obj.cells #[.int .i64 n, .int .i64 (L 0), .int .i64 (L 1), .int .i64 (L 2), .int .i64 (L 3), .int .i64 (L 4), .int .i64 (L 5), .int .i64 (L 6), .int .i64 (L 7), .int .i64 (L 8), .int .i64 (L 9), .int .i64 (L 10), .int .i64 (L 11), .int .i64 (L 12), .int .i64 (L 13), .int .i64 (L 14), .int .i64 (L 15), .int .i64 (L 16), .int .i64 (L 17), .int .i64 (L 18), .int .i64 (L 19), .int .i64 (L 20), .int .i64 (L 21), .int .i64 (L 22), .int .i64 (L 23), .int .i64 (L 24), .int .i64 (R 0), .int .i64 (R 1), .int .i64 (R 2), .int .i64 (R 3), .int .i64 (R 4)] 81)).alloc (Obj.cells #[.int .i64 (wt 0), .int .i64 (wt 1), .int .i64 (wt 2), .int .i64 (wt 3), .int .i64 (wt 4)] 74)).alloc (Obj.cells #[.int .i64 (p 0), .int .i64 (p 1), .int .i64 (p 2), .int .i64 (p 3), .int .i64 (p 4)] 74)).alloc (Obj.cells #[.int .i64 0, .int .i64 0, .int .i64 0, .int .i64 0, .int .i64 0] 74)) (w.heap.size + 1 + 1) p) := Lib.hid (fun j hj => by rcases (show j = 0 ∨ j = 1 ∨ j = 2 ∨ j = 3 ∨ j = 4 by omega) with rfl | rfl | rfl | rfl | rfl <;> go_cell)
  have HRE : Hid (Intw ((((w.alloc (Obj.cells #[.int .i64 n, .int .i64 (L 0), .int .i64 (L 1), .int .i64 (L 2), .int .i64 (L 3), .int .i64 (L 4), .int .i64 (L 5), .int .i64 (L 6), .int .i64 (L 7), .int .i64 (L 8), .int .i64 (L 9), .int .i64 (L 10), .int .i64 (L 11), .int .i64 (L 12), .int .i64 (L 13), .int .i64 (L 14), .int .i64 (L 15), .int .i64 (L 16), .int .i64 (L 17), .int .i64 (L 18), .int .i64 (L 19), .int .i64 (L 20), .int .i64 (L 21), .int .i64 (L 22), .int .i64 (L 23), .int .i64 (L 24), .int .i64 (R 0), .int .i64 (R 1), .int .i64 (R 2), .int .i64 (R 3), .int .i64 (R 4)] 81)).alloc (Obj.cells #[.int .i64 (wt 0), .int .i64 (wt 1), .int .i64 (wt 2), .int .i64 (wt 3), .int .i64 (wt 4)] 74)).alloc (Obj.cells #[.int .i64 (p 0), .int .i64 (p 1), .int .i64 (p 2), .int .i64 (p 3), .int .i64 (p 4)] 74)).alloc (Obj.cells #[.int .i64 0, .int .i64 0, .int .i64 0, .int .i64 0, .int .i64 0] 74)) (w.heap.size + 1 + 1 + 1) 5 (fun _ => 0)) := Lib.hid (fun j hj => by rcases (show j = 0 ∨ j = 1 ∨ j = 2 ∨ j = 3 ∨ j = 4 by omega) with rfl | rfl | rfl | rfl | rfl <;> exact ⟨by go_cell, by go_cell⟩)
  have hb0 : Below w.heap.size w ((((w.alloc (Obj.cells #[.int .i64 n, .int .i64 (L 0), .int .i64 (L 1), .int .i64 (L 2), .int .i64 (L 3), .int .i64 (L 4), .int .i64 (L 5), .int .i64 (L 6), .int .i64 (L 7), .int .i64 (L 8), .int .i64 (L 9), .int .i64 (L 10), .int .i64 (L 11), .int .i64 (L 12), .int .i64 (L 13), .int .i64 (L 14), .int .i64 (L 15), .int .i64 (L 16), .int .i64 (L 17), .int .i64 (L 18), .int .i64 (L 19), .int .i64 (L 20), .int .i64 (L 21), .int .i64 (L 22), .int .i64 (L 23), .int .i64 (L 24), .int .i64 (R 0), .int .i64 (R 1), .int .i64 (R 2), .int .i64 (R 3), .int .i64 (R 4)] 81)).alloc (Obj.cells #[.int .i64 (wt 0), .int .i64 (wt 1), .int .i64 (wt 2), .int .i64 (wt 3), .int .i64 (wt 4)] 74)).alloc (Obj.cells #[.int .i64 (p 0), .int .i64 (p 1), .int .i64 (p 2), .int .i64 (p 3), .int .i64 (p 4)] 74)).alloc (Obj.cells #[.int .i64 0, .int .i64 0, .int .i64 0, .int .i64 0, .int .i64 0] 74)) := by go_grown
  have hsz : w.heap.size + 1 + 1 + 1 < ((((w.alloc (Obj.cells #[.int .i64 n, .int .i64 (L 0), .int .i64 (L 1), .int .i64 (L 2), .int .i64 (L 3), .int .i64 (L 4), .int .i64 (L 5), .int .i64 (L 6), .int .i64 (L 7), .int .i64 (L 8), .int .i64 (L 9), .int .i64 (L 10), .int .i64 (L 11), .int .i64 (L 12), .int .i64 (L 13), .int .i64 (L 14), .int .i64 (L 15), .int .i64 (L 16), .int .i64 (L 17), .int .i64 (L 18), .int .i64 (L 19), .int .i64 (L 20), .int .i64 (L 21), .int .i64 (L 22), .int .i64 (L 23), .int .i64 (L 24), .int .i64 (R 0), .int .i64 (R 1), .int .i64 (R 2), .int .i64 (R 3), .int .i64 (R 4)] 81)).alloc (Obj.cells #[.int .i64 (wt 0), .int .i64 (wt 1), .int .i64 (wt 2), .int .i64 (wt 3), .int .i64 (wt 4)] 74)).alloc (Obj.cells #[.int .i64 (p 0), .int .i64 (p 1), .int .i64 (p 2), .int .i64 (p 3), .int .i64 (p 4)] 74)).alloc (Obj.cells #[.int .i64 0, .int .i64 0, .int .i64 0, .int .i64 0, .int .i64 0] 74)).heap.size := by simp
  unfold bkV liV
  go_enter Try.func66, Try.ntmps66
  go_upto_region 1 with fail
  generalize ((((w.alloc (Obj.cells #[.int .i64 n, .int .i64 (L 0), .int .i64 (L 1), .int .i64 (L 2), .int .i64 (L 3), .int .i64 (L 4), .int .i64 (L 5), .int .i64 (L 6), .int .i64 (L 7), .int .i64 (L 8), .int .i64 (L 9), .int .i64 (L 10), .int .i64 (L 11), .int .i64 (L 12), .int .i64 (L 13), .int .i64 (L 14), .int .i64 (L 15), .int .i64 (L 16), .int .i64 (L 17), .int .i64 (L 18), .int .i64 (L 19), .int .i64 (L 20), .int .i64 (L 21), .int .i64 (L 22), .int .i64 (L 23), .int .i64 (L 24), .int .i64 (R 0), .int .i64 (R 1), .int .i64 (R 2), .int .i64 (R 3), .int .i64 (R 4)] 81)).alloc (Obj.cells #[.int .i64 (wt 0), .int .i64 (wt 1), .int .i64 (wt 2), .int .i64 (wt 3), .int .i64 (wt 4)] 74)).alloc (Obj.cells #[.int .i64 (p 0), .int .i64 (p 1), .int .i64 (p 2), .int .i64 (p 3), .int .i64 (p 4)] 74)).alloc (Obj.cells #[.int .i64 0, .int .i64 0, .int .i64 0, .int .i64 0, .int .i64 0] 74)) = W at *
  have HB0 := Lib.hid hb0
  have HRG := Lib.hid HSQ.out.range
  have q0 := HLP.out 0 (by omega)
  have q1 := HLP.out 1 (by omega)
  have q2 := HLP.out 2 (by omega)
  have q3 := HLP.out 3 (by omega)
  have q4 := HLP.out 4 (by omega)
  clear hb0
  refine wp_region_lit ?_
  refine wpList_step (fun K hK => ?_); go_simp; refine hK _ _ ?_; clear hK K
  (refine wpList_load_mid rfl 79 _ rfl w.heap.size 0 rfl (sqL n L) _ HRG.out Try.underlying79 rfl (infoSq n L) ?_)
  refine wpList_step (fun K hK => ?_); go_simp; refine hK _ _ ?_; clear hK K
  refine wpList_step (fun K hK => ?_); go_simp
  refine (times_any n L p _ hn HBD.out).mono ?_
  rintro e w1 ⟨rfl, hb⟩
  have HLI1 := Lib.hid (HLI.out.keep hb)
  have HRE1 := Lib.hid (HRE.out.keep hb)
  have HB1 := Lib.hid (HB0.out.trans (hb.mono HB0.out.size))
  have hs1 : w.heap.size + 1 + 1 + 1 < w1.heap.size := by have := hb.size; omega
  refine hK _ _ ?_; clear hK K
  clear hb HSQ HLI HLP HRE HB0 HRG q0 q1 q2 q3 q4 hsz
  unfold liV
  have hbA : Below w1.heap.size w1 (w1.alloc (Obj.cells #[.int .i64 (timL n L p n 0 0), .int .i64 (timL n L p n 0 1), .int .i64 (timL n L p n 0 2), .int .i64 (timL n L p n 0 3), .int .i64 (timL n L p n 0 4)] 74)) := (Below.refl _ _).alloc (Nat.le_refl _) _
  have HLI2 := Lib.hid (HLI1.out.keep hbA)
  have HRE2 := Lib.hid (HRE1.out.keep hbA)
  have HB2 := Lib.hid (HB1.out.trans (hbA.mono HB1.out.size))
  have HT2 : Hid (Intw (w1.alloc (Obj.cells #[.int .i64 (timL n L p n 0 0), .int .i64 (timL n L p n 0 1), .int .i64 (timL n L p n 0 2), .int .i64 (timL n L p n 0 3), .int .i64 (timL n L p n 0 4)] 74)) w1.heap.size 5 (offL (timL n L p n 0) wt 0)) := Lib.hid (fun j hj => by
    show _ = some (Value.int .i64 (timL n L p n 0 j)) ∧ _
    rcases (show j = 0 ∨ j = 1 ∨ j = 2 ∨ j = 3 ∨ j = 4 by omega) with rfl | rfl | rfl | rfl | rfl <;> exact ⟨by go_cell, by go_cell⟩)
  have hs2 : w1.heap.size < (w1.alloc (Obj.cells #[.int .i64 (timL n L p n 0 0), .int .i64 (timL n L p n 0 1), .int .i64 (timL n L p n 0 2), .int .i64 (timL n L p n 0 3), .int .i64 (timL n L p n 0 4)] 74)).heap.size := by simp
  clear hbA HLI1 HRE1 HB1
  refine wpList_step (fun K hK => ?_); go_simp; refine hK _ _ ?_; clear hK K
  refine wpList_step (fun K hK => ?_); go_simp; refine hK _ _ ?_; clear hK K
  refine wpList_nil ?_
  generalize (w1.alloc (Obj.cells #[.int .i64 (timL n L p n 0 0), .int .i64 (timL n L p n 0 1), .int .i64 (timL n L p n 0 2), .int .i64 (timL n L p n 0 3), .int .i64 (timL n L p n 0 4)] 74)) = W2 at *
  generalize w1.heap.size = g at *
  go_wp2_with fail
  go_loopw [13] (fun iv wr => ∃ (z : Int) (i : Nat), iv = .int .i64 z ∧ z = i ∧ i ≤ 5 ∧ Hid (Liw wr (w.heap.size + 1) wt) ∧ Hid (Intw wr (w.heap.size + 1 + 1 + 1) 5 (fun _ => 0)) ∧ Hid (Intw wr g 5 (offL (timL n L p n 0) wt i)) ∧ Hid (Below w.heap.size w wr) ∧ g < wr.heap.size) (fun iv _ => 5 - (intOf iv).toNat)
  case atStart => exact ⟨0, 0, rfl, by omega, by omega, HLI2, HRE2, HT2, HB2, hs2⟩
  case round =>
    obtain ⟨z, i, rfl, hz, hi, HL, HR, HT, HB, hsw⟩ := hrel
    by_cases hlt : i < 5
    · have hlt' : z < (5 : Int) := by omega
      subst hz
      have i0 : (0 : Int) ≤ (i : Int) := by omega
      have wz : wrap64 ((i : Int) + 1) = (i : Int) + 1 := by simp only [wrap64]; omega
      have t1 := HL.out i hlt
      obtain ⟨m0, m1⟩ := HT.out i hlt
      have hti : offL (timL n L p n 0) wt i i = timL n L p n 0 i := by unfold offL; rw [if_neg (by omega)]
      rw [hti] at m0
      have hb1 := timL_bd hn HBD.out i
      have hb2 := HWT.out i hlt
      have HTN := HT.out.store (j := i) hlt (timL n L p n 0 i - wt i)
      rw [offL_next] at HTN
      obtain ⟨a, ha⟩ : ∃ a, timL n L p n 0 i = a := ⟨_, rfl⟩
      obtain ⟨b, hb⟩ : ∃ b, wt i = b := ⟨_, rfl⟩
      rw [ha] at m0 hb1 HTN
      rw [hb] at t1 hb2 HTN
      have v1 : wrap64 (a - b) = a - b := by clear wz; simp only [wrap64]; omega
      have HLN : Liw (wr.setCell ⟨g, i, none⟩ (.int .i64 (a - b))) (w.heap.size + 1) wt := fun q hq => by have := HL.out q hq; have hne : ¬ g = w.heap.size + 1 := (by omega); go_cell
      have HRN := HR.out.other (m := g) (k := i) (v := .int .i64 (a - b)) (by omega)
      have HBN := HB.out.setCell (p := ⟨g, i, none⟩) (by simp only; omega) (.int .i64 (a - b))
      have nb1 : w.heap.size < wr.heap.size := by omega
      have nb2 : w.heap.size + 1 < wr.heap.size := by omega
      clear HL HR HT HB ha hb hb1 hb2 hti HLI2 HRE2 HT2 HB2 hs2
      go_upto_region 5 with fail
      go_region
      have HLd : Hid (Liw ((wr.setCell ⟨g, i, none⟩ (.int .i64 (a - b))).drew) (w.heap.size + 1) wt) := Lib.hid HLN
      have HRd : Hid (Intw ((wr.setCell ⟨g, i, none⟩ (.int .i64 (a - b))).drew) (w.heap.size + 1 + 1 + 1) 5 (fun _ => 0)) := Lib.hid HRN
      have HTd : Hid (Intw ((wr.setCell ⟨g, i, none⟩ (.int .i64 (a - b))).drew) g 5 (offL (timL n L p n 0) wt (i + 1))) := Lib.hid HTN
      have HBd : Hid (Below w.heap.size w ((wr.setCell ⟨g, i, none⟩ (.int .i64 (a - b))).drew)) := Lib.hid HBN.drew
      have hsd : g < ((wr.setCell ⟨g, i, none⟩ (.int .i64 (a - b))).drew).heap.size := World.block_lt_of_cell? _ _ (HTd.out 0 (by omega)).1
      clear HLN HRN HTN HBN t1 m0 m1 v1 nb1 nb2 hsw
      generalize (wr.setCell ⟨g, i, none⟩ (.int .i64 (a - b))).drew = wv at *
      go_wp2_with fail
      go_roundw
      case rel => exact ⟨(i : Int) + 1, i + 1, by first | rfl | rw [wz], by omega, by omega, HLd, HRd, HTd, HBd, hsd⟩
      case measure => first | (simp [intOf]; done) | (simp [intOf]; omega)
    · obtain rfl : i = 5 := by omega
      have hzn : ¬ z < (5 : Int) := by omega
      subst hz
      have HT5 : Hid (Intw wr g 5 (fun q => timL n L p n 0 q - wt q)) := Lib.hid (HT.out.congr fun q hq => by unfold offL; rw [if_pos hq])
      obtain ⟨⟨q0, _⟩, ⟨q1, _⟩, ⟨q2, _⟩, ⟨q3, _⟩, ⟨q4, _⟩⟩ : _ ∧ _ ∧ _ ∧ _ ∧ _ := ⟨HT5.out 0 (by omega), HT5.out 1 (by omega), HT5.out 2 (by omega), HT5.out 3 (by omega), HT5.out 4 (by omega)⟩
      obtain ⟨⟨p0, r0⟩, ⟨p1, r1⟩, ⟨p2, r2⟩, ⟨p3, r3⟩, ⟨p4, r4⟩⟩ : _ ∧ _ ∧ _ ∧ _ ∧ _ := ⟨HR.out 0 (by omega), HR.out 1 (by omega), HR.out 2 (by omega), HR.out 3 (by omega), HR.out 4 (by omega)⟩
      have hbl := HB.out
      have nb2 : w.heap.size + 1 + 1 + 1 < wr.heap.size := by omega
      clear HL HR HT HB HT5 HLI2 HRE2 HT2 HB2 hs2
      go_wp2_with fail
      refine bodyPost_ret (v := liV (fun q => timL n L p n 0 q - wt q)) (by unfold liV; simp [results, Try.results66, go_sem, *]) rfl ⟨rfl, by go_grown⟩
end Go.Proofs.Ytdhlikedjephmaa
