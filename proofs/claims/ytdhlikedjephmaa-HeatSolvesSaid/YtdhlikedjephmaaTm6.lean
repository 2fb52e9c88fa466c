import Derived.Test.YtdhlikedjephmaaHu
namespace Heat
/-- What the first j heaters do to guide i. -/
def timT (L p : Nat → Int) (i : Nat) : Nat → Int
  | 0 => 0
  | j + 1 => timT L p i j + L (i * 5 + j) * p j
theorem timT_bd {L p : Nat → Int} {n i : Nat} (hb : ∀ k, k < n → (L (i * 5 + k) * p k).natAbs ≤ 1000000000000) : ∀ j, j ≤ n → (timT L p i j).natAbs ≤ 1000000000000 * j
  | 0, _ => by unfold timT; decide
  | j + 1, h => by
    have h1 := timT_bd hb j (by omega)
    have h2 := hb j (by omega)
    unfold timT
    omega
/-- The list, with j heaters of row i done. -/
def timL (n : Nat) (L p : Nat → Int) (i j q : Nat) : Int := if q < i then timT L p q n else if q = i then timT L p i j else 0
theorem timL_row {n : Nat} {L p : Nat → Int} {i : Nat} : timL n L p i n = timL n L p (i + 1) 0 := by
  funext q
  unfold timL
  by_cases h : q < i
  · rw [if_pos h, if_pos (by omega)]
  · by_cases e : q = i
    · subst e; rw [if_neg h, if_pos rfl, if_pos (by omega)]
    · rw [if_neg h, if_neg e, if_neg (by omega)]
      by_cases e2 : q = i + 1
      · rw [if_pos e2]; rfl
      · rw [if_neg e2]
end Heat
namespace Go.Proofs.Ytdhlikedjephmaa
open Go.RowKit Heat
theorem timL_next {n : Nat} {L p : Nat → Int} {i j : Nat} : updI (timL n L p i j) i (timT L p i j + L (i * 5 + j) * p j) = timL n L p i (j + 1) := by
  funext q
  unfold updI timL
  by_cases e : q = i
  · subst e; rw [if_pos rfl, if_neg (by omega), if_pos rfl]; rfl
  · rw [if_neg e, if_neg e, if_neg e]
set_option maxRecDepth 100000 in
set_option maxHeartbeats 8000000 in
theorem times_any (n : Nat) (L p : Nat → Int) (w : World) (hn : n ≤ 5) (hb : ∀ i, i < n → ∀ k, k < n → (L (i * 5 + k) * p k).natAbs ≤ 1000000000000) :
    Calls Try.prog 63 #[sqV n L, liV p] w fun e w' => e = .returned (liV (timL n L p n 0)) ∧ Below w.heap.size w w' := by
  have HBD := Lib.hid hb
  clear hb
  have HSQ : Hid (Sqw ((((w.alloc (Obj.cells #[.int .i64 n, .int .i64 (L 0), .int .i64 (L 1), .int .i64 (L 2), .int .i64 (L 3), .int .i64 (L 4), .int .i64 (L 5), .int .i64 (L 6), .int .i64 (L 7), .int .i64 (L 8), .int .i64 (L 9), .int .i64 (L 10), .int .i64 (L 11), .int .i64 (L 12), .int .i64 (L 13), .int .i64 (L 14), .int .i64 (L 15), .int .i64 (L 16), .int .i64 (L 17), .int .i64 (L 18), .int .i64 (L 19), .int .i64 (L 20), .int .i64 (L 21), .int .i64 (L 22), .int .i64 (L 23), .int .i64 (L 24)] 79)).alloc (Obj.cells #[.int .i64 (p 0), .int .i64 (p 1), .int .i64 (p 2), .int .i64 (p 3), .int .i64 (p 4)] 74)).alloc (Obj.cells #[.int .i64 0, .int .i64 0, .int .i64 0, .int .i64 0, .int .i64 0] 74)).alloc (Obj.cells #[.int .i64 0, .int .i64 0, .int .i64 0, .int .i64 0, .int .i64 0] 74)) w.heap.size n L) := Lib.hid (Sqw.fresh (by refine ⟨?_, ?_, ?_, ?_, ?_, ?_, ?_, ?_, ?_, ?_, ?_, ?_, ?_, ?_, ?_, ?_, ?_, ?_, ?_, ?_, ?_, ?_, ?_, ?_, ?_, ?_⟩ <;> go_cell) (by refine ⟨?_, ?_, ?_, ?_, ?_, ?_, ?_, ?_, ?_, ?_, ?_, ?_, ?_, ?_, ?_, ?_, ?_, ?_, ?_, ?_, ?_, ?_, ?_, ?_, ?_, ?_⟩ <;> go_cell))
  have HLI : Hid (Liw ((((w.alloc (Obj.cells #[.int .i64 n, .int .i64 (L 0), .int .i64 (L 1), .int .i64 (L 2), .int .i64 (L 3), .int .i64 (L 4), .int .i64 (L 5), .int .i64 (L 6), .int .i64 (L 7), .int .i64 (L 8), .int .i64 (L 9), .int .i64 (L 10), .int .i64 (L 11), .int .i64 (L 12), .int .i64 (L 13), .int .i64 (L 14), .int .i64 (L 15), .int .i64 (L 16), .int .i64 (L 17), .int .i64 (L 18), .int .i64 (L 19), .int .i64 (L 20), .int .i64 (L 21), .int .i64 (L 22), .int .i64 (L 23), .int .i64 (L 24)] 79)).alloc (Obj.cells #[.int .i64 (p 0), .int .i64 (p 1), .int .i64 (p 2), .int .i64 (p 3), .int .i64 (p 4)] 74)).alloc (Obj.cells #[.int .i64 0, .int .i64 0, .int .i64 0, .int .i64 0, .int .i64 0] 74)).alloc (Obj.cells #[.int .i64 0, .int .i64 0, .int .i64 0, .int .i64 0, .int .i64 0] 74)) (w.heap.size + 1) p) := Lib.hid (fun j hj => by rcases (show j = 0 ∨ j = 1 ∨ j = 2 ∨ j = 3 ∨ j = 4 by omega) with rfl | rfl | rfl | rfl | rfl <;> go_cell)
  have HRE : Hid (Intw ((((w.alloc (Obj.cells #[.int .i64 n, .int .i64 (L 0), .int .i64 (L 1), .int .i64 (L 2), .int .i64 (L 3), .int .i64 (L 4), .int .i64 (L 5), .int .i64 (L 6), .int .i64 (L 7), .int .i64 (L 8), .int .i64 (L 9), .int .i64 (L 10), .int .i64 (L 11), .int .i64 (L 12), .int .i64 (L 13), .int .i64 (L 14), .int .i64 (L 15), .int .i64 (L 16), .int .i64 (L 17), .int .i64 (L 18), .int .i64 (L 19), .int .i64 (L 20), .int .i64 (L 21), .int .i64 (L 22), .int .i64 (L 23), .int .i64 (L 24)] 79)).alloc (Obj.cells #[.int .i64 (p 0), .int .i64 (p 1), .int .i64 (p 2), .int .i64 (p 3), .int .i64 (p 4)] 74)).alloc (Obj.cells #[.int .i64 0, .int .i64 0, .int .i64 0, .int .i64 0, .int .i64 0] 74)).alloc (Obj.cells #[.int .i64 0, .int .i64 0, .int .i64 0, .int .i64 0, .int .i64 0] 74)) (w.heap.size + 1 + 1) 5 (fun _ => 0)) := Lib.hid (fun j hj => by rcases (show j = 0 ∨ j = 1 ∨ j = 2 ∨ j = 3 ∨ j = 4 by omega) with rfl | rfl | rfl | rfl | rfl <;> exact ⟨by go_cell, by go_cell⟩)
  have HRS : Hid (Intw ((((w.alloc (Obj.cells #[.int .i64 n, .int .i64 (L 0), .int .i64 (L 1), .int .i64 (L 2), .int .i64 (L 3), .int .i64 (L 4), .int .i64 (L 5), .int .i64 (L 6), .int .i64 (L 7), .int .i64 (L 8), .int .i64 (L 9), .int .i64 (L 10), .int .i64 (L 11), .int .i64 (L 12), .int .i64 (L 13), .int .i64 (L 14), .int .i64 (L 15), .int .i64 (L 16), .int .i64 (L 17), .int .i64 (L 18), .int .i64 (L 19), .int .i64 (L 20), .int .i64 (L 21), .int .i64 (L 22), .int .i64 (L 23), .int .i64 (L 24)] 79)).alloc (Obj.cells #[.int .i64 (p 0), .int .i64 (p 1), .int .i64 (p 2), .int .i64 (p 3), .int .i64 (p 4)] 74)).alloc (Obj.cells #[.int .i64 0, .int .i64 0, .int .i64 0, .int .i64 0, .int .i64 0] 74)).alloc (Obj.cells #[.int .i64 0, .int .i64 0, .int .i64 0, .int .i64 0, .int .i64 0] 74)) (w.heap.size + 1 + 1 + 1) 5 (fun _ => 0)) := Lib.hid (fun j hj => by rcases (show j = 0 ∨ j = 1 ∨ j = 2 ∨ j = 3 ∨ j = 4 by omega) with rfl | rfl | rfl | rfl | rfl <;> exact ⟨by go_cell, by go_cell⟩)
  have hb0 : Below w.heap.size w ((((w.alloc (Obj.cells #[.int .i64 n, .int .i64 (L 0), .int .i64 (L 1), .int .i64 (L 2), .int .i64 (L 3), .int .i64 (L 4), .int .i64 (L 5), .int .i64 (L 6), .int .i64 (L 7), .int .i64 (L 8), .int .i64 (L 9), .int .i64 (L 10), .int .i64 (L 11), .int .i64 (L 12), .int .i64 (L 13), .int .i64 (L 14), .int .i64 (L 15), .int .i64 (L 16), .int .i64 (L 17), .int .i64 (L 18), .int .i64 (L 19), .int .i64 (L 20), .int .i64 (L 21), .int .i64 (L 22), .int .i64 (L 23), .int .i64 (L 24)] 79)).alloc (Obj.cells #[.int .i64 (p 0), .int .i64 (p 1), .int .i64 (p 2), .int .i64 (p 3), .int .i64 (p 4)] 74)).alloc (Obj.cells #[.int .i64 0, .int .i64 0, .int .i64 0, .int .i64 0, .int .i64 0] 74)).alloc (Obj.cells #[.int .i64 0, .int .i64 0, .int .i64 0, .int .i64 0, .int .i64 0] 74)) := by go_grown
  have hsz : w.heap.size + 1 + 1 + 1 < ((((w.alloc (Obj.cells #[.int .i64 n, .int .i64 (L 0), .int .i64 (L 1), .int .i64 (L 2), .int .i64 (L 3), .int .i64 (L 4), .int .i64 (L 5), .int .i64 (L 6), .int .i64 (L 7), .int .i64 (L 8), .int .i64 (L 9), .int .i64 (L 10), .int .i64 (L 11), .int .i64 (L 12), .int .i64 (L 13), .int .i64 (L 14), .int .i64 (L 15), .int .i64 (L 16), .int .i64 (L 17), .int .i64 (L 18), .int .i64 (L 19), .int .i64 (L 20), .int .i64 (L 21), .int .i64 (L 22), .int .i64 (L 23), .int .i64 (L 24)] 79)).alloc (Obj.cells #[.int .i64 (p 0), .int .i64 (p 1), .int .i64 (p 2), .int .i64 (p 3), .int .i64 (p 4)] 74)).alloc (Obj.cells #[.int .i64 0, .int .i64 0, .int .i64 0, .int .i64 0, .int .i64 0] 74)).alloc (Obj.cells #[.int .i64 0, .int .i64 0, .int .i64 0, .int .i64 0, .int .i64 0] 74)).heap.size := by simp
  unfold sqV liV
  go_enter Try.func63, Try.ntmps63
  go_upto_region 2 with fail
  generalize ((((w.alloc (Obj.cells #[.int .i64 n, .int .i64 (L 0), .int .i64 (L 1), .int .i64 (L 2), .int .i64 (L 3), .int .i64 (L 4), .int .i64 (L 5), .int .i64 (L 6), .int .i64 (L 7), .int .i64 (L 8), .int .i64 (L 9), .int .i64 (L 10), .int .i64 (L 11), .int .i64 (L 12), .int .i64 (L 13), .int .i64 (L 14), .int .i64 (L 15), .int .i64 (L 16), .int .i64 (L 17), .int .i64 (L 18), .int .i64 (L 19), .int .i64 (L 20), .int .i64 (L 21), .int .i64 (L 22), .int .i64 (L 23), .int .i64 (L 24)] 79)).alloc (Obj.cells #[.int .i64 (p 0), .int .i64 (p 1), .int .i64 (p 2), .int .i64 (p 3), .int .i64 (p 4)] 74)).alloc (Obj.cells #[.int .i64 0, .int .i64 0, .int .i64 0, .int .i64 0, .int .i64 0] 74)).alloc (Obj.cells #[.int .i64 0, .int .i64 0, .int .i64 0, .int .i64 0, .int .i64 0] 74)) = W at *
  have HB0 := Lib.hid hb0
  have hc0 := HSQ.out.1
  clear hb0
  go_wp2_with fail
  go_loopw [10] (fun iv wr => ∃ (z : Int) (i : Nat), iv = .int .i64 z ∧ z = i ∧ i ≤ n ∧ Hid (Sqw wr w.heap.size n L) ∧ Hid (Liw wr (w.heap.size + 1) p) ∧ Hid (Intw wr (w.heap.size + 1 + 1) 5 (fun _ => 0)) ∧ Hid (Intw wr (w.heap.size + 1 + 1 + 1) 5 (timL n L p i 0)) ∧ Hid (Below w.heap.size w wr) ∧ w.heap.size + 1 + 1 + 1 < wr.heap.size) (fun iv _ => n - (intOf iv).toNat)
  case atStart => exact ⟨0, 0, rfl, by omega, by omega, HSQ, HLI, HRE, Lib.hid (HRS.out.congr fun q _ => by
    unfold timL
    rw [if_neg (by omega)]
    by_cases e : q = 0
    · rw [if_pos e]; rfl
    · rw [if_neg e]), HB0, hsz⟩
  case round =>
    obtain ⟨z, i, rfl, hz, hi, HS, HL, HR, HT, HB, hsw⟩ := hrel
    by_cases hlt : i < n
    · have hlt' : z < (n : Int) := by omega
      subst hz
      have i0 : (0 : Int) ≤ (i : Int) := by omega
      have i5 : (i : Int) < 5 := by omega
      have wz : wrap64 ((i : Int) + 1) = (i : Int) + 1 := by simp only [wrap64]; omega
      have hc1 := HS.out.1
      clear HSQ HLI HRE HRS HB0 hsz hc0
      go_wp2_with fail
      clear hc1
      go_loopw [15] (fun jv wr => ∃ (y : Int) (j : Nat), jv = .int .i64 y ∧ y = j ∧ j ≤ n ∧ Hid (Sqw wr w.heap.size n L) ∧ Hid (Liw wr (w.heap.size + 1) p) ∧ Hid (Intw wr (w.heap.size + 1 + 1) 5 (fun _ => 0)) ∧ Hid (Intw wr (w.heap.size + 1 + 1 + 1) 5 (timL n L p i j)) ∧ Hid (Below w.heap.size w wr) ∧ w.heap.size + 1 + 1 + 1 < wr.heap.size) (fun jv _ => n - (intOf jv).toNat)
      case atStart => exact ⟨0, 0, rfl, by omega, by omega, HS, HL, HR, HT, HB, hsw⟩
      case round =>
        obtain ⟨y, j, rfl, hy, hj, HS2, HL2, HR2, HT2, HB2, hsw2⟩ := hrel
        by_cases hjt : j < n
        · have hjt' : y < (n : Int) := by omega
          subst hy
          have j0 : (0 : Int) ≤ (j : Int) := by omega
          have j5 : (j : Int) < 5 := by omega
          obtain ⟨t0, _⟩ := HS2.out.2.2 (i * 5 + j) (by omega)
          have t1 := HL2.out j (by omega)
          obtain ⟨m0, m1⟩ := HT2.out i (by omega)
          have hti : timL n L p i j i = timT L p i j := by unfold timL; rw [if_neg (by omega), if_pos rfl]
          rw [← Nat.add_assoc] at t0
          rw [hti] at m0
          have hb1 := HBD.out i hlt j hjt
          have hb2 := timT_bd (p := p) (HBD.out i hlt) j hj
          have HTN := HT2.out.store (j := i) (by omega) (timT L p i j + L (i * 5 + j) * p j)
          rw [timL_next] at HTN
          obtain ⟨a, ha⟩ : ∃ a, L (i * 5 + j) = a := ⟨_, rfl⟩
          obtain ⟨b, hb⟩ : ∃ b, p j = b := ⟨_, rfl⟩
          obtain ⟨t, ht⟩ : ∃ t, timT L p i j = t := ⟨_, rfl⟩
          obtain ⟨ab, hab⟩ : ∃ ab, a * b = ab := ⟨_, rfl⟩
          rw [ha] at t0
          rw [hb] at t1
          rw [ht] at m0 hb2
          rw [ha, hb, hab] at hb1
          rw [ha, hb, ht, hab] at HTN
          have v1 : wrap64 (a * b) = ab := by rw [hab]; clear wz; simp only [wrap64]; omega
          have v2 : wrap64 (t + ab) = t + ab := by clear wz v1; simp only [wrap64]; omega
          have HSN := HS2.out.other (m := w.heap.size + 1 + 1 + 1) (o := i) (v := .int .i64 (t + ab)) (by omega)
          have HLN : Liw (wr.setCell ⟨w.heap.size + 1 + 1 + 1, i, none⟩ (.int .i64 (t + ab))) (w.heap.size + 1) p := fun q hq => by have := HL2.out q hq; have hne : ¬ w.heap.size + 1 + 1 + 1 = w.heap.size + 1 := (by omega); go_cell
          have HRN := HR2.out.other (m := w.heap.size + 1 + 1 + 1) (k := i) (v := .int .i64 (t + ab)) (by omega)
          have HBN := HB2.out.setCell (p := ⟨w.heap.size + 1 + 1 + 1, i, none⟩) (by simp only; omega) (.int .i64 (t + ab))
          have nb1 : w.heap.size < wr.heap.size := by omega
          have nb2 : w.heap.size + 1 < wr.heap.size := by omega
          clear HS HL HR HT HB hsw HS2 HL2 HR2 HT2 HB2 ha hb ht hab hb1 hb2 hti
          go_upto_region 8 with fail
          go_region
          have HSd : Hid (Sqw ((wr.setCell ⟨w.heap.size + 1 + 1 + 1, i, none⟩ (.int .i64 (t + ab))).drew) w.heap.size n L) := Lib.hid HSN
          have HLd : Hid (Liw ((wr.setCell ⟨w.heap.size + 1 + 1 + 1, i, none⟩ (.int .i64 (t + ab))).drew) (w.heap.size + 1) p) := Lib.hid HLN
          have HRd : Hid (Intw ((wr.setCell ⟨w.heap.size + 1 + 1 + 1, i, none⟩ (.int .i64 (t + ab))).drew) (w.heap.size + 1 + 1) 5 (fun _ => 0)) := Lib.hid HRN
          have HTd : Hid (Intw ((wr.setCell ⟨w.heap.size + 1 + 1 + 1, i, none⟩ (.int .i64 (t + ab))).drew) (w.heap.size + 1 + 1 + 1) 5 (timL n L p i (j + 1))) := Lib.hid HTN
          have HBd : Hid (Below w.heap.size w ((wr.setCell ⟨w.heap.size + 1 + 1 + 1, i, none⟩ (.int .i64 (t + ab))).drew)) := Lib.hid HBN.drew
          have hsd : w.heap.size + 1 + 1 + 1 < ((wr.setCell ⟨w.heap.size + 1 + 1 + 1, i, none⟩ (.int .i64 (t + ab))).drew).heap.size := World.block_lt_of_cell? _ _ (HTd.out 0 (by omega)).1
          clear HSN HLN HRN HTN HBN t0 t1 m0 m1 v1 v2 nb1 nb2 hsw2
          generalize (wr.setCell ⟨w.heap.size + 1 + 1 + 1, i, none⟩ (.int .i64 (t + ab))).drew = wv at *
          have wy : wrap64 ((j : Int) + 1) = (j : Int) + 1 := by clear wz; simp only [wrap64]; omega
          go_wp2_with fail
          go_roundw
          case rel => exact ⟨(j : Int) + 1, j + 1, by first | rfl | rw [wy], by omega, by omega, HSd, HLd, HRd, HTd, HBd, hsd⟩
          case measure => first | (simp [intOf]; done) | (simp [intOf]; omega)
        · obtain rfl : j = n := by omega
          subst hy
          clear HS HL HR HT HB hsw
          go_wp2_with fail
          go_roundw
          case rel => exact ⟨(i : Int) + 1, i + 1, by first | rfl | rw [wz], by omega, by omega, HS2, HL2, HR2, by rw [← timL_row]; exact HT2, HB2, hsw2⟩
          case measure => first | (simp [intOf]; done) | (simp [intOf]; omega)
    · obtain rfl : i = n := by omega
      subst hz
      obtain ⟨⟨q0, _⟩, ⟨q1, _⟩, ⟨q2, _⟩, ⟨q3, _⟩, ⟨q4, _⟩⟩ : _ ∧ _ ∧ _ ∧ _ ∧ _ := ⟨HT.out 0 (by omega), HT.out 1 (by omega), HT.out 2 (by omega), HT.out 3 (by omega), HT.out 4 (by omega)⟩
      obtain ⟨⟨p0, r0⟩, ⟨p1, r1⟩, ⟨p2, r2⟩, ⟨p3, r3⟩, ⟨p4, r4⟩⟩ : _ ∧ _ ∧ _ ∧ _ ∧ _ := ⟨HR.out 0 (by omega), HR.out 1 (by omega), HR.out 2 (by omega), HR.out 3 (by omega), HR.out 4 (by omega)⟩
      have hbl := HB.out
      have nb2 : w.heap.size + 1 + 1 < wr.heap.size := by omega
      clear HSQ HLI HRE HRS HB0 hsz hc0 HS HL HR HT HB
      go_wp2_with fail
      refine bodyPost_ret (v := liV (timL i L p i 0)) (by unfold liV; simp [results, Try.results63, go_sem, *]) rfl ⟨rfl, by go_grown⟩
end Go.Proofs.Ytdhlikedjephmaa
