import Derived.Test.YtjodjfllgofkaaaNw
namespace Go.Proofs.Ytjodjfllgofkaaa
open Go.RowKit Amp
attribute [local go_sem] ix0 ix1 ix2 ix3 jx0 jx1 jx2 jx3
attribute [local go_sem high] run_eqNum run_neNum
set_option maxRecDepth 100000 in
set_option maxHeartbeats 4000000 in
theorem filledW_identity (n : Nat) (h1 : 0 < n) (hn : n ≤ 6) (b : Value) (z : Nat → Nat → Nm) (w : World)
    (H : ∀ (i j : Nat) (w1 : World), i < n → j < n → Below w.heap.size w w1 → Calls Try.prog 91 #[b, .int .i64 i, .int .i64 j] w1 fun e w' => e = Ret5 (z i j, 0) ∧ Below w1.heap.size w1 w') :
    Calls Try.prog 90 #[.int .i64 n, .func (Fn.func 91) #[b] #[]] w
      fun e w' => MatW w.heap.size w' e n (fun k => z (k / n) (k % n)) ∧ Below w.heap.size w w' := by
  have HH := Lib.hid H
  clear H
  obtain ⟨FF, hFF⟩ : ∃ FF, Hid (FF = fun k => z (k / n) (k % n)) := ⟨_, rfl⟩
  obtain ⟨i0, hi, hz0, hz1, hz2⟩ := info_parts infoNum
  have HI := Lib.hid (And.intro hi (And.intro hz0 (And.intro hz1 hz2)))
  clear hi hz0 hz1 hz2
  have hn' : (n : Int) ≤ 6 := by omega
  go_enter Try.func90, Try.ntmps90
  go_wp2_with fail
  go_loopw [6, 7, 8, 9, 10, 12, 16] (fun lv _ _ _ _ iv _ wr => ∃ (i : Nat), iv = .int .i64 i ∧ i ≤ n ∧ wr.ownsRow (w.heap.size + 1) 63 5 lv (i * n) (rowsOf FF (i * n)) ∧ Below (w.heap.size + 1) (w.alloc (.cells #[.int .i64 0, .slice none 0 0] 26)) wr) (fun _ _ _ _ _ iv _ _ => n - (intOf iv).toNat)
  case atStart => exact ⟨0, rfl, by omega, by rw [Nat.zero_mul]; exact World.ownsRow_nil _ _ _ _, Below.refl _ _⟩
  case round =>
    obtain ⟨i, rfl, hi, hown, hbel⟩ := hrel
    have hsz := hbel.size
    have hz0 : w.heap.size < wr.heap.size := by simp at hsz; omega
    by_cases hlt : i < n
    · have hlt' : (i : Int) < (n : Int) := by omega
      have HOW := Lib.hid hown
      clear hown
      obtain ⟨wo, rfl⟩ : ∃ wo : World, wo = wr := ⟨_, rfl⟩
      go_wp2_with fail
      go_loopw [6, 8, 9, 10, 16] (fun lv _ _ _ jv wr => ∃ (j : Nat), jv = .int .i64 j ∧ j ≤ n ∧ wr.ownsRow (w.heap.size + 1) 63 5 lv (i * n + j) (rowsOf FF (i * n + j)) ∧ Below (w.heap.size + 1) (w.alloc (.cells #[.int .i64 0, .slice none 0 0] 26)) wr ∧ w.heap.size < wr.heap.size) (fun _ _ _ _ jv _ => n - (intOf jv).toNat)
      case atStart => exact ⟨0, rfl, by omega, HOW.out, hbel, hz0⟩
      case round =>
        obtain ⟨j, rfl, hj, hown, hbel1, hz1⟩ := hrel
        by_cases hjt : j < n
        · have hjt' : (j : Int) < (n : Int) := by omega
          have hsm : i * n + j < 36 := by
            have h1 : i * n ≤ 5 * n := Nat.mul_le_mul_right n (by omega)
            omega
          have hff : FF (i * n + j) = z i j := by
            rw [hFF.out]
            show z ((i * n + j) / n) ((i * n + j) % n) = z i j
            rw [Nat.mul_comm i n, Nat.mul_add_div (by omega), Nat.div_eq_of_lt hjt, Nat.add_zero, Nat.mul_add_mod, Nat.mod_eq_of_lt hjt]
          obtain ⟨x0, x1, x2, x3, x4, xe, HM⟩ := res5 (z i j, 0)
          have HZ : Hid (z i j = ⟨⟨x0, x1, x2, x3⟩, x4⟩) := Lib.hid (congrArg Prod.fst HM.out)
          have HFF := Lib.hid hff
          have HSM := Lib.hid hsm
          have HOW1 := Lib.hid hown
          have HB1 := Lib.hid hbel1
          have HH1 := Lib.hid (HH.out i j wr hlt hjt (below_base HB1.out ((Below.refl _ _).alloc (Nat.le_refl _) _)))
          clear hown hbel1 hff hsm HM
          go_wp2_with fail
          refine HH1.out.mono ?_
          rintro e w1 ⟨rfl, hb⟩
          rw [HZ.out]
          unfold Ret5
          (try simp only)
          have HB2 := Lib.hid hb
          have hz2 : w.heap.size < w1.heap.size := by have := hb.size; omega
          clear hb
          go_wp2_with (at_builtin; refine wpList_append_own _ rfl (.tmp 30) (.tmp 32) 23 rfl (w.heap.size + 1) 63 i0 _ 5 40 Try.underlying23 HI.out.1 HI.out.2.1 HI.out.2.2.1 HI.out.2.2.2 rfl (by decide) _ (i * n + j) (rowsOf FF (i * n + j)) rfl (((own_below HOW1.out HB2.out).alloc _).alloc _) ⟨w1.heap.size + 1, 0, none⟩ 1 1 (cellsOf ⟨⟨x0, x1, x2, x3⟩, x4⟩) rfl rfl ?c1 ?c2 ?c3 ?c4 ?c5 ?_)
          case c1 =>
            intro t u hu
            rw [add0]
            have ht : t < 5 := (List.getElem?_eq_some_iff.1 hu).1
            rcases (show t = 0 ∨ t = 1 ∨ t = 2 ∨ t = 3 ∨ t = 4 by omega) with rfl | rfl | rfl | rfl | rfl <;> (simp only [cellsOf, List.getElem?_cons_zero, List.getElem?_cons_succ, Option.some.injEq] at hu; subst hu; go_cell)
          case c2 => exact cellsOf_one _
          case c3 => have := HSM.out; unfold maxLen; omega
          case c4 => have := HSM.out; omega
          case c5 => simp; omega
          intro v' w3 hown' hgrow _
          have hrow : rowsOf FF (i * n + j) ++ cellsOf ⟨⟨x0, x1, x2, x3⟩, x4⟩ = rowsOf FF (i * n + (j + 1)) := by
            rw [← Nat.add_assoc, rowsOf, HFF.out, HZ.out]
          rw [hrow, Nat.add_assoc] at hown'
          have hlt2 := HOW1.out.lt
          have HB3 : Below (w.heap.size + 1) (w.alloc (.cells #[.int .i64 0, .slice none 0 0] 26)) w3 := by
            have h2 : Below (w.heap.size + 1) wr w1 := HB2.out.mono (by omega)
            refine Below.grown (((HB1.out.trans h2).alloc (by first | omega | (simp; omega)) _).alloc (by first | omega | (simp; omega)) _) hgrow (by first | omega | (simp; omega)) (fun k hk => (hlt2 k hk).1)
          have hz3 : w.heap.size < w3.heap.size := by have := HB3.size; simp at this; omega
          have HO3 := Lib.hid hown'
          have HB4 := Lib.hid HB3
          clear hown' hgrow HB3 hrow hlt2
          go_wp2_with fail
          go_roundw
          case rel => exact ⟨j + 1, by go_num, by omega, HO3.out, HB4.out, hz3⟩
          case measure => simp [intOf]; omega
        · obtain rfl : j = n := by omega
          have HOW1 := Lib.hid hown
          have HB1 := Lib.hid hbel1
          clear hown hbel1
          go_wp2_with fail
          go_roundw
          case rel => exact ⟨i + 1, by go_num, by omega, by rw [Nat.succ_mul]; exact HOW1.out, HB1.out⟩
          case measure => simp [intOf]; omega
    · obtain rfl : i = n := by omega
      obtain ⟨g, cap, rfl, hgB, hgc, hgm⟩ := own_form hown (Nat.mul_pos h1 h1)
      have HG := Lib.hid (And.intro hgB (And.intro hgc hgm))
      clear hgB hgc hgm
      have HOW := Lib.hid hown
      have e0 := hbel.cell (p := ⟨w.heap.size, 0, none⟩) (by simp)
      have e1 := hbel.cell (p := ⟨w.heap.size, 1, none⟩) (by simp)
      have g0 := hbel.frozen (p := ⟨w.heap.size, 0, none⟩) (by simp)
      have g1 := hbel.frozen (p := ⟨w.heap.size, 1, none⟩) (by simp)
      have c0 : wr.cell? ⟨w.heap.size, 0, none⟩ = some (.int .i64 0) := e0.trans (by go_cell)
      have c1 : wr.cell? ⟨w.heap.size, 1, none⟩ = some (.slice none 0 0) := e1.trans (by go_cell)
      have f0 : wr.frozen? ⟨w.heap.size, 0, none⟩ = false := g0.trans (by go_cell)
      have f1 : wr.frozen? ⟨w.heap.size, 1, none⟩ = false := g1.trans (by go_cell)
      have HB := Lib.hid (below_base hbel ((Below.refl _ _).alloc (Nat.le_refl _) _))
      clear hown hbel e0 e1 g0 g1
      go_wp2_with fail
      refine bodyPost_ret (v := .tuple #[.agg #[.int .i64 i, .slice (some ⟨g, 0, none⟩) (i * i) cap], .int .i64 0]) (by simp [results, Try.results90, go_sem, *]) rfl ⟨⟨g, cap, rfl, ?_, by have := HG.out.1; omega, HG.out.2.1, HG.out.2.2⟩, ?_⟩
      · refine Numw.of_own (ownsRow_setCell_below (ownsRow_setCell_below HOW.out (a := ⟨w.heap.size, 0, none⟩) (by simp) (.int .i64 i)) (a := ⟨w.heap.size, 1, none⟩) (by simp) (.slice (some ⟨g, 0, none⟩) (i * i) cap)) (fun k hk t ht => ?_)
        rw [rowsOf_get FF hk ht, hFF.out]
      · exact (HB.out.setCell (by simp) _).setCell (by simp) _

set_option maxRecDepth 100000 in
set_option maxHeartbeats 4000000 in
theorem filledW_product (n : Nat) (h1 : 0 < n) (hn : n ≤ 6) (b : Value) (z : Nat → Nat → Nm × Int) (w : World)
    (H : ∀ (i j : Nat) (w1 : World), i < n → j < n → Below w.heap.size w w1 → Calls Try.prog 109 #[b, .int .i64 i, .int .i64 j] w1 fun e w' => e = Ret5 (z i j) ∧ Below w1.heap.size w1 w') :
    Calls Try.prog 90 #[.int .i64 n, .func (Fn.func 109) #[b] #[]] w
      fun e w' => MatWOr w.heap.size w' e n (fun k => (z (k / n) (k % n)).1) (fstE (fun k => (z (k / n) (k % n)).2) (n * n)) ∧ Below w.heap.size w w' := by
  have HH := Lib.hid H
  clear H
  obtain ⟨FF, hFF⟩ : ∃ FF, Hid (FF = fun k => (z (k / n) (k % n)).1) := ⟨_, rfl⟩
  obtain ⟨EE, hEE⟩ : ∃ EE, Hid (EE = fun k => (z (k / n) (k % n)).2) := ⟨_, rfl⟩
  obtain ⟨i0, hi, hz0, hz1, hz2⟩ := info_parts infoNum
  have HI := Lib.hid (And.intro hi (And.intro hz0 (And.intro hz1 hz2)))
  clear hi hz0 hz1 hz2
  have hn' : (n : Int) ≤ 6 := by omega
  go_enter Try.func90, Try.ntmps90
  go_wp2_with fail
  go_loopw [6, 7, 8, 9, 10, 12, 16] (fun lv _ _ _ _ iv _ wr => ∃ (i : Nat), iv = .int .i64 i ∧ i ≤ n ∧ wr.ownsRow (w.heap.size + 1) 63 5 lv (i * n) (rowsOf FF (i * n)) ∧ Hid (fstE EE (i * n) = 0) ∧ Below (w.heap.size + 1) (w.alloc (.cells #[.int .i64 0, .slice none 0 0] 26)) wr) (fun _ _ _ _ _ iv _ _ => n - (intOf iv).toNat)
  case atStart => exact ⟨0, rfl, by omega, by rw [Nat.zero_mul]; exact World.ownsRow_nil _ _ _ _, Lib.hid (by rw [Nat.zero_mul]; rfl), Below.refl _ _⟩
  case round =>
    obtain ⟨i, rfl, hi, hown, hE0, hbel⟩ := hrel
    have hsz := hbel.size
    have hz0 : w.heap.size < wr.heap.size := by simp at hsz; omega
    by_cases hlt : i < n
    · have hlt' : (i : Int) < (n : Int) := by omega
      have HOW := Lib.hid hown
      clear hown
      obtain ⟨wo, rfl⟩ : ∃ wo : World, wo = wr := ⟨_, rfl⟩
      go_wp2_with fail
      go_loopw [6, 8, 9, 10, 16] (fun lv _ _ _ jv wr => ∃ (j : Nat), jv = .int .i64 j ∧ j ≤ n ∧ wr.ownsRow (w.heap.size + 1) 63 5 lv (i * n + j) (rowsOf FF (i * n + j)) ∧ Hid (fstE EE (i * n + j) = 0) ∧ Below (w.heap.size + 1) (w.alloc (.cells #[.int .i64 0, .slice none 0 0] 26)) wr ∧ w.heap.size < wr.heap.size) (fun _ _ _ _ jv _ => n - (intOf jv).toNat)
      case atStart => exact ⟨0, rfl, by omega, HOW.out, hE0, hbel, hz0⟩
      case round =>
        obtain ⟨j, rfl, hj, hown, hE1, hbel1, hz1⟩ := hrel
        by_cases hjt : j < n
        · have hjt' : (j : Int) < (n : Int) := by omega
          have hsm : i * n + j < 36 := by
            have h1 : i * n ≤ 5 * n := Nat.mul_le_mul_right n (by omega)
            omega
          have hdm : (i * n + j) / n = i ∧ (i * n + j) % n = j := by
            rw [Nat.mul_comm i n, Nat.mul_add_div (by omega), Nat.div_eq_of_lt hjt, Nat.add_zero, Nat.mul_add_mod, Nat.mod_eq_of_lt hjt]
            exact ⟨rfl, rfl⟩
          have hff : FF (i * n + j) = (z i j).1 := by
            rw [hFF.out]
            show (z ((i * n + j) / n) ((i * n + j) % n)).1 = (z i j).1
            rw [hdm.1, hdm.2]
          have hee : EE (i * n + j) = (z i j).2 := by
            rw [hEE.out]
            show (z ((i * n + j) / n) ((i * n + j) % n)).2 = (z i j).2
            rw [hdm.1, hdm.2]
          have hlast : i * n + j + 1 ≤ n * n := by
            have h1 : (i + 1) * n ≤ n * n := Nat.mul_le_mul_right n (by omega)
            rw [Nat.succ_mul] at h1
            omega
          obtain ⟨x0, x1, x2, x3, x4, xe, HM⟩ := res5 (z i j)
          have HST : Hid (fstE EE (i * n + j + 1) = xe) := Lib.hid (by rw [fstE_step hE1.out, hee, HM.out])
          have HLA := Lib.hid hlast
          have HZ1 : Hid ((z i j).1 = ⟨⟨x0, x1, x2, x3⟩, x4⟩) := Lib.hid (congrArg Prod.fst HM.out)
          have HFF := Lib.hid hff
          have HSM := Lib.hid hsm
          have HOW1 := Lib.hid hown
          have HB1 := Lib.hid hbel1
          have HH1 := Lib.hid (HH.out i j wr hlt hjt (below_base HB1.out ((Below.refl _ _).alloc (Nat.le_refl _) _)))
          have m0 : wr.cell? ⟨w.heap.size, 0, none⟩ = some (.int .i64 0) := (HB1.out.cell (p := ⟨w.heap.size, 0, none⟩) (by simp)).trans (by go_cell)
          have m1 : wr.cell? ⟨w.heap.size, 1, none⟩ = some (.slice none 0 0) := (HB1.out.cell (p := ⟨w.heap.size, 1, none⟩) (by simp)).trans (by go_cell)
          have m2 : wr.frozen? ⟨w.heap.size, 0, none⟩ = false := (HB1.out.frozen (p := ⟨w.heap.size, 0, none⟩) (by simp)).trans (by go_cell)
          have m3 : wr.frozen? ⟨w.heap.size, 1, none⟩ = false := (HB1.out.frozen (p := ⟨w.heap.size, 1, none⟩) (by simp)).trans (by go_cell)
          have HMM := Lib.hid (And.intro m0 (And.intro m1 (And.intro m2 m3)))
          clear m0 m1 m2 m3 hown hbel1 hff hee hsm hdm hlast
          go_wp2_with fail
          refine HH1.out.mono ?_
          rintro e w1 ⟨rfl, hb⟩
          rw [HM.out]
          unfold Ret5
          (try simp only)
          have HB2 := Lib.hid hb
          have hz2 : w.heap.size < w1.heap.size := by have := hb.size; omega
          clear hb
          by_cases hxe : ¬ xe = 0
          · have hb0 : (xe == 0) = false := beq_eq_false_iff_ne.2 hxe
            have hb1 : (xe != 0) = true := bne_iff_ne.2 hxe
            have c0 : w1.cell? ⟨w.heap.size, 0, none⟩ = some (.int .i64 0) := (HB2.out.cell (p := ⟨w.heap.size, 0, none⟩) hz1).trans HMM.out.1
            have c1 : w1.cell? ⟨w.heap.size, 1, none⟩ = some (.slice none 0 0) := (HB2.out.cell (p := ⟨w.heap.size, 1, none⟩) hz1).trans HMM.out.2.1
            have f0 : w1.frozen? ⟨w.heap.size, 0, none⟩ = false := (HB2.out.frozen (p := ⟨w.heap.size, 0, none⟩) hz1).trans HMM.out.2.2.1
            have f1 : w1.frozen? ⟨w.heap.size, 1, none⟩ = false := (HB2.out.frozen (p := ⟨w.heap.size, 1, none⟩) hz1).trans HMM.out.2.2.2
            have D1 : Below w.heap.size w w1 := (below_base HB1.out ((Below.refl _ _).alloc (Nat.le_refl _) _)).trans (HB2.out.mono (by omega))
            have HX := Lib.hid hxe
            clear hxe
            go_wp2_with fail
            refine bodyPost_ret (v := .tuple #[.agg #[.int .i64 0, .slice none 0 0], .int .i64 xe]) (by simp [results, Try.results90, go_sem, *]) rfl ⟨?_, by go_grown⟩
            have hfin : fstE (fun k => (z (k / n) (k % n)).2) (n * n) = xe := by
              have h1 := fstE_stay (g := EE) (by rw [HST.out]; exact HX.out) HLA.out
              rw [HST.out, hEE.out] at h1
              exact h1
            rw [hfin]
            exact .inr ⟨HX.out, rfl⟩
          obtain rfl : xe = 0 := Decidable.not_not.1 hxe
          clear hxe
          go_wp2_with (at_builtin; refine wpList_append_own _ rfl (.tmp 30) (.tmp 32) 23 rfl (w.heap.size + 1) 63 i0 _ 5 40 Try.underlying23 HI.out.1 HI.out.2.1 HI.out.2.2.1 HI.out.2.2.2 rfl (by decide) _ (i * n + j) (rowsOf FF (i * n + j)) rfl (((own_below HOW1.out HB2.out).alloc _).alloc _) ⟨w1.heap.size + 1, 0, none⟩ 1 1 (cellsOf ⟨⟨x0, x1, x2, x3⟩, x4⟩) rfl rfl ?c1 ?c2 ?c3 ?c4 ?c5 ?_)
          case c1 =>
            intro t u hu
            rw [add0]
            have ht : t < 5 := (List.getElem?_eq_some_iff.1 hu).1
            rcases (show t = 0 ∨ t = 1 ∨ t = 2 ∨ t = 3 ∨ t = 4 by omega) with rfl | rfl | rfl | rfl | rfl <;> (simp only [cellsOf, List.getElem?_cons_zero, List.getElem?_cons_succ, Option.some.injEq] at hu; subst hu; go_cell)
          case c2 => exact cellsOf_one _
          case c3 => have := HSM.out; unfold maxLen; omega
          case c4 => have := HSM.out; omega
          case c5 => simp; omega
          intro v' w3 hown' hgrow _
          have hrow : rowsOf FF (i * n + j) ++ cellsOf ⟨⟨x0, x1, x2, x3⟩, x4⟩ = rowsOf FF (i * n + (j + 1)) := by
            rw [← Nat.add_assoc, rowsOf, HFF.out, HZ1.out]
          rw [hrow, Nat.add_assoc] at hown'
          have hlt2 := HOW1.out.lt
          have HB3 : Below (w.heap.size + 1) (w.alloc (.cells #[.int .i64 0, .slice none 0 0] 26)) w3 := by
            have h2 : Below (w.heap.size + 1) wr w1 := HB2.out.mono (by omega)
            refine Below.grown (((HB1.out.trans h2).alloc (by first | omega | (simp; omega)) _).alloc (by first | omega | (simp; omega)) _) hgrow (by first | omega | (simp; omega)) (fun k hk => (hlt2 k hk).1)
          have hz3 : w.heap.size < w3.heap.size := by have := HB3.size; simp at this; omega
          have HO3 := Lib.hid hown'
          have HB4 := Lib.hid HB3
          clear hown' hgrow HB3 hrow hlt2
          go_wp2_with fail
          go_roundw
          case rel => exact ⟨j + 1, by go_num, by omega, HO3.out, HST, HB4.out, hz3⟩
          case measure => simp [intOf]; omega
        · obtain rfl : j = n := by omega
          have HOW1 := Lib.hid hown
          have HB1 := Lib.hid hbel1
          clear hown hbel1
          go_wp2_with fail
          go_roundw
          case rel => exact ⟨i + 1, by go_num, by omega, by rw [Nat.succ_mul]; exact HOW1.out, by rw [Nat.succ_mul]; exact hE1, HB1.out⟩
          case measure => simp [intOf]; omega
    · obtain rfl : i = n := by omega
      obtain ⟨g, cap, rfl, hgB, hgc, hgm⟩ := own_form hown (Nat.mul_pos h1 h1)
      have HG := Lib.hid (And.intro hgB (And.intro hgc hgm))
      clear hgB hgc hgm
      have HOW := Lib.hid hown
      have e0 := hbel.cell (p := ⟨w.heap.size, 0, none⟩) (by simp)
      have e1 := hbel.cell (p := ⟨w.heap.size, 1, none⟩) (by simp)
      have g0 := hbel.frozen (p := ⟨w.heap.size, 0, none⟩) (by simp)
      have g1 := hbel.frozen (p := ⟨w.heap.size, 1, none⟩) (by simp)
      have c0 : wr.cell? ⟨w.heap.size, 0, none⟩ = some (.int .i64 0) := e0.trans (by go_cell)
      have c1 : wr.cell? ⟨w.heap.size, 1, none⟩ = some (.slice none 0 0) := e1.trans (by go_cell)
      have f0 : wr.frozen? ⟨w.heap.size, 0, none⟩ = false := g0.trans (by go_cell)
      have f1 : wr.frozen? ⟨w.heap.size, 1, none⟩ = false := g1.trans (by go_cell)
      have HB := Lib.hid (below_base hbel ((Below.refl _ _).alloc (Nat.le_refl _) _))
      clear hown hbel e0 e1 g0 g1
      go_wp2_with fail
      have hfin : fstE (fun k => (z (k / i) (k % i)).2) (i * i) = 0 := by
        have h1 := hE0.out
        rw [hEE.out] at h1
        exact h1
      refine bodyPost_ret (v := .tuple #[.agg #[.int .i64 i, .slice (some ⟨g, 0, none⟩) (i * i) cap], .int .i64 0]) (by simp [results, Try.results90, go_sem, *]) rfl ⟨.inl ⟨hfin, ⟨g, cap, rfl, ?_, by have := HG.out.1; omega, HG.out.2.1, HG.out.2.2⟩⟩, ?_⟩
      · refine Numw.of_own (ownsRow_setCell_below (ownsRow_setCell_below HOW.out (a := ⟨w.heap.size, 0, none⟩) (by simp) (.int .i64 i)) (a := ⟨w.heap.size, 1, none⟩) (by simp) (.slice (some ⟨g, 0, none⟩) (i * i) cap)) (fun k hk t ht => ?_)
        rw [rowsOf_get FF hk ht, hFF.out]
      · exact (HB.out.setCell (by simp) _).setCell (by simp) _
end Go.Proofs.Ytjodjfllgofkaaa
