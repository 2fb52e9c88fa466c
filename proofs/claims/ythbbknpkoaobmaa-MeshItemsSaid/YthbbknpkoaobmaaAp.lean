import Derived.Test.YthbbknpkoaobmaaPdm
namespace Go.Proofs.Ythbbknpkoaobmaa
open Go.RowKit Amp
attribute [local go_sem] ix0 ix1 ix2 ix3 jx0 jx1 jx2 jx3
attribute [local go_sem high] run_eqNum run_neNum

def vecS (n : Nat) (f : Nat → Nm) : Bool := decide (1 ≤ n ∧ n ≤ 6) && okTo f n
set_option maxHeartbeats 1000000 in
theorem validVector_any (ao : Option Addr) (n cap : Nat) (f : Nat → Nm) (w : World) (hn : n ≤ 9223372036854775807) (hc : Nums w ao n f) :
    Calls Try.prog 74 #[.slice ao n cap] w fun e w' => e = .returned (.bool (vecS n f)) ∧ Below w.heap.size w w' := by
  have HC := Lib.hid hc
  clear hc
  by_cases h1 : 1 ≤ n
  · by_cases h6 : n ≤ 6
    · have HE : Hid (vecS n f = okTo f n) := Lib.hid (by unfold vecS; rw [decide_eq_true ⟨h1, h6⟩]; rfl)
      have h1' : 0 < (n : Int) := by omega
      have h6' : (n : Int) ≤ 6 := by omega
      go_enter Try.func74, Try.ntmps74
      go_wp2_with fail
      refine (validNumbers_any ao n cap f _ hn HC.out).mono ?_
      rintro e w1 ⟨rfl, hb⟩
      go_wp2_with fail
      go_returns
      exact ⟨by rw [HE.out]; rfl, hb⟩
    · have HE : Hid (vecS n f = false) := Lib.hid (by unfold vecS; rw [decide_eq_false (by omega)]; rfl)
      have h1' : 0 < (n : Int) := by omega
      have h6' : ¬ (n : Int) ≤ 6 := by omega
      go_enter Try.func74, Try.ntmps74
      go_wp2_with fail
      go_returns
      exact ⟨by rw [HE.out]; rfl, Below.refl _ _⟩
  · have HE : Hid (vecS n f = false) := Lib.hid (by unfold vecS; rw [decide_eq_false (by omega)]; rfl)
    have h1' : ¬ 0 < (n : Int) := by omega
    go_enter Try.func74, Try.ntmps74
    go_wp2_with fail
    go_returns
    exact ⟨by rw [HE.out]; rfl, Below.refl _ _⟩
/-- The rows of a matrix times a vector. -/
def appF (n : Nat) (x y : Nat → Nm) (i : Nat) : Nm := (dotS (fun t => x (i * n + t)) y n).1
def appE (n : Nat) (x y : Nat → Nm) (i : Nat) : Int := (dotS (fun t => x (i * n + t)) y n).2
/-- A vector, or the error and none. -/
def VecOr (w : World) (e : Ending) (n : Nat) (F : Nat → Nm) (er : Int) : Prop :=
  (er = 0 ∧ ∃ ao cap, e = .returned (.tuple #[.slice ao n cap, .int .i64 0]) ∧ Nums w ao n F) ∨ (er ≠ 0 ∧ e = .returned (.tuple #[.slice none 0 0, .int .i64 er]))

set_option maxRecDepth 100000 in
set_option maxHeartbeats 4000000 in
theorem apply_yes (n g cap dap : Nat) (bo : Option Addr) (x y : Nat → Nm) (w : World) (h1 : 0 < n) (hn : n ≤ 6) (hcap : n * n ≤ cap) (hcm : cap ≤ 9223372036854775807) (hx : Numw w g (n * n) x) (hy : Nums w bo n y) (hv : Hid (mvS n (n * n) x = true)) (hu : Hid (vecS n y = true)) :
    Calls Try.prog 45 #[.agg #[.int .i64 n, .slice (some ⟨g, 0, none⟩) (n * n) cap], .slice bo n dap] w fun e w' => VecOr w' e n (appF n x y) (fstE (appE n x y) n) ∧ Below w.heap.size w w' := by
  have HX := Lib.hid hx
  have HY := Lib.hid hy
  have HC1 := Lib.hid hcap
  have h36 : n * n ≤ 36 := Nat.mul_le_mul hn hn
  have HBG := Lib.hid (show n * n ≤ 9223372036854775807 by omega)
  obtain ⟨FF, hFF⟩ : ∃ FF : Nat → Nm, Hid (FF = appF n x y) := ⟨_, rfl⟩
  obtain ⟨EE, hEE⟩ : ∃ EE : Nat → Int, Hid (EE = appE n x y) := ⟨_, rfl⟩
  rw [← hFF.out, ← hEE.out]
  obtain ⟨i0, hi, hz0, hz1, hz2⟩ := info_parts infoNum
  have HI := Lib.hid (And.intro hi (And.intro hz0 (And.intro hz1 hz2)))
  clear hi hz0 hz1 hz2 hx hy hcap h36
  have hn' : (n : Int) ≤ 6 := by omega
  go_enter Try.func45, Try.ntmps45
  go_wp2_with fail
  refine (read_yes n (some ⟨g, 0, none⟩) (n * n) cap x _ HBG.out (HX.out.nums.keep (by go_grown)) hv).mono ?_
  rintro e w1 ⟨rfl, hb⟩
  have D1 : Below w.heap.size w w1 := Below.trans (by go_grown) (hb.mono (by first | omega | (simp; done) | (simp; omega)))
  have s1 : w.heap.size < w1.heap.size := by have hs := hb.size; (try simp at hs); omega
  clear hb
  go_wp2_with fail
  refine (validVector_any bo n dap y _ (by omega) (HY.out.keep (by go_grown))).mono ?_
  rintro e w2 ⟨rfl, hb⟩
  rw [hu.out]
  have c0 : w2.cell? ⟨w1.heap.size, 0, none⟩ = some (.int .i64 n) := (hb.cell (p := ⟨w1.heap.size, 0, none⟩) (by first | omega | (simp; done) | (simp; omega))).trans (by go_cell)
  have c1 : w2.cell? ⟨w1.heap.size, 1, none⟩ = some (.slice (some ⟨g, 0, none⟩) (n * n) cap) := (hb.cell (p := ⟨w1.heap.size, 1, none⟩) (by first | omega | (simp; done) | (simp; omega))).trans (by go_cell)
  have D2 : Below w.heap.size w w2 := Below.trans (by go_grown) (hb.mono (by first | omega | (simp; done) | (simp; omega)))
  have s2 : w1.heap.size < w2.heap.size := by have hs := hb.size; (try simp at hs); omega
  clear hb D1
  go_wp2_with fail
  go_loopw [8, 9, 10, 11, 33] (fun lv _ _ _ iv wr => ∃ (i : Nat), iv = .int .i64 i ∧ i ≤ n ∧ Hid (wr.ownsRow w2.heap.size 55 5 lv i (rowsOf FF i)) ∧ Hid (fstE EE i = 0) ∧ Below w2.heap.size w2 wr) (fun _ _ _ _ iv _ => n - (intOf iv).toNat)
  case atStart => exact ⟨0, rfl, by omega, Lib.hid (World.ownsRow_nil _ _ _ _), Lib.hid rfl, Below.refl _ _⟩
  case round =>
    obtain ⟨i, rfl, hi, HOW, hE0, hbel⟩ := hrel
    have hszr := hbel.size
    have m0 := (hbel.cell (p := ⟨w1.heap.size, 0, none⟩) s2).trans c0
    have m1 := (hbel.cell (p := ⟨w1.heap.size, 1, none⟩) s2).trans c1
    have DR := Lib.hid (D2.trans (hbel.mono (show w.heap.size ≤ w2.heap.size by omega)))
    have HB := Lib.hid hbel
    by_cases hlt : i < n
    · have hlt' : (i : Int) < (n : Int) := by omega
      obtain ⟨x0, x1, x2, x3, x4, xe, HM⟩ := res5 (dotS (fun t => x (i * n + t)) y n)
      have HST : Hid (fstE EE (i + 1) = xe) := Lib.hid (by rw [fstE_step hE0.out, hEE.out]; unfold appE; rw [HM.out])
      have HV : Hid (FF i = ⟨⟨x0, x1, x2, x3⟩, x4⟩) := Lib.hid (by rw [hFF.out]; unfold appF; rw [HM.out])
      clear hbel
      go_wp2_with fail
      refine (row_any n i g cap x _ hn hlt HC1.out hcm (HX.out.keep DR.out)).mono ?_
      rintro e w3 ⟨⟨ra, rd, rfl, hra⟩, hb⟩
      have HRA := Lib.hid hra
      have DR3 := Lib.hid (DR.out.trans (hb.mono (show w.heap.size ≤ wr.heap.size by omega)))
      have HB3 := Lib.hid (HB.out.trans (hb.mono hszr))
      have HB3W := Lib.hid hb
      have hsz3 := hb.size
      clear hb hra m0 m1
      go_wp2_with fail
      refine (dot_any n ra bo rd dap (fun t => x (i * n + t)) y _ hn HRA.out (HY.out.keep DR3.out)).mono ?_
      rintro e w4 ⟨rfl, hb⟩
      rw [HM.out]
      unfold Ret5
      (try simp only)
      have DR4 := DR3.out.trans (hb.mono (show w.heap.size ≤ w3.heap.size by omega))
      have HB4 := Lib.hid (HB3.out.trans (hb.mono (show w2.heap.size ≤ w3.heap.size by omega)))
      have HO4 := Lib.hid (own_below (own_below HOW.out (show Below wr.heap.size wr w3 from HB3W.out)) hb)
      have hsz4 := hb.size
      clear hb
      by_cases hxe : ¬ xe = 0
      · have hb0 : (xe == 0) = false := beq_eq_false_iff_ne.2 hxe
        have hb1 : (xe != 0) = true := bne_iff_ne.2 hxe
        have HX2 := Lib.hid hxe
        clear hxe
        go_wp2_with fail
        go_ret2
        have hfin := fstE_stay (g := EE) (by rw [HST.out]; exact HX2.out) (show i + 1 ≤ n by omega)
        refine ⟨?_, by go_grown⟩
        rw [hfin, HST.out]
        exact .inr ⟨HX2.out, rfl⟩
      obtain rfl : xe = 0 := Decidable.not_not.1 hxe
      clear hxe
      go_wp2_with (at_builtin; refine wpList_append_own _ rfl (.tmp 47) (.tmp 49) 23 rfl w2.heap.size 55 i0 _ 5 40 Try.underlying23 HI.out.1 HI.out.2.1 HI.out.2.2.1 HI.out.2.2.2 rfl (by decide) _ i (rowsOf FF i) rfl ((HO4.out.alloc _).alloc _) ⟨w4.heap.size + 1, 0, none⟩ 1 1 (cellsOf ⟨⟨x0, x1, x2, x3⟩, x4⟩) rfl rfl ?c1 ?c2 ?c3 ?c4 ?c5 ?_)
      case c1 =>
        intro t u hu
        rw [add0]
        have ht : t < 5 := (List.getElem?_eq_some_iff.1 hu).1
        rcases (show t = 0 ∨ t = 1 ∨ t = 2 ∨ t = 3 ∨ t = 4 by omega) with rfl | rfl | rfl | rfl | rfl <;> (simp only [cellsOf, List.getElem?_cons_zero, List.getElem?_cons_succ, Option.some.injEq] at hu; subst hu; go_cell)
      case c2 => exact cellsOf_one _
      case c3 => unfold maxLen; omega
      case c4 => omega
      case c5 => first | omega | (simp; omega)
      intro v' w5 hown' hgrow _
      have hrow : rowsOf FF i ++ cellsOf ⟨⟨x0, x1, x2, x3⟩, x4⟩ = rowsOf FF (i + 1) := by
        rw [rowsOf, HV.out]
      rw [hrow] at hown'
      have hlt2 := HO4.out.lt
      have HB5 : Below w2.heap.size w2 w5 := Below.grown ((HB4.out.alloc (by first | omega | (simp; omega)) _).alloc (by first | omega | (simp; omega)) _) hgrow (by first | omega | (simp; omega)) (fun k hk => (hlt2 k hk).1)
      have HO5 := Lib.hid hown'
      have HB6 := Lib.hid HB5
      clear hown' hgrow HB5 hrow hlt2 DR4
      go_wp2_with fail
      go_roundw
      case rel => exact ⟨i + 1, by go_num, by omega, HO5, HST, HB6.out⟩
      case measure => simp [intOf]; omega
    · obtain rfl : i = n := by omega
      obtain ⟨ao, ap, rfl, hnu⟩ := Nums.of_own HOW.out
      have HN := Lib.hid hnu
      clear hbel hnu
      go_wp2_with fail
      go_ret2
      exact ⟨.inl ⟨hE0.out, ao, ap, rfl, HN.out⟩, DR.out⟩
end Go.Proofs.Ythbbknpkoaobmaa
