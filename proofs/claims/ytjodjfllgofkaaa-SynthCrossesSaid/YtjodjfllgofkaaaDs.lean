import Derived.Test.YtjodjfllgofkaaaFw
import Derived.Test.YtjodjfllgofkaaaR
import Derived.Deep.DeepCutAuto
import Derived.Deep.RegionHeld3
namespace Amp
/-- The products of two lists. -/
def prV (x y : Nat → Nm) (i : Nat) : Nm := (mulS (x i) (y i)).1
def prE (x y : Nat → Nm) (i : Nat) : Int := (mulS (x i) (y i)).2
/-- The sum of the products of two lists: the first error of the products, or of the sum. -/
def dotS (x y : Nat → Nm) (n : Nat) : Nm × Int := if fstE (prE x y) n = 0 then sumS (prV x y) n else (N0, fstE (prE x y) n)
theorem dotS_bad {x y : Nat → Nm} {n k : Nat} {e : Int} (h : fstE (prE x y) (k + 1) = e) (he : e ≠ 0) (hk : k + 1 ≤ n) : dotS x y n = (N0, e) := by
  have h1 := fstE_stay (g := prE x y) (by rw [h]; exact he) hk
  unfold dotS
  rw [h1, h, if_neg he]
theorem dotS_good {x y : Nat → Nm} {n : Nat} (h : fstE (prE x y) n = 0) : dotS x y n = sumS (prV x y) n := by unfold dotS; rw [if_pos h]
end Amp
namespace Go.Proofs.Ytjodjfllgofkaaa
open Go.RowKit Amp
attribute [local go_sem] ix0 ix1 ix2 ix3 jx0 jx1 jx2 jx3
attribute [local go_sem high] run_eqNum run_neNum
theorem with_keep5 {w w1 : World} {n : Nat} {a b c d k : Int} {G : Prop} (hb : Below w.heap.size w w1) (h : Has5 w n a b c d k) (hn : n < w.heap.size) (K : Has5 w1 n a b c d k → G) : G := K (h.keep hb hn)
theorem sum_own {w : World} {base : Nat} {e : TypeId} {v : Value} {n : Nat} {F : Nat → Nm} (h : w.ownsRow base e 5 v n (rowsOf F n)) (hn : n ≤ 9223372036854775807) :
    ∃ ao cap, v = .slice ao n cap ∧ Calls Try.prog 114 #[.slice ao n cap] w fun e w' => e = Ret5 (sumS F n) ∧ Below w.heap.size w w' := by
  obtain ⟨ao, cap, rfl, hnu⟩ := Nums.of_own h
  refine ⟨ao, cap, rfl, ?_⟩
  by_cases h0 : n = 0
  · subst h0
    exact (Sum_nil ao cap w).mono fun e w' ⟨h1, h2⟩ => ⟨by rw [sumS_nil]; exact h1, h2⟩
  · obtain ⟨b, o, rfl, hc⟩ := hnu (by omega)
    exact Sum_any b o n cap F w hn hc

set_option maxRecDepth 100000 in
set_option maxHeartbeats 4000000 in
theorem dot_any (n : Nat) (ao bo : Option Addr) (cap dap : Nat) (x y : Nat → Nm) (w : World) (hn : n ≤ 6) (hx : Nums w ao n x) (hy : Nums w bo n y) :
    Calls Try.prog 94 #[.slice ao n cap, .slice bo n dap] w fun e w' => e = Ret5 (dotS x y n) ∧ Below w.heap.size w w' := by
  have HX := Lib.hid hx
  have HY := Lib.hid hy
  clear hx hy
  obtain ⟨FF, hFF⟩ : ∃ FF : Nat → Nm, Hid (FF = prV x y) := ⟨_, rfl⟩
  obtain ⟨i0, hi, hz0, hz1, hz2⟩ := info_parts infoNum
  have HI := Lib.hid (And.intro hi (And.intro hz0 (And.intro hz1 hz2)))
  clear hi hz0 hz1 hz2
  have hn' : (n : Int) ≤ 6 := by omega
  go_enter Try.func94, Try.ntmps94
  go_wp2_with fail
  go_loopw [6, 7, 8, 9, 12] (fun lv _ _ _ iv wr => ∃ (i : Nat), iv = .int .i64 i ∧ i ≤ n ∧ wr.ownsRow (w.heap.size + 1) 63 5 lv i (rowsOf FF i) ∧ Hid (fstE (prE x y) i = 0) ∧ Below (w.heap.size + 1) (w.alloc (.cells #[.int .i64 0, .int .i64 0, .int .i64 0, .int .i64 0, .int .i64 0] 63)) wr) (fun _ _ _ _ iv _ => n - (intOf iv).toNat)
  case atStart => exact ⟨0, rfl, by omega, World.ownsRow_nil _ _ _ _, Lib.hid rfl, Below.refl _ _⟩
  case round =>
    obtain ⟨i, rfl, hi, hown, hE0, hbel⟩ := hrel
    have hsz := hbel.size
    have hz0 : w.heap.size < wr.heap.size := by simp at hsz; omega
    by_cases hlt : i < n
    · have hlt' : (i : Int) < (n : Int) := by omega
      have hlt0 : (0 : Int) ≤ (i : Int) := by omega
      have HB0 := below_base hbel ((Below.refl _ _).alloc (Nat.le_refl _) _)
      obtain ⟨b, o, rfl, hcell⟩ := (Nums.keep HX.out HB0) (by omega)
      obtain ⟨b', o', rfl, hcell'⟩ := (Nums.keep HY.out HB0) (by omega)
      obtain ⟨p0, p1, p2, p3, p4, pe, HP⟩ := res5 (x i, 0)
      obtain ⟨q0, q1, q2, q3, q4, qe, HQ⟩ := res5 (y i, 0)
      have HPZ : x i = ⟨⟨p0, p1, p2, p3⟩, p4⟩ := congrArg Prod.fst HP.out
      have HQZ : y i = ⟨⟨q0, q1, q2, q3⟩, q4⟩ := congrArg Prod.fst HQ.out
      have hz := hcell i hlt
      have hz' := hcell' i hlt
      rw [HPZ] at hz
      rw [HQZ] at hz'
      obtain ⟨x0, x1, x2, x3, x4, xe, HM⟩ := res5 (mulS ⟨⟨p0, p1, p2, p3⟩, p4⟩ ⟨⟨q0, q1, q2, q3⟩, q4⟩)
      have HST : Hid (fstE (prE x y) (i + 1) = xe) := Lib.hid (by rw [fstE_step hE0.out]; unfold prE; rw [HPZ, HQZ, HM.out])
      have HV : Hid (prV x y i = ⟨⟨x0, x1, x2, x3⟩, x4⟩) := Lib.hid (by unfold prV; rw [HPZ, HQZ, HM.out])
      obtain ⟨c0, c1, c2, c3, c4⟩ := hz
      obtain ⟨d0, d1, d2, d3, d4⟩ := hz'
      have lb : b < wr.heap.size := World.block_lt_of_cell? wr _ c0
      have lb' : b' < wr.heap.size := World.block_lt_of_cell? wr _ d0
      have m0 : Has5 wr w.heap.size 0 0 0 0 0 := Has5.keep (w := w.alloc (.cells #[.int .i64 0, .int .i64 0, .int .i64 0, .int .i64 0, .int .i64 0] 63)) (by refine ⟨⟨?_, ?_, ?_, ?_, ?_⟩, ?_, ?_, ?_, ?_, ?_⟩ <;> go_cell) (hbel.mono (by simp)) (by simp)
      have HOW := Lib.hid hown
      have HB := Lib.hid hbel
      have HM0 := Lib.hid m0
      clear hown hbel hcell hcell' HPZ HQZ HP HQ HB0 m0
      have V0 : ∀ w', Below wr.heap.size wr w' → w'.cell? ⟨b, o + i * 5, none⟩ = some (.int .i64 p0) ∧ w'.cell? ⟨b, o + i * 5 + 1, none⟩ = some (.int .i64 p1) ∧ w'.cell? ⟨b, o + i * 5 + 2, none⟩ = some (.int .i64 p2) ∧ w'.cell? ⟨b, o + i * 5 + 3, none⟩ = some (.int .i64 p3) ∧ w'.cell? ⟨b, o + i * 5 + 4, none⟩ = some (.int .i64 p4) ∧ w'.cell? ⟨b', o' + i * 5, none⟩ = some (.int .i64 q0) ∧ w'.cell? ⟨b', o' + i * 5 + 1, none⟩ = some (.int .i64 q1) ∧ w'.cell? ⟨b', o' + i * 5 + 2, none⟩ = some (.int .i64 q2) ∧ w'.cell? ⟨b', o' + i * 5 + 3, none⟩ = some (.int .i64 q3) ∧ w'.cell? ⟨b', o' + i * 5 + 4, none⟩ = some (.int .i64 q4) := fun w' hb => by
        have e1 := fun o'' => hb.cell (p := ⟨b, o'', none⟩) lb
        have e2 := fun o'' => hb.cell (p := ⟨b', o'', none⟩) lb'
        rw [e1, e1, e1, e1, e1, e2, e2, e2, e2, e2]
        exact ⟨c0, c1, c2, c3, c4, d0, d1, d2, d3, d4⟩
      have G0 := Lib.hid V0
      clear V0
      go_upto_region 5 with fail
      go_cut [8, 9] (fun pv ev wx => ∃ n8, pv = .pointer (some ⟨n8, 0, none⟩) ∧ ev = .int .i64 xe ∧ wr.heap.size ≤ n8 ∧ n8 < wx.heap.size ∧ Has5 wx n8 x0 x1 x2 x3 x4 ∧ Below wr.heap.size wr wx)
      case first =>
        go_region_held3 (fun w' => w'.cell? ⟨b, o + i * 5, none⟩ = some (.int .i64 p0) ∧ w'.cell? ⟨b, o + i * 5 + 1, none⟩ = some (.int .i64 p1) ∧ w'.cell? ⟨b, o + i * 5 + 2, none⟩ = some (.int .i64 p2) ∧ w'.cell? ⟨b, o + i * 5 + 3, none⟩ = some (.int .i64 p3) ∧ w'.cell? ⟨b, o + i * 5 + 4, none⟩ = some (.int .i64 p4) ∧ w'.cell? ⟨b', o' + i * 5, none⟩ = some (.int .i64 q0) ∧ w'.cell? ⟨b', o' + i * 5 + 1, none⟩ = some (.int .i64 q1) ∧ w'.cell? ⟨b', o' + i * 5 + 2, none⟩ = some (.int .i64 q2) ∧ w'.cell? ⟨b', o' + i * 5 + 3, none⟩ = some (.int .i64 q3) ∧ w'.cell? ⟨b', o' + i * 5 + 4, none⟩ = some (.int .i64 q4))
          ((first | (refine G0.out _ ?_; go_grown; done) | go_keep))
          ((go_at_call 113; refine (Mul_any _ _ _ _ _ _ _ _ _ _ _).mono ?_; rintro e wA ⟨rfl, hb⟩; rw [HM.out]; unfold Ret5; (try simp only); have HD : Below wr.heap.size wr wA := (Below.trans (by first | exact Below.refl _ _ | go_grown) (hb.mono (by first | omega | (simp; done) | (simp; omega)))); have hzA := HD.size; (try (refine with_keep5 (n := wr.heap.size) (a := 0) (b := 0) (c := 0) (d := 0) (k := 0) hb ?_ ?_ ?_; (refine ⟨⟨?_, ?_, ?_, ?_, ?_⟩, ?_, ?_, ?_, ?_, ?_⟩ <;> go_cell); (focus (first | omega | (simp; done) | (simp; omega))); rintro ⟨⟨_, _, _, _, _⟩, _, _, _, _, _⟩; have hb8 := hb.size; simp at hb8)); clear hb))
        all_goals
          go_wp2_with fail
          go_meet
          refine ⟨_, rfl, rfl, ?_, ?_, ?_, ?_⟩
          · first | omega | (simp; done) | (simp; omega)
          · first | omega | (simp; done) | (simp; omega)
          · refine ⟨⟨?_, ?_, ?_, ?_, ?_⟩, ?_, ?_, ?_, ?_, ?_⟩ <;> go_cell
          · go_grown
      case rest =>
        obtain ⟨n8, rfl, rfl, hn8, hl8, h5, hD8⟩ := hcut
        have HD := Lib.hid (HB.out.trans (hD8.mono (show w.heap.size + 1 ≤ wr.heap.size by have := HB.out.size; simp at this; omega)))
        have HOW1 := Lib.hid (own_below HOW.out hD8)
        have hz0' : w.heap.size < wc.heap.size := by have := hD8.size; omega
        have hR := HM0.out.keep hD8 hz0
        have hne8 : ¬ n8 = w.heap.size := by omega
        have HRT := Lib.hid hR
        clear hR hD8 c0 c1 c2 c3 c4 d0 d1 d2 d3 d4
        obtain ⟨⟨y0, y1, y2, y3, y4⟩, _⟩ := h5
        by_cases hxe : ¬ xe = 0
        · have hb0 : (xe == 0) = false := beq_eq_false_iff_ne.2 hxe
          have hb1 : (xe != 0) = true := bne_iff_ne.2 hxe
          have HX2 := Lib.hid hxe
          have D1 : Below w.heap.size w wc := below_base HD.out ((Below.refl _ _).alloc (Nat.le_refl _) _)
          obtain ⟨⟨r0, r1, r2, r3, r4⟩, t0, t1, t2, t3, t4⟩ := HRT.out
          clear hxe
          go_wp2_with fail
          refine bodyPost_ret (v := .tuple #[.agg #[.int .i64 0, .int .i64 0, .int .i64 0, .int .i64 0, .int .i64 0], .int .i64 xe]) (by simp [results, Try.results94, go_sem, *]) rfl ⟨?_, by go_grown⟩
          rw [dotS_bad HST.out HX2.out (by omega)]
          rfl
        obtain rfl : xe = 0 := Decidable.not_not.1 hxe
        clear hxe
        go_wp2_with (at_builtin; refine wpList_append_own _ rfl (.tmp 31) (.tmp 33) 23 rfl (w.heap.size + 1) 63 i0 _ 5 40 Try.underlying23 HI.out.1 HI.out.2.1 HI.out.2.2.1 HI.out.2.2.2 rfl (by decide) _ i (rowsOf FF i) rfl (HOW1.out.alloc _) ⟨wc.heap.size, 0, none⟩ 1 1 (cellsOf ⟨⟨x0, x1, x2, x3⟩, x4⟩) rfl rfl ?c1 ?c2 ?c3 ?c4 ?c5 ?_)
        case c1 =>
          intro t u hu
          rw [add0]
          have ht : t < 5 := (List.getElem?_eq_some_iff.1 hu).1
          rcases (show t = 0 ∨ t = 1 ∨ t = 2 ∨ t = 3 ∨ t = 4 by omega) with rfl | rfl | rfl | rfl | rfl <;> (simp only [cellsOf, List.getElem?_cons_zero, List.getElem?_cons_succ, Option.some.injEq] at hu; subst hu; go_cell)
        case c2 => exact cellsOf_one _
        case c3 => unfold maxLen; omega
        case c4 => omega
        case c5 => simp; omega
        intro v' w3 hown' hgrow _
        have hrow : rowsOf FF i ++ cellsOf ⟨⟨x0, x1, x2, x3⟩, x4⟩ = rowsOf FF (i + 1) := by
          rw [rowsOf, hFF.out, HV.out]
        rw [hrow] at hown'
        have hlt2 := HOW1.out.lt
        have HB3 : Below (w.heap.size + 1) (w.alloc (.cells #[.int .i64 0, .int .i64 0, .int .i64 0, .int .i64 0, .int .i64 0] 63)) w3 :=
          Below.grown (HD.out.alloc (by first | omega | (simp; done) | (simp; omega)) _) hgrow (by first | omega | (simp; done) | (simp; omega)) (fun k hk => (hlt2 k hk).1)
        have HO3 := Lib.hid hown'
        have HB4 := Lib.hid HB3
        clear hown' hgrow HB3 hrow hlt2
        go_wp2_with fail
        go_roundw
        case rel => exact ⟨i + 1, by go_num, by omega, HO3.out, HST, HB4.out⟩
        case measure => simp [intOf]; omega
    · obtain rfl : i = n := by omega
      obtain ⟨so, sap, rfl, hS⟩ := sum_own hown (by omega)
      have HS := Lib.hid hS
      obtain ⟨x0, x1, x2, x3, x4, xe, HM⟩ := res5 (sumS FF i)
      have hR : Has5 wr w.heap.size 0 0 0 0 0 := Has5.keep (w := w.alloc (.cells #[.int .i64 0, .int .i64 0, .int .i64 0, .int .i64 0, .int .i64 0] 63)) (by refine ⟨⟨?_, ?_, ?_, ?_, ?_⟩, ?_, ?_, ?_, ?_, ?_⟩ <;> go_cell) (hbel.mono (by simp)) (by simp)
      have HB := Lib.hid hbel
      have HRT := Lib.hid hR
      clear hown hbel hS hR
      go_wp2_with fail
      refine HS.out.mono ?_
      rintro e w1 ⟨rfl, hb⟩
      rw [HM.out]
      unfold Ret5
      (try simp only)
      have D1 : Below w.heap.size w w1 := (below_base HB.out ((Below.refl _ _).alloc (Nat.le_refl _) _)).trans (hb.mono (by omega))
      obtain ⟨⟨r0, r1, r2, r3, r4⟩, t0, t1, t2, t3, t4⟩ := HRT.out.keep hb hz0
      have hz1 : w.heap.size < w1.heap.size := by have := hb.size; omega
      clear hb
      go_wp2_with fail
      refine bodyPost_ret (v := .tuple #[.agg #[.int .i64 x0, .int .i64 x1, .int .i64 x2, .int .i64 x3, .int .i64 x4], .int .i64 xe]) (by simp [results, Try.results94, go_sem, *]) rfl ⟨?_, by go_grown⟩
      rw [dotS_good hE0.out, ← hFF.out, HM.out]
      rfl
end Go.Proofs.Ytjodjfllgofkaaa
