import Derived.Test.YthbbknpkoaobmaaFw
import Derived.Test.YthbbknpkoaobmaaVal
import Derived.Deep.DeepCutAuto
import Derived.Deep.RegionHeld3
import Derived.Test.YthbbknpkoaobmaaFg
import Derived.Deep.AppendLies
namespace Amp
/-- The products of two lists. -/
def prV (x y : Nat → Nm) (i : Nat) : Nm := (mulS (x i) (y i)).1
def prE (x y : Nat → Nm) (i : Nat) : Int := (mulS (x i) (y i)).2
/-- The sum of the products of two lists: the first error of the products, or of the sum. -/
def dotS (x y : Nat → Nm) (n : Nat) : Nm × Int := if fstE (prE x y) n = 0 then sumS (prV x y) n else (N0, fstE (prE x y) n)
theorem dotS_bad {x y : Nat → Nm} {n k : Nat} {e : Int} (h : fstE (prE x y) (k + 1) = e) (he : e ≠ 0) (hk : k + 1 ≤ n) : dotS x y n = (N0, e) := by
  have h1 := fstE_stay (g := prE x y) (by rw [h]; exact he) hk
  unfold dotS
  rw [h1, h, if_neg he]
theorem dotS_good {x y : Nat → Nm} {n : Nat} (h : fstE (prE x y) n = 0) : dotS x y n = sumS (prV x y) n := by unfold dotS; rw [if_pos h]
end Amp
namespace Go.Proofs.Ythbbknpkoaobmaa
open Go.RowKit Amp
attribute [local go_sem] ix0 ix1 ix2 ix3 jx0 jx1 jx2 jx3
attribute [local go_sem high] run_eqNum run_neNum
theorem with_keep5 {w w1 : World} {n : Nat} {a b c d k : Int} {G : Prop} (hb : Below w.heap.size w w1) (h : Has5 w n a b c d k) (hn : n < w.heap.size) (K : Has5 w1 n a b c d k → G) : G := K (h.keep hb hn)
theorem sum_own {w : World} {base : Nat} {e : TypeId} {v : Value} {n : Nat} {F : Nat → Nm} (h : w.ownsRow base e 5 v n (rowsOf F n)) (hn : n ≤ 9223372036854775807) :
    ∃ ao cap, v = .slice ao n cap ∧ Calls Try.prog 92 #[.slice ao n cap] w fun e w' => e = Ret5 (sumS F n) ∧ Below w.heap.size w w' := by
  obtain ⟨ao, cap, rfl, hnu⟩ := Nums.of_own h
  refine ⟨ao, cap, rfl, ?_⟩
  by_cases h0 : n = 0
  · subst h0
    exact (Sum_nil ao cap w).mono fun e w' ⟨h1, h2⟩ => ⟨by rw [sumS_nil]; exact h1, h2⟩
  · obtain ⟨b, o, rfl, hc⟩ := hnu (by omega)
    exact Sum_any b o n cap F w hn hc

set_option maxRecDepth 100000 in
set_option maxHeartbeats 4000000 in
theorem dot_any (n : Nat) (ao bo : Option Addr) (cap dap : Nat) (x y : Nat → Nm) (w : World) (hn : n ≤ 6) (hx : Nums w ao n x) (hy : Nums w bo n y) :
    Calls Try.prog 75 #[.slice ao n cap, .slice bo n dap] w fun e w' => e = Ret5 (dotS x y n) ∧ Below w.heap.size w w' := by
  have HX := Lib.hid hx
  have HY := Lib.hid hy
  clear hx hy
  obtain ⟨FF, hFF⟩ : ∃ FF : Nat → Nm, Hid (FF = prV x y) := ⟨_, rfl⟩
  obtain ⟨i0, hi, hz0, hz1, hz2⟩ := info_parts infoNum
  have HI := Lib.hid (And.intro hi (And.intro hz0 (And.intro hz1 hz2)))
  clear hi hz0 hz1 hz2
  have hn' : (n : Int) ≤ 6 := by omega
  go_enter Try.func75, Try.ntmps75
  go_wp2_with fail
  go_loopw [6, 7, 8, 9, 12] (fun lv _ _ _ iv wr => ∃ (i : Nat), iv = .int .i64 i ∧ i ≤ n ∧ wr.ownsRow (w.heap.size + 1) 55 5 lv i (rowsOf FF i) ∧ Hid (fstE (prE x y) i = 0) ∧ Below (w.heap.size + 1) (w.alloc (.cells #[.int .i64 0, .int .i64 0, .int .i64 0, .int .i64 0, .int .i64 0] 55)) wr) (fun _ _ _ _ iv _ => n - (intOf iv).toNat)
  case atStart => exact ⟨0, rfl, by omega, World.ownsRow_nil _ _ _ _, Lib.hid rfl, Below.refl _ _⟩
  case round =>
    obtain ⟨i, rfl, hi, hown, hE0, hbel⟩ := hrel
    have hsz := hbel.size
    have hz0 : w.heap.size < wr.heap.size := by simp at hsz; omega
    by_cases hlt : i < n
    · have hlt' : (i : Int) < (n : Int) := by omega
      have hlt0 : (0 : Int) ≤ (i : Int) := by omega
      have HB0 := below_base hbel ((Below.refl _ _).alloc (Nat.le_refl _) _)
      obtain ⟨b, o, rfl, hcell⟩ := (Nums.keep HX.out HB0) (by omega)
      obtain ⟨b', o', rfl, hcell'⟩ := (Nums.keep HY.out HB0) (by omega)
      obtain ⟨p0, p1, p2, p3, p4, pe, HP⟩ := res5 (x i, 0)
      obtain ⟨q0, q1, q2, q3, q4, qe, HQ⟩ := res5 (y i, 0)
      have HPZ : x i = ⟨⟨p0, p1, p2, p3⟩, p4⟩ := congrArg Prod.fst HP.out
      have HQZ : y i = ⟨⟨q0, q1, q2, q3⟩, q4⟩ := congrArg Prod.fst HQ.out
      have hz := hcell i hlt
      have hz' := hcell' i hlt
      rw [HPZ] at hz
      rw [HQZ] at hz'
      obtain ⟨x0, x1, x2, x3, x4, xe, HM⟩ := res5 (mulS ⟨⟨p0, p1, p2, p3⟩, p4⟩ ⟨⟨q0, q1, q2, q3⟩, q4⟩)
      have HST : Hid (fstE (prE x y) (i + 1) = xe) := Lib.hid (by rw [fstE_step hE0.out]; unfold prE; rw [HPZ, HQZ, HM.out])
      have HV : Hid (prV x y i = ⟨⟨x0, x1, x2, x3⟩, x4⟩) := Lib.hid (by unfold prV; rw [HPZ, HQZ, HM.out])
      obtain ⟨c0, c1, c2, c3, c4⟩ := hz
      obtain ⟨d0, d1, d2, d3, d4⟩ := hz'
      have lb : b < wr.heap.size := World.block_lt_of_cell? wr _ c0
      have lb' : b' < wr.heap.size := World.block_lt_of_cell? wr _ d0
      have m0 : Has5 wr w.heap.size 0 0 0 0 0 := Has5.keep (w := w.alloc (.cells #[.int .i64 0, .int .i64 0, .int .i64 0, .int .i64 0, .int .i64 0] 55)) (by refine ⟨⟨?_, ?_, ?_, ?_, ?_⟩, ?_, ?_, ?_, ?_, ?_⟩ <;> go_cell) (hbel.mono (by simp)) (by simp)
      have HOW := Lib.hid hown
      have HB := Lib.hid hbel
      have HM0 := Lib.hid m0
      clear hown hbel hcell hcell' HPZ HQZ HP HQ HB0 m0
      have V0 : ∀ w', Below wr.heap.size wr w' → w'.cell? ⟨b, o + i * 5, none⟩ = some (.int .i64 p0) ∧ w'.cell? ⟨b, o + i * 5 + 1, none⟩ = some (.int .i64 p1) ∧ w'.cell? ⟨b, o + i * 5 + 2, none⟩ = some (.int .i64 p2) ∧ w'.cell? ⟨b, o + i * 5 + 3, none⟩ = some (.int .i64 p3) ∧ w'.cell? ⟨b, o + i * 5 + 4, none⟩ = some (.int .i64 p4) ∧ w'.cell? ⟨b', o' + i * 5, none⟩ = some (.int .i64 q0) ∧ w'.cell? ⟨b', o' + i * 5 + 1, none⟩ = some (.int .i64 q1) ∧ w'.cell? ⟨b', o' + i * 5 + 2, none⟩ = some (.int .i64 q2) ∧ w'.cell? ⟨b', o' + i * 5 + 3, none⟩ = some (.int .i64 q3) ∧ w'.cell? ⟨b', o' + i * 5 + 4, none⟩ = some (.int .i64 q4) := fun w' hb => by
        have e1 := fun o'' => hb.cell (p := ⟨b, o'', none⟩) lb
        have e2 := fun o'' => hb.cell (p := ⟨b', o'', none⟩) lb'
        rw [e1, e1, e1, e1, e1, e2, e2, e2, e2, e2]
        exact ⟨c0, c1, c2, c3, c4, d0, d1, d2, d3, d4⟩
      have G0 := Lib.hid V0
      clear V0
      go_upto_region 5 with fail
      go_cut [8, 9] (fun pv ev wx => ∃ n8, pv = .pointer (some ⟨n8, 0, none⟩) ∧ ev = .int .i64 xe ∧ wr.heap.size ≤ n8 ∧ n8 < wx.heap.size ∧ Has5 wx n8 x0 x1 x2 x3 x4 ∧ Below wr.heap.size wr wx)
      case first =>
        go_region_held3 (fun w' => w'.cell? ⟨b, o + i * 5, none⟩ = some (.int .i64 p0) ∧ w'.cell? ⟨b, o + i * 5 + 1, none⟩ = some (.int .i64 p1) ∧ w'.cell? ⟨b, o + i * 5 + 2, none⟩ = some (.int .i64 p2) ∧ w'.cell? ⟨b, o + i * 5 + 3, none⟩ = some (.int .i64 p3) ∧ w'.cell? ⟨b, o + i * 5 + 4, none⟩ = some (.int .i64 p4) ∧ w'.cell? ⟨b', o' + i * 5, none⟩ = some (.int .i64 q0) ∧ w'.cell? ⟨b', o' + i * 5 + 1, none⟩ = some (.int .i64 q1) ∧ w'.cell? ⟨b', o' + i * 5 + 2, none⟩ = some (.int .i64 q2) ∧ w'.cell? ⟨b', o' + i * 5 + 3, none⟩ = some (.int .i64 q3) ∧ w'.cell? ⟨b', o' + i * 5 + 4, none⟩ = some (.int .i64 q4))
          ((first | (refine G0.out _ ?_; go_grown; done) | go_keep))
          ((go_at_call 91; refine (Mul_any _ _ _ _ _ _ _ _ _ _ _).mono ?_; rintro e wA ⟨rfl, hb⟩; rw [HM.out]; unfold Ret5; (try simp only); have HD : Below wr.heap.size wr wA := (Below.trans (by first | exact Below.refl _ _ | go_grown) (hb.mono (by first | omega | (simp; done) | (simp; omega)))); have hzA := HD.size; (try (refine with_keep5 (n := wr.heap.size) (a := 0) (b := 0) (c := 0) (d := 0) (k := 0) hb ?_ ?_ ?_; (refine ⟨⟨?_, ?_, ?_, ?_, ?_⟩, ?_, ?_, ?_, ?_, ?_⟩ <;> go_cell); (focus (first | omega | (simp; done) | (simp; omega))); rintro ⟨⟨_, _, _, _, _⟩, _, _, _, _, _⟩; have hb8 := hb.size; simp at hb8)); clear hb))
        all_goals
          go_wp2_with fail
          go_meet
          refine ⟨_, rfl, rfl, ?_, ?_, ?_, ?_⟩
          · first | omega | (simp; done) | (simp; omega)
          · first | omega | (simp; done) | (simp; omega)
          · refine ⟨⟨?_, ?_, ?_, ?_, ?_⟩, ?_, ?_, ?_, ?_, ?_⟩ <;> go_cell
          · go_grown
      case rest =>
        obtain ⟨n8, rfl, rfl, hn8, hl8, h5, hD8⟩ := hcut
        have HD := Lib.hid (HB.out.trans (hD8.mono (show w.heap.size + 1 ≤ wr.heap.size by have := HB.out.size; simp at this; omega)))
        have HOW1 := Lib.hid (own_below HOW.out hD8)
        have hz0' : w.heap.size < wc.heap.size := by have := hD8.size; omega
        have hR := HM0.out.keep hD8 hz0
        have hne8 : ¬ n8 = w.heap.size := by omega
        have HRT := Lib.hid hR
        clear hR hD8 c0 c1 c2 c3 c4 d0 d1 d2 d3 d4
        obtain ⟨⟨y0, y1, y2, y3, y4⟩, _⟩ := h5
        by_cases hxe : ¬ xe = 0
        · have hb0 : (xe == 0) = false := beq_eq_false_iff_ne.2 hxe
          have hb1 : (xe != 0) = true := bne_iff_ne.2 hxe
          have HX2 := Lib.hid hxe
          have D1 : Below w.heap.size w wc := below_base HD.out ((Below.refl _ _).alloc (Nat.le_refl _) _)
          obtain ⟨⟨r0, r1, r2, r3, r4⟩, t0, t1, t2, t3, t4⟩ := HRT.out
          clear hxe
          go_wp2_with fail
          refine bodyPost_ret (v := .tuple #[.agg #[.int .i64 0, .int .i64 0, .int .i64 0, .int .i64 0, .int .i64 0], .int .i64 xe]) (by simp [results, Try.results75, go_sem, *]) rfl ⟨?_, by go_grown⟩
          rw [dotS_bad HST.out HX2.out (by omega)]
          rfl
        obtain rfl : xe = 0 := Decidable.not_not.1 hxe
        clear hxe
        go_wp2_with (at_builtin; refine wpList_append_own _ rfl (.tmp 31) (.tmp 33) 23 rfl (w.heap.size + 1) 55 i0 _ 5 40 Try.underlying23 HI.out.1 HI.out.2.1 HI.out.2.2.1 HI.out.2.2.2 rfl (by decide) _ i (rowsOf FF i) rfl (HOW1.out.alloc _) ⟨wc.heap.size, 0, none⟩ 1 1 (cellsOf ⟨⟨x0, x1, x2, x3⟩, x4⟩) rfl rfl ?c1 ?c2 ?c3 ?c4 ?c5 ?_)
        case c1 =>
          intro t u hu
          rw [add0]
          have ht : t < 5 := (List.getElem?_eq_some_iff.1 hu).1
          rcases (show t = 0 ∨ t = 1 ∨ t = 2 ∨ t = 3 ∨ t = 4 by omega) with rfl | rfl | rfl | rfl | rfl <;> (simp only [cellsOf, List.getElem?_cons_zero, List.getElem?_cons_succ, Option.some.injEq] at hu; subst hu; go_cell)
        case c2 => exact cellsOf_one _
        case c3 => unfold maxLen; omega
        case c4 => omega
        case c5 => simp; omega
        intro v' w3 hown' hgrow _
        have hrow : rowsOf FF i ++ cellsOf ⟨⟨x0, x1, x2, x3⟩, x4⟩ = rowsOf FF (i + 1) := by
          rw [rowsOf, hFF.out, HV.out]
        rw [hrow] at hown'
        have hlt2 := HOW1.out.lt
        have HB3 : Below (w.heap.size + 1) (w.alloc (.cells #[.int .i64 0, .int .i64 0, .int .i64 0, .int .i64 0, .int .i64 0] 55)) w3 :=
          Below.grown (HD.out.alloc (by first | omega | (simp; done) | (simp; omega)) _) hgrow (by first | omega | (simp; done) | (simp; omega)) (fun k hk => (hlt2 k hk).1)
        have HO3 := Lib.hid hown'
        have HB4 := Lib.hid HB3
        clear hown' hgrow HB3 hrow hlt2
        go_wp2_with fail
        go_roundw
        case rel => exact ⟨i + 1, by go_num, by omega, HO3.out, HST, HB4.out⟩
        case measure => simp [intOf]; omega
    · obtain rfl : i = n := by omega
      obtain ⟨so, sap, rfl, hS⟩ := sum_own hown (by omega)
      have HS := Lib.hid hS
      obtain ⟨x0, x1, x2, x3, x4, xe, HM⟩ := res5 (sumS FF i)
      have hR : Has5 wr w.heap.size 0 0 0 0 0 := Has5.keep (w := w.alloc (.cells #[.int .i64 0, .int .i64 0, .int .i64 0, .int .i64 0, .int .i64 0] 55)) (by refine ⟨⟨?_, ?_, ?_, ?_, ?_⟩, ?_, ?_, ?_, ?_, ?_⟩ <;> go_cell) (hbel.mono (by simp)) (by simp)
      have HB := Lib.hid hbel
      have HRT := Lib.hid hR
      clear hown hbel hS hR
      go_wp2_with fail
      refine HS.out.mono ?_
      rintro e w1 ⟨rfl, hb⟩
      rw [HM.out]
      unfold Ret5
      (try simp only)
      have D1 : Below w.heap.size w w1 := (below_base HB.out ((Below.refl _ _).alloc (Nat.le_refl _) _)).trans (hb.mono (by omega))
      obtain ⟨⟨r0, r1, r2, r3, r4⟩, t0, t1, t2, t3, t4⟩ := HRT.out.keep hb hz0
      have hz1 : w.heap.size < w1.heap.size := by have := hb.size; omega
      clear hb
      go_wp2_with fail
      refine bodyPost_ret (v := .tuple #[.agg #[.int .i64 x0, .int .i64 x1, .int .i64 x2, .int .i64 x3, .int .i64 x4], .int .i64 xe]) (by simp [results, Try.results75, go_sem, *]) rfl ⟨?_, by go_grown⟩
      rw [dotS_good hE0.out, ← hFF.out, HM.out]
      rfl
end Go.Proofs.Ythbbknpkoaobmaa

namespace Go.Proofs.Ythbbknpkoaobmaa
open Go.RowKit Amp
attribute [local go_sem] ix0 ix1 ix2 ix3 jx0 jx1 jx2 jx3
attribute [local go_sem high] run_eqNum run_neNum
theorem at_x (n : Nat) (x : Int) (w : World) (hx0 : 0 ≤ x * (n : Int)) (hx : x * (n : Int) ≤ 36) :
    Calls Try.prog 93 #[.agg #[.int .i64 n], .int .i64 x, .int .i64 0] w fun e w' => e = .returned (.int .i64 (x * (n : Int))) ∧ Below w.heap.size w w' := by
  obtain ⟨y, hy⟩ : ∃ y, Hid (x * (n : Int) = y) := ⟨_, rfl⟩
  have hy' := hy.out
  rw [hy'] at hx hx0
  go_enter Try.func93, Try.ntmps93
  go_wp2_with fail
  go_returns
  exact ⟨by rw [hy.out]; rfl, by go_grown⟩

set_option maxHeartbeats 2000000 in
set_option maxRecDepth 100000 in
theorem row_any (n i g cap : Nat) (f : Nat → Nm) (w : World) (hn : n ≤ 6) (hi : i < n) (hcap : n * n ≤ cap) (_hcm : cap ≤ 9223372036854775807) (hc : Numw w g (n * n) f) :
    Calls Try.prog 76 #[.agg #[.int .i64 n, .slice (some ⟨g, 0, none⟩) (n * n) cap], .int .i64 i] w fun e w' => (∃ a dap, e = .returned (.slice a n dap) ∧ Nums w' a n (fun t => f (i * n + t))) ∧ Below w.heap.size w w' := by
  have h36 : n * n ≤ 36 := Nat.mul_le_mul hn hn
  have hm : (i + 1) * n ≤ n * n := Nat.mul_le_mul_right n (by omega)
  rw [Nat.succ_mul] at hm
  have lb : g < w.heap.size := World.block_lt_of_cell? w _ (hc 0 (by have := Nat.mul_pos (show 0 < n by omega) (show 0 < n by omega); omega)).1.1
  have HC := Lib.hid hc
  obtain ⟨p, hp⟩ : ∃ p, Hid (i * n = p) := ⟨_, rfl⟩
  obtain ⟨q, hq⟩ : ∃ q, Hid (i * n + n = q) := ⟨_, rfl⟩
  have hpi : (i : Int) * (n : Int) = (p : Int) := by rw [← Int.natCast_mul, hp.out]
  have hqi : ((i : Int) + 1) * (n : Int) = (q : Int) := by rw [← hq.out, Int.add_mul, Int.one_mul, Int.natCast_add, Int.natCast_mul]
  have hpq : p + n = q := by have := hp.out; have := hq.out; omega
  have hq36 : q ≤ 36 := by have := hq.out; omega
  have hqc : q ≤ cap := by have := hq.out; omega
  have HPI := Lib.hid hpi
  have HQI := Lib.hid hqi
  have hi6 : (i : Int) ≤ 6 := by omega
  have HW : Hid (IntKind.i64.wrap ((i : Int) + 1) = (i : Int) + 1) := Lib.hid (IntWalk.i64_in _ (by omega))
  have hp0 : (0 : Int) ≤ (p : Int) := by omega
  have hq0 : (0 : Int) ≤ (q : Int) := by omega
  have hi0 : (0 : Int) ≤ (i : Int) + 1 := by omega
  have hq1 : (p : Int) ≤ (q : Int) := by omega
  have hq2 : (q : Int) ≤ (cap : Int) := by omega
  clear h36 hm hc hpi hqi
  go_enter Try.func76, Try.ntmps76
  go_wp2_with fail
  have hb0 : Below w.heap.size w (w.alloc (Obj.cells #[.int .i64 n, .slice (some ⟨g, 0, none⟩) (n * n) cap] 100)) := by go_grown
  have c0 : (w.alloc (Obj.cells #[.int .i64 n, .slice (some ⟨g, 0, none⟩) (n * n) cap] 100)).cell? ⟨w.heap.size, 0, none⟩ = some (.int .i64 n) := by go_cell
  have c1 : (w.alloc (Obj.cells #[.int .i64 n, .slice (some ⟨g, 0, none⟩) (n * n) cap] 100)).cell? ⟨w.heap.size, 1, none⟩ = some (.slice (some ⟨g, 0, none⟩) (n * n) cap) := by go_cell
  have hsz : w.heap.size < (w.alloc (Obj.cells #[.int .i64 n, .slice (some ⟨g, 0, none⟩) (n * n) cap] 100)).heap.size := by simp
  generalize (w.alloc (Obj.cells #[.int .i64 n, .slice (some ⟨g, 0, none⟩) (n * n) cap] 100)) = W at *
  have V0 : ∀ w', Below W.heap.size W w' → w'.cell? ⟨w.heap.size, 0, none⟩ = some (.int .i64 n) ∧ w'.cell? ⟨w.heap.size, 1, none⟩ = some (.slice (some ⟨g, 0, none⟩) (n * n) cap) := fun w' hb => by
    rw [hb.cell (p := ⟨w.heap.size, 0, none⟩) hsz, hb.cell (p := ⟨w.heap.size, 1, none⟩) hsz]
    exact ⟨c0, c1⟩
  have G0 := Lib.hid V0
  have HB0 := Lib.hid hb0
  clear V0 hb0
  go_region_held3 (fun w' => w'.cell? ⟨w.heap.size, 0, none⟩ = some (.int .i64 n) ∧ w'.cell? ⟨w.heap.size, 1, none⟩ = some (.slice (some ⟨g, 0, none⟩) (n * n) cap))
    ((first | (refine G0.out _ ?_; go_grown; done) | go_keep))
    ((go_at_call 93; refine (at_x n _ _ ?_ ?_).mono ?_; (focus (first | (rw [HPI.out]; omega) | (rw [HQI.out]; omega) | (rw [HW.out, HQI.out]; omega))); (focus (first | (rw [HPI.out]; omega) | (rw [HQI.out]; omega) | (rw [HW.out, HQI.out]; omega))); rintro e wA ⟨rfl, hb⟩; (first | rw [HPI.out] | rw [HQI.out] | rw [HW.out, HQI.out]); have HD : Below W.heap.size W wA := (Below.trans (by first | exact Below.refl _ _ | go_grown) (hb.mono (by first | omega | (simp; done) | (simp; omega)))); have hzA := HD.size; have DA := HB0.out.trans (HD.mono (show w.heap.size ≤ W.heap.size by omega)); clear hb))
  all_goals go_wp2_with fail
  all_goals go_returns
  all_goals
    have hqp : q - p = n := by omega
    refine ⟨⟨some ⟨g, p * 5, none⟩, ⟨cap - p, ?_⟩, fun _ => ⟨g, p * 5, rfl, fun t ht => ?_⟩⟩, by assumption⟩
    · show Ending.returned (.slice (some ⟨g, p * 5, none⟩) (q - p) (cap - p)) = _
      rw [hqp]
    · have h1 := (HC.out (i * n + t) (by have h2 : (i + 1) * n ≤ n * n := Nat.mul_le_mul_right n (by omega)
                                         rw [Nat.succ_mul] at h2; omega)).1
      rw [hp.out] at h1
      rw [hp.out, ← Nat.add_mul]
      exact h1.keep (by assumption) lb
end Go.Proofs.Ythbbknpkoaobmaa

namespace Go.Proofs.Ythbbknpkoaobmaa
open Go.RowKit Amp
attribute [local go_sem] ix0 ix1 ix2 ix3 jx0 jx1 jx2 jx3
attribute [local go_sem high] run_eqNum run_neNum
theorem far_cell {w w' : World} {row : Option Nat} (hg : w.grownBy w' row) {a : Addr} {v : Value} (h : w.cell? a = some v) (hne : some a.block ≠ row) : w'.cell? a = some v := (hg.cell_far a (World.block_lt_of_cell? w _ h) hne).trans h

set_option maxRecDepth 100000 in
set_option maxHeartbeats 4000000 in
theorem column_any (n j g cap : Nat) (f : Nat → Nm) (w : World) (hn : n ≤ 6) (hj : j < n) (hc : Numw w g (n * n) f) :
    Calls Try.prog 99 #[.agg #[.int .i64 n, .slice (some ⟨g, 0, none⟩) (n * n) cap], .int .i64 j] w fun e w' => (∃ bo dap, e = .returned (.slice bo n dap) ∧ Nums w' bo n (fun i => f (i * n + j))) ∧ Below w.heap.size w w' := by
  have HC := Lib.hid hc
  have lb : g < w.heap.size := World.block_lt_of_cell? w _ (hc 0 (by have := Nat.mul_pos (show 0 < n by omega) (show 0 < n by omega); omega)).1.1
  clear hc
  obtain ⟨i0, hi, hz0, hz1, hz2⟩ := info_parts infoNum
  have HI := Lib.hid (And.intro hi (And.intro hz0 (And.intro hz1 hz2)))
  clear hi hz0 hz1 hz2
  have hn' : (n : Int) ≤ 6 := by omega
  go_enter Try.func99, Try.ntmps99
  go_wp2_with fail
  obtain ⟨FF, hFF⟩ : ∃ FF : Nat → Nm, Hid (FF = fun i => f (i * n + j)) := ⟨_, rfl⟩
  go_loopw [5, 6, 10] (fun lv _ iv wr => ∃ (i : Nat), iv = .int .i64 i ∧ i ≤ n ∧ wr.ownsRow (w.heap.size + 1) 55 5 lv i (rowsOf FF i) ∧ Below (w.heap.size + 1) (w.alloc (.cells #[.int .i64 n, .slice (some ⟨g, 0, none⟩) (n * n) cap] 100)) wr) (fun _ _ iv _ => n - (intOf iv).toNat)
  case atStart => exact ⟨0, rfl, by omega, World.ownsRow_nil _ _ _ _, Below.refl _ _⟩
  case round =>
    obtain ⟨i, rfl, hi, hown, hbel⟩ := hrel
    have hsz := hbel.size
    have hz0 : w.heap.size < wr.heap.size := by simp at hsz; omega
    have m0 : wr.cell? ⟨w.heap.size, 0, none⟩ = some (.int .i64 n) := (hbel.cell (p := ⟨w.heap.size, 0, none⟩) (by simp)).trans (by go_cell)
    have m1 : wr.cell? ⟨w.heap.size, 1, none⟩ = some (.slice (some ⟨g, 0, none⟩) (n * n) cap) := (hbel.cell (p := ⟨w.heap.size, 1, none⟩) (by simp)).trans (by go_cell)
    by_cases hlt : i < n
    · have hlt' : (i : Int) < (n : Int) := by omega
      have hm : i * n + j < n * n := by
        have h1 : (i + 1) * n ≤ n * n := Nat.mul_le_mul_right n (by omega)
        rw [Nat.succ_mul] at h1
        omega
      have h36 : n * n ≤ 36 := Nat.mul_le_mul hn hn
      obtain ⟨m, hme⟩ : ∃ m, Hid (i * n + j = m) := ⟨_, rfl⟩
      have hm' : m < n * n := by rw [← hme.out]; exact hm
      have hmi2 : (m : Int) < (n : Int) * (n : Int) := by rw [← Int.natCast_mul]; omega
      have hmi3 : (m : Int) < (n * n : Nat) := by omega
      have hm0 : (0 : Int) ≤ (m : Int) := by omega
      obtain ⟨x0, x1, x2, x3, x4, xe, HM⟩ := res5 (f m, 0)
      have HZ : Hid (FF i = ⟨⟨x0, x1, x2, x3⟩, x4⟩) := Lib.hid (by rw [hFF.out]; show f (i * n + j) = _; rw [hme.out]; exact congrArg Prod.fst HM.out)
      have hz := (HC.out m hm').1
      rw [show f m = ⟨⟨x0, x1, x2, x3⟩, x4⟩ from congrArg Prod.fst HM.out] at hz
      have HB0 := below_base hbel ((Below.refl _ _).alloc (Nat.le_refl _) _)
      have hz' := hz.keep HB0 lb
      obtain ⟨c0, c1, c2, c3, c4⟩ := hz'
      have lb' : g < wr.heap.size := Nat.lt_trans lb hz0
      have V0 : ∀ w', Below wr.heap.size wr w' → w'.cell? ⟨w.heap.size, 0, none⟩ = some (.int .i64 n) ∧ w'.cell? ⟨w.heap.size, 1, none⟩ = some (.slice (some ⟨g, 0, none⟩) (n * n) cap) ∧ w'.cell? ⟨g, m * 5, none⟩ = some (.int .i64 x0) ∧ w'.cell? ⟨g, m * 5 + 1, none⟩ = some (.int .i64 x1) ∧ w'.cell? ⟨g, m * 5 + 2, none⟩ = some (.int .i64 x2) ∧ w'.cell? ⟨g, m * 5 + 3, none⟩ = some (.int .i64 x3) ∧ w'.cell? ⟨g, m * 5 + 4, none⟩ = some (.int .i64 x4) := fun w' hb => by
        have e1 := fun o' => hb.cell (p := ⟨w.heap.size, o', none⟩) hz0
        have e2 := fun o' => hb.cell (p := ⟨g, o', none⟩) lb'
        rw [e1, e1, e2, e2, e2, e2, e2]
        exact ⟨m0, m1, c0, c1, c2, c3, c4⟩
      have G0 := Lib.hid V0
      have HNE : Hid (∀ k, k ≤ w.heap.size → some k ≠ Value.ownBlock u5) := Lib.hid (fun k hk h => by have := (hown.lt k h.symm).1; omega)
      have HOW := Lib.hid hown
      have HB := Lib.hid hbel
      have HJ : Hid (j ≤ n ∧ i ≤ n) := Lib.hid ⟨by omega, by omega⟩
      clear V0 hown hbel HM hz HB0 hm h36
      go_wp2_with fail
      go_region_held3 (fun w' => w'.cell? ⟨w.heap.size, 0, none⟩ = some (.int .i64 n) ∧ w'.cell? ⟨w.heap.size, 1, none⟩ = some (.slice (some ⟨g, 0, none⟩) (n * n) cap) ∧ w'.cell? ⟨g, m * 5, none⟩ = some (.int .i64 x0) ∧ w'.cell? ⟨g, m * 5 + 1, none⟩ = some (.int .i64 x1) ∧ w'.cell? ⟨g, m * 5 + 2, none⟩ = some (.int .i64 x2) ∧ w'.cell? ⟨g, m * 5 + 3, none⟩ = some (.int .i64 x3) ∧ w'.cell? ⟨g, m * 5 + 4, none⟩ = some (.int .i64 x4))
        ((first | (refine G0.out _ ?_; go_grown; done) | (refine ⟨far_cell hgrow ?_ (HNE.out _ (Nat.le_refl _)), far_cell hgrow ?_ (HNE.out _ (Nat.le_refl _)), far_cell hgrow ?_ (HNE.out _ (Nat.le_of_lt lb)), far_cell hgrow ?_ (HNE.out _ (Nat.le_of_lt lb)), far_cell hgrow ?_ (HNE.out _ (Nat.le_of_lt lb)), far_cell hgrow ?_ (HNE.out _ (Nat.le_of_lt lb)), far_cell hgrow ?_ (HNE.out _ (Nat.le_of_lt lb))⟩ <;> go_cell)))
        ((first | (go_at_call 93; refine (at_any _ _ _ _ hn HJ.out.2 HJ.out.1).mono ?_; rintro e wA ⟨rfl, hb⟩; rw [hme.out]; have HD : Below wr.heap.size wr wA := (Below.trans (by first | exact Below.refl _ _ | go_grown) (hb.mono (by first | omega | (simp; done) | (simp; omega)))); have hzA := HD.size; have HOA := Lib.hid (own_below HOW.out HD); clear hb) | (refine step_append_lies _ (by rfl) _ _ 23 (by rfl) (w.heap.size + 1) 55 i0 _ 5 40 Try.underlying23 HI.out.1 HI.out.2.1 HI.out.2.2.1 HI.out.2.2.2 (by rfl) (by decide) _ i (rowsOf FF i) (by rfl) ((HOA.out.alloc _).drew) ⟨wA.heap.size, 0, none⟩ 1 1 (cellsOf ⟨⟨x0, x1, x2, x3⟩, x4⟩) (by rfl) (by rfl) (World.news_of_block (cs := #[.int .i64 x0, .int .i64 x1, .int .i64 x2, .int .i64 x3, .int .i64 x4]) (t := 55) (fr := (0, 0)) (heap_alloc_new wA _)) (cellsOf_one _) (by omega) (by unfold maxLen; omega) (by omega) (by simp; omega) (wA.heap.size + 1) (by simp) ?_; intro gg cap' w3 hown' hgrow hat hlt)))
      all_goals
        have hrow : rowsOf FF i ++ cellsOf ⟨⟨x0, x1, x2, x3⟩, x4⟩ = rowsOf FF (i + 1) := by
          rw [rowsOf, HZ.out]
        rw [hrow] at hown'
        have hlt2 := HOW.out.lt
        have DB := HB.out.trans (HD.mono (show w.heap.size + 1 ≤ wr.heap.size by omega))
        have HB3 : Below (w.heap.size + 1) (w.alloc (.cells #[.int .i64 n, .slice (some ⟨g, 0, none⟩) (n * n) cap] 100)) w3 :=
          Below.grown (by go_grown) hgrow (by first | omega | (simp; done) | (simp; omega)) (fun k hk => (hlt2 k hk).1)
        have HO3 := Lib.hid hown'
        have HB4 := Lib.hid HB3
        clear hown' hgrow HB3 hrow hlt2 DB HD
        go_wp2_with fail
        go_roundw
        case rel => exact ⟨i + 1, by go_num, by omega, HO3.out, HB4.out⟩
        case measure => simp [intOf]; omega
    · obtain rfl : i = n := by omega
      obtain ⟨bo, dap, rfl, hnu⟩ := Nums.of_own hown
      have HN := Lib.hid hnu
      have HB := Lib.hid (below_base hbel ((Below.refl _ _).alloc (Nat.le_refl _) _))
      clear hown hbel hnu
      go_wp2_with fail
      go_returns
      refine ⟨⟨bo, dap, rfl, ?_⟩, HB.out⟩
      have h1 := HN.out
      rw [hFF.out] at h1
      exact h1
end Go.Proofs.Ythbbknpkoaobmaa

namespace Go.Proofs.Ythbbknpkoaobmaa
open Go.RowKit Amp
attribute [local go_sem] ix0 ix1 ix2 ix3 jx0 jx1 jx2 jx3
attribute [local go_sem high] run_eqNum run_neNum
theorem nums_keep' {w w1 : World} {ao : Option Addr} {n : Nat} {f : Nat → Nm} (hb : Below w.heap.size w w1) (h : Nums w ao n f) : Nums w1 ao n f := h.keep hb

set_option maxRecDepth 100000 in
set_option maxHeartbeats 4000000 in
theorem pairProduct_any (n i j g cap h dap : Nat) (x y : Nat → Nm) (w : World) (hn : n ≤ 6) (hi : i < n) (hj : j < n) (hcap : n * n ≤ cap) (hcm : cap ≤ 9223372036854775807) (hx : Numw w g (n * n) x) (hy : Numw w h (n * n) y) :
    Calls Try.prog 87 #[.agg #[.int .i64 n, .slice (some ⟨g, 0, none⟩) (n * n) cap, .int .i64 n, .slice (some ⟨h, 0, none⟩) (n * n) dap], .int .i64 i, .int .i64 j] w fun e w' => e = Ret5 (dotS (fun t => x (i * n + t)) (fun t => y (t * n + j)) n) ∧ Below w.heap.size w w' := by
  have HX := Lib.hid hx
  have HY := Lib.hid hy
  have HC1 := Lib.hid hcap
  clear hx hy hcap
  obtain ⟨x0, x1, x2, x3, x4, xe, HM⟩ := res5 (dotS (fun t => x (i * n + t)) (fun t => y (t * n + j)) n)
  go_enter Try.func87, Try.ntmps87
  go_wp2_with fail
  have hb0 : Below w.heap.size w ((w.alloc (Obj.cells #[.int .i64 n, .slice (some ⟨g, 0, none⟩) (n * n) cap, .int .i64 n, .slice (some ⟨h, 0, none⟩) (n * n) dap] 119)).alloc (Obj.cells #[.int .i64 0, .int .i64 0, .int .i64 0, .int .i64 0, .int .i64 0] 55)) := by go_grown
  have hs0 : ((w.alloc (Obj.cells #[.int .i64 n, .slice (some ⟨g, 0, none⟩) (n * n) cap, .int .i64 n, .slice (some ⟨h, 0, none⟩) (n * n) dap] 119)).alloc (Obj.cells #[.int .i64 0, .int .i64 0, .int .i64 0, .int .i64 0, .int .i64 0] 55)).cell? ⟨w.heap.size, 0, none⟩ = some (.int .i64 n) ∧ ((w.alloc (Obj.cells #[.int .i64 n, .slice (some ⟨g, 0, none⟩) (n * n) cap, .int .i64 n, .slice (some ⟨h, 0, none⟩) (n * n) dap] 119)).alloc (Obj.cells #[.int .i64 0, .int .i64 0, .int .i64 0, .int .i64 0, .int .i64 0] 55)).cell? ⟨w.heap.size, 1, none⟩ = some (.slice (some ⟨g, 0, none⟩) (n * n) cap) ∧ ((w.alloc (Obj.cells #[.int .i64 n, .slice (some ⟨g, 0, none⟩) (n * n) cap, .int .i64 n, .slice (some ⟨h, 0, none⟩) (n * n) dap] 119)).alloc (Obj.cells #[.int .i64 0, .int .i64 0, .int .i64 0, .int .i64 0, .int .i64 0] 55)).cell? ⟨w.heap.size, 2, none⟩ = some (.int .i64 n) ∧ ((w.alloc (Obj.cells #[.int .i64 n, .slice (some ⟨g, 0, none⟩) (n * n) cap, .int .i64 n, .slice (some ⟨h, 0, none⟩) (n * n) dap] 119)).alloc (Obj.cells #[.int .i64 0, .int .i64 0, .int .i64 0, .int .i64 0, .int .i64 0] 55)).cell? ⟨w.heap.size, 3, none⟩ = some (.slice (some ⟨h, 0, none⟩) (n * n) dap) := ⟨by go_cell, by go_cell, by go_cell, by go_cell⟩
  have hR : Has5 ((w.alloc (Obj.cells #[.int .i64 n, .slice (some ⟨g, 0, none⟩) (n * n) cap, .int .i64 n, .slice (some ⟨h, 0, none⟩) (n * n) dap] 119)).alloc (Obj.cells #[.int .i64 0, .int .i64 0, .int .i64 0, .int .i64 0, .int .i64 0] 55)) (w.heap.size + 1) 0 0 0 0 0 := by refine ⟨⟨?_, ?_, ?_, ?_, ?_⟩, ?_, ?_, ?_, ?_, ?_⟩ <;> go_cell
  have hsz : w.heap.size + 1 < ((w.alloc (Obj.cells #[.int .i64 n, .slice (some ⟨g, 0, none⟩) (n * n) cap, .int .i64 n, .slice (some ⟨h, 0, none⟩) (n * n) dap] 119)).alloc (Obj.cells #[.int .i64 0, .int .i64 0, .int .i64 0, .int .i64 0, .int .i64 0] 55)).heap.size := by simp
  generalize ((w.alloc (Obj.cells #[.int .i64 n, .slice (some ⟨g, 0, none⟩) (n * n) cap, .int .i64 n, .slice (some ⟨h, 0, none⟩) (n * n) dap] 119)).alloc (Obj.cells #[.int .i64 0, .int .i64 0, .int .i64 0, .int .i64 0, .int .i64 0] 55)) = W at *
  have hsz0 : w.heap.size < W.heap.size := by omega
  have V0 : ∀ w', Below W.heap.size W w' → w'.cell? ⟨w.heap.size, 0, none⟩ = some (.int .i64 n) ∧ w'.cell? ⟨w.heap.size, 1, none⟩ = some (.slice (some ⟨g, 0, none⟩) (n * n) cap) ∧ w'.cell? ⟨w.heap.size, 2, none⟩ = some (.int .i64 n) ∧ w'.cell? ⟨w.heap.size, 3, none⟩ = some (.slice (some ⟨h, 0, none⟩) (n * n) dap) := fun w' hb => by
    have e1 := fun o' => hb.cell (p := ⟨w.heap.size, o', none⟩) hsz0
    rw [e1, e1, e1, e1]
    exact hs0
  have V1 : ∀ w', Below W.heap.size W w' → Has5 w' (w.heap.size + 1) 0 0 0 0 0 := fun w' hb => hR.keep hb hsz
  have G0 := Lib.hid V0
  have G1 := Lib.hid V1
  have HB0 := Lib.hid hb0
  have hr := hR
  obtain ⟨⟨r0, r1, r2, r3, r4⟩, t0, t1, t2, t3, t4⟩ := hr
  clear V0 V1 hb0 hs0 hR
  go_region_held3 (fun w' => w'.cell? ⟨w.heap.size, 0, none⟩ = some (.int .i64 n) ∧ w'.cell? ⟨w.heap.size, 1, none⟩ = some (.slice (some ⟨g, 0, none⟩) (n * n) cap) ∧ w'.cell? ⟨w.heap.size, 2, none⟩ = some (.int .i64 n) ∧ w'.cell? ⟨w.heap.size, 3, none⟩ = some (.slice (some ⟨h, 0, none⟩) (n * n) dap))
    ((first | (refine G0.out _ ?_; go_grown; done) | go_keep))
    ((first
      | (go_at_call 76; refine (row_any n i g cap x _ hn hi HC1.out hcm ?_).mono ?_; (focus (refine HX.out.keep (Below.trans HB0.out ?_); refine Below.mono ?_ (show w.heap.size ≤ W.heap.size by omega); go_grown)); rintro e wA ⟨⟨ra, rd, rfl, hra⟩, hb⟩; have HD : Below W.heap.size W wA := (Below.trans (by first | exact Below.refl _ _ | go_grown) (hb.mono (by first | omega | (simp; done) | (simp; omega)))); have hzA := HD.size; have DA := HB0.out.trans (HD.mono (show w.heap.size ≤ W.heap.size by omega)); obtain ⟨⟨_, _, _, _, _⟩, _, _, _, _, _⟩ := G1.out _ HD; have HRA := Lib.hid hra; (try have HCB := Lib.hid (nums_keep' hb HCB.out)); clear hb hra)
      | (go_at_call 99; refine (column_any n j h dap y _ hn hj ?_).mono ?_; (focus (refine HY.out.keep (Below.trans HB0.out ?_); refine Below.mono ?_ (show w.heap.size ≤ W.heap.size by omega); go_grown)); rintro e wB ⟨⟨ca, cd, rfl, hca⟩, hb⟩; have HD : Below W.heap.size W wB := (Below.trans (by first | exact Below.refl _ _ | go_grown) (hb.mono (by first | omega | (simp; done) | (simp; omega)))); have hzA := HD.size; have DA := HB0.out.trans (HD.mono (show w.heap.size ≤ W.heap.size by omega)); obtain ⟨⟨_, _, _, _, _⟩, _, _, _, _, _⟩ := G1.out _ HD; have HCB := Lib.hid hca; (try have HRA := Lib.hid (nums_keep' hb HRA.out)); clear hb hca)
      | (go_at_call 75; refine (dot_any n _ _ _ _ (fun t => x (i * n + t)) (fun t => y (t * n + j)) _ hn ?_ ?_).mono ?_; (focus (exact HRA.out)); (focus (exact HCB.out)); rintro e wC ⟨rfl, hb⟩; rw [HM.out]; unfold Ret5; (try simp only); have HD : Below W.heap.size W wC := (Below.trans (by first | exact Below.refl _ _ | go_grown) (hb.mono (by first | omega | (simp; done) | (simp; omega)))); have hzA := HD.size; have DA := HB0.out.trans (HD.mono (show w.heap.size ≤ W.heap.size by omega)); obtain ⟨⟨_, _, _, _, _⟩, _, _, _, _, _⟩ := G1.out _ HD; have lC : w.heap.size + 1 < wC.heap.size := (by omega); clear hb)))
  all_goals go_wp2_with fail
  all_goals (refine bodyPost_ret (v := .tuple #[.agg #[.int .i64 x0, .int .i64 x1, .int .i64 x2, .int .i64 x3, .int .i64 x4], .int .i64 xe]) (by simp [results, Try.results87, go_sem, *]) rfl ⟨by rw [HM.out]; rfl, by go_grown⟩)
end Go.Proofs.Ythbbknpkoaobmaa

namespace Go.Proofs.Ythbbknpkoaobmaa
open Go.RowKit Amp
attribute [local go_sem] ix0 ix1 ix2 ix3 jx0 jx1 jx2 jx3
attribute [local go_sem high] run_eqNum run_neNum

set_option maxHeartbeats 2000000 in
theorem readBoth_yes (n : Nat) (ao bo : Option Addr) (cap dap : Nat) (x y : Nat → Nm) (w : World) (hn : n ≤ 6) (hx : Nums w ao (n * n) x) (hy : Nums w bo (n * n) y) (hv : Hid (mvS n (n * n) x = true)) (hu : Hid (mvS n (n * n) y = true)) :
    Calls Try.prog 98 #[.agg #[.int .i64 n, .slice ao (n * n) cap], .agg #[.int .i64 n, .slice bo (n * n) dap]] w fun e w' => e = .returned (.tuple #[.agg #[.int .i64 n, .slice ao (n * n) cap, .int .i64 n, .slice bo (n * n) dap], .int .i64 0]) ∧ Below w.heap.size w w' := by
  have h36 : n * n ≤ 36 := Nat.mul_le_mul hn hn
  have hbig : n * n ≤ 9223372036854775807 := by omega
  have HX := Lib.hid hx
  have HY := Lib.hid hy
  have HBG := Lib.hid hbig
  clear hx hy h36 hbig
  go_enter Try.func98, Try.ntmps98
  go_wp2_with fail
  refine (read_yes n ao (n * n) cap x _ HBG.out (HX.out.keep (by go_grown)) hv).mono ?_
  rintro e w1 ⟨rfl, hb⟩
  obtain ⟨ka1, kb1⟩ := bcell hb
  have c1_0_0 : w1.cell? ⟨w.heap.size + 1, 0, none⟩ = some (.int .i64 n) := (ka1 _ _ (by first | omega | (simp; done) | (simp; omega))).trans (by go_cell)
  have c1_0_1 : w1.cell? ⟨w.heap.size + 1, 1, none⟩ = some (.slice bo (n * n) dap) := (ka1 _ _ (by first | omega | (simp; done) | (simp; omega))).trans (by go_cell)
  have c1_1_0 : w1.cell? ⟨w.heap.size + 1 + 1, 0, none⟩ = some (.int .i64 0) := (ka1 _ _ (by first | omega | (simp; done) | (simp; omega))).trans (by go_cell)
  have f1_1_0 : w1.frozen? ⟨w.heap.size + 1 + 1, 0, none⟩ = false := (kb1 _ _ (by first | omega | (simp; done) | (simp; omega))).trans (by go_cell)
  have c1_1_1 : w1.cell? ⟨w.heap.size + 1 + 1, 1, none⟩ = some (.slice none 0 0) := (ka1 _ _ (by first | omega | (simp; done) | (simp; omega))).trans (by go_cell)
  have f1_1_1 : w1.frozen? ⟨w.heap.size + 1 + 1, 1, none⟩ = false := (kb1 _ _ (by first | omega | (simp; done) | (simp; omega))).trans (by go_cell)
  have c1_1_2 : w1.cell? ⟨w.heap.size + 1 + 1, 2, none⟩ = some (.int .i64 0) := (ka1 _ _ (by first | omega | (simp; done) | (simp; omega))).trans (by go_cell)
  have f1_1_2 : w1.frozen? ⟨w.heap.size + 1 + 1, 2, none⟩ = false := (kb1 _ _ (by first | omega | (simp; done) | (simp; omega))).trans (by go_cell)
  have c1_1_3 : w1.cell? ⟨w.heap.size + 1 + 1, 3, none⟩ = some (.slice none 0 0) := (ka1 _ _ (by first | omega | (simp; done) | (simp; omega))).trans (by go_cell)
  have f1_1_3 : w1.frozen? ⟨w.heap.size + 1 + 1, 3, none⟩ = false := (kb1 _ _ (by first | omega | (simp; done) | (simp; omega))).trans (by go_cell)
  have D1 : Below w.heap.size w w1 := Below.trans (by go_grown) (hb.mono (by first | omega | (simp; done) | (simp; omega)))
  have s1_0 : w.heap.size + 1 < w1.heap.size := by have hs := hb.size; (try simp at hs); omega
  have s1_1 : w.heap.size + 1 + 1 < w1.heap.size := by have hs := hb.size; (try simp at hs); omega
  clear hb ka1 kb1
  go_wp2_with fail
  refine (read_yes n bo (n * n) dap y _ HBG.out (HY.out.keep (by go_grown)) hu).mono ?_
  rintro e w2 ⟨rfl, hb⟩
  obtain ⟨ka2, kb2⟩ := bcell hb
  have c2_0_0 : w2.cell? ⟨w1.heap.size, 0, none⟩ = some (.int .i64 n) := (ka2 _ _ (by first | omega | (simp; done) | (simp; omega))).trans (by go_cell)
  have c2_0_1 : w2.cell? ⟨w1.heap.size, 1, none⟩ = some (.slice ao (n * n) cap) := (ka2 _ _ (by first | omega | (simp; done) | (simp; omega))).trans (by go_cell)
  have c2_1_0 : w2.cell? ⟨w.heap.size + 1 + 1, 0, none⟩ = some (.int .i64 0) := (ka2 _ _ (by first | omega | (simp; done) | (simp; omega))).trans (by go_cell)
  have f2_1_0 : w2.frozen? ⟨w.heap.size + 1 + 1, 0, none⟩ = false := (kb2 _ _ (by first | omega | (simp; done) | (simp; omega))).trans (by go_cell)
  have c2_1_1 : w2.cell? ⟨w.heap.size + 1 + 1, 1, none⟩ = some (.slice none 0 0) := (ka2 _ _ (by first | omega | (simp; done) | (simp; omega))).trans (by go_cell)
  have f2_1_1 : w2.frozen? ⟨w.heap.size + 1 + 1, 1, none⟩ = false := (kb2 _ _ (by first | omega | (simp; done) | (simp; omega))).trans (by go_cell)
  have c2_1_2 : w2.cell? ⟨w.heap.size + 1 + 1, 2, none⟩ = some (.int .i64 0) := (ka2 _ _ (by first | omega | (simp; done) | (simp; omega))).trans (by go_cell)
  have f2_1_2 : w2.frozen? ⟨w.heap.size + 1 + 1, 2, none⟩ = false := (kb2 _ _ (by first | omega | (simp; done) | (simp; omega))).trans (by go_cell)
  have c2_1_3 : w2.cell? ⟨w.heap.size + 1 + 1, 3, none⟩ = some (.slice none 0 0) := (ka2 _ _ (by first | omega | (simp; done) | (simp; omega))).trans (by go_cell)
  have f2_1_3 : w2.frozen? ⟨w.heap.size + 1 + 1, 3, none⟩ = false := (kb2 _ _ (by first | omega | (simp; done) | (simp; omega))).trans (by go_cell)
  have D2 : Below w.heap.size w w2 := Below.trans (by go_grown) (hb.mono (by first | omega | (simp; done) | (simp; omega)))
  have s2_0 : w1.heap.size < w2.heap.size := by have hs := hb.size; (try simp at hs); omega
  have s2_1 : w.heap.size + 1 + 1 < w2.heap.size := by have hs := hb.size; (try simp at hs); omega
  clear hb ka2 kb2
  clear D1 c1_0_0 c1_0_1 c1_1_0 f1_1_0 c1_1_1 f1_1_1 c1_1_2 f1_1_2 c1_1_3 f1_1_3
  go_wp2_with fail
  refine bodyPost_ret (v := .tuple #[.agg #[.int .i64 n, .slice ao (n * n) cap, .int .i64 n, .slice bo (n * n) dap], .int .i64 0]) (by simp [results, Try.results98, go_sem, *]) rfl ⟨rfl, by go_grown⟩

set_option maxHeartbeats 2000000 in
theorem readEqual_yes (n : Nat) (ao bo : Option Addr) (cap dap : Nat) (x y : Nat → Nm) (w : World) (hn : n ≤ 6) (hx : Nums w ao (n * n) x) (hy : Nums w bo (n * n) y) (hv : Hid (mvS n (n * n) x = true)) (hu : Hid (mvS n (n * n) y = true)) :
    Calls Try.prog 86 #[.agg #[.int .i64 n, .slice ao (n * n) cap], .agg #[.int .i64 n, .slice bo (n * n) dap]] w fun e w' => e = .returned (.tuple #[.agg #[.int .i64 n, .slice ao (n * n) cap, .int .i64 n, .slice bo (n * n) dap], .int .i64 0]) ∧ Below w.heap.size w w' := by
  have HX := Lib.hid hx
  have HY := Lib.hid hy
  clear hx hy
  go_enter Try.func86, Try.ntmps86
  go_wp2_with fail
  refine (readBoth_yes n ao bo cap dap x y _ hn (HX.out.keep (by go_grown)) (HY.out.keep (by go_grown)) hv hu).mono ?_
  rintro e w1 ⟨rfl, hb⟩
  obtain ⟨ka3, kb3⟩ := bcell hb
  have c3_0_0 : w1.cell? ⟨w.heap.size + 1 + 1, 0, none⟩ = some (.int .i64 0) := (ka3 _ _ (by first | omega | (simp; done) | (simp; omega))).trans (by go_cell)
  have f3_0_0 : w1.frozen? ⟨w.heap.size + 1 + 1, 0, none⟩ = false := (kb3 _ _ (by first | omega | (simp; done) | (simp; omega))).trans (by go_cell)
  have c3_0_1 : w1.cell? ⟨w.heap.size + 1 + 1, 1, none⟩ = some (.slice none 0 0) := (ka3 _ _ (by first | omega | (simp; done) | (simp; omega))).trans (by go_cell)
  have f3_0_1 : w1.frozen? ⟨w.heap.size + 1 + 1, 1, none⟩ = false := (kb3 _ _ (by first | omega | (simp; done) | (simp; omega))).trans (by go_cell)
  have c3_0_2 : w1.cell? ⟨w.heap.size + 1 + 1, 2, none⟩ = some (.int .i64 0) := (ka3 _ _ (by first | omega | (simp; done) | (simp; omega))).trans (by go_cell)
  have f3_0_2 : w1.frozen? ⟨w.heap.size + 1 + 1, 2, none⟩ = false := (kb3 _ _ (by first | omega | (simp; done) | (simp; omega))).trans (by go_cell)
  have c3_0_3 : w1.cell? ⟨w.heap.size + 1 + 1, 3, none⟩ = some (.slice none 0 0) := (ka3 _ _ (by first | omega | (simp; done) | (simp; omega))).trans (by go_cell)
  have f3_0_3 : w1.frozen? ⟨w.heap.size + 1 + 1, 3, none⟩ = false := (kb3 _ _ (by first | omega | (simp; done) | (simp; omega))).trans (by go_cell)
  have D3 : Below w.heap.size w w1 := Below.trans (by go_grown) (hb.mono (by first | omega | (simp; done) | (simp; omega)))
  have s3_0 : w.heap.size + 1 + 1 < w1.heap.size := by have hs := hb.size; (try simp at hs); omega
  clear hb ka3 kb3
  go_wp2_with fail
  refine bodyPost_ret (v := .tuple #[.agg #[.int .i64 n, .slice ao (n * n) cap, .int .i64 n, .slice bo (n * n) dap], .int .i64 0]) (by simp [results, Try.results86, go_sem, *]) rfl ⟨rfl, by go_grown⟩

/-- The product of two matrices of n rows. -/
def mulZ (n : Nat) (x y : Nat → Nm) (i j : Nat) : Nm × Int := dotS (fun t => x (i * n + t)) (fun t => y (t * n + j)) n
def mulF (n : Nat) (x y : Nat → Nm) : Nat → Nm := fun k => (mulZ n x y (k / n) (k % n)).1
def mulE (n : Nat) (x y : Nat → Nm) : Int := fstE (fun k => (mulZ n x y (k / n) (k % n)).2) (n * n)
set_option maxHeartbeats 4000000 in
theorem mMul_yes (n g h cap dap : Nat) (x y : Nat → Nm) (w : World) (h1 : 0 < n) (hn : n ≤ 6) (hcap : n * n ≤ cap) (hcm : cap ≤ 9223372036854775807) (hx : Numw w g (n * n) x) (hy : Numw w h (n * n) y) (hv : Hid (mvS n (n * n) x = true)) (hu : Hid (mvS n (n * n) y = true)) :
    Calls Try.prog 68 #[.agg #[.int .i64 n, .slice (some ⟨g, 0, none⟩) (n * n) cap], .agg #[.int .i64 n, .slice (some ⟨h, 0, none⟩) (n * n) dap]] w fun e w' => MatWOr w.heap.size w' e n (mulF n x y) (mulE n x y) ∧ Below w.heap.size w w' := by
  have HX := Lib.hid hx
  have HY := Lib.hid hy
  have HC1 := Lib.hid hcap
  clear hx hy hcap
  go_enter Try.func68, Try.ntmps68
  go_wp2_with fail
  refine (readEqual_yes n (some ⟨g, 0, none⟩) (some ⟨h, 0, none⟩) cap dap x y _ hn (HX.out.nums.keep (by go_grown)) (HY.out.nums.keep (by go_grown)) hv hu).mono ?_
  rintro e w1 ⟨rfl, hb⟩
  obtain ⟨ka4, kb4⟩ := bcell hb
  have c4_0_0 : w1.cell? ⟨w.heap.size + 1 + 1, 0, none⟩ = some (.int .i64 0) := (ka4 _ _ (by first | omega | (simp; done) | (simp; omega))).trans (by go_cell)
  have f4_0_0 : w1.frozen? ⟨w.heap.size + 1 + 1, 0, none⟩ = false := (kb4 _ _ (by first | omega | (simp; done) | (simp; omega))).trans (by go_cell)
  have c4_0_1 : w1.cell? ⟨w.heap.size + 1 + 1, 1, none⟩ = some (.slice none 0 0) := (ka4 _ _ (by first | omega | (simp; done) | (simp; omega))).trans (by go_cell)
  have f4_0_1 : w1.frozen? ⟨w.heap.size + 1 + 1, 1, none⟩ = false := (kb4 _ _ (by first | omega | (simp; done) | (simp; omega))).trans (by go_cell)
  have D4 : Below w.heap.size w w1 := Below.trans (by go_grown) (hb.mono (by first | omega | (simp; done) | (simp; omega)))
  have s4_0 : w.heap.size + 1 + 1 < w1.heap.size := by have hs := hb.size; (try simp at hs); omega
  clear hb ka4 kb4
  go_wp2_with fail
  refine (filledW_product n h1 hn (.agg #[.int .i64 n, .slice (some ⟨g, 0, none⟩) (n * n) cap, .int .i64 n, .slice (some ⟨h, 0, none⟩) (n * n) dap]) (mulZ n x y) _ (fun i j w2 hi hj hw2 => pairProduct_any n i j g cap h dap x y w2 hn hi hj HC1.out hcm (HX.out.keep ((show Below w.heap.size w _ by go_grown).trans (hw2.mono (by first | omega | (simp; done) | (simp; omega))))) (HY.out.keep ((show Below w.heap.size w _ by go_grown).trans (hw2.mono (by first | omega | (simp; done) | (simp; omega))))))).mono ?_
  rintro e w2 ⟨hm, hb⟩
  have HM := Lib.hid hm
  clear hm
  obtain ⟨ka5, kb5⟩ := bcell hb
  have c5_0_0 : w2.cell? ⟨w.heap.size + 1 + 1, 0, none⟩ = some (.int .i64 0) := (ka5 _ _ (by first | omega | (simp; done) | (simp; omega))).trans (by go_cell)
  have f5_0_0 : w2.frozen? ⟨w.heap.size + 1 + 1, 0, none⟩ = false := (kb5 _ _ (by first | omega | (simp; done) | (simp; omega))).trans (by go_cell)
  have c5_0_1 : w2.cell? ⟨w.heap.size + 1 + 1, 1, none⟩ = some (.slice none 0 0) := (ka5 _ _ (by first | omega | (simp; done) | (simp; omega))).trans (by go_cell)
  have f5_0_1 : w2.frozen? ⟨w.heap.size + 1 + 1, 1, none⟩ = false := (kb5 _ _ (by first | omega | (simp; done) | (simp; omega))).trans (by go_cell)
  have D5 : Below w.heap.size w w2 := Below.trans (by go_grown) (hb.mono (by first | omega | (simp; done) | (simp; omega)))
  have s5_0 : w.heap.size + 1 + 1 < w2.heap.size := by have hs := hb.size; (try simp at hs); omega
  clear hb ka5 kb5
  clear D4 c4_0_0 f4_0_0 c4_0_1 f4_0_1
  rcases HM.out with ⟨he, gg, gap, rfl, hnu, hg1, hg2, hg3⟩ | ⟨he, rfl⟩
  · have HN := Lib.hid hnu
    have HG := Lib.hid (And.intro hg2 hg3)
    have hg4 : ¬ w.heap.size + 1 + 1 = gg := by first | omega | (simp at hg1; omega)
    have hg5 : w.heap.size ≤ gg := by first | omega | (simp at hg1; omega)
    have HG5 := Lib.hid (And.intro hg4 hg5)
    clear hnu hg1 hg2 hg3 hg4 hg5
    go_wp2_with fail
    refine bodyPost_ret (v := .tuple #[.agg #[.int .i64 n, .slice (some ⟨gg, 0, none⟩) (n * n) gap], .int .i64 0]) (by simp [results, Try.results68, go_sem, *]) rfl ⟨.inl ⟨he, gg, gap, rfl, ?_, HG5.out.2, HG.out.1, HG.out.2⟩, by go_grown⟩
    exact (HN.out.other HG5.out.1).other HG5.out.1
  · have HE := Lib.hid he
    clear he
    go_wp2_with fail
    refine bodyPost_ret (v := .tuple #[.agg #[.int .i64 0, .slice none 0 0], .int .i64 (fstE (fun k => (mulZ n x y (k / n) (k % n)).2) (n * n))]) (by simp [results, Try.results68, go_sem, *]) rfl ⟨.inr ⟨HE.out, rfl⟩, by go_grown⟩
end Go.Proofs.Ythbbknpkoaobmaa
