import Derived.Test.YthbbknpkoaobmaaLp
import Derived.Test.YthbbknpkoaobmaaSm
import Derived.Deep.DeepCutAuto
namespace Go.Proofs.Ythbbknpkoaobmaa
open Go.RowKit Amp
attribute [local go_sem] ix0 ix1 ix2 ix3 jx0 jx1 jx2 jx3
attribute [local go_sem high] run_eqNum run_neNum

theorem rowsOf_cells {w : World} {b o n : Nat} {y : Nat → Nm} (h : ∀ i, i < n → NumAt w b (o + i * 5) (y i)) : ∀ j u, (rowsOf y n)[j]? = some u → w.cell? ((⟨b, o, none⟩ : Addr).add j) = some u := by
  intro j u hu
  have hj : j < n * 5 := by have := (List.getElem?_eq_some_iff.1 hu).1; rwa [rowsOf_len] at this
  obtain ⟨q, t, rfl, ht⟩ : ∃ q t, j = q * 5 + t ∧ t < 5 := ⟨j / 5, j % 5, by omega, by omega⟩
  obtain ⟨g0, g1, g2, g3, g4⟩ := h q (by omega)
  rw [rowsOf_get y (by omega) ht] at hu
  simp only [Addr.add_lit]
  rw [← Nat.add_assoc]
  rcases (show t = 0 ∨ t = 1 ∨ t = 2 ∨ t = 3 ∨ t = 4 by omega) with rfl | rfl | rfl | rfl | rfl <;> (simp only [cellsOf, List.getElem?_cons_zero, List.getElem?_cons_succ, Option.some.injEq] at hu; subst hu; assumption)
theorem rowsOf_one (y : Nat → Nm) (n : Nat) : ∀ u ∈ rowsOf y n, u.oneCell' = true := by
  induction n with
  | zero => intro u hu; cases hu
  | succ n ih =>
    intro u hu
    rw [rowsOf, List.mem_append] at hu
    rcases hu with hu | hu
    · exact ih u hu
    · exact cellsOf_one _ u hu
set_option maxHeartbeats 1000000 in
theorem isVector_any (ao : Option Addr) (n cap : Nat) (f : Nat → Nm) (w : World) (hn : n ≤ 9223372036854775807) (hc : Nums w ao n f) :
    Calls Try.prog 36 #[.slice ao n cap] w fun e w' => e = .returned (.bool (vecS n f)) ∧ Below w.heap.size w w' := by
  have HC := Lib.hid hc
  clear hc
  go_enter Try.func36, Try.ntmps36
  go_wp2_with fail
  go_loopw [4, 7] (fun _ i wr => ∃ k : Nat, i = .int .i64 k ∧ k ≤ n ∧ Hid (okTo f k = true) ∧ Below w.heap.size w wr) (fun _ i _ => n - (intOf i).toNat)
  case atStart => exact ⟨0, rfl, Nat.zero_le _, Lib.hid rfl, Below.refl _ _⟩
  case round =>
    obtain ⟨k, rfl, hk, HK, hbel⟩ := hrel
    have hsz := hbel.size
    by_cases hlt : k < n
    · obtain ⟨b, o, rfl, hcell⟩ := (Nums.keep HC.out hbel) (by omega)
      obtain ⟨c0, c1, c2, c3, c4⟩ := hcell k hlt
      have lb : b < wr.heap.size := World.block_lt_of_cell? wr _ c0
      have hne : ¬ wr.heap.size = b := by omega
      clear hcell
      cases hv : vld (f k)
      · have HF : Hid (vecS n f = false) := Lib.hid (by unfold vecS; rw [okTo_stop hv n hlt]; simp)
        go_wp2_with fail
        refine (rValid_any _ _ _ _ _ _).mono ?_
        rintro e w1 ⟨rfl, hb1⟩
        have hbel1 : Below w.heap.size w w1 := Below.trans (by go_grown) (hb1.mono (by first | omega | (simp; done) | (simp; omega)))
        clear hb1
        simp only [hv]
        go_wp2_with fail
        go_returns
        exact ⟨by rw [HF.out]; rfl, hbel1⟩
      · go_wp2_with fail
        refine (rValid_any _ _ _ _ _ _).mono ?_
        rintro e w1 ⟨rfl, hb1⟩
        have hbel1 : Below w.heap.size w w1 := Below.trans (by go_grown) (hb1.mono (by first | omega | (simp; done) | (simp; omega)))
        clear hb1
        have HV := Lib.hid hv
        simp only [hv]
        clear hv
        go_wp2_with fail
        go_roundw
        case rel => exact ⟨k + 1, by go_num, by omega, Lib.hid (by simp only [okTo]; rw [HK.out, HV.out]; rfl), hbel1⟩
        case measure => simp [intOf]; omega
    · obtain rfl : k = n := by omega
      by_cases g1 : 1 ≤ k
      · by_cases g6 : k ≤ 6
        · have HE : Hid (vecS k f = true) := Lib.hid (by unfold vecS; rw [HK.out, decide_eq_true ⟨g1, g6⟩]; rfl)
          have g1' : 1 ≤ (k : Int) := by omega
          have g6' : (k : Int) ≤ 6 := by omega
          go_wp2_with fail
          go_returns
          exact ⟨by rw [HE.out]; rfl, hbel⟩
        · have HE : Hid (vecS k f = false) := Lib.hid (by unfold vecS; rw [decide_eq_false (by omega)]; rfl)
          have g1' : 1 ≤ (k : Int) := by omega
          have g6' : ¬ (k : Int) ≤ 6 := by omega
          have g7 : 6 < (k : Int) := by omega
          go_wp2_with fail
          go_returns
          exact ⟨by rw [HE.out]; rfl, hbel⟩
      · have HE : Hid (vecS k f = false) := Lib.hid (by unfold vecS; rw [decide_eq_false (by omega)]; rfl)
        have g1' : ¬ 1 ≤ (k : Int) := by omega
        have g2 : (k : Int) < 1 := by omega
        go_wp2_with fail
        go_returns
        exact ⟨by rw [HE.out]; rfl, hbel⟩

set_option maxRecDepth 100000 in
set_option maxHeartbeats 4000000 in
theorem rLight_good (n len lap map' : Nat) (ao vo : Option Addr) (f : Nat → It) (y : Nat → Nm) (w : World) (h1 : 0 < n) (hn : n ≤ 6) (hlen : len ≤ 5000) (hc : Its w ao len f) (hy : Nums w vo n y) (ha : Hid (askS n len f = 0)) (hfit : Hid (fitTo n f len = true)) (hV : Hid (vecS n y = true)) :
    Calls Try.prog 18 #[.int .i64 n, .slice ao len lap, .slice vo n map'] w fun e w' => VecOr w' e n (lightS n f (y, 0) len).1 (lightS n f (y, 0) len).2 ∧ Below w.heap.size w w' := by
  have HC := Lib.hid hc
  have HY := Lib.hid hy
  obtain ⟨p, hp⟩ : ∃ p : (Nat → Nm) × Int, Hid (p = (y, 0)) := ⟨_, rfl⟩
  rw [← hp.out]
  have HP : Hid (p.2 = 0 → ∀ i, i < n → vld (p.1 i) = true) := Lib.hid (by rw [hp.out]; exact fun _ => (vecS_at hV.out).2.2)
  obtain ⟨b, o, rfl, hcy⟩ := hy h1
  have HCY := Lib.hid hcy
  obtain ⟨i0, hi, hz0, hz1, hz2⟩ := info_parts infoNum
  have HI := Lib.hid (And.intro hi (And.intro hz0 (And.intro hz1 hz2)))
  clear hi hz0 hz1 hz2 hc hcy hy
  have hn' : (n : Int) ≤ 6 := by omega
  go_enter Try.func18, Try.ntmps18
  go_wp2_with fail
  refine (asked_any n len lap ao f _ (by omega) (HC.out.keep (Below.refl _ _))).mono ?_
  rintro e w0 ⟨rfl, hb⟩
  rw [ha.out]
  have D0 := Lib.hid hb
  clear hb
  go_wp2_with fail
  refine (isVector_any _ n map' y _ (by omega) (HY.out.keep D0.out)).mono ?_
  rintro e w1 ⟨rfl, hb⟩
  rw [hV.out]
  have D1 := Lib.hid (D0.out.trans (hb.mono D0.out.size))
  have z1 := D1.out.size
  clear hb
  go_wp2_with (at_builtin; refine wpList_append_own _ rfl (.tmp 30) (.tmp 31) 23 rfl w1.heap.size 55 i0 _ 5 40 Try.underlying23 HI.out.1 HI.out.2.1 HI.out.2.2.1 HI.out.2.2.2 rfl (by decide) _ 0 [] rfl (World.ownsRow_made w1 #[] 0 (Nat.le_refl _) (by unfold maxLen; omega) rfl) ⟨b, o, none⟩ n map' (rowsOf y n) rfl ?c0 ?c1 ?c2 ?c3 ?c4 ?c5 ?_)
  case c0 => exact rowsOf_len y n
  case c1 => exact rowsOf_cells (fun i hi => (HCY.out i hi).keep (D1.out.trans ((Below.refl _ _).alloc (by omega) _)) (World.block_lt_of_cell? w _ (HCY.out i hi).1))
  case c2 => exact rowsOf_one y n
  case c3 => unfold maxLen; omega
  case c4 => omega
  case c5 => first | omega | (simp; done) | (simp; omega)
  intro v' w2 hown hgrow _
  (try simp only [Nat.zero_add, List.nil_append] at hown)
  obtain ⟨lo0, lc0, rfl, hn0⟩ := Nums.of_own hown
  have D2 : Below w.heap.size w w2 := Below.grown (D1.out.alloc (by omega) _) hgrow (by simp; omega) (fun k hk => by simp [Value.ownBlock] at hk; omega)
  have HN0 := Lib.hid hn0
  clear hown hgrow hn0
  go_wp2_with fail
  go_loopw [9, 11, 12, 13, 14, 15, 16, 35, 46] (fun lv _ _ _ _ _ _ iv _ wr => ∃ (k : Nat) (lo : Option Addr) (lc : Nat), iv = .int .i64 k ∧ lv = .slice lo n lc ∧ k ≤ len ∧ Hid ((lightS n f p k).2 = 0) ∧ Hid (Nums wr lo n (lightS n f p k).1) ∧ Below w.heap.size w wr) (fun _ _ _ _ _ _ _ iv _ _ => len - (intOf iv).toNat)
  case atStart => exact ⟨0, lo0, lc0, rfl, rfl, by omega, Lib.hid (by rw [hp.out]; rfl), by rw [hp.out]; exact HN0, D2⟩
  case round =>
    obtain ⟨k, lo, lc, rfl, rfl, hk, HER, HLN, hbel⟩ := hrel
    have hsz := hbel.size
    by_cases hlt : k < len
    · have hlt' : (k : Int) < (len : Int) := by omega
      obtain ⟨b', o', rfl, hcell⟩ := (Its.keep HC.out hbel) (by omega)
      obtain ⟨⟨kd, at', m, nm⟩, hx⟩ : ∃ x : It, f k = x := ⟨_, rfl⟩
      have hz := hcell k hlt
      have hitf := fitTo_at hfit.out hlt
      rw [hx] at hz hitf
      obtain ⟨c0, c1, c2, c3, _⟩ := hz
      simp only at c0 c1 c2 c3
      obtain ⟨hk3, hat1, hat2, hat3, hown⟩ := itF_own hitf
      have HK3 := Lib.hid hk3
      have HIT := Lib.hid (And.intro hat2 (And.intro hat3 hown))
      have HX := Lib.hid hx
      have lb : b' < wr.heap.size := World.block_lt_of_cell? wr _ c0
      have hne : ¬ wr.heap.size = b' := by omega
      clear hcell hx hitf hk3 hat1 hat2 hat3 hown
      obtain ⟨Y, hY⟩ : ∃ Y, Hid (Y = (lightS n f p k).1) := ⟨_, rfl⟩
      obtain ⟨X, hX⟩ : ∃ X, Hid (X = sprI n ⟨kd, at', m, nm⟩) := ⟨_, rfl⟩
      obtain ⟨FF, hFF⟩ : ∃ FF : Nat → Nm, Hid (FF = appF n X Y) := ⟨_, rfl⟩
      obtain ⟨EE, hEE⟩ : ∃ EE : Nat → Int, Hid (EE = appE n X Y) := ⟨_, rfl⟩
      have HST : Hid (lightS n f p (k + 1) = (FF, fstE EE n)) := Lib.hid (by rw [lightS_step HER.out, HX.out, hFF.out, hEE.out, hX.out, hY.out])
      have HRD : Hid (∀ i, i < n → rowS (fun t => X (i * n + t)) Y n = dotS (fun t => X (i * n + t)) Y n) := Lib.hid (fun i hi => rowS_dot (by omega) (fun t _ => by rw [hX.out]; exact sprI_vld _ _ _) (fun t ht => by rw [hY.out]; exact lightS_vld HP.out k HER.out t ht))
      rw [← hY.out] at HLN
      have hw0 : Below wr.heap.size wr (wr.alloc (Obj.cells #[.int .i64 kd, .int .i64 at', .int .i64 m, .string nm] 61)) := by go_grown
      have hs0 : (wr.alloc (Obj.cells #[.int .i64 kd, .int .i64 at', .int .i64 m, .string nm] 61)).cell? ⟨wr.heap.size, 0, none⟩ = some (.int .i64 kd) ∧ (wr.alloc (Obj.cells #[.int .i64 kd, .int .i64 at', .int .i64 m, .string nm] 61)).cell? ⟨wr.heap.size, 1, none⟩ = some (.int .i64 at') ∧ (wr.alloc (Obj.cells #[.int .i64 kd, .int .i64 at', .int .i64 m, .string nm] 61)).cell? ⟨wr.heap.size, 2, none⟩ = some (.int .i64 m) ∧ (wr.alloc (Obj.cells #[.int .i64 kd, .int .i64 at', .int .i64 m, .string nm] 61)).cell? ⟨wr.heap.size, 3, none⟩ = some (.string nm) := ⟨by go_cell, by go_cell, by go_cell, by go_cell⟩
      have hwsz : wr.heap.size < (wr.alloc (Obj.cells #[.int .i64 kd, .int .i64 at', .int .i64 m, .string nm] 61)).heap.size := by simp
      go_upto_region 12 with fail
      generalize (wr.alloc (Obj.cells #[.int .i64 kd, .int .i64 at', .int .i64 m, .string nm] 61)) = W at *
      have G0 : Hid (∀ w', Below W.heap.size W w' → w'.cell? ⟨wr.heap.size, 0, none⟩ = some (.int .i64 kd) ∧ w'.cell? ⟨wr.heap.size, 1, none⟩ = some (.int .i64 at') ∧ w'.cell? ⟨wr.heap.size, 2, none⟩ = some (.int .i64 m) ∧ w'.cell? ⟨wr.heap.size, 3, none⟩ = some (.string nm)) := Lib.hid (fun w' hb => by
        have e1 := fun o' => hb.cell (p := ⟨wr.heap.size, o', none⟩) hwsz
        rw [e1, e1, e1, e1]
        exact hs0)
      have HB0 := Lib.hid hw0
      have HBW := Lib.hid (hbel.trans (hw0.mono (by omega)))
      have HD : Below W.heap.size W W := Below.refl _ _
      clear hw0 hbel c0 c1 c2 c3
      go_cut [12] (fun pv wx => ∃ (n8 sg sap : Nat), pv = .pointer (some ⟨n8, 0, none⟩) ∧ wx.cell? ⟨n8, 0, none⟩ = some (.int .i64 n) ∧ wx.cell? ⟨n8, 1, none⟩ = some (.slice (some ⟨sg, 0, none⟩) (n * n) sap) ∧ Hid (Nums wx (some ⟨sg, 0, none⟩) (n * n) X) ∧ n8 < wx.heap.size ∧ Below W.heap.size W wx)
      case first =>
        go_region_held3 (fun w' => w'.cell? ⟨wr.heap.size, 0, none⟩ = some (.int .i64 kd) ∧ w'.cell? ⟨wr.heap.size, 1, none⟩ = some (.int .i64 at') ∧ w'.cell? ⟨wr.heap.size, 2, none⟩ = some (.int .i64 m) ∧ w'.cell? ⟨wr.heap.size, 3, none⟩ = some (.string nm))
          ((first | (refine G0.out _ ?_; go_grown; done) | go_keep))
          ((first | (go_at_call 42; refine (of_any kd at' m nm _ HK3.out).mono ?_; rintro e wA ⟨⟨og, rfl, hog, hogB⟩, hb⟩; have HD : Below W.heap.size W wA := (Below.trans (by first | exact Below.refl _ _ | go_grown) (hb.mono (by first | omega | (simp; done) | (simp; omega)))); have hzwA := HD.size; (try (refine with_keep2 (n := W.heap.size) hb ?_ ?_ ?_; (refine ⟨?_, ?_, ?_, ?_⟩ <;> go_cell); (focus (first | omega | (simp; done) | (simp; omega))); rintro ⟨_, _, _, _⟩; have hb8 := hb.size; (try simp at hb8))); have HOG := Lib.hid hog; clear hb hog hogB) | (go_at_call 41; refine (placedIn_any n (at' - 1).toNat (ownS ⟨kd, at', m, nm⟩) og _ at' (ownF ⟨kd, at', m, nm⟩) _ h1 hn HIT.out.2.2 HIT.out.1 HIT.out.2.1 ?_).mono ?_; (focus (first | exact HOG.out | exact Numw.keep HOG.out (by go_grown))); rintro e wB ⟨⟨sg, sap, rfl, hsg, hsgB, hsc, hsm⟩, hb⟩; have hcB := hsgB; have HD : Below W.heap.size W wB := (Below.trans (by first | exact Below.refl _ _ | go_grown) (hb.mono (by first | omega | (simp; done) | (simp; omega)))); have hzwB := HD.size; (try (refine with_keep2 (n := W.heap.size) hb ?_ ?_ ?_; (refine ⟨?_, ?_, ?_, ?_⟩ <;> go_cell); (focus (first | omega | (simp; done) | (simp; omega))); rintro ⟨_, _, _, _⟩; have hb8 := hb.size; (try simp at hb8))); (try (refine with_keep2 (n := wA.heap.size) hb ?_ ?_ ?_; (refine ⟨?_, ?_, ?_, ?_⟩ <;> go_cell); (focus (first | omega | (simp; done) | (simp; omega))); rintro ⟨_, _, _, _⟩; have hb8 := hb.size; (try simp at hb8))); have HSG := Lib.hid hsg; clear hb hsg hsc hsm)))
        all_goals
          go_wp2_with fail
          go_meet
          refine ⟨_, sg, sap, rfl, ?_, ?_, ?_, ?_, ?_⟩
          · go_cell
          · go_cell
          · rw [hX.out]
            first
            | exact Lib.hid ((HSG.out.alloc _).drew).nums
            | exact Lib.hid (((HSG.out.other (by first | omega | (simp at hcB; omega))).other (by first | omega | (simp at hcB; omega))).drew).nums
          · first | omega | (simp; done) | (simp; omega)
          · go_grown
      case rest =>
        obtain ⟨n8, sg, sap, rfl, y0, y1, HSX, hl8, hD8⟩ := hcut
        have DW := Lib.hid (HBW.out.trans (hD8.mono (show w.heap.size ≤ W.heap.size by have := HBW.out.size; omega)))
        have HLW := Lib.hid (Nums.keep HLN.out (HB0.out.trans (hD8.mono (by omega))))
        clear hD8 HD
        go_wp2_with fail
        go_loopw [13, 14, 15, 16, 46] (fun uv _ _ _ jv wr => ∃ (i : Nat), jv = .int .i64 i ∧ i ≤ n ∧ Hid (wr.ownsRow wc.heap.size 55 5 uv i (rowsOf FF i)) ∧ Hid (fstE EE i = 0) ∧ Below wc.heap.size wc wr) (fun _ _ _ _ jv _ => n - (intOf jv).toNat)
        case atStart => exact ⟨0, rfl, by omega, Lib.hid (World.ownsRow_nil _ _ _ _), Lib.hid rfl, Below.refl _ _⟩
        case round =>
          obtain ⟨i, rfl, hi, HOW, hE0, hbi⟩ := hrel
          have hszi := hbi.size
          have m0 := (hbi.cell (p := ⟨n8, 0, none⟩) hl8).trans y0
          have m1 := (hbi.cell (p := ⟨n8, 1, none⟩) hl8).trans y1
          have DI := Lib.hid (DW.out.trans (hbi.mono (show w.heap.size ≤ wc.heap.size by have := DW.out.size; omega)))
          have HBI := Lib.hid hbi
          by_cases hit : i < n
          · have hit' : (i : Int) < (n : Int) := by omega
            obtain ⟨x0, x1, x2, x3, x4, xe, HM⟩ := res5 (dotS (fun t => X (i * n + t)) Y n)
            have HS1 : Hid (fstE EE (i + 1) = xe) := Lib.hid (by rw [fstE_step hE0.out, hEE.out]; unfold appE; rw [HM.out])
            have HV : Hid (FF i = ⟨⟨x0, x1, x2, x3⟩, x4⟩) := Lib.hid (by rw [hFF.out]; unfold appF; rw [HM.out])
            clear hbi
            go_wp2_with fail
            refine (rRow_any n i sg sap lc lo X Y _ hn hit (HSX.out.keep HBI.out) (HLW.out.keep HBI.out)).mono ?_
            rintro e w4 ⟨rfl, hb⟩
            rw [HRD.out i hit, HM.out]
            unfold Ret5
            (try simp only)
            have D4 : Below w.heap.size w w4 := DI.out.trans (hb.mono (show w.heap.size ≤ wr.heap.size by have := DI.out.size; omega))
            have HB4 := Lib.hid (HBI.out.trans (hb.mono hszi))
            have HO4 := Lib.hid (own_below HOW.out hb)
            clear hb m0 m1
            by_cases hxe : ¬ xe = 0
            · have hb0 : (xe == 0) = false := beq_eq_false_iff_ne.2 hxe
              have hb1 : (xe != 0) = true := bne_iff_ne.2 hxe
              have HX2 := Lib.hid hxe
              clear hxe
              go_wp2_with fail
              go_ret2
              have hfin := fstE_stay (g := EE) (by rw [HS1.out]; exact HX2.out) (show i + 1 ≤ n by omega)
              have e1 : (lightS n f p (k + 1)).2 = xe := by rw [HST.out]; show fstE EE n = xe; rw [hfin, HS1.out]
              have hst := lightS_stay (n := n) (f := f) (p := p) (k := k + 1) (by rw [e1]; exact HX2.out) len (by omega)
              rw [hst]
              have hs4 := D4.size
              exact ⟨.inr ⟨by rw [e1]; exact HX2.out, by rw [e1]; rfl⟩, by go_grown⟩
            obtain rfl : xe = 0 := Decidable.not_not.1 hxe
            clear hxe D4
            go_wp2_with (at_builtin; refine wpList_append_own _ rfl (.tmp 59) (.tmp 61) 23 rfl wc.heap.size 55 i0 _ 5 40 Try.underlying23 HI.out.1 HI.out.2.1 HI.out.2.2.1 HI.out.2.2.2 rfl (by decide) _ i (rowsOf FF i) rfl ((HO4.out.alloc _).alloc _) ⟨w4.heap.size + 1, 0, none⟩ 1 1 (cellsOf ⟨⟨x0, x1, x2, x3⟩, x4⟩) rfl rfl ?c1 ?c2 ?c3 ?c4 ?c5 ?_)
            case c1 =>
              intro t u hu
              rw [add0]
              have ht : t < 5 := (List.getElem?_eq_some_iff.1 hu).1
              rcases (show t = 0 ∨ t = 1 ∨ t = 2 ∨ t = 3 ∨ t = 4 by omega) with rfl | rfl | rfl | rfl | rfl <;> (simp only [cellsOf, List.getElem?_cons_zero, List.getElem?_cons_succ, Option.some.injEq] at hu; subst hu; go_cell)
            case c2 => exact cellsOf_one _
            case c3 => unfold maxLen; omega
            case c4 => omega
            case c5 => have := HB4.out.size; first | omega | (simp; omega)
            intro v' w5 hown' hgrow _
            have hrow : rowsOf FF i ++ cellsOf ⟨⟨x0, x1, x2, x3⟩, x4⟩ = rowsOf FF (i + 1) := by
              rw [rowsOf, HV.out]
            rw [hrow] at hown'
            have hlt2 := HO4.out.lt
            have HB5 : Below wc.heap.size wc w5 := Below.grown ((HB4.out.alloc (by have := HB4.out.size; first | omega | (simp; omega)) _).alloc (by have := HB4.out.size; first | omega | (simp; omega)) _) hgrow (by have := HB4.out.size; first | omega | (simp; omega)) (fun k hk => (hlt2 k hk).1)
            have HO5 := Lib.hid hown'
            have HB6 := Lib.hid HB5
            clear hown' hgrow HB5 hrow hlt2
            go_wp2_with fail
            go_roundw
            case rel => exact ⟨i + 1, by go_num, by omega, HO5, HS1, HB6.out⟩
            case measure => simp [intOf]; omega
          · obtain rfl : i = n := by omega
            obtain ⟨ao', ap', rfl, hnu⟩ := Nums.of_own HOW.out
            have HNU := Lib.hid hnu
            clear hbi hnu m0 m1
            go_wp2_with fail
            go_roundw
            case rel => exact ⟨k + 1, ao', ap', by go_num, rfl, by omega, Lib.hid (by rw [HST.out]; exact hE0.out), Lib.hid (by rw [HST.out]; exact HNU.out), DI.out⟩
            case measure => simp [intOf]; omega
    · obtain rfl : k = len := by omega
      go_wp2_with fail
      go_ret2
      exact ⟨.inl ⟨HER.out, lo, lc, rfl, HLN.out⟩, hbel⟩
end Go.Proofs.Ythbbknpkoaobmaa
