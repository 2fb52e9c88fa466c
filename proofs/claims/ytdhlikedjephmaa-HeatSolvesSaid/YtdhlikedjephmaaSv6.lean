import Derived.Test.YtdhlikedjephmaaBd7
import Derived.Test.YtdhlikedjephmaaRq6
namespace Heat
open Go Go.RowKit
def dtV (N : Nat) (l : Nat → Nat) (F : Nat → Nat → Int) : Int := if okG N l F = true then detM N F else 0
def dtE (N : Nat) (l : Nat → Nat) (F : Nat → Nat → Int) : Int := if okG N l F = true then 0 else 60
/-- The first k ratios, as cells. -/
def ratC (P Q : Nat → Int) : Nat → List Value
  | 0 => []
  | k + 1 => ratC P Q k ++ [.int .i64 (P k), .int .i64 (Q k)]
theorem ratC_len (P Q : Nat → Int) : ∀ k, (ratC P Q k).length = k * 2
  | 0 => rfl
  | k + 1 => by unfold ratC; rw [List.length_append, ratC_len P Q k]; simp; omega
theorem ratC_get (P Q : Nat → Int) : ∀ {k i : Nat}, i < k → (ratC P Q k)[i * 2]? = some (.int .i64 (P i)) ∧ (ratC P Q k)[i * 2 + 1]? = some (.int .i64 (Q i))
  | 0, _, h => by omega
  | k + 1, i, h => by
    have hl := ratC_len P Q k
    unfold ratC
    by_cases e : i = k
    · subst e
      rw [List.getElem?_append_right (by omega), List.getElem?_append_right (by omega), hl]
      simp
    · rw [List.getElem?_append_left (by omega), List.getElem?_append_left (by omega)]
      exact ratC_get P Q (by omega)
/-- The solution's parts. -/
def soP (N : Nat) (F : Nat → Nat → Int) (C : Nat → Int) (k : Nat) : Int := ratN (detM N (wcF k C F)) (detM N F)
def soQ (N : Nat) (F : Nat → Nat → Int) (C : Nat → Int) (k : Nat) : Int := ratD (detM N (wcF k C F)) (detM N F)
end Heat
namespace Go.Proofs.Ytdhlikedjephmaa
open Go.RowKit Heat
set_option maxRecDepth 100000 in
set_option maxHeartbeats 8000000 in
theorem rDet_any (N cap : Nat) (ao : Option Addr) (A : Nat → Option Addr) (l c : Nat → Nat) (F : Nat → Nat → Int) (w : World) (hN : N ≤ 9223372036854775807) (hR : Rowsw w ao N A l c F) :
    Calls Try.prog 38 #[.agg #[.slice ao N cap]] w fun e w' => e = .returned (.tuple #[.int .i64 (dtV N l F), .int .i64 (dtE N l F)]) ∧ Below w.heap.size w w' := by
  have HG := Lib.hid hR
  clear hR
  obtain ⟨bk, hbk⟩ : ∃ bk, okG N l F = bk := ⟨_, rfl⟩
  have HOK := Lib.hid hbk
  clear hbk
  have hbx : (w.alloc (Obj.cells #[.slice ao N cap] 40)).cell? ⟨w.heap.size, 0, none⟩ = some (.slice ao N cap) := by go_cell
  have hb0 : Below w.heap.size w (w.alloc (Obj.cells #[.slice ao N cap] 40)) := by go_grown
  have hsz : w.heap.size < (w.alloc (Obj.cells #[.slice ao N cap] 40)).heap.size := by simp
  go_enter Try.func38, Try.ntmps38
  go_upto_region 1 with fail
  generalize (w.alloc (Obj.cells #[.slice ao N cap] 40)) = W at *
  have HB0 := Lib.hid hb0
  clear hb0
  go_wp2_with fail
  refine (rhValid_any N cap ao A l c F _ hN (HG.out.keep (HB0.out.mono (Nat.le_refl _)))).mono ?_
  rw [HOK.out]
  rintro e w1 ⟨rfl, hb⟩
  have HB1 := Lib.hid (HB0.out.trans (hb.mono HB0.out.size))
  have hbx1 := (hb.cell (p := ⟨w.heap.size, 0, none⟩) hsz).trans hbx
  have hs1 : w.heap.size < w1.heap.size := by have := hb.size; omega
  clear hb HB0 hbx hsz
  have hbl := HB1.out
  cases bk with
  | false =>
    have HE : Hid (dtV N l F = 0 ∧ dtE N l F = 60) := Lib.hid (by unfold dtV dtE; rw [HOK.out]; exact ⟨rfl, rfl⟩)
    go_wp2_with fail
    refine bodyPost_ret (v := .tuple #[.int .i64 0, .int .i64 60]) (by simp [results, Try.results38, go_sem, *]) rfl ⟨by rw [HE.out.1, HE.out.2], hbl⟩
  | true =>
    have HE : Hid (dtV N l F = detM N F ∧ dtE N l F = 0) := Lib.hid (by unfold dtV dtE; rw [HOK.out]; exact ⟨rfl, rfl⟩)
    have hN5 := (okG_iff.1 HOK.out).1.2
    have HL : Hid (∀ i, i < N → l i = N) := Lib.hid (fun i hi => ((okG_iff.1 HOK.out).2 i hi).1)
    go_wp2_with fail
    refine (rdet_any N cap ao A l c F _ hN5 (HG.out.keep HB1.out) HL.out).mono ?_
    rintro e w2 ⟨rfl, hb⟩
    have hbl2 := HB1.out.trans (hb.mono HB1.out.size)
    obtain ⟨d, hd⟩ : ∃ d, detM N F = d := ⟨_, rfl⟩
    rw [hd] at HE ⊢
    clear hb hbl HB1 hbx1 hs1 hd
    go_wp2_with fail
    refine bodyPost_ret (v := .tuple #[.int .i64 d, .int .i64 0]) (by simp [results, Try.results38, go_sem, *]) rfl ⟨by rw [HE.out.1, HE.out.2], hbl2⟩
/-- What comes back: N ratios. -/
def RatR (B : Nat) (w : World) (e : Ending) (N : Nat) (P Q : Nat → Int) : Prop := ∃ g cap, e = .returned (.slice (some ⟨g, 0, none⟩) N cap) ∧ Ratw w g N P Q ∧ B ≤ g
set_option maxRecDepth 100000 in
set_option maxHeartbeats 16000000 in
theorem rSolved_any (N cap : Nat) (ao : Option Addr) (A : Nat → Option Addr) (l c : Nat → Nat) (F : Nat → Nat → Int) (dap : Nat) (bo : Option Addr) (C : Nat → Int) (w : World) (hR : Rowsw w ao N A l c F) (hok : okG N l F = true) (hI : Ints w bo N C) (hC : ∀ i, i < N → -1000000 ≤ C i ∧ C i ≤ 1000000) (h0 : ¬ detM N F = 0) :
    Calls Try.prog 70 #[.agg #[.slice ao N cap], .slice bo N dap] w fun e w' => RatR w.heap.size w' e N (soP N F C) (soQ N F C) ∧ Below w.heap.size w w' := by
  have HG := Lib.hid hR
  have HSQ := Lib.hid (hR.at hok)
  have hN5 := (okG_iff.1 hok).1.2
  have hN1 := (okG_iff.1 hok).1.1
  have HL : Hid (∀ i, i < N → l i = N) := Lib.hid (fun i hi => ((okG_iff.1 hok).2 i hi).1)
  have hF : ∀ i, i < N → ∀ j, j < N → -200 ≤ F i j ∧ F i j ≤ 200 := fun i hi => ((okG_iff.1 hok).2 i hi).2
  have HDB : Hid (∀ k, k < N → (detM N (wcF k C F)).natAbs ≤ 1000000000000000000) := Lib.hid (fun k hk => detN_small1 hN5 hk hF hC)
  have HD0 : Hid ((detM N F).natAbs ≤ 1000000000000000000 ∧ ¬ detM N F = 0) := Lib.hid ⟨by rw [detM_N hN5]; exact detN_small hN5 hF, h0⟩
  obtain ⟨bC, oC, hbo, hcell⟩ := hI (by omega)
  have HCL := Lib.hid hcell
  have hbC : bC < w.heap.size := World.block_lt_of_cell? w _ (hcell 0 (by omega))
  subst hbo
  obtain ⟨i0, hi, hz0, hz1, hz2⟩ := info_parts infoInt
  have HI := Lib.hid (And.intro hi (And.intro hz0 (And.intro hz1 hz2)))
  obtain ⟨i1, hi', hz0', hz1', hz2'⟩ := info_parts infoSl
  have HS := Lib.hid (And.intro hi' (And.intro hz0' (And.intro hz1' hz2')))
  obtain ⟨i2, hi2, hy0, hy1, hy2⟩ := info_parts infoRat
  have HT := Lib.hid (And.intro hi2 (And.intro hy0 (And.intro hy1 hy2)))
  clear hR hok hI hC h0 hF hcell hi hz0 hz1 hz2 hi' hz0' hz1' hz2' hi2 hy0 hy1 hy2
  have hbx : (w.alloc (Obj.cells #[.slice ao N cap] 40)).cell? ⟨w.heap.size, 0, none⟩ = some (.slice ao N cap) := by go_cell
  have hb0 : Below w.heap.size w (w.alloc (Obj.cells #[.slice ao N cap] 40)) := by go_grown
  have hsz : w.heap.size < (w.alloc (Obj.cells #[.slice ao N cap] 40)).heap.size := by simp
  go_enter Try.func70, Try.ntmps70
  go_upto_region 1 with fail
  generalize (w.alloc (Obj.cells #[.slice ao N cap] 40)) = W at *
  have HB0 := Lib.hid hb0
  clear hb0
  go_wp2_with fail
  refine (rdet_any N cap ao A l c F _ hN5 (HG.out.keep HB0.out) HL.out).mono ?_
  obtain ⟨d, hd⟩ : ∃ d, detM N F = d := ⟨_, rfl⟩
  have HdE := Lib.hid hd
  rw [hd] at HD0 ⊢
  clear hd
  rintro e w1 ⟨rfl, hb⟩
  have HB1 := Lib.hid (HB0.out.trans (hb.mono HB0.out.size))
  have hbx1 := (hb.cell (p := ⟨w.heap.size, 0, none⟩) hsz).trans hbx
  have hs1 : w.heap.size < w1.heap.size := by have := hb.size; omega
  clear hb HB0 hbx hsz
  go_wp2_with fail
  go_loopw [6, 7] (fun ov iv wr => ∃ (V : Value) (z : Int) (k : Nat), V = ov ∧ iv = .int .i64 z ∧ z = k ∧ k ≤ N ∧ Hid (wr.ownsRow (w.heap.size + 1) 68 2 V k (ratC (soP N F C) (soQ N F C) k)) ∧ Hid (Below w.heap.size w wr) ∧ Hid (wr.cell? ⟨w.heap.size, 0, none⟩ = some (.slice ao N cap)) ∧ w.heap.size < wr.heap.size) (fun _ iv _ => N - (intOf iv).toNat)
  case atStart => exact ⟨_, 0, 0, rfl, rfl, by omega, by omega, Lib.hid (World.ownsRow_nil _ _ _ _), HB1, Lib.hid hbx1, hs1⟩
  case round =>
    obtain ⟨V, z, k, rfl, rfl, hz, hk, HO, HB, HBX, hsw⟩ := hrel
    clear HB1 hbx1 hs1
    by_cases hlt : k < N
    · obtain ⟨wo, rfl⟩ : ∃ wo : World, wo = wr := ⟨_, rfl⟩
      have hlt' : z < (N : Int) := by omega
      subst hz
      have k00 : (0 : Int) ≤ (k : Int) := by omega
      have wz : wrap64 ((k : Int) + 1) = (k : Int) + 1 := by simp only [wrap64]; omega
      go_wp2_with fail
      go_loopw [8, 9] (fun mv iv wr => ∃ (V2 : Value) (y : Int) (i : Nat) (G CC : Nat → Nat), V2 = mv ∧ iv = .int .i64 y ∧ y = i ∧ i ≤ N ∧ Hid (RowsO wr wo.heap.size V2 i N G CC (wcF k C F)) ∧ Hid (Below wo.heap.size wo wr)) (fun _ iv _ => N - (intOf iv).toNat)
      case atStart => exact ⟨_, 0, 0, fun _ => 0, fun _ => 0, rfl, rfl, by omega, by omega, Lib.hid (RowsO.nil _ _ _ _ _ _), Lib.hid (Below.refl _ _)⟩
      case round =>
        obtain ⟨V2, y, i, G, CC, rfl, rfl, hy, hi, HRO, HD⟩ := hrel
        have HBW := Lib.hid (HB.out.trans (HD.out.mono HB.out.size))
        have hbx := (HD.out.cell (p := ⟨w.heap.size, 0, none⟩) hsw).trans HBX.out
        by_cases hit : i < N
        · have hit' : y < (N : Int) := by omega
          subst hy
          have i00 : (0 : Int) ≤ (i : Int) := by omega
          have wy : wrap64 ((i : Int) + 1) = (i : Int) + 1 := by clear wz; simp only [wrap64]; omega
          obtain ⟨b, o, b1, o1, hao, hbl, hrow, hb1l, hcl⟩ := HSQ.out i hit
          have HRC := Lib.hid hcl
          have g0 := (HBW.out.cell (p := ⟨b, o + i, none⟩) hbl).trans hrow
          have hbz := World.block_lt_of_cell? _ _ g0
          have hwz := HBW.out.size
          have hwl : w.heap.size < wr.heap.size := World.block_lt_of_cell? _ _ hbx
          subst hao
          clear hrow hcl
          go_wp2_with (at_builtin; refine wpList_append_own _ rfl (.tmp 26) (.tmp 31) 24 rfl wr.heap.size 3 i0 _ 1 8 Try.underlying24 HI.out.1 HI.out.2.1 HI.out.2.2.1 HI.out.2.2.2 rfl (by decide) _ 0 [] rfl (World.ownsRow_made wr #[] 0 (Nat.le_refl _) (by unfold maxLen; omega) rfl) ⟨b1, o1, none⟩ N (c i) (cellsI (F i) N) rfl ?c0 ?c1 ?c2 ?c3 ?c4 ?c5 ?_)
          case c0 => rw [cellsI_len]; (try omega)
          case c1 =>
            intro j u hu
            have hj : j < N := by have := (List.getElem?_eq_some_iff.1 hu).1; rwa [cellsI_len] at this
            rw [cellsI_get (F i) hj] at hu
            first | rw [Addr.add_lit, ← hu] | rw [← hu]
            exact (((HBW.out.alloc HBW.out.size _)).cell (p := ⟨b1, o1 + j, none⟩) hb1l).trans (HRC.out j hj)
          case c2 => exact cellsI_one (F i) N
          case c3 => unfold maxLen; omega
          case c4 => omega
          try (case c5 => first | omega | (simp; done) | (simp; omega))
          intro v' w4 hown hgrow _
          (try simp only [Nat.zero_add, List.nil_append] at hown)
          obtain ⟨g9, cap9, rfl, hgB, hgs, _, _⟩ := own_fm hown hN1
          have HW9 : Hid (Intw w4 g9 N (F i)) := Lib.hid (Intw.of_own hown fun p hp => cellsI_get _ hp)
          have D4 : Below wr.heap.size wr w4 := Below.grown (by go_grown) hgrow (by first | omega | (simp; done) | (simp; omega)) (fun k hk => by simp [Value.ownBlock] at hk; omega)
          have hgne : Hid (V2.ownBlock ≠ some g9) := Lib.hid (fun e => by have := (HRO.out.1.lt _ e).2; omega)
          have hg0 : wo.heap.size ≤ g9 := by have := HD.out.size; omega
          have hg1 : w.heap.size < g9 := by omega
          have hbC4 : bC < w4.heap.size := by have := D4.size; omega
          have gC : w4.cell? ⟨bC, oC + i, none⟩ = some (.int .i64 (C i)) := ((HBW.out.trans (D4.mono HBW.out.size)).cell (p := ⟨bC, oC + i, none⟩) hbC).trans (HCL.out i hit)
          obtain ⟨m0, m1⟩ := HW9.out k hlt
          obtain ⟨x, hx⟩ : ∃ x, C i = x := ⟨_, rfl⟩
          obtain ⟨y0, hy0⟩ : ∃ y0, F i k = y0 := ⟨_, rfl⟩
          rw [hx] at gC
          rw [hy0] at m0
          have D5 := D4.setCell (p := ⟨g9, k, none⟩) hgB (.int .i64 x)
          have HW5 : Hid (Intw (w4.setCell ⟨g9, k, none⟩ (.int .i64 x)) g9 N (wcF k C F i)) := Lib.hid ((HW9.out.store hlt x).congr fun j hj => by
            unfold updI wcF
            split
            · exact hx.symm
            · rfl)
          have HRO5 := Lib.hid (HRO.out.keep D5)
          have HD5 := Lib.hid (HD.out.trans (D5.mono HD.out.size))
          have hgs5 : g9 < (w4.setCell ⟨g9, k, none⟩ (.int .i64 x)).heap.size := by simpa using hgs
          clear hown hgrow hgB D4 D5 HRO HD HBW hbx g0 hbz hwz hwl HW9 hx hy0
          go_upto_region 12 with fail
          generalize (w4.setCell ⟨g9, k, none⟩ (.int .i64 x)) = w5 at *
          clear m0 m1 gC hgs hbC4
          have hbr : Below w5.heap.size w5 (w5.alloc (Obj.cells #[.slice (some ⟨g9, 0, none⟩) N cap9] 24)) := (Below.refl _ _).alloc (Nat.le_refl _) _
          have HROA := Lib.hid (HRO5.out.keep hbr)
          have HWA := Lib.hid (HW5.out.keep hbr)
          have hdd := HD5.out
          have hdz := hdd.size
          clear hbr HRO5 HW5
          go_wp2_with (at_builtin; refine wpList_append_lies _ rfl (.tmp 40) (.tmp 42) 38 rfl wo.heap.size 24 i1 _ 1 24 Try.underlying38 HS.out.1 HS.out.2.1 HS.out.2.2.1 HS.out.2.2.2 rfl (by decide) V2 i (rowsC G CC N i) rfl HROA.out.1 ⟨w5.heap.size, 0, none⟩ 1 1 [.slice (some ⟨g9, 0, none⟩) N cap9] rfl rfl ?d1 ?d2 (by omega) ?d3 ?d4 ?d5 _ rfl ?_)
          try (case d1 => exact fun j u hu => World.news_of_block (cs := #[.slice (some ⟨g9, 0, none⟩) N cap9]) (heap_new w5 _) j u hu)
          try (case d2 => first | (intro u hu; simp only [List.mem_cons, List.not_mem_nil, or_false] at hu; subst hu; rfl) | rfl)
          case d3 => unfold maxLen; omega
          case d4 => omega
          try (case d5 => first | omega | (simp; done) | (simp; omega))
          intro g' cap' w6 hown' hgrow hor hlg
          have HRO6 := Lib.hid ((HROA.out.append (f := wcF k C F i) HWA.out hg0 (by simp; omega) hgne.out hown' hgrow (hor.imp id (fun h => by first | exact Nat.le_of_eq h.symm | (simp; omega)))).congr (F' := wcF k C F) (fun j _ p _ => by
            (try dsimp only)
            split
            · rename_i e; subst e; rfl
            · rfl))
          have HD6 : Hid (Below wo.heap.size wo w6) := Lib.hid (Below.grown (hdd.alloc hdz _) hgrow (by first | omega | (simp; omega)) (fun p hp => (HROA.out.1.lt p hp).1))
          clear hown' hgrow hor HROA HWA hgne hdd HD5
          go_wp2_with fail
          go_roundw
          case rel => exact ⟨_, (i : Int) + 1, i + 1, _, _, rfl, by first | rfl | rw [wy], by clear wz wy; omega, by omega, HRO6, HD6⟩
          case measure => clear wz; first | (simp [intOf]; done) | (simp [intOf]; omega)
        · obtain rfl : i = N := by omega
          subst hy
          obtain ⟨gM, cM, rfl, _, _, _, _⟩ := own_fm HRO.out.1 hN1
          have HRM := Lib.hid (HRO.out.rows (by omega))
          have hO2 := own_below' HO.out HD.out
          have HO2 := Lib.hid hO2
          have hbk := HDB.out k hlt
          obtain ⟨dk, hdk⟩ : ∃ dk, detM i (wcF k C F) = dk := ⟨_, rfl⟩
          rw [hdk] at hbk
          have HBK := Lib.hid hbk
          have HPQ : Hid (soP i F C k = ratN dk d ∧ soQ i F C k = ratD dk d) := Lib.hid (by unfold soP soQ; rw [hdk, HdE.out]; exact ⟨rfl, rfl⟩)
          clear hO2 hbk
          go_wp2_with fail
          refine (rdet_any i cM (some ⟨gM, 0, none⟩) _ (fun _ => i) CC (wcF k C F) _ hN5 HRM.out (fun _ _ => rfl)).mono ?_
          rw [hdk]
          rintro e w7 ⟨rfl, hb⟩
          have HO7 := Lib.hid (own_below' HO2.out hb)
          have HB7 := Lib.hid (HBW.out.trans (hb.mono HBW.out.size))
          have hbx7 := (hb.cell (p := ⟨w.heap.size, 0, none⟩) (World.block_lt_of_cell? _ _ hbx)).trans hbx
          clear hb hdk HRO HRM HO HO2 HD HBW hbx HB HBX hsw
          go_wp2_with fail
          refine (rRatio_any dk d _ HBK.out HD0.out.1 HD0.out.2).mono ?_
          obtain ⟨p, hp⟩ : ∃ p, ratN dk d = p := ⟨_, rfl⟩
          obtain ⟨q, hq⟩ : ∃ q, ratD dk d = q := ⟨_, rfl⟩
          have HPQ2 : Hid (soP i F C k = p ∧ soQ i F C k = q) := Lib.hid (by rw [HPQ.out.1, HPQ.out.2, hp, hq]; exact ⟨rfl, rfl⟩)
          rw [hp, hq]
          rintro e w8 ⟨rfl, hb⟩
          have HO8 := Lib.hid (own_below' HO7.out hb)
          have hbl := HB7.out.trans (hb.mono HB7.out.size)
          have hbx8 := (hb.cell (p := ⟨w.heap.size, 0, none⟩) (World.block_lt_of_cell? _ _ hbx7)).trans hbx7
          have hsz := hbl.size
          have hs8 : w.heap.size < w8.heap.size := World.block_lt_of_cell? _ _ hbx8
          clear hb hp hq HO7 HB7 hbx7 HPQ
          go_wp2_with (at_builtin; refine wpList_append_own _ rfl (.tmp 44) (.tmp 49) 22 rfl (w.heap.size + 1) 68 i2 _ 2 16 Try.underlying22 HT.out.1 HT.out.2.1 HT.out.2.2.1 HT.out.2.2.2 rfl (by decide) _ k (ratC (soP i F C) (soQ i F C) k) rfl (HO8.out.alloc _) ⟨w8.heap.size, 0, none⟩ 1 1 [.int .i64 p, .int .i64 q] rfl rfl ?e1 ?e2 ?e3 ?e4 ?e5 ?_)
          try (case e1 => exact fun j u hu => World.news_of_block (cs := #[.int .i64 p, .int .i64 q]) (heap_new w8 _) j u hu)
          try (case e2 => first | (intro u hu; simp only [List.mem_cons, List.not_mem_nil, or_false] at hu; rcases hu with rfl | rfl <;> rfl) | (constructor <;> rfl))
          case e3 => unfold maxLen; omega
          case e4 => omega
          try (case e5 => first | omega | (simp; done) | (simp; omega))
          intro v' w9 hown' hgrow _
          have hltk := HO8.out.lt
          have HO9 : Hid (w9.ownsRow (w.heap.size + 1) 68 2 v' (k + 1) (ratC (soP i F C) (soQ i F C) (k + 1))) := Lib.hid (by unfold ratC; rw [HPQ2.out.1, HPQ2.out.2]; exact hown')
          have HB9 : Hid (Below w.heap.size w w9) := Lib.hid (Below.grown (hbl.alloc hsz _) hgrow (by first | omega | (simp; omega)) (fun q hq => Nat.le_of_succ_le (hltk q hq).1))
          have HBX9 : Hid (w9.cell? ⟨w.heap.size, 0, none⟩ = some (.slice ao i cap)) := Lib.hid (farc hgrow (show (w8.alloc (Obj.cells #[.int .i64 p, .int .i64 q] 68)).cell? ⟨w.heap.size, 0, none⟩ = _ by go_cell) (fun e => Nat.not_succ_le_self _ (hltk _ e.symm).1))
          have hs9 : w.heap.size < w9.heap.size := World.block_lt_of_cell? _ _ HBX9.out
          clear hown' hgrow hltk HO8 hbl hbx8 hs8
          go_wp2_with fail
          go_roundw
          case rel => exact ⟨v', (k : Int) + 1, k + 1, rfl, by first | rfl | rw [wz], by omega, by omega, HO9, HB9, HBX9, hs9⟩
          case measure => first | (simp [intOf]; done) | (simp [intOf]; omega)
    · obtain rfl : k = N := by omega
      subst hz
      obtain ⟨gO, cO, rfl, hgO, _, _, _⟩ := own_fm HO.out hN1
      have HGO : Hid (w.heap.size ≤ gO) := Lib.hid (by omega)
      clear hgO
      have HRW : Hid (Ratw wr gO k (soP k F C) (soQ k F C)) := Lib.hid (Ratw.of_own HO.out fun i hi => ratC_get _ _ hi)
      have hbl := HB.out
      clear HO HB HBX
      go_wp2_with fail
      refine bodyPost_ret (v := .slice (some ⟨gO, 0, none⟩) k cO) (by simp [results, Try.results70, go_sem]) rfl ⟨⟨gO, cO, rfl, HRW.out, HGO.out⟩, hbl⟩
end Go.Proofs.Ytdhlikedjephmaa
