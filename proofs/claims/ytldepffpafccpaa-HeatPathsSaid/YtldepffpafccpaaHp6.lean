import Derived.Test.YtldepffpafccpaaMp6
import Derived.Test.YtldepffpafccpaaHs
namespace Go.Proofs.Ytldepffpafccpaa
open Go.RowKit Heat
theorem st_cases (n : Nat) (f : Nat → Int) (m : Nat) (t : Nat → Int) : stE n f m t 5000 = 2 ∨ (stE n f m t 5000 = 0 ∧ (1 ≤ n ∧ n ≤ 5) ∧ inTo f 0 1000 n = true ∧ n = m ∧ inTo t 0 1000 n = true) := by
  cases h : ((decide (1 ≤ n ∧ n ≤ 5) && inTo f 0 1000 n) && inB m t n 0 1000 && (decide ((0 : Int) ≤ 5000) && decide ((5000 : Int) ≤ 5000))) with
  | false => left; unfold stE; rw [h]; rfl
  | true =>
    right
    simp only [Bool.and_eq_true, decide_eq_true_iff] at h
    obtain ⟨⟨⟨h1, h2⟩, h3⟩, _⟩ := h
    obtain ⟨h4, h5⟩ := inB_iff.1 h3
    have hmn : n = m := by omega
    subst hmn
    have h6 : inTo t 0 1000 n = true := inTo_iff.2 h5
    have b1 := sumI_bd h2
    have b2 := sumI_bd h6
    refine ⟨?_, h1, h2, rfl, h6⟩
    unfold stE
    rw [decide_eq_true h1, h2, h3]
    rw [if_pos (by decide), if_pos (by omega)]
set_option maxRecDepth 100000 in
set_option maxHeartbeats 8000000 in
theorem HeatPaths_any (n cap : Nat) (ao : Option Addr) (f : Nat → Int) (m dap : Nat) (bo : Option Addr) (t : Nat → Int) (w : World) (hn : n ≤ 9223372036854775807) (hc : Ints w ao n f) (hm : m ≤ 9223372036854775807) (hd : Ints w bo m t) :
    Calls Try.prog 11 #[.slice ao n cap, .slice bo m dap] w fun e w' => e = .returned (.bool true) ∧ Below w.heap.size w w' := by
  have HC := Lib.hid hc
  have HD := Lib.hid hd
  clear hc hd
  by_cases h1 : 20 < (n : Int)
  · go_enter Try.func11, Try.ntmps11
    go_wp2_with fail
    refine (sane_any _).mono ?_
    rintro e w1 ⟨rfl, hb⟩
    go_wp2_with fail
    go_returns
    exact ⟨rfl, hb⟩
  by_cases h2 : 20 < (m : Int)
  · go_enter Try.func11, Try.ntmps11
    go_wp2_with fail
    refine (sane_any _).mono ?_
    rintro e w1 ⟨rfl, hb⟩
    go_wp2_with fail
    go_returns
    exact ⟨rfl, hb⟩
  go_enter Try.func11, Try.ntmps11
  go_wp2_with fail
  refine (hSteps_any n cap ao f m dap bo t 5000 _ hn HC.out hm HD.out).mono ?_
  unfold StepsR
  rintro e w1 ⟨⟨V, rfl, hV⟩, hb⟩
  have HB1 := Lib.hid hb
  have HC1 := Lib.hid (HC.out.keep hb)
  have HD1 := Lib.hid (HD.out.keep hb)
  clear hb
  rcases st_cases n f m t with h2' | ⟨h0, hLE, hFI, hmn, hTI⟩
  · rw [h2'] at hV ⊢
    obtain ⟨a1, c1, rfl, _⟩ := own_rats hV steps_int
    rw [if_neg (by decide)]
    clear hV h2'
    have hbl := HB1.out
    go_wp2_with fail
    refine (sane_any _).mono ?_
    rintro e w2 ⟨rfl, hb⟩
    have D2 := hbl.trans (hb.mono hbl.size)
    clear hb hbl
    go_wp2_with fail
    go_returns
    exact ⟨rfl, D2⟩
  subst hmn
  rw [h0] at hV ⊢
  rw [if_pos rfl, if_pos rfl] at hV
  obtain ⟨a1, c1, rfl, hr1⟩ := own_rats hV (fun v hv => by
    rw [List.mem_append] at hv
    rcases hv with hv | hv
    · exact selC_int _ _ _ v hv
    · exact selC_int _ _ _ v hv)
  clear hV h0
  obtain ⟨cnt, hcnt⟩ : ∃ cnt, selN (lessB f t) n + selN (moreB f t) n = cnt := ⟨_, rfl⟩
  have hc10 : cnt ≤ 10 := by have h3 := selN_le (lessB f t) n; have h4 := selN_le (moreB f t) n; omega
  obtain ⟨hp1, hp2, hp3⟩ := path_all (f := f) (t := t) (n := n) (fun k hk => inTo_iff.1 hTI k hk)
  rw [show selC (lessB f t) t n ++ selC (moreB f t) t n = stXs f t n from rfl] at hr1
  obtain ⟨P, hP⟩ : ∃ P, intAt (stXs f t n) 0 = P := ⟨_, rfl⟩
  obtain ⟨Q, hQ⟩ : ∃ Q, intAt (stXs f t n) 1 = Q := ⟨_, rfl⟩
  rw [hP, hQ, hcnt] at hp1 hp2 hp3 hr1
  rw [hcnt]
  have HCH := Lib.hid hp1
  have HPK : Hid (pkV n f cnt P Q = max (sumI f n) (sumI t n) ∧ pkE n f cnt P Q = 0) := Lib.hid (by rw [← hp3]; exact pk_ok (by rw [decide_eq_true hLE, hFI]; rfl) (by omega) hp1)
  have HT := Lib.hid hp2
  have HR1 := Lib.hid hr1
  have HFI := Lib.hid hFI
  have HTI := Lib.hid hTI
  have hn5 := hLE.2
  have hn1 := hLE.1
  clear hp1 hp2 hp3 hr1 hP hQ hcnt hFI hTI hLE
  obtain ⟨i0, hi, hz0, hz1, hz2⟩ := info_parts infoInt
  have HI := Lib.hid (And.intro hi (And.intro hz0 (And.intro hz1 hz2)))
  clear hi hz0 hz1 hz2
  obtain ⟨b, o, hao, hcell⟩ := HC1.out (by omega)
  have HCL := Lib.hid hcell
  subst hao
  clear hcell
  go_wp2_with (at_builtin; refine wpList_append_own _ rfl (.tmp 41) (.tmp 42) 24 rfl w1.heap.size 3 i0 _ 1 8 Try.underlying24 HI.out.1 HI.out.2.1 HI.out.2.2.1 HI.out.2.2.2 rfl (by decide) _ 0 [] rfl (World.ownsRow_made w1 #[] 0 (Nat.le_refl _) (by unfold maxLen; omega) rfl) ⟨b, o, none⟩ n cap (cellsI f n) rfl ?c0 ?c1 ?c2 ?c3 ?c4 ?c5 ?_)
  case c0 => rw [cellsI_len]; omega
  case c1 =>
    intro j u hu
    have hj : j < n := by have := (List.getElem?_eq_some_iff.1 hu).1; rwa [cellsI_len] at this
    rw [cellsI_get f hj] at hu
    rw [Addr.add_lit, ← hu]
    have hb0 : b < w1.heap.size := World.block_lt_of_cell? w1 _ (HCL.out j hj)
    exact (((Below.refl _ _).alloc (Nat.le_refl _) _).cell (p := ⟨b, o + j, none⟩) hb0).trans (HCL.out j hj)
  case c2 => exact cellsI_one f n
  case c3 => unfold maxLen; omega
  case c4 => omega
  case c5 => first | omega | (simp; done) | (simp; omega)
  intro v' w3 hown hgrow _
  (try simp only [Nat.zero_add, List.nil_append] at hown)
  obtain ⟨g, cap', rfl, hgB, hgs, hgc, hgm⟩ := own_fm hown hn1
  have HW : Hid (Intw w3 g n (chg f P Q 0)) := Lib.hid (Intw.of_own hown fun i hi => cellsI_get f hi)
  have HB3 : Hid (Below w1.heap.size w1 w3) := Lib.hid (Below.grown ((Below.refl _ _).alloc (Nat.le_refl _) _) hgrow (by first | omega | (simp; done) | (simp; omega)) (fun k hk => by simp [Value.ownBlock] at hk; omega))
  clear hown hgrow
  go_wp2_with fail
  go_loopw [8, 9, 10] (fun av bv iv wr => ∃ (x y z : Int) (i : Nat), av = .int .i64 x ∧ bv = .int .i64 y ∧ iv = .int .i64 z ∧ z = i ∧ i ≤ n ∧ Hid (x = sumI f i ∧ y = sumI t i) ∧ Hid (Intw wr g n (chg f P Q 0)) ∧ Hid (Below w1.heap.size w1 wr) ∧ g < wr.heap.size) (fun _ _ iv _ => n - (intOf iv).toNat)
  case atStart => exact ⟨0, 0, 0, 0, rfl, rfl, rfl, by omega, by omega, Lib.hid ⟨rfl, rfl⟩, HW, HB3, hgs⟩
  case round =>
    obtain ⟨x, y, z, i, rfl, rfl, rfl, hz, hi, HS, HW1, HB, hsw⟩ := hrel
    by_cases hlt : i < n
    · have hlt' : z < (n : Int) := by omega
      subst hz
      have i00 : (0 : Int) ≤ (i : Int) := by omega
      have bf := sumI_bd (f := f) (n := i) (inTo_iff.2 fun k hk => inTo_iff.1 HFI.out k (by omega))
      have bt := sumI_bd (f := t) (n := i) (inTo_iff.2 fun k hk => inTo_iff.1 HTI.out k (by omega))
      have bfi := inTo_iff.1 HFI.out i hlt
      have bti := inTo_iff.1 HTI.out i hlt
      rw [← HS.out.1] at bf
      rw [← HS.out.2] at bt
      have g0 := (HB.out.cell (p := ⟨b, o + i, none⟩) (World.block_lt_of_cell? w1 _ (HCL.out i hlt))).trans (HCL.out i hlt)
      obtain ⟨b', o', rfl, hcell'⟩ := (HD1.out.keep HB.out) (Nat.zero_lt_of_lt hlt)
      have g1 := hcell' i hlt
      clear hcell'
      obtain ⟨p, hp⟩ : ∃ p, f i = p := ⟨_, rfl⟩
      obtain ⟨q, hq⟩ : ∃ q, t i = q := ⟨_, rfl⟩
      rw [hp] at g0 bfi
      rw [hq] at g1 bti
      have v1 : wrap64 (x + p) = x + p := by simp only [wrap64]; omega
      have v2 : wrap64 (y + q) = y + q := by clear v1; simp only [wrap64]; omega
      have wz : wrap64 ((i : Int) + 1) = (i : Int) + 1 := by clear v1 v2; simp only [wrap64]; omega
      have HS2 : Hid (x + p = sumI f (i + 1) ∧ y + q = sumI t (i + 1)) := Lib.hid (by rw [HS.out.1, HS.out.2, ← hp, ← hq]; exact ⟨rfl, rfl⟩)
      have HWd : Hid (Intw wr.drew g n (chg f P Q 0)) := Lib.hid HW1.out
      have HBd := Lib.hid HB.out.drew
      have hsd : g < wr.drew.heap.size := hsw
      clear bf bt bfi bti hp hq HS HW1 HB HW HB3
      go_wp2_with fail
      go_region
      simp only [v1, v2]
      clear v1 v2
      go_wp2_with fail
      go_roundw
      case rel => exact ⟨x + p, y + q, (i : Int) + 1, i + 1, rfl, rfl, by first | rfl | rw [wz], by omega, by omega, HS2, HWd, HBd, hsd⟩
      case measure => first | (simp [intOf]; done) | (simp [intOf]; omega)
    · obtain rfl : i = n := by omega
      subst hz
      have HSS : Hid (x = sumI f i ∧ y = sumI t i) := HS
      clear HW HB3 HS hgs
      go_wp2_with fail
      go_loopw [11] (fun iv wr2 => ∃ (z : Int) (k : Nat), iv = .int .i64 z ∧ z = k ∧ k ≤ cnt ∧ Hid (Intw wr2 g i (chg f P Q k)) ∧ Hid (Below w1.heap.size w1 wr2) ∧ g < wr2.heap.size) (fun iv _ => cnt - (intOf iv).toNat)
      case atStart => exact ⟨0, 0, rfl, by omega, by omega, HW1, HB, hsw⟩
      case round =>
        obtain ⟨z, k, rfl, hz, hk, HW2, HB2, hsw2⟩ := hrel
        by_cases hkt : k < cnt
        · have hkt' : z < (cnt : Int) := by omega
          subst hz
          have k00 : (0 : Int) ≤ (k : Int) := by omega
          have wz : wrap64 ((k : Int) + 1) = (k : Int) + 1 := by simp only [wrap64]; omega
          obtain ⟨b2, o2, rfl, hcell2⟩ := (HR1.out.keep HB2.out) (Nat.zero_lt_of_lt hkt)
          obtain ⟨g0, g1⟩ := hcell2 k hkt
          have hb2w : b2 < w1.heap.size := by
            obtain ⟨b3, o3, hbo, hc'⟩ := HR1.out (Nat.zero_lt_of_lt hkt)
            have hq : b3 < w1.heap.size := World.block_lt_of_cell? _ _ (hc' k hkt).1
            have e2 : b2 = b3 := congrArg Addr.block (Option.some.inj hbo)
            omega
          obtain ⟨q1, q2, q3, q4⟩ := chIn_at HCH.out k hkt
          clear hcell2 HW1 HB hsw
          obtain ⟨u, hu⟩ : ∃ u : Nat, P k = u := ⟨(P k).toNat, by omega⟩
          obtain ⟨y', hy'⟩ : ∃ y', Q k = y' := ⟨_, rfl⟩
          rw [hu] at g0 q1 q2
          rw [hy'] at g1 q3 q4
          have hun : u < i := by omega
          have hun' : ¬ i ≤ u := by omega
          have hgb : ¬ g = b2 := by omega
          obtain ⟨m0, m1⟩ := HW2.out u hun
          have HWs := HW2.out.store (j := u) hun y'
          rw [show updI (chg f P Q k) u y' = chg f P Q (k + 1) by show _ = updI (chg f P Q k) (P k).toNat (Q k); rw [hu, hy', Int.toNat_natCast]] at HWs
          have HBs := HB2.out.setCell (p := ⟨g, u, none⟩) (by simp only; omega) (.int .i64 y')
          generalize hwv : (wr.setCell ⟨g, u, none⟩ (.int .i64 y')) = wv at HWs HBs
          have HWd : Hid (Intw wv.drew g i (chg f P Q (k + 1))) := Lib.hid HWs
          have HBd : Hid (Below w1.heap.size w1 wv.drew) := Lib.hid HBs.drew
          have hsd : g < wv.drew.heap.size := World.block_lt_of_cell? _ _ (HWd.out u hun).1
          clear HWs HBs HW2 HB2 hu hy'
          go_wp2_with fail
          go_region
          go_wp2_with fail
          go_roundw
          case rel => exact ⟨(k : Int) + 1, k + 1, by first | rfl | rw [wz], by omega, by omega, HWd, HBd, hsd⟩
          case measure => first | (simp [intOf]; done) | (simp [intOf]; omega)
        · obtain rfl : k = cnt := by omega
          subst hz
          have HWT : Hid (Intw wr g i t) := Lib.hid (HW2.out.congr fun j hj => HT.out j hj)
          have HR2 := Lib.hid (HR1.out.keep HB2.out)
          have HC2 := Lib.hid (HC1.out.keep HB2.out)
          have HD2 := Lib.hid (HD1.out.keep HB2.out)
          have HBW : Hid (Below w.heap.size w wr) := Lib.hid (HB1.out.trans (HB2.out.mono HB1.out.size))
          have HSB : Hid (Prm.sameB i i t t = true) := Lib.hid (Prm.sameB_yes fun _ _ => rfl)
          clear HW1 HB hsw HW2
          obtain ⟨v, hv⟩ : ∃ v, max (sumI f i) (sumI t i) = v := ⟨_, rfl⟩
          have hvv : v = max x y := by rw [← hv, HSS.out.1, HSS.out.2]
          rw [hv] at HPK
          clear hv
          go_wp2_with fail
          refine (hPeak_any i cap (some ⟨b, o, none⟩) f k c1 a1 P Q _ (by omega) HC2.out (by omega) HR2.out).mono ?_
          rw [HPK.out.1, HPK.out.2]
          rintro e w5 ⟨rfl, hb⟩
          have HW5 := Lib.hid (HWT.out.keep hb)
          have HD5 := Lib.hid (HD2.out.keep hb)
          have HB5 := Lib.hid (HBW.out.trans (hb.mono HBW.out.size))
          clear hb HWT HD2 HBW HR2 HC2
          by_cases hxy : x < y
          · have hyv : v = y := by omega
            subst hyv
            have hx2 : ¬ v ≤ x := by omega
            have hx3 : x ≤ v := by omega
            clear hvv
            go_wp2_with fail
            refine (same_any i i cap' dap (some ⟨g, 0, none⟩) bo t t _ (by omega) (by omega) HW5.out.ints HD5.out).mono ?_
            rw [HSB.out]
            rintro e w6 ⟨rfl, hb⟩
            have HB6 := Lib.hid (HB5.out.trans (hb.mono HB5.out.size))
            clear hb HW5 HD5
            go_wp2_with fail
            refine (sane_any _).mono ?_
            rintro e w7 ⟨rfl, hb⟩
            have D7 := HB6.out.trans (hb.mono HB6.out.size)
            clear hb
            go_wp2_with fail
            go_returns
            exact ⟨rfl, D7⟩
          · have hxv : v = x := by omega
            subst hxv
            have hx3 : y ≤ v := by omega
            clear hvv
            go_wp2_with fail
            refine (same_any i i cap' dap (some ⟨g, 0, none⟩) bo t t _ (by omega) (by omega) HW5.out.ints HD5.out).mono ?_
            rw [HSB.out]
            rintro e w6 ⟨rfl, hb⟩
            have HB6 := Lib.hid (HB5.out.trans (hb.mono HB5.out.size))
            clear hb HW5 HD5
            go_wp2_with fail
            refine (sane_any _).mono ?_
            rintro e w7 ⟨rfl, hb⟩
            have D7 := HB6.out.trans (hb.mono HB6.out.size)
            clear hb
            go_wp2_with fail
            go_returns
            exact ⟨rfl, D7⟩
end Go.Proofs.Ytldepffpafccpaa
