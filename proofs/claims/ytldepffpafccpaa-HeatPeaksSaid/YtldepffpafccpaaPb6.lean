import Derived.Test.YtldepffpafccpaaPa6
import Derived.Test.YtldepffpafccpaaHu
namespace Go.Proofs.Ytldepffpafccpaa
open Go.RowKit Heat
set_option maxRecDepth 100000 in
set_option maxHeartbeats 8000000 in
theorem rPeak_any (n cap : Nat) (ao : Option Addr) (f : Nat → Int) (m dap : Nat) (bo : Option Addr) (P Q : Nat → Int) (w : World) (hn : n ≤ 9223372036854775807) (hc : Ints w ao n f) (hm : m ≤ 9223372036854775807) (hd : Rats w bo m P Q) :
    Calls Try.prog 21 #[.slice ao n cap, .slice bo m dap] w fun e w' => e = .returned (.tuple #[.int .i64 (pkV n f m P Q), .int .i64 (pkE n f m P Q)]) ∧ Below w.heap.size w w' := by
  have HC := Lib.hid hc
  have HD := Lib.hid hd
  clear hc hd
  by_cases h15 : 1 ≤ n ∧ n ≤ 5
  case neg =>
    have HE : Hid (pkV n f m P Q = 0 ∧ pkE n f m P Q = 2) := Lib.hid (pk_bad (by rw [decide_eq_false h15]; rfl))
    have HWI : Hid ((decide ((1 : Int) ≤ (n : Int)) && decide ((n : Int) ≤ 5)) = false) := Lib.hid (by simp; omega)
    clear h15
    go_enter Try.func21, Try.ntmps21
    go_wp2_with fail
    refine (rWithin_any _ _ _ _).mono ?_
    rw [HWI.out]
    rintro e w1 ⟨rfl, hb⟩
    go_wp2_with fail
    refine bodyPost_ret (v := .tuple #[.int .i64 0, .int .i64 2]) (by simp [results, Try.results21, go_sem]) rfl ⟨by rw [HE.out.1, HE.out.2], by go_grown⟩
  have HLE := Lib.hid h15
  have HWI : Hid ((decide ((1 : Int) ≤ (n : Int)) && decide ((n : Int) ≤ 5)) = true) := Lib.hid (by simp; omega)
  obtain ⟨bb, hbb⟩ : ∃ bb, inTo f 0 1000 n = bb := ⟨_, rfl⟩
  have HBB := Lib.hid hbb
  have HIB : Hid (inB n f n 0 1000 = bb) := Lib.hid (by unfold inB; rw [decide_eq_true rfl, hbb]; rfl)
  obtain ⟨i0, hi, hz0, hz1, hz2⟩ := info_parts infoInt
  have HI := Lib.hid (And.intro hi (And.intro hz0 (And.intro hz1 hz2)))
  clear hbb h15 hi hz0 hz1 hz2
  go_enter Try.func21, Try.ntmps21
  go_wp2_with fail
  refine (rWithin_any _ _ _ _).mono ?_
  rw [HWI.out]
  rintro e w1 ⟨rfl, hb⟩
  have HB1 := Lib.hid hb
  clear hb
  go_wp2_with fail
  refine (rIsPowers_any n cap ao f n _ hn (HC.out.keep HB1.out)).mono ?_
  rw [HIB.out]
  rintro e w2 ⟨rfl, hb⟩
  have HB2 := Lib.hid (HB1.out.trans (hb.mono HB1.out.size))
  clear hb HB1
  cases bb with
  | false =>
    have HE : Hid (pkV n f m P Q = 0 ∧ pkE n f m P Q = 2) := Lib.hid (pk_bad (by rw [HBB.out, Bool.and_false]; rfl))
    have hbl := HB2.out
    go_wp2_with fail
    refine bodyPost_ret (v := .tuple #[.int .i64 0, .int .i64 2]) (by simp [results, Try.results21, go_sem]) rfl ⟨by rw [HE.out.1, HE.out.2], by go_grown⟩
  | true =>
    by_cases h100 : 100 < (m : Int)
    · have HE : Hid (pkV n f m P Q = 0 ∧ pkE n f m P Q = 2) := Lib.hid (pk_bad (by rw [HBB.out, decide_eq_false (show ¬ m ≤ 100 by omega)]; simp))
      have hbl := HB2.out
      go_wp2_with fail
      refine bodyPost_ret (v := .tuple #[.int .i64 0, .int .i64 2]) (by simp [results, Try.results21, go_sem]) rfl ⟨by rw [HE.out.1, HE.out.2], by go_grown⟩
    have hn5 := HLE.out.2
    have h1 := HLE.out.1
    obtain ⟨b, o, hao, hcell⟩ := HC.out (by omega)
    have HCL := Lib.hid hcell
    subst hao
    have hbl := HB2.out
    have hw2 := hbl.size
    clear hcell
    go_wp2_with (at_builtin; refine wpList_append_own _ rfl (.tmp 26) (.tmp 27) 24 rfl w2.heap.size 3 i0 _ 1 8 Try.underlying24 HI.out.1 HI.out.2.1 HI.out.2.2.1 HI.out.2.2.2 rfl (by decide) _ 0 [] rfl (World.ownsRow_made w2 #[] 0 (Nat.le_refl _) (by unfold maxLen; omega) rfl) ⟨b, o, none⟩ n cap (cellsI f n) rfl ?c0 ?c1 ?c2 ?c3 ?c4 ?c5 ?_)
    case c0 => rw [cellsI_len]; omega
    case c1 =>
      intro j u hu
      have hj : j < n := by have := (List.getElem?_eq_some_iff.1 hu).1; rwa [cellsI_len] at this
      rw [cellsI_get f hj] at hu
      rw [Addr.add_lit, ← hu]
      have hb0 : b < w.heap.size := World.block_lt_of_cell? w _ (HCL.out j hj)
      exact (((HB2.out.alloc HB2.out.size _)).cell (p := ⟨b, o + j, none⟩) hb0).trans (HCL.out j hj)
    case c2 => exact cellsI_one f n
    case c3 => unfold maxLen; omega
    case c4 => omega
    case c5 => first | omega | (simp; done) | (simp; omega)
    intro v' w3 hown hgrow _
    (try simp only [Nat.zero_add, List.nil_append] at hown)
    obtain ⟨g, cap', rfl, hgB, hgs, hgc, hgm⟩ := own_fm hown h1
    have HW : Hid (Intw w3 g n (chg f P Q 0)) := Lib.hid (Intw.of_own hown fun i hi => cellsI_get f hi)
    have HB3 : Hid (Below w.heap.size w w3) := Lib.hid (Below.grown (hbl.alloc hw2 _) hgrow (by first | omega | (simp; done) | (simp; omega)) (fun k hk => by simp [Value.ownBlock] at hk; omega))
    have hg : w.heap.size ≤ g := by omega
    clear hown hgrow hbl hw2 hgB HB2
    go_wp2_with fail
    refine (rSum_any n cap' (some ⟨g, 0, none⟩) (chg f P Q 0) _ (by omega) HW.out.ints (fun k hk => by have := inTo_iff.1 HBB.out k hk; show (f k).natAbs ≤ _; omega)).mono ?_
    rintro e w4 ⟨rfl, hb⟩
    have HW4 := Lib.hid (HW.out.keep hb)
    have HB4 := Lib.hid (HB3.out.trans (hb.mono HB3.out.size))
    have hs4 : g < w4.heap.size := by have := hb.size; omega
    clear hb HW HB3 hgs
    obtain ⟨t0, ht0⟩ : ∃ t0, sumI (chg f P Q 0) n = t0 := ⟨_, rfl⟩
    rw [ht0]
    have HT0 : Hid (t0 = pkT n f P Q 0) := Lib.hid ht0.symm
    clear ht0
    go_wp2_with fail
    go_loopw [8, 9] (fun pv iv wr => ∃ (t z : Int) (i : Nat), pv = .int .i64 t ∧ iv = .int .i64 z ∧ z = i ∧ i ≤ m ∧ Hid (t = pkT n f P Q i) ∧ Hid (chIn n P Q i = true) ∧ Hid (Intw wr g n (chg f P Q i)) ∧ Hid (Below w.heap.size w wr) ∧ g < wr.heap.size) (fun _ iv _ => m - (intOf iv).toNat)
    case atStart => exact ⟨t0, 0, 0, rfl, rfl, by omega, by omega, HT0, Lib.hid rfl, HW4, HB4, hs4⟩
    case round =>
      obtain ⟨t, z, i, rfl, rfl, hz, hi, HT, HS, HW, HB, hsw⟩ := hrel
      by_cases hlt : i < m
      · have hlt' : z < (m : Int) := by omega
        subst hz
        have i00 : (0 : Int) ≤ (i : Int) := by omega
        have wz : wrap64 ((i : Int) + 1) = (i : Int) + 1 := by simp only [wrap64]; omega
        have wn1 : wrap64 ((n : Int) - 1) = (n : Int) - 1 := by simp only [wrap64]; omega
        obtain ⟨b, o, rfl, hcell⟩ := (HD.out.keep HB.out) (by omega)
        obtain ⟨g0, g1⟩ := hcell i hlt
        have hbz := World.block_lt_of_cell? _ _ g0
        have hbw : b < w.heap.size := by
          obtain ⟨b', o', hbo, hc'⟩ := HD.out (by omega)
          have hq : b' < w.heap.size := World.block_lt_of_cell? _ _ (hc' i hlt).1
          have e := Option.some.inj hbo
          have e2 : b = b' := congrArg Addr.block e
          omega
        have hbl := HB.out
        have hblz := hbl.size
        clear hcell HW4 HB4 hs4 HT0
        obtain ⟨x, hx⟩ : ∃ x, P i = x := ⟨_, rfl⟩
        obtain ⟨y, hy⟩ : ∃ y, Q i = y := ⟨_, rfl⟩
        have HX := Lib.hid hx
        have HY := Lib.hid hy
        rw [hx] at g0
        rw [hy] at g1
        clear hx hy
        by_cases c1 : 0 ≤ x ∧ x ≤ (n : Int) - 1
        case neg =>
          have HE : Hid (pkV n f m P Q = 0 ∧ pkE n f m P Q = 2) := Lib.hid (pk_bad (by rw [chIn_stop (k := i) (by rw [HX.out, HY.out]; exact decide_eq_false (by omega)) m hlt, Bool.and_false]))
          have HW1 : Hid ((decide ((0 : Int) ≤ x) && decide (x ≤ (n : Int) - 1)) = false) := Lib.hid (by simp; omega)
          clear HW HB HS HT c1
          go_wp2_with fail
          refine (rWithin_any _ _ _ _).mono ?_
          rw [HW1.out]
          rintro e w5 ⟨rfl, hb⟩
          have D5 := hbl.trans (hb.mono hblz)
          clear hb hbl
          go_wp2_with fail
          refine bodyPost_ret (v := .tuple #[.int .i64 0, .int .i64 2]) (by simp [results, Try.results21, go_sem]) rfl ⟨by rw [HE.out.1, HE.out.2], by go_grown⟩
        have HW1 : Hid ((decide ((0 : Int) ≤ x) && decide (x ≤ (n : Int) - 1)) = true) := Lib.hid (by simp; omega)
        by_cases c2 : 0 ≤ y ∧ y ≤ 1000
        case neg =>
          have HE : Hid (pkV n f m P Q = 0 ∧ pkE n f m P Q = 2) := Lib.hid (pk_bad (by rw [chIn_stop (k := i) (by rw [HX.out, HY.out]; exact decide_eq_false (by omega)) m hlt, Bool.and_false]))
          have HW2 : Hid ((decide ((0 : Int) ≤ y) && decide (y ≤ 1000)) = false) := Lib.hid (by simp; omega)
          clear HW HB HS HT c1 c2
          go_wp2_with fail
          refine (rWithin_any _ _ _ _).mono ?_
          rw [HW1.out]
          rintro e w5 ⟨rfl, hb⟩
          have D5 := hbl.trans (hb.mono hblz)
          have s5 := D5.size
          have g1' := (hb.cell (p := ⟨b, o + i * 2 + 1, none⟩) hbz).trans g1
          clear hb hbl g0 g1
          go_wp2_with fail
          refine (rWithin_any _ _ _ _).mono ?_
          rw [HW2.out]
          rintro e w6 ⟨rfl, hb⟩
          have D6 := D5.trans (hb.mono s5)
          clear hb D5 s5
          go_wp2_with fail
          refine bodyPost_ret (v := .tuple #[.int .i64 0, .int .i64 2]) (by simp [results, Try.results21, go_sem]) rfl ⟨by rw [HE.out.1, HE.out.2], by go_grown⟩
        have HW2 : Hid ((decide ((0 : Int) ≤ y) && decide (y ≤ 1000)) = true) := Lib.hid (by simp; omega)
        have HS2 : Hid (chIn n P Q (i + 1) = true) := Lib.hid (chIn_next HS.out (by rw [HX.out, HY.out]; exact decide_eq_true (by omega)))
        obtain ⟨k, rfl⟩ : ∃ k : Nat, x = k := ⟨x.toNat, by omega⟩
        have hkn : k < n := by omega
        have hkn' : (k : Int) < (n : Int) := by omega
        have hk0 : (0 : Int) ≤ (k : Int) := by omega
        clear c1 c2 HS hsw
        go_wp2_with fail
        refine (rWithin_any _ _ _ _).mono ?_
        rw [HW1.out]
        rintro e w5 ⟨rfl, hb⟩
        have D5 : Hid (Below wr.heap.size wr w5) := Lib.hid hb
        have g0' := (hb.cell (p := ⟨b, o + i * 2, none⟩) hbz).trans g0
        have g1' := (hb.cell (p := ⟨b, o + i * 2 + 1, none⟩) hbz).trans g1
        have hz5 : b < w5.heap.size := by have := hb.size; omega
        clear hb g0 g1 hbl
        go_wp2_with fail
        refine (rWithin_any _ _ _ _).mono ?_
        rw [HW2.out]
        rintro e w6 ⟨rfl, hb⟩
        have D6 : Below wr.heap.size wr w6 := D5.out.trans (hb.mono D5.out.size)
        have g0 := (hb.cell (p := ⟨b, o + i * 2, none⟩) hz5).trans g0'
        have g1 := (hb.cell (p := ⟨b, o + i * 2 + 1, none⟩) hz5).trans g1'
        have HW6 := Lib.hid (HW.out.keep D6)
        have HB6 := Lib.hid (HB.out.trans (D6.mono HB.out.size))
        clear hb g0' g1' hz5 D5 D6 HW HB
        obtain ⟨m0, m1⟩ := HW6.out k hkn
        have HWs := Lib.hid (HW6.out.store (j := k) hkn y)
        rw [show updI (chg f P Q i) k y = chg f P Q (i + 1) by show _ = updI (chg f P Q i) (P i).toNat (Q i); rw [HX.out, HY.out, Int.toNat_natCast]] at HWs
        have HBs := Lib.hid (HB6.out.setCell (p := ⟨g, k, none⟩) (by simp only; omega) (.int .i64 y))
        have hgb : ¬ g = b := by omega
        generalize hwv : (w6.setCell ⟨g, k, none⟩ (.int .i64 y)) = wv at HWs HBs
        go_wp2_with fail
        go_region
        have HWd : Hid (Intw wv.drew g n (chg f P Q (i + 1))) := Lib.hid HWs.out
        have HBd : Hid (Below w.heap.size w wv.drew) := Lib.hid HBs.out.drew
        have hsd : g < wv.drew.heap.size := World.block_lt_of_cell? _ _ (HWd.out k hkn).1
        clear hwv HWs HBs HW6 HB6 m0 m1 g0 g1 hbz hbw hgb hblz HW1 HW2
        generalize wv.drew = wu at *
        have HIN := Lib.hid (inTo_iff.1 (chg_in HBB.out (i + 1) HS2.out))
        go_wp2_with fail
        refine (rSum_any n cap' (some ⟨g, 0, none⟩) (chg f P Q (i + 1)) _ (by omega) HWd.out.ints (fun q hq => by have := HIN.out q hq; omega)).mono ?_
        rintro e w7 ⟨rfl, hb⟩
        have HW5 := Lib.hid (HWd.out.keep hb)
        have HB5 := Lib.hid (HBd.out.trans (hb.mono HBd.out.size))
        have hs5 : g < w7.heap.size := by have := hb.size; omega
        clear hb HWd HBd hsd
        obtain ⟨s, hs⟩ : ∃ s, sumI (chg f P Q (i + 1)) n = s := ⟨_, rfl⟩
        rw [hs]
        have HT2 : Hid (pkT n f P Q (i + 1) = max t s) := Lib.hid (by rw [HT.out, ← hs]; rfl)
        clear hs
        by_cases hts : t < s
        · have hts2 : ¬ s ≤ t := by omega
          have hts3 : t ≤ s := by omega
          have HT3 : Hid (s = pkT n f P Q (i + 1)) := Lib.hid (by rw [HT2.out]; omega)
          go_wp2_with fail
          go_roundw
          case rel => exact ⟨s, (i : Int) + 1, i + 1, by first | rfl | simp [hts, hts2, hts3], by first | rfl | rw [wz], by omega, by omega, HT3, HS2, HW5, HB5, hs5⟩
          case measure => first | (simp [intOf]; done) | (simp [intOf]; omega)
        · have hts2 : s ≤ t := by omega
          have HT3 : Hid (t = pkT n f P Q (i + 1)) := Lib.hid (by rw [HT2.out]; omega)
          go_wp2_with fail
          go_roundw
          case rel => exact ⟨t, (i : Int) + 1, i + 1, by first | rfl | simp [hts, hts2], by first | rfl | rw [wz], by omega, by omega, HT3, HS2, HW5, HB5, hs5⟩
          case measure => first | (simp [intOf]; done) | (simp [intOf]; omega)
      · obtain rfl : i = m := by omega
        have HE : Hid (pkV n f i P Q = t ∧ pkE n f i P Q = 0) := Lib.hid (by rw [HT.out]; exact pk_ok (by rw [decide_eq_true HLE.out, HBB.out]; rfl) (by omega) HS.out)
        have hbl := HB.out
        clear HT HS HW
        go_wp2_with fail
        refine bodyPost_ret (v := .tuple #[.int .i64 t, .int .i64 0]) (by simp [results, Try.results21, go_sem]) rfl ⟨by rw [HE.out.1, HE.out.2], by go_grown⟩
end Go.Proofs.Ytldepffpafccpaa
