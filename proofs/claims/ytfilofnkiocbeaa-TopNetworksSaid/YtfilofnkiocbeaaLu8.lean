import Derived.Test.YtfilofnkiocbeaaWz8
import Derived.Test.YtfilofnkiocbeaaBj8
import Derived.Laws.MakeOwn
namespace Ben
theorem stB_upd {g : Nat → Int} {m i : Nat} {v : Int} (h : stB g m = true) (hv : 0 ≤ v ∧ v ≤ 2) : stB (fun j => if j = i then v else g j) m = true := by
  rw [stB_iff] at h ⊢
  intro k hk
  by_cases e : k = i
  · rw [if_pos e]; exact hv
  · rw [if_neg e]; exact h k hk
theorem upd_same {g : Nat → Int} {i : Nat} {v : Int} (h : g i = v) : (fun j => if j = i then v else g j) = g := funext fun j => by
  by_cases e : j = i
  · rw [if_pos e, e, h]
  · rw [if_neg e]
end Ben
namespace Go.Proofs.Ytfilofnkiocbeaa
open Go.RowKit Ben
set_option maxRecDepth 100000 in
set_option maxHeartbeats 4000000 in
theorem isStuck_wide (q : Nat) (hq : q ≤ 3) (m cap : Nat) (ao : Option Addr) (f : Nat → Int) (w : World) (hm : m ≤ 9223372036854775807) (hc : Ints w ao m f) :
    Calls Try.prog 44 #[.int .i64 (sz q : Nat), .slice ao m cap] w fun e w' => e = .returned (.bool (stB f m && decide (m = cn q))) ∧ w = w' := by
  have HC := Lib.hid hc
  clear hc
  · skip
    go_enter Try.func44, Try.ntmps44
    go_wp2_with fail
    go_loopw [5] (fun iv wr => ∃ (z : Int) (k : Nat), iv = .int .i64 z ∧ z = k ∧ k ≤ m ∧ Hid (stB f k = true) ∧ w = wr) (fun iv _ => m - (intOf iv).toNat)
    case atStart => exact ⟨0, 0, rfl, rfl, by omega, Lib.hid rfl, rfl⟩
    case round =>
      obtain ⟨z, k, rfl, hz, hk, HK, rfl⟩ := hrel
      by_cases hlt : k < m
      · have hlt' : z < (m : Int) := by omega
        subst hz
        have k00 : (0 : Int) ≤ (k : Int) := by omega
        have k80 : (k : Int) + 1 ≤ 9223372036854775807 := by omega
        obtain ⟨b, o, rfl, hcell⟩ := HC.out (by omega)
        have c0 := hcell k hlt
        obtain ⟨x, hx⟩ : ∃ x, f k = x := ⟨_, rfl⟩
        rw [hx] at c0
        have HX := Lib.hid hx
        clear hcell hx
        by_cases h1 : x < 0
        · have HF : Hid (stB f m = false) := Lib.hid (stB_stop (k := k) (by rw [HX.out]; omega) m hlt)
          go_wp2_with fail
          go_ret
          exact ⟨by rw [HF.out] <;> rfl, rfl⟩
        by_cases h2 : 2 < x
        · have HF : Hid (stB f m = false) := Lib.hid (stB_stop (k := k) (by rw [HX.out]; omega) m hlt)
          have h3 : 3 ≤ x := by omega
          go_wp2_with fail
          go_ret
          exact ⟨by rw [HF.out] <;> rfl, rfl⟩
        have HK2 : Hid (stB f (k + 1) = true) := Lib.hid (by simp only [stB]; rw [HK.out, decide_eq_true (by rw [HX.out]; omega)]; rfl)
        have h3 : ¬ 3 ≤ x := by omega
        go_wp2_with fail
        go_roundw
        case rel => exact ⟨(k : Int) + 1, k + 1, by first | rfl | (rw [show wrap64 ((k : Int) + 1) = (k : Int) + 1 by simp only [wrap64]; omega]), by omega, by omega, HK2, by first | rfl | trivial⟩
        case measure => first | (simp [intOf]; done) | (simp [intOf]; omega)
      · have hzn : ¬ z < (m : Int) := by omega
        obtain rfl : k = m := by omega
        subst hz
        have HD : Hid (((k : Int) == ((cn q : Nat) : Int)) = decide (k = cn q)) := Lib.hid (by
          by_cases e : k = cn q
          · rw [e, decide_eq_true rfl]; simp
          · rw [decide_eq_false e]; exact beq_eq_false_iff_ne.2 (by omega))
        go_wp2_with fail
        refine (switches_any q hq _).mono ?_
        rintro e w' ⟨rfl, rfl⟩
        go_wp2_with fail
        go_ret
        exact ⟨by rw [HK.out, HD.out] <;> rfl, rfl⟩
set_option maxRecDepth 100000 in
set_option maxHeartbeats 8000000 in
theorem BenesSums_any (n cap : Nat) (ao : Option Addr) (f : Nat → Int) (m dap : Nat) (bo : Option Addr) (g : Nat → Int) (x : Int) (w : World) (hn : n ≤ 9223372036854775807) (hm1 : m ≤ dap) (hm2 : dap ≤ 9223372036854775807) (hc : Ints w ao n f) (hd : Ints w bo m g) (hx : 0 ≤ x ∧ x ≤ 255) :
    Calls Try.prog 15 #[.slice ao n cap, .slice bo m dap, .int .u8 x] w fun e w' => e = .returned (.bool true) ∧ Below w.heap.size w w' := by
  have HC := Lib.hid hc
  have HD := Lib.hid hd
  clear hc hd
  by_cases h8 : 8 < (n : Int)
  · go_enter Try.func15, Try.ntmps15
    go_wp2_with fail
    refine (sane_any _).mono ?_
    rintro e w1 ⟨rfl, hb⟩
    go_wp2_with fail
    go_returns
    exact ⟨rfl, hb⟩
  have h8' : (n : Int) ≤ 8 := by omega
  cases h1 : Prm.isPm n f
  · have H1 := Lib.hid h1
    have HM := Lib.hid hn
    clear h1 hn hm1 hm2
    go_enter Try.func15, Try.ntmps15
    go_wp2_with fail
    refine (rIsPerm_any n cap ao f _ HM.out HC.out).mono ?_
    rw [H1.out]
    rintro e w1 ⟨rfl, hb⟩
    have HB := Lib.hid hb
    clear hb
    go_wp2_with fail
    refine (sane_any _).mono ?_
    rintro e wz ⟨rfl, hb⟩
    have DZ := HB.out.trans (hb.mono HB.out.size)
    clear hb
    go_wp2_with fail
    go_returns
    exact ⟨rfl, DZ⟩
  obtain ⟨k, hk, hnk, hlv, q, P, hfp⟩ := pm_of h1
  have HLV := Lib.hid hlv
  have HNK := Lib.hid hnk
  cases h2 : (stB g m && decide (m = cn k))
  · have H1 := Lib.hid h1
    have H2 := Lib.hid h2
    have HM := Lib.hid (And.intro hn (And.intro hm1 hm2))
    have HST : Hid (∀ (w : World), Ints w bo m g → Calls Try.prog 44 #[.int .i64 (n : Int), .slice bo m dap] w fun e w' => e = .returned (.bool false) ∧ w = w') := Lib.hid (fun w h => by
      have := isStuck_wide k hk m dap bo g w (Nat.le_trans hm1 hm2) h
      rw [← hnk, h2] at this
      exact this)
    clear h1 h2 hn hm1 hm2 hnk hlv hfp P hk
    go_enter Try.func15, Try.ntmps15
    go_wp2_with fail
    refine (rIsPerm_any n cap ao f _ HM.out.1 HC.out).mono ?_
    rw [H1.out]
    rintro e w1 ⟨rfl, hb⟩
    have HB := Lib.hid hb
    have HD1 := Lib.hid (HD.out.keep hb)
    clear hb
    go_wp2_with fail
    refine (HST.out _ HD1.out).mono ?_
    rintro e w' ⟨rfl, rfl⟩
    go_wp2_with fail
    refine (sane_any _).mono ?_
    rintro e wz ⟨rfl, hb⟩
    have DZ := HB.out.trans (hb.mono HB.out.size)
    clear hb
    go_wp2_with fail
    go_returns
    exact ⟨rfl, DZ⟩
  rw [Bool.and_eq_true] at h2
  obtain ⟨hst, hmk⟩ := h2
  have hmk : m = cn k := of_decide_eq_true hmk
  have hk2 : k ≤ 2 := by
    have : k = 0 ∨ k = 1 ∨ k = 2 ∨ k = 3 := by omega
    rcases this with rfl | rfl | rfl | rfl
    · omega
    · omega
    · omega
    · have e : sz 3 = 16 := rfl
      omega
  have hm20 : 1 ≤ m ∧ m ≤ 20 := by
    have : k = 0 ∨ k = 1 ∨ k = 2 := by omega
    rcases this with rfl | rfl | rfl <;> (simp [cn, sz] at hmk; omega)
  have HST : Hid (∀ (w : World), Ints w bo m g → Calls Try.prog 44 #[.int .i64 (n : Int), .slice bo m dap] w fun e w' => e = .returned (.bool true) ∧ w = w') := Lib.hid (fun w h => by
    have := isStuck_wide k hk m dap bo g w (Nat.le_trans hm1 hm2) h
    rw [← hnk, hst, decide_eq_true hmk] at this
    exact this)
  obtain ⟨i, hi⟩ : ∃ i : Nat, x % (m : Int) = (i : Int) := ⟨(x % (m : Int)).toNat, by have := Int.emod_nonneg x (show (m : Int) ≠ 0 by omega); omega⟩
  have him : i < m := by have := Int.emod_lt_of_pos x (show (0 : Int) < (m : Int) by omega); omega
  obtain ⟨v0, hv0⟩ : ∃ v0, wN k (fun j => (f j).toNat) g = v0 := ⟨_, rfl⟩
  obtain ⟨v1, hv1⟩ : ∃ v1, wN k (fun j => (f j).toNat) (updI g i 1) = v1 := ⟨_, rfl⟩
  obtain ⟨v2, hv2⟩ : ∃ v2, wN k (fun j => (f j).toNat) (updI g i 2) = v2 := ⟨_, rfl⟩
  have hle : ∀ (st : Nat → Int), wN k (fun j => (f j).toNat) st ≤ 1048576 := fun st => by
    have h5 := wN_le k (fun j => (f j).toNat) st
    have h6 : cn k ≤ 20 := by
      have : k = 0 ∨ k = 1 ∨ k = 2 := by omega
      rcases this with rfl | rfl | rfl <;> decide
    have h7 : 2 ^ cn k ≤ 2 ^ 20 := Nat.pow_le_pow_right (by omega) h6
    have h9 : (2 : Nat) ^ 20 = 1048576 := by decide
    omega
  have hb1 := hle (updI g i 1)
  have hb2 := hle (updI g i 2)
  rw [hv1] at hb1
  rw [hv2] at hb2
  have hwy : ∀ (st : Nat → Int), stB st m = true → wyV n m f st = (((wN k (fun j => (f j).toNat) st : Nat) : Int), 0) := fun st hs => by
    rw [wyV_ok h1 (by rw [hs, decide_eq_true (by rw [hmk, hlv])]; rfl), hlv]
  have W0 : Hid (wyV n m f g = ((v0 : Int), 0)) := Lib.hid (by rw [hwy g hst, hv0])
  have W1 : Hid (wyV n m f (updI g i 1) = ((v1 : Int), 0)) := Lib.hid ((hwy (updI g i 1) (stB_upd hst (by omega))).trans (by rw [hv1]))
  have W2 : Hid (wyV n m f (updI g i 2) = ((v2 : Int), 0)) := Lib.hid ((hwy (updI g i 2) (stB_upd hst (by omega))).trans (by rw [hv2]))
  have HG0 : Hid (g i = 0 → v0 = v1 + v2) := Lib.hid (fun h => by
    rw [← hv0, ← hv1, ← hv2]
    exact wN_split k _ g i (by rw [← hmk]; exact him) h)
  have HG1 : Hid (g i = 1 → v0 = v1) := Lib.hid (fun h => by rw [← hv0, ← hv1]; unfold updI; rw [upd_same h])
  have HG2 : Hid (g i = 2 → v0 = v2) := Lib.hid (fun h => by rw [← hv0, ← hv2]; unfold updI; rw [upd_same h])
  have hgi := (stB_iff.1 hst) i him
  have H1 := Lib.hid h1
  have HM := Lib.hid (And.intro hn (And.intro hm1 (And.intro hm2 (And.intro hm20 him))))
  have hw : wrap64 x = x := by unfold wrap64; omega
  have HX := Lib.hid hw
  have b1 : (v1 : Int) ≤ 1048576 := by omega
  have b2 : (v2 : Int) ≤ 1048576 := by omega
  have x0 : 0 ≤ x := hx.1
  have x1 : x ≤ 255 := hx.2
  have mp : (0 : Int) < (m : Int) := by omega
  obtain ⟨b, o, hbo, hcell⟩ := HD.out (by omega)
  subst hbo
  obtain ⟨y, hy⟩ : ∃ y, g i = y := ⟨_, rfl⟩
  rw [hy] at hgi HG0 HG1 HG2
  have hci := hcell i him
  rw [hy] at hci
  have HCI := Lib.hid hci
  have HCELL := Lib.hid hcell
  have HI := Lib.hid hi
  have HY := Lib.hid hgi
  obtain ⟨i0, hi0, hz0, hz1, hz2⟩ := info_parts infoInt
  have HII := Lib.hid (And.intro hi0 (And.intro hz0 (And.intro hz1 hz2)))
  clear hst hmk hk2 hm20 him hv0 hv1 hv2 hle hb1 hb2 hwy h1 hn hm1 hm2 hx hcell hy hci hgi hi0 hz0 hz1 hz2 hw hi hk hnk hlv hfp P
  go_enter Try.func15, Try.ntmps15
  go_wp2_with fail
  refine (rIsPerm_any n cap ao f _ HM.out.1 HC.out).mono ?_
  rw [H1.out]
  rintro e w1 ⟨rfl, hb⟩
  have HB1 := Lib.hid hb
  have HC1 := Lib.hid (HC.out.keep hb)
  have HD1 := Lib.hid (HD.out.keep hb)
  clear hb
  go_wp2_with fail
  refine (HST.out _ HD1.out).mono ?_
  rintro e w' ⟨rfl, rfl⟩
  go_wp2_with fail
  refine (pWays_any n cap m dap ao (some ⟨b, o, none⟩) f g _ HM.out.1 (by have := HM.out; omega) HM.out.2.1 HM.out.2.2.1 HC1.out HD1.out).mono ?_
  rw [W0.out]
  rintro e w2 ⟨rfl, hb⟩
  have HB2 : Hid (Below w.heap.size w w2) := Lib.hid (HB1.out.trans (hb.mono HB1.out.size))
  have HS2 : Hid (w.heap.size ≤ w2.heap.size) := Lib.hid HB2.out.size
  clear hb HB1 HC1 HD1
  have wx := HX.out
  have ix := HI.out
  go_upto_region 5 with fail
  rw [ix]
  clear wx ix
  have AL5 : Below w.heap.size w (w2.alloc (Obj.cells #[] 3)) := HB2.out.alloc HB2.out.size _
  go_wp2_with (at_builtin; refine wpList_append_lies _ rfl (.tmp 43) (.tmp 44) 28 rfl w2.heap.size 3 i0 _ 1 8 Try.underlying28 HII.out.1 HII.out.2.1 HII.out.2.2.1 HII.out.2.2.2 rfl (by decide) (.slice (some ⟨w2.heap.size, 0, none⟩) 0 0) 0 [] rfl (World.ownsRow_made w2 #[] 0 (Nat.le_refl _) (by unfold maxLen; omega) rfl) ⟨b, o, none⟩ m dap (cellsI g m) rfl ?l5 ?c5 (cellsI_one _ _) ?m5 ?h5 ?y5 ?z5 _ rfl ?_)
  case l5 => rw [cellsI_len]; omega
  case c5 =>
    intro j u hu
    have hj : j < m := by have := (List.getElem?_eq_some_iff.1 hu).1; rwa [cellsI_len] at this
    rw [cellsI_get g hj] at hu
    rw [Addr.add_lit, ← hu]
    exact (AL5.cell (p := ⟨b, o + j, none⟩) (World.block_lt_of_cell? w _ (HCELL.out j hj))).trans (HCELL.out j hj)
  case m5 => have := HM.out; omega
  case h5 => have := HM.out; unfold maxLen; omega
  case y5 => have := HM.out; omega
  case z5 => simp
  intro g5 c5 w5 hown hgrow hor hlg
  (try simp only [Nat.zero_add, List.nil_append] at hown)
  obtain ⟨_, _, he, _, _, hq1, hq2⟩ := own_fm hown (by have := HM.out; omega)
  have HCP5 : Hid (m ≤ c5 ∧ c5 ≤ 9223372036854775807) := Lib.hid (by cases he; exact ⟨hq1, hq2⟩)
  have HB5 : Hid (Below w.heap.size w w5) := Lib.hid (Below.grown AL5 hgrow AL5.size (fun q hq => by have h1 : w2.heap.size = q := Option.some.inj hq; have h2 := HB2.out.size; omega))
  have HW5 : Hid (Intw w5 g5 m g) := Lib.hid (Intw.of_own hown fun j hj => cellsI_get _ hj)
  have hg5 : w2.heap.size ≤ g5 := by
    rcases hor with e | e
    · have h1 : w2.heap.size = g5 := Option.some.inj e; omega
    · rw [e]; simp
  clear he hown hgrow hor AL5
  have AL7 : Below w.heap.size w (w5.alloc (Obj.cells #[] 3)) := HB5.out.alloc HB5.out.size _
  go_wp2_with (at_builtin; refine wpList_append_lies _ rfl (.tmp 46) (.tmp 47) 28 rfl w5.heap.size 3 i0 _ 1 8 Try.underlying28 HII.out.1 HII.out.2.1 HII.out.2.2.1 HII.out.2.2.2 rfl (by decide) (.slice (some ⟨w5.heap.size, 0, none⟩) 0 0) 0 [] rfl (World.ownsRow_made w5 #[] 0 (Nat.le_refl _) (by unfold maxLen; omega) rfl) ⟨b, o, none⟩ m dap (cellsI g m) rfl ?l7 ?c7 (cellsI_one _ _) ?m7 ?h7 ?y7 ?z7 _ rfl ?_)
  case l7 => rw [cellsI_len]; omega
  case c7 =>
    intro j u hu
    have hj : j < m := by have := (List.getElem?_eq_some_iff.1 hu).1; rwa [cellsI_len] at this
    rw [cellsI_get g hj] at hu
    rw [Addr.add_lit, ← hu]
    exact (AL7.cell (p := ⟨b, o + j, none⟩) (World.block_lt_of_cell? w _ (HCELL.out j hj))).trans (HCELL.out j hj)
  case m7 => have := HM.out; omega
  case h7 => have := HM.out; unfold maxLen; omega
  case y7 => have := HM.out; omega
  case z7 => simp
  intro g7 c7 w7 hown hgrow hor hlg
  (try simp only [Nat.zero_add, List.nil_append] at hown)
  obtain ⟨_, _, he, _, _, hq1, hq2⟩ := own_fm hown (by have := HM.out; omega)
  have HCP7 : Hid (m ≤ c7 ∧ c7 ≤ 9223372036854775807) := Lib.hid (by cases he; exact ⟨hq1, hq2⟩)
  have HB7 : Hid (Below w.heap.size w w7) := Lib.hid (Below.grown AL7 hgrow AL7.size (fun q hq => by have h1 : w5.heap.size = q := Option.some.inj hq; have h2 := HB5.out.size; omega))
  have HW7 : Hid (Intw w7 g7 m g) := Lib.hid (Intw.of_own hown fun j hj => cellsI_get _ hj)
  have hg7 : w5.heap.size ≤ g7 := by
    rcases hor with e | e
    · have h1 : w5.heap.size = g7 := Option.some.inj e; omega
    · rw [e]; simp
  have HA7 : Hid (Intw w7 g5 m g) := Lib.hid ((HW5.out.keep ((Below.refl _ _).alloc (Nat.le_refl _) _)).grown hgrow (fun e => by have h1 : g5 = w5.heap.size := Option.some.inj e; omega))
  have hgg : ¬ g5 = g7 := by omega
  have hgg' : ¬ g7 = g5 := by omega
  clear he hown hgrow hor AL7 HW5 HB2
  have him := HM.out.2.2.2.2
  obtain ⟨p0, p1⟩ := HA7.out i him
  obtain ⟨p2, p3⟩ := HW7.out i him
  have i1 : (0 : Int) ≤ (i : Int) := by omega
  have i2 : (i : Int) < (m : Int) := by omega
  have i3 : (i : Int).toNat = i := by omega
  have HA9 : Hid (Intw ((w7.setCell ⟨g5, i, none⟩ (.int .i64 1)).setCell ⟨g7, i, none⟩ (.int .i64 2)) g5 m (updI g i 1)) := Lib.hid ((HA7.out.store him 1).other hgg')
  have HB9 : Hid (Intw ((w7.setCell ⟨g5, i, none⟩ (.int .i64 1)).setCell ⟨g7, i, none⟩ (.int .i64 2)) g7 m (updI g i 2)) := Lib.hid ((HW7.out.other hgg).store him 2)
  have HD9 : Hid (Below w.heap.size w ((w7.setCell ⟨g5, i, none⟩ (.int .i64 1)).setCell ⟨g7, i, none⟩ (.int .i64 2))) := Lib.hid ((HB7.out.setCell (by show w.heap.size ≤ g5; have := HS2.out; omega) _).setCell (by show w.heap.size ≤ g7; have := HB5.out.size; omega) _)
  obtain ⟨w9, hw9⟩ : ∃ w9, w9 = (w7.setCell ⟨g5, i, none⟩ (.int .i64 1)).setCell ⟨g7, i, none⟩ (.int .i64 2) := ⟨_, rfl⟩
  rw [← hw9] at HA9 HB9 HD9
  have HW9 := Lib.hid hw9
  clear hw9
  go_upto_region 7 with fail
  rw [← HW9.out]
  clear p0 p1 p2 p3 HA7 HW7 HB7 HB5
  go_wp2_with fail
  refine (pWays_any n cap m c5 ao (some ⟨g5, 0, none⟩) f (updI g i 1) _ HM.out.1 (by have := HM.out; omega) HCP5.out.1 HCP5.out.2 (HC.out.keep HD9.out) HA9.out.ints).mono ?_
  rw [W1.out]
  rintro e wa ⟨rfl, hb⟩
  have HDa : Hid (Below w.heap.size w wa) := Lib.hid (HD9.out.trans (hb.mono HD9.out.size))
  have HBa := Lib.hid (HB9.out.keep hb)
  clear hb HA9 HB9 HD9
  go_wp2_with fail
  refine (pWays_any n cap m c7 ao (some ⟨g7, 0, none⟩) f (updI g i 2) _ HM.out.1 (by have := HM.out; omega) HCP7.out.1 HCP7.out.2 (HC.out.keep HDa.out) HBa.out.ints).mono ?_
  rw [W2.out]
  rintro e wb ⟨rfl, hb⟩
  have HDb : Hid (Below w.heap.size w wb) := Lib.hid (HDa.out.trans (hb.mono HDa.out.size))
  clear hb HDa HBa
  have cy : wb.cell? ⟨b, o + i, none⟩ = some (.int .i64 y) := (HDb.out.cell (p := ⟨b, o + i, none⟩) (World.block_lt_of_cell? w _ HCI.out)).trans HCI.out
  have n1 : ¬ (v1 : Int) < 0 := by omega
  have n2 : ¬ (v2 : Int) < 0 := by omega
  rcases (show y = 0 ∨ y = 1 ∨ y = 2 by have := HY.out; omega) with rfl | rfl | rfl
  · have hv := HG0.out rfl
    have e1 : ((v0 : Int) == (v1 : Int) + (v2 : Int)) = true := beq_iff_eq.2 (by omega)
    clear hv HG0 HG1 HG2
    go_wp2_with fail
    refine (sane_any _).mono ?_
    rintro e wz ⟨rfl, hb⟩
    have DZ := HDb.out.trans (hb.mono HDb.out.size)
    clear hb
    go_wp2_with fail
    go_returns
    exact ⟨rfl, DZ⟩
  · obtain rfl := HG1.out rfl
    clear HG0 HG1 HG2
    go_wp2_with fail
    refine (sane_any _).mono ?_
    rintro e wz ⟨rfl, hb⟩
    have DZ := HDb.out.trans (hb.mono HDb.out.size)
    clear hb
    go_wp2_with fail
    go_returns
    exact ⟨rfl, DZ⟩
  · obtain rfl := HG2.out rfl
    clear HG0 HG1 HG2
    go_wp2_with fail
    refine (sane_any _).mono ?_
    rintro e wz ⟨rfl, hb⟩
    have DZ := HDb.out.trans (hb.mono HDb.out.size)
    clear hb
    go_wp2_with fail
    go_returns
    exact ⟨rfl, DZ⟩
end Go.Proofs.Ytfilofnkiocbeaa
