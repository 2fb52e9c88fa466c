import Derived.Test.YtldepffpafccpaaSa6
namespace Go.Proofs.Ytldepffpafccpaa
open Go.RowKit Heat
set_option maxRecDepth 100000 in
set_option maxHeartbeats 8000000 in
theorem rSteps_any (n cap : Nat) (ao : Option Addr) (f : Nat → Int) (m dap : Nat) (bo : Option Addr) (t : Nat → Int) (B : Int) (w : World) (hn : n ≤ 9223372036854775807) (hc : Ints w ao n f) (hm : m ≤ 9223372036854775807) (hd : Ints w bo m t) :
    Calls Try.prog 19 #[.slice ao n cap, .slice bo m dap, .int .i64 B] w fun e w' => StepsR w.heap.size w' e n f m t B ∧ Below w.heap.size w w' := by
  have HC := Lib.hid hc
  have HD := Lib.hid hd
  clear hc hd
  by_cases h15 : 1 ≤ n ∧ n ≤ 5
  case neg =>
    have HE : Hid (stE n f m t B = 2) := Lib.hid (by unfold stE; rw [decide_eq_false h15]; rfl)
    have HWI : Hid ((decide ((1 : Int) ≤ (n : Int)) && decide ((n : Int) ≤ 5)) = false) := Lib.hid (by simp; omega)
    clear h15
    go_enter Try.func19, Try.ntmps19
    go_wp2_with fail
    refine (rWithin_any _ _ _ _).mono ?_
    rw [HWI.out]
    rintro e w1 ⟨rfl, hb⟩
    go_wp2_with fail
    refine bodyPost_ret (v := .tuple #[.slice none 0 0, .int .i64 2]) (by simp [results, Try.results19, go_sem]) rfl ⟨stepsR_no HE.out (by decide), by go_grown⟩
  have HLE := Lib.hid h15
  have HWI : Hid ((decide ((1 : Int) ≤ (n : Int)) && decide ((n : Int) ≤ 5)) = true) := Lib.hid (by simp; omega)
  obtain ⟨b1, hb1⟩ : ∃ b1, inTo f 0 1000 n = b1 := ⟨_, rfl⟩
  have H0 := Lib.hid hb1
  have HIB : Hid (inB n f n 0 1000 = b1) := Lib.hid (by unfold inB; rw [decide_eq_true rfl, hb1]; rfl)
  have H1 : Hid ((decide (1 ≤ n ∧ n ≤ 5) && inTo f 0 1000 n) = b1) := Lib.hid (by rw [decide_eq_true h15, hb1]; rfl)
  obtain ⟨b2, hb2⟩ : ∃ b2, inB m t n 0 1000 = b2 := ⟨_, rfl⟩
  have H2 := Lib.hid hb2
  obtain ⟨b3, hb3⟩ : ∃ b3, (decide ((0 : Int) ≤ B) && decide (B ≤ (5000 : Int))) = b3 := ⟨_, rfl⟩
  have H3 := Lib.hid hb3
  clear hb1 hb2 hb3 h15
  go_enter Try.func19, Try.ntmps19
  go_wp2_with fail
  refine (rWithin_any _ _ _ _).mono ?_
  rw [HWI.out]
  rintro e w1 ⟨rfl, hb⟩
  have HB1 := Lib.hid hb
  clear hb
  go_wp2_with fail
  refine (rIsPowers_any n cap ao f n _ hn (HC.out.keep HB1.out)).mono ?_
  rw [HIB.out]
  rintro e w2 ⟨rfl, hb⟩
  have HB2 := Lib.hid (HB1.out.trans (hb.mono HB1.out.size))
  have hbl := HB2.out
  clear hb HB1
  cases b1 with
  | false =>
    have HE : Hid (stE n f m t B = 2) := Lib.hid (by unfold stE; rw [H1.out]; rfl)
    go_wp2_with fail
    refine bodyPost_ret (v := .tuple #[.slice none 0 0, .int .i64 2]) (by simp [results, Try.results19, go_sem]) rfl ⟨stepsR_no HE.out (by decide), by go_grown⟩
  | true =>
  clear hbl
  go_wp2_with fail
  refine (rIsPowers_any m dap bo t n _ hm (HD.out.keep HB2.out)).mono ?_
  rw [H2.out]
  rintro e w3 ⟨rfl, hb⟩
  have HB3 := Lib.hid (HB2.out.trans (hb.mono HB2.out.size))
  have hbl := HB3.out
  clear hb HB2
  cases b2 with
  | false =>
    have HE : Hid (stE n f m t B = 2) := Lib.hid (by unfold stE; rw [H1.out, H2.out]; rfl)
    go_wp2_with fail
    refine bodyPost_ret (v := .tuple #[.slice none 0 0, .int .i64 2]) (by simp [results, Try.results19, go_sem]) rfl ⟨stepsR_no HE.out (by decide), by go_grown⟩
  | true =>
  clear hbl
  go_wp2_with fail
  refine (rWithin_any _ _ _ _).mono ?_
  rw [H3.out]
  rintro e w4 ⟨rfl, hb⟩
  have HB4 := Lib.hid (HB3.out.trans (hb.mono HB3.out.size))
  have hbl := HB4.out
  clear hb HB3
  cases b3 with
  | false =>
    have HE : Hid (stE n f m t B = 2) := Lib.hid (by unfold stE; rw [H1.out, H2.out, H3.out]; rfl)
    go_wp2_with fail
    refine bodyPost_ret (v := .tuple #[.slice none 0 0, .int .i64 2]) (by simp [results, Try.results19, go_sem]) rfl ⟨stepsR_no HE.out (by decide), by go_grown⟩
  | true =>
  have HEE : Hid (stE n f m t B = if sumI f n ≤ B ∧ sumI t n ≤ B then 0 else 62) := Lib.hid (by unfold stE; rw [H1.out, H2.out, H3.out]; rfl)
  have hn5 := HLE.out.2
  have hmn : n = m := by have := (inB_iff.1 H2.out).1; omega
  subst hmn
  have HTI : Hid (inTo t 0 1000 n = true) := Lib.hid (inTo_iff.2 fun k hk => (inB_iff.1 H2.out).2 k hk)
  clear hbl
  go_wp2_with fail
  refine (rSum_any n cap ao f _ (by omega) (HC.out.keep HB4.out) (fun k hk => by have := inTo_iff.1 H0.out k hk; omega)).mono ?_
  rintro e w5 ⟨rfl, hb⟩
  have HB5 := Lib.hid (HB4.out.trans (hb.mono HB4.out.size))
  have hbl := HB5.out
  clear hb HB4
  by_cases s1 : B < sumI f n
  · have HE : Hid (stE n f n t B = 62) := Lib.hid (by rw [HEE.out, if_neg (by omega)])
    go_wp2_with fail
    refine bodyPost_ret (v := .tuple #[.slice none 0 0, .int .i64 62]) (by simp [results, Try.results19, go_sem]) rfl ⟨stepsR_no HE.out (by decide), by go_grown⟩
  clear hbl
  go_wp2_with fail
  refine (rSum_any n dap bo t _ (by omega) (HD.out.keep HB5.out) (fun k hk => by have := inTo_iff.1 HTI.out k hk; omega)).mono ?_
  rintro e w6 ⟨rfl, hb⟩
  have HB6 := Lib.hid (HB5.out.trans (hb.mono HB5.out.size))
  have hbl := HB6.out
  clear hb HB5
  by_cases s2 : B < sumI t n
  · have HE : Hid (stE n f n t B = 62) := Lib.hid (by rw [HEE.out, if_neg (by omega)])
    go_wp2_with fail
    refine bodyPost_ret (v := .tuple #[.slice none 0 0, .int .i64 62]) (by simp [results, Try.results19, go_sem]) rfl ⟨stepsR_no HE.out (by decide), by go_grown⟩
  have HE : Hid (stE n f n t B = 0) := Lib.hid (by rw [HEE.out, if_pos (by omega)])
  obtain ⟨i0, hi, hz0, hz1, hz2⟩ := info_parts infoPair
  have HI := Lib.hid (And.intro hi (And.intro hz0 (And.intro hz1 hz2)))
  clear hi hz0 hz1 hz2 hbl HEE
  go_wp2_with fail
  go_loopw [9, 10, 11] (fun lv mv iv wr => ∃ (z : Int) (k : Nat), iv = .int .i64 z ∧ z = k ∧ k ≤ n ∧ Hid (wr.ownsRow w.heap.size 33 2 lv (selN (lessB f t) k) (selC (lessB f t) t k)) ∧ Hid (wr.ownsRow w.heap.size 33 2 mv (selN (moreB f t) k) (selC (moreB f t) t k)) ∧ Hid (Dis lv mv) ∧ Hid (Below w.heap.size w wr)) (fun _ _ iv _ => n - (intOf iv).toNat)
  case atStart => exact ⟨0, 0, rfl, by omega, by omega, Lib.hid (World.ownsRow_nil _ _ _ _), Lib.hid (World.ownsRow_nil _ _ _ _), Lib.hid (fun g h => by cases h), HB6⟩
  case round =>
    obtain ⟨z, k, rfl, hz, hk, HO1, HO2, HDI, HB⟩ := hrel
    by_cases hlt : k < n
    · have hlt' : z < (n : Int) := by omega
      subst hz
      have k0 : (0 : Int) ≤ (k : Int) := by omega
      have wz : wrap64 ((k : Int) + 1) = (k : Int) + 1 := by simp only [wrap64]; omega
      obtain ⟨b, o, rfl, hcell⟩ := HC.out (Nat.zero_lt_of_lt hlt)
      obtain ⟨b', o', rfl, hcell'⟩ := HD.out (Nat.zero_lt_of_lt hlt)
      have g0w := hcell k hlt
      have g1w := hcell' k hlt
      have hbz : b < w.heap.size := World.block_lt_of_cell? _ _ g0w
      have hbz' : b' < w.heap.size := World.block_lt_of_cell? _ _ g1w
      have g0 := (HB.out.cell (p := ⟨b, o + k, none⟩) hbz).trans g0w
      have g1 := (HB.out.cell (p := ⟨b', o' + k, none⟩) hbz').trans g1w
      have hg0z := World.block_lt_of_cell? _ _ g0
      have hg1z := World.block_lt_of_cell? _ _ g1
      have hbl := HB.out
      have hsz := hbl.size
      clear hcell hcell' HB6
      obtain ⟨x, hx⟩ : ∃ x, f k = x := ⟨_, rfl⟩
      obtain ⟨y, hy⟩ : ∃ y, t k = y := ⟨_, rfl⟩
      rw [hx] at g0 g0w
      rw [hy] at g1 g1w
      have HGW := Lib.hid (And.intro g0w g1w)
      clear g0w g1w
      by_cases c1 : y < x
      · have HL : Hid (selN (lessB f t) (k + 1) = selN (lessB f t) k + 1 ∧ selC (lessB f t) t (k + 1) = selC (lessB f t) t k ++ [.int .i64 k, .int .i64 y]) := Lib.hid ⟨if_pos (decide_eq_true (by rw [hx, hy]; exact c1)), by rw [← hy]; exact if_pos (decide_eq_true (by rw [hx, hy]; exact c1))⟩
        have HM : Hid (selN (moreB f t) (k + 1) = selN (moreB f t) k ∧ selC (moreB f t) t (k + 1) = selC (moreB f t) t k) := Lib.hid ⟨if_neg (by unfold moreB; rw [decide_eq_false (by omega)]; decide), if_neg (by unfold moreB; rw [decide_eq_false (by omega)]; decide)⟩
        have c2 : ¬ x < y := by omega
        clear hx hy
        go_wp2_with fail
        go_region
        go_wp2_with (at_builtin; refine wpList_append_own_at _ rfl (.tmp 58) (.tmp 65) 30 rfl w.heap.size 33 i0 _ 2 16 Try.underlying30 HI.out.1 HI.out.2.1 HI.out.2.2.1 HI.out.2.2.2 rfl (by decide) _ (selN (lessB f t) k) (selC (lessB f t) t k) rfl (HO1.out.alloc _) ⟨wr.heap.size, 0, none⟩ 1 1 [.int .i64 k, .int .i64 y] rfl rfl ?d1 ?d2 ?d3 ?d4 ?d5 ?_)
        (try (case d1 => exact fun j u hu => World.news_of_block (cs := #[.int .i64 k, .int .i64 y]) (heap_new wr _) j u hu))
        case d2 => first | exact ⟨rfl, rfl⟩ | (intro u hu; simp only [List.mem_cons, List.not_mem_nil, or_false] at hu; rcases hu with rfl | rfl <;> rfl)
        case d3 => have := selN_le (lessB f t) k; unfold maxLen; omega
        case d4 => have := selN_le (lessB f t) k; omega
        case d5 => first | omega | (simp; done) | (simp; omega)
        intro v' w3 hown' hgrow _ hat
        have hlt2 := HO2.out.lt
        have HN1 : Hid (w3.ownsRow w.heap.size 33 2 v' (selN (lessB f t) (k + 1)) (selC (lessB f t) t (k + 1))) := Lib.hid (by rw [HL.out.1, HL.out.2]; exact hown')
        have HN2 : Hid (w3.ownsRow w.heap.size 33 2 _ (selN (moreB f t) (k + 1)) (selC (moreB f t) t (k + 1))) := Lib.hid (by rw [HM.out.1, HM.out.2]; exact (HO2.out.alloc _).drew.kept hgrow HDI.out.kept)
        have HND : Hid (Dis v' _) := Lib.hid (HDI.out.next hat (fun q hq => by have := (hlt2 q hq).2; first | omega | (simp; omega)))
        have hlt1 := HO1.out.lt
        have HB3 : Hid (Below w.heap.size w w3) := Lib.hid (Below.grown (hbl.alloc hsz _).drew hgrow (by first | omega | (simp; omega)) (fun q hq => (hlt1 q hq).1))
        clear hown' hgrow hat hlt2 hlt1 g0 g1 hg0z hg1z HO1 HO2 HDI HB hbl hsz
        have g0 := (HB3.out.cell (p := ⟨b, o + k, none⟩) hbz).trans HGW.out.1
        have g1 := (HB3.out.cell (p := ⟨b', o' + k, none⟩) hbz').trans HGW.out.2
        have HN1d := Lib.hid HN1.out.drew
        have HN2d := Lib.hid HN2.out.drew
        have HB3d := Lib.hid HB3.out.drew
        clear HN1 HN2 HB3
        go_wp2_with fail
        go_region
        go_wp2_with fail
        go_roundw
        case rel => exact ⟨(k : Int) + 1, k + 1, by first | rfl | rw [wz], by omega, by omega, HN1d, HN2d, HND, HB3d⟩
        case measure => first | (simp [intOf]; done) | (simp [intOf]; omega)
      · by_cases c2 : x < y
        · have HM : Hid (selN (moreB f t) (k + 1) = selN (moreB f t) k + 1 ∧ selC (moreB f t) t (k + 1) = selC (moreB f t) t k ++ [.int .i64 k, .int .i64 y]) := Lib.hid ⟨if_pos (decide_eq_true (by rw [hx, hy]; exact c2)), by rw [← hy]; exact if_pos (decide_eq_true (by rw [hx, hy]; exact c2))⟩
          have HL : Hid (selN (lessB f t) (k + 1) = selN (lessB f t) k ∧ selC (lessB f t) t (k + 1) = selC (lessB f t) t k) := Lib.hid ⟨if_neg (by unfold lessB; rw [decide_eq_false (by omega)]; decide), if_neg (by unfold lessB; rw [decide_eq_false (by omega)]; decide)⟩
          clear hx hy
          go_wp2_with fail
          go_region
          go_wp2_with fail
          go_region
          go_wp2_with (at_builtin; refine wpList_append_own_at _ rfl (.tmp 76) (.tmp 83) 30 rfl w.heap.size 33 i0 _ 2 16 Try.underlying30 HI.out.1 HI.out.2.1 HI.out.2.2.1 HI.out.2.2.2 rfl (by decide) _ (selN (moreB f t) k) (selC (moreB f t) t k) rfl (HO2.out.alloc _) ⟨wr.heap.size, 0, none⟩ 1 1 [.int .i64 k, .int .i64 y] rfl rfl ?q1 ?q2 ?q3 ?q4 ?q5 ?_)
          (try (case q1 => exact fun j u hu => World.news_of_block (cs := #[.int .i64 k, .int .i64 y]) (heap_new wr _) j u hu))
          case q2 => first | exact ⟨rfl, rfl⟩ | (intro u hu; simp only [List.mem_cons, List.not_mem_nil, or_false] at hu; rcases hu with rfl | rfl <;> rfl)
          case q3 => have := selN_le (moreB f t) k; unfold maxLen; omega
          case q4 => have := selN_le (moreB f t) k; omega
          case q5 => first | omega | (simp; done) | (simp; omega)
          intro v' w3 hown' hgrow _ hat
          have hlt1 := HO1.out.lt
          have HN2 : Hid (w3.ownsRow w.heap.size 33 2 v' (selN (moreB f t) (k + 1)) (selC (moreB f t) t (k + 1))) := Lib.hid (by rw [HM.out.1, HM.out.2]; exact hown')
          have HN1 : Hid (w3.ownsRow w.heap.size 33 2 _ (selN (lessB f t) (k + 1)) (selC (lessB f t) t (k + 1))) := Lib.hid (by rw [HL.out.1, HL.out.2]; exact (HO1.out.alloc _).drew.drew.kept hgrow HDI.out.symm.kept)
          have HND : Hid (Dis _ v') := Lib.hid (HDI.out.symm.next hat (fun q hq => by have := (hlt1 q hq).2; first | omega | (simp; omega))).symm
          have hlt2 := HO2.out.lt
          have HB3 : Hid (Below w.heap.size w w3) := Lib.hid (Below.grown (hbl.alloc hsz _).drew.drew hgrow (by first | omega | (simp; omega)) (fun q hq => (hlt2 q hq).1))
          clear hown' hgrow hat hlt2 hlt1 g0 g1 hg0z hg1z HO1 HO2 HDI HB hbl hsz
          go_wp2_with fail
          go_roundw
          case rel => exact ⟨(k : Int) + 1, k + 1, by first | rfl | rw [wz], by omega, by omega, HN1, HN2, HND, HB3⟩
          case measure => first | (simp [intOf]; done) | (simp [intOf]; omega)
        · have HL : Hid (selN (lessB f t) (k + 1) = selN (lessB f t) k ∧ selC (lessB f t) t (k + 1) = selC (lessB f t) t k) := Lib.hid ⟨if_neg (by unfold lessB; rw [decide_eq_false (by omega)]; decide), if_neg (by unfold lessB; rw [decide_eq_false (by omega)]; decide)⟩
          have HM : Hid (selN (moreB f t) (k + 1) = selN (moreB f t) k ∧ selC (moreB f t) t (k + 1) = selC (moreB f t) t k) := Lib.hid ⟨if_neg (by unfold moreB; rw [decide_eq_false (by omega)]; decide), if_neg (by unfold moreB; rw [decide_eq_false (by omega)]; decide)⟩
          have HN1 : Hid (wr.ownsRow w.heap.size 33 2 _ (selN (lessB f t) (k + 1)) (selC (lessB f t) t (k + 1))) := Lib.hid (by rw [HL.out.1, HL.out.2]; exact HO1.out)
          have HN2 : Hid (wr.ownsRow w.heap.size 33 2 _ (selN (moreB f t) (k + 1)) (selC (moreB f t) t (k + 1))) := Lib.hid (by rw [HM.out.1, HM.out.2]; exact HO2.out)
          have HND := HDI
          have HN1d := Lib.hid HN1.out.drew.drew
          have HN2d := Lib.hid HN2.out.drew.drew
          have HB3 := Lib.hid HB.out.drew.drew
          have c1' : x ≤ y := by omega
          have c2' : y ≤ x := by omega
          clear hx hy HO1 HO2 HDI HB HN1 HN2 hbl hsz
          go_wp2_with fail
          go_region
          go_wp2_with fail
          go_region
          go_wp2_with fail
          go_roundw
          case rel => exact ⟨(k : Int) + 1, k + 1, by first | rfl | rw [wz], by omega, by omega, HN1d, HN2d, HND, HB3⟩
          case measure => first | (simp [intOf]; done) | (simp [intOf]; omega)
    · obtain rfl : k = n := by omega
      subst hz
      have hbl := HB.out
      have hsz := hbl.size
      have hk5 := HLE.out.2
      have hl1 := selN_le (lessB f t) k
      have hl2 := selN_le (moreB f t) k
      have hlt1 := HO1.out.lt
      rcases HO2.out.2 with ⟨hv2, hz2⟩ | ⟨g2, cap2, cur2, hv2, hg2, _⟩
      · subst hv2
        have hN2 : selC (moreB f t) t k = [] := List.eq_nil_of_length_eq_zero (by rw [selC_len, hz2])
        have HF : Hid (wr.ownsRow w.heap.size 33 2 _ (selN (lessB f t) k + selN (moreB f t) k) (selC (lessB f t) t k ++ selC (moreB f t) t k)) := Lib.hid (by rw [hz2, hN2, List.append_nil, Nat.add_zero]; exact HO1.out)
        have HO1' := HO1
        clear hz2 hN2 hlt1
        go_wp2_with (at_builtin; refine wpList_append_own_none rfl (.tmp 85) (.tmp 86) 30 rfl w.heap.size 33 i0 2 Try.underlying30 HI.out.1 _ (selN (lessB f t) k) (selC (lessB f t) t k) rfl HO1'.out rfl ?_)
        go_wp2_with fail
        go_returns
        exact ⟨stepsR_ok HE.out HF.out, hbl⟩
      · subst hv2
        go_wp2_with (at_builtin; refine wpList_append_own_at _ rfl (.tmp 85) (.tmp 86) 30 rfl w.heap.size 33 i0 _ 2 16 Try.underlying30 HI.out.1 HI.out.2.1 HI.out.2.2.1 HI.out.2.2.2 rfl (by decide) _ (selN (lessB f t) k) (selC (lessB f t) t k) rfl HO1.out ⟨g2, 0, none⟩ (selN (moreB f t) k) cap2 (selC (moreB f t) t k) rfl ?p0 ?p1 ?p2 ?p3 ?p4 ?p5 ?_)
        case p0 => exact selC_len _ _ _
        case p1 => exact HO2.out.cells rfl
        case p2 => exact selC_one _ _ _
        case p3 => unfold maxLen; omega
        case p4 => omega
        case p5 => omega
        intro v' w3 hown' hgrow _ _
        have HF := Lib.hid hown'
        have HBF : Hid (Below w.heap.size w w3) := Lib.hid (Below.grown hbl hgrow (by omega) (fun q hq => (hlt1 q hq).1))
        clear hown' hgrow
        go_wp2_with fail
        go_returns
        exact ⟨stepsR_ok HE.out HF.out, HBF.out⟩
end Go.Proofs.Ytldepffpafccpaa
