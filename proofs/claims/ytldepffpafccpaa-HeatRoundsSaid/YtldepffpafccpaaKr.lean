import Derived.Test.YtldepffpafccpaaKp
namespace Go.Proofs.Ytldepffpafccpaa
open Go.RowKit Heat
set_option maxRecDepth 100000 in
set_option maxHeartbeats 8000000 in
theorem rRound_any (n cap : Nat) (ao : Option Addr) (P Q : Nat → Int) (w : World) (hn : n ≤ 9223372036854775807) (hc : Rats w ao n P Q) :
    Calls Try.prog 16 #[.slice ao n cap] w fun e w' => RoundR w' e n P Q ∧ Below w.heap.size w w' := by
  have HC := Lib.hid hc
  clear hc
  by_cases h1 : (n : Int) < 1
  · have HE : Hid (roundE n P Q = 2) := Lib.hid (roundE_size (by omega))
    go_enter Try.func16, Try.ntmps16
    go_wp2_with fail
    refine bodyPost_ret (v := .tuple #[.slice none 0 0, .int .i64 2]) (by simp [results, Try.results16, go_sem]) rfl ⟨roundR_no HE.out (by decide), by go_grown⟩
  by_cases h2 : 5 < (n : Int)
  · have HE : Hid (roundE n P Q = 2) := Lib.hid (roundE_size (by omega))
    go_enter Try.func16, Try.ntmps16
    go_wp2_with fail
    refine bodyPost_ret (v := .tuple #[.slice none 0 0, .int .i64 2]) (by simp [results, Try.results16, go_sem]) rfl ⟨roundR_no HE.out (by decide), by go_grown⟩
  have HLE : Hid (1 ≤ n ∧ n ≤ 5) := Lib.hid (by omega)
  obtain ⟨i0, hi, hz0, hz1, hz2⟩ := info_parts infoInt
  have HI := Lib.hid (And.intro hi (And.intro hz0 (And.intro hz1 hz2)))
  clear hi hz0 hz1 hz2
  go_enter Try.func16, Try.ntmps16
  go_wp2_with fail
  go_loopw [4] (fun iv wr => ∃ (z : Int) (k : Nat), iv = .int .i64 z ∧ z = k ∧ k ≤ n ∧ Hid (ratIn P Q k = true) ∧ Hid (Below w.heap.size w wr)) (fun iv _ => n - (intOf iv).toNat)
  case atStart => exact ⟨0, 0, rfl, by omega, by omega, Lib.hid rfl, Lib.hid (by go_grown)⟩
  case round =>
    obtain ⟨z, k, rfl, hz, hk, HS, HB⟩ := hrel
    by_cases hlt : k < n
    · have hlt' : z < (n : Int) := by omega
      subst hz
      have k0 : (0 : Int) ≤ (k : Int) := by omega
      have wz : wrap64 ((k : Int) + 1) = (k : Int) + 1 := by simp only [wrap64]; omega
      obtain ⟨b, o, rfl, hcell⟩ := (HC.out.keep HB.out) (by omega)
      obtain ⟨g0, g1⟩ := hcell k hlt
      have hbl := HB.out
      have hblz := hbl.size
      clear hcell
      obtain ⟨x, hx⟩ : ∃ x, P k = x := ⟨_, rfl⟩
      obtain ⟨y, hy⟩ : ∃ y, Q k = y := ⟨_, rfl⟩
      have HX := Lib.hid hx
      have HY := Lib.hid hy
      rw [hx] at g0
      rw [hy] at g1
      clear hx hy
      by_cases c1 : y < 1
      · have HE : Hid (roundE n P Q = 2) := Lib.hid (roundE_bad HLE.out (ratIn_stop (k := k) (by rw [HX.out, HY.out]; exact ratB_no (.inl c1)) n hlt))
        clear HB HS
        go_wp2_with fail
        refine bodyPost_ret (v := .tuple #[.slice none 0 0, .int .i64 2]) (by simp [results, Try.results16, go_sem]) rfl ⟨roundR_no HE.out (by decide), by go_grown⟩
      by_cases c2 : 1000000000000000000 < y
      · have HE : Hid (roundE n P Q = 2) := Lib.hid (roundE_bad HLE.out (ratIn_stop (k := k) (by rw [HX.out, HY.out]; exact ratB_no (.inr (.inl c2))) n hlt))
        clear HB HS
        go_wp2_with fail
        refine bodyPost_ret (v := .tuple #[.slice none 0 0, .int .i64 2]) (by simp [results, Try.results16, go_sem]) rfl ⟨roundR_no HE.out (by decide), by go_grown⟩
      by_cases c3 : -1000000000000000000 ≤ x ∧ x ≤ 1000000000000000000
      · have HF : Hid (ratIn P Q (k + 1) = true) := Lib.hid (ratIn_next HS.out (by rw [HX.out, HY.out]; exact ratB_yes c1 c2 (by omega) (by omega)))
        have HW : Hid ((decide (-1000000000000000000 ≤ x) && decide (x ≤ 1000000000000000000)) = true) := Lib.hid (by simp [c3])
        clear HS HB c3
        go_wp2_with fail
        refine (rWithin_any _ x _ _).mono ?_
        rw [HW.out]
        rintro e w1 ⟨rfl, hb⟩
        have D1 := hbl.trans (hb.mono hbl.size)
        clear hb hbl
        go_wp2_with fail
        go_roundw
        case rel => exact ⟨(k : Int) + 1, k + 1, by first | rfl | rw [wz], by omega, by omega, HF, Lib.hid (by go_grown)⟩
        case measure => first | (simp [intOf]; done) | (simp [intOf]; omega)
      · have HE : Hid (roundE n P Q = 2) := Lib.hid (roundE_bad HLE.out (ratIn_stop (k := k) (by rw [HX.out, HY.out]; exact ratB_no (by omega)) n hlt))
        have HW : Hid ((decide (-1000000000000000000 ≤ x) && decide (x ≤ 1000000000000000000)) = false) := Lib.hid (by simp; omega)
        clear HS HB c3
        go_wp2_with fail
        refine (rWithin_any _ x _ _).mono ?_
        rw [HW.out]
        rintro e w1 ⟨rfl, hb⟩
        have D1 := hbl.trans (hb.mono hbl.size)
        clear hb hbl
        go_wp2_with fail
        refine bodyPost_ret (v := .tuple #[.slice none 0 0, .int .i64 2]) (by simp [results, Try.results16, go_sem]) rfl ⟨roundR_no HE.out (by decide), by go_grown⟩
    · obtain rfl : k = n := by omega
      subst hz
      have HRT := Lib.hid (ratIn_at HS.out)
      have HRE : Hid (roundE k P Q = if inTo (nrL P Q) 0 1000 k = true then 0 else 62) := Lib.hid (roundE_ok HLE.out HS.out)
      clear HS
      go_wp2_with fail
      go_loopw [5, 6, 7, 8] (fun ov iv _ _ wr2 => ∃ (z : Int) (i : Nat), iv = .int .i64 z ∧ z = i ∧ i ≤ k ∧ Hid (inTo (nrL P Q) 0 1000 i = true) ∧ Hid (wr2.ownsRow w.heap.size 3 1 ov i (cellsI (nrL P Q) i)) ∧ Hid (Below w.heap.size w wr2)) (fun _ iv _ _ _ => k - (intOf iv).toNat)
      case atStart => exact ⟨0, 0, rfl, by omega, by omega, Lib.hid rfl, Lib.hid (World.ownsRow_nil _ _ _ _), HB⟩
      case round =>
        obtain ⟨z, i, rfl, hz, hi, HT, HO, HB2⟩ := hrel
        by_cases hlt : i < k
        · have hlt' : z < (k : Int) := by omega
          subst hz
          have i00 : (0 : Int) ≤ (i : Int) := by omega
          have wz : wrap64 ((i : Int) + 1) = (i : Int) + 1 := by simp only [wrap64]; omega
          obtain ⟨b, o, rfl, hcell⟩ := (HC.out.keep HB2.out) (by omega)
          obtain ⟨g0, g1⟩ := hcell i hlt
          obtain ⟨r1, r2, r3, r4⟩ := HRT.out i hlt
          clear hcell
          obtain ⟨x, hx⟩ : ∃ x, P i = x := ⟨_, rfl⟩
          obtain ⟨y, hy⟩ : ∃ y, Q i = y := ⟨_, rfl⟩
          have HX := Lib.hid hx
          have HY := Lib.hid hy
          rw [hx] at g0 r3 r4
          rw [hy] at g1 r1 r2
          have hy0 : 0 < y := by omega
          have HFL := Lib.hid (fl_trunc x hy0)
          have HNR := Lib.hid (nr_ref (n := x) hy0)
          have hqb := Int.natAbs_tdiv_le_natAbs x y
          obtain ⟨hrb1, hrb2⟩ := tm_bd x hy0
          obtain ⟨qd, hqd⟩ : ∃ qd, x.tdiv y = qd := ⟨_, rfl⟩
          obtain ⟨rd, hrd⟩ : ∃ rd, x.tmod y = rd := ⟨_, rfl⟩
          rw [hqd] at hqb
          rw [hrd] at hrb1 hrb2
          rw [hqd, hrd] at HFL
          have w4 : wrap64 qd = qd := by simp only [wrap64]; omega
          have y0 : ¬ y = 0 := by omega
          have y1 : (y == 0) = false := beq_eq_false_iff_ne.2 y0
          have ym : ¬ y = -1 := by omega
          have hbl := HB2.out
          have hblz := hbl.size
          have HV : Hid (nrL P Q i = nrS x y) := Lib.hid (by unfold nrL; rw [HX.out, HY.out])
          clear hx hy HX HY HB HB2
          by_cases s1 : rd < 0
          · obtain ⟨q1, hq1⟩ : ∃ q1, qd - 1 = q1 := ⟨_, rfl⟩
            obtain ⟨t1, ht1⟩ : ∃ t1, rd + y = t1 := ⟨_, rfl⟩
            have HQ1 : Hid (x / y = q1 ∧ x % y = t1) := Lib.hid (by rw [← hq1, ← ht1]; exact HFL.out.1 s1)
            have v1 : wrap64 (qd - 1) = q1 := by simp only [wrap64]; omega
            have v2 : wrap64 (rd + y) = t1 := by simp only [wrap64]; omega
            have v3 : wrap64 (2 * t1) = 2 * t1 := by simp only [wrap64]; omega
            have v4 : wrap64 (q1 + 1) = q1 + 1 := by simp only [wrap64]; omega
            clear hq1 ht1 HFL
            by_cases s2 : y ≤ 2 * t1
            · have HNV : Hid (nrL P Q i = q1 + 1) := Lib.hid (by rw [HV.out, HNR.out, HQ1.out.1, HQ1.out.2, if_pos s2])
              clear hqb hrb1 hrb2 r1 r2 r3 r4 hy0 HNR HQ1 HV
              go_wp2_with fail
              go_region
              go_wp2_with fail
              go_region
              go_wp2_with fail
              go_region
              go_wp2_with fail
              refine (rWithin_any _ _ _ _).mono ?_
              rintro e w1 ⟨rfl, hb⟩
              have D1 : Hid (Below w.heap.size w w1) := Lib.hid (Below.trans (by go_grown) (hb.mono (by first | omega | (simp; done) | (simp; omega))))
              have hs1 : w.heap.size ≤ w1.heap.size := D1.out.size
              have HO1 := Lib.hid (own_below' HO.out (Below.trans (by go_grown) (hb.mono (by first | omega | (simp; done) | (simp; omega)))))
              clear hb hbl hblz HO
              by_cases s3 : 0 ≤ q1 + 1 ∧ q1 + 1 ≤ 1000
              · have HT2 : Hid (inTo (nrL P Q) 0 1000 (i + 1) = true) := Lib.hid (inTo_next HT.out (by rw [HNV.out]; omega) (by rw [HNV.out]; omega))
                rw [show (decide ((0 : Int) ≤ q1 + 1) && decide (q1 + 1 ≤ (1000 : Int))) = true by simp [s3]]
                clear s3
                go_wp2_with (at_builtin; refine wpList_append_own _ rfl (.tmp 98) (.tmp 100) 24 rfl w.heap.size 3 i0 _ 1 8 Try.underlying24 HI.out.1 HI.out.2.1 HI.out.2.2.1 HI.out.2.2.2 rfl (by decide) _ i (cellsI (nrL P Q) i) rfl (HO1.out.alloc _) ⟨w1.heap.size, 0, none⟩ 1 1 [.int .i64 (q1 + 1)] rfl rfl ?c1 ?c2 ?c3 ?c4 ?c5 ?_)
                case c1 => exact fun j u hu => World.news_of_block (cs := #[.int .i64 (q1 + 1)]) (heap_new w1 _) j u hu
                case c2 =>
                  intro u hu
                  simp only [List.mem_cons, List.not_mem_nil, or_false] at hu
                  subst hu; rfl
                case c3 => unfold maxLen; omega
                case c4 => omega
                case c5 => simp; omega
                intro v' w3 hown' hgrow _
                rw [← HNV.out, ← cellsI_succ] at hown'
                have hltk := HO1.out.lt
                have HB3 : Hid (Below w.heap.size w w3) := Lib.hid (Below.grown (D1.out.alloc hs1 _) hgrow (by simp; omega) (fun k hk => (hltk k hk).1))
                have HO3 := Lib.hid hown'
                clear hown' hgrow hltk g0 g1
                go_wp2_with fail
                go_roundw
                case rel => exact ⟨(i : Int) + 1, i + 1, by first | rfl | rw [wz], by omega, by omega, HT2, HO3, HB3⟩
                case measure => first | (simp [intOf]; done) | (simp [intOf]; omega)
              · have HF : Hid (inTo (nrL P Q) 0 1000 k = false) := Lib.hid (inTo_stop (k := i) (by rw [HNV.out]; exact s3) k hlt)
                have HE : Hid (roundE k P Q = 62) := Lib.hid (by rw [HRE.out, if_neg (by rw [HF.out]; decide)])
                rw [show (decide ((0 : Int) ≤ q1 + 1) && decide (q1 + 1 ≤ (1000 : Int))) = false by simp; omega]
                have hd1 := D1.out
                go_wp2_with fail
                refine bodyPost_ret (v := .tuple #[.slice none 0 0, .int .i64 62]) (by simp [results, Try.results16, go_sem]) rfl ⟨roundR_no HE.out (by decide), hd1⟩
            · have HNV : Hid (nrL P Q i = q1) := Lib.hid (by rw [HV.out, HNR.out, HQ1.out.1, HQ1.out.2, if_neg s2])
              clear hqb hrb1 hrb2 r1 r2 r3 r4 hy0 HNR HQ1 HV
              go_wp2_with fail
              go_region
              go_wp2_with fail
              go_region
              go_wp2_with fail
              go_region
              go_wp2_with fail
              refine (rWithin_any _ _ _ _).mono ?_
              rintro e w1 ⟨rfl, hb⟩
              have D1 : Hid (Below w.heap.size w w1) := Lib.hid (Below.trans (by go_grown) (hb.mono (by first | omega | (simp; done) | (simp; omega))))
              have hs1 : w.heap.size ≤ w1.heap.size := D1.out.size
              have HO1 := Lib.hid (own_below' HO.out (Below.trans (by go_grown) (hb.mono (by first | omega | (simp; done) | (simp; omega)))))
              clear hb hbl hblz HO
              by_cases s3 : 0 ≤ q1 ∧ q1 ≤ 1000
              · have HT2 : Hid (inTo (nrL P Q) 0 1000 (i + 1) = true) := Lib.hid (inTo_next HT.out (by rw [HNV.out]; omega) (by rw [HNV.out]; omega))
                rw [show (decide ((0 : Int) ≤ q1) && decide (q1 ≤ (1000 : Int))) = true by simp [s3]]
                clear s3
                go_wp2_with (at_builtin; refine wpList_append_own _ rfl (.tmp 98) (.tmp 100) 24 rfl w.heap.size 3 i0 _ 1 8 Try.underlying24 HI.out.1 HI.out.2.1 HI.out.2.2.1 HI.out.2.2.2 rfl (by decide) _ i (cellsI (nrL P Q) i) rfl (HO1.out.alloc _) ⟨w1.heap.size, 0, none⟩ 1 1 [.int .i64 (q1)] rfl rfl ?c1 ?c2 ?c3 ?c4 ?c5 ?_)
                case c1 => exact fun j u hu => World.news_of_block (cs := #[.int .i64 (q1)]) (heap_new w1 _) j u hu
                case c2 =>
                  intro u hu
                  simp only [List.mem_cons, List.not_mem_nil, or_false] at hu
                  subst hu; rfl
                case c3 => unfold maxLen; omega
                case c4 => omega
                case c5 => simp; omega
                intro v' w3 hown' hgrow _
                rw [← HNV.out, ← cellsI_succ] at hown'
                have hltk := HO1.out.lt
                have HB3 : Hid (Below w.heap.size w w3) := Lib.hid (Below.grown (D1.out.alloc hs1 _) hgrow (by simp; omega) (fun k hk => (hltk k hk).1))
                have HO3 := Lib.hid hown'
                clear hown' hgrow hltk g0 g1
                go_wp2_with fail
                go_roundw
                case rel => exact ⟨(i : Int) + 1, i + 1, by first | rfl | rw [wz], by omega, by omega, HT2, HO3, HB3⟩
                case measure => first | (simp [intOf]; done) | (simp [intOf]; omega)
              · have HF : Hid (inTo (nrL P Q) 0 1000 k = false) := Lib.hid (inTo_stop (k := i) (by rw [HNV.out]; exact s3) k hlt)
                have HE : Hid (roundE k P Q = 62) := Lib.hid (by rw [HRE.out, if_neg (by rw [HF.out]; decide)])
                rw [show (decide ((0 : Int) ≤ q1) && decide (q1 ≤ (1000 : Int))) = false by simp; omega]
                have hd1 := D1.out
                go_wp2_with fail
                refine bodyPost_ret (v := .tuple #[.slice none 0 0, .int .i64 62]) (by simp [results, Try.results16, go_sem]) rfl ⟨roundR_no HE.out (by decide), hd1⟩
          · have HQ1 : Hid (x / y = qd ∧ x % y = rd) := Lib.hid (HFL.out.2 s1)
            have v3 : wrap64 (2 * rd) = 2 * rd := by simp only [wrap64]; omega
            have v4 : wrap64 (qd + 1) = qd + 1 := by simp only [wrap64]; omega
            have wr5 : wrap64 rd = rd := by simp only [wrap64]; omega
            clear HFL
            by_cases s2 : y ≤ 2 * rd
            · have HNV : Hid (nrL P Q i = qd + 1) := Lib.hid (by rw [HV.out, HNR.out, HQ1.out.1, HQ1.out.2, if_pos s2])
              clear hqb hrb1 hrb2 r1 r2 r3 r4 hy0 HNR HQ1 HV
              go_wp2_with fail
              go_region
              go_wp2_with fail
              go_region
              go_wp2_with fail
              refine (rWithin_any _ _ _ _).mono ?_
              rintro e w1 ⟨rfl, hb⟩
              have D1 : Hid (Below w.heap.size w w1) := Lib.hid (Below.trans (by go_grown) (hb.mono (by first | omega | (simp; done) | (simp; omega))))
              have hs1 : w.heap.size ≤ w1.heap.size := D1.out.size
              have HO1 := Lib.hid (own_below' HO.out (Below.trans (by go_grown) (hb.mono (by first | omega | (simp; done) | (simp; omega)))))
              clear hb hbl hblz HO
              by_cases s3 : 0 ≤ qd + 1 ∧ qd + 1 ≤ 1000
              · have HT2 : Hid (inTo (nrL P Q) 0 1000 (i + 1) = true) := Lib.hid (inTo_next HT.out (by rw [HNV.out]; omega) (by rw [HNV.out]; omega))
                rw [show (decide ((0 : Int) ≤ qd + 1) && decide (qd + 1 ≤ (1000 : Int))) = true by simp [s3]]
                clear s3
                go_wp2_with (at_builtin; refine wpList_append_own _ rfl (.tmp 98) (.tmp 100) 24 rfl w.heap.size 3 i0 _ 1 8 Try.underlying24 HI.out.1 HI.out.2.1 HI.out.2.2.1 HI.out.2.2.2 rfl (by decide) _ i (cellsI (nrL P Q) i) rfl (HO1.out.alloc _) ⟨w1.heap.size, 0, none⟩ 1 1 [.int .i64 (qd + 1)] rfl rfl ?c1 ?c2 ?c3 ?c4 ?c5 ?_)
                case c1 => exact fun j u hu => World.news_of_block (cs := #[.int .i64 (qd + 1)]) (heap_new w1 _) j u hu
                case c2 =>
                  intro u hu
                  simp only [List.mem_cons, List.not_mem_nil, or_false] at hu
                  subst hu; rfl
                case c3 => unfold maxLen; omega
                case c4 => omega
                case c5 => simp; omega
                intro v' w3 hown' hgrow _
                rw [← HNV.out, ← cellsI_succ] at hown'
                have hltk := HO1.out.lt
                have HB3 : Hid (Below w.heap.size w w3) := Lib.hid (Below.grown (D1.out.alloc hs1 _) hgrow (by simp; omega) (fun k hk => (hltk k hk).1))
                have HO3 := Lib.hid hown'
                clear hown' hgrow hltk g0 g1
                go_wp2_with fail
                go_roundw
                case rel => exact ⟨(i : Int) + 1, i + 1, by first | rfl | rw [wz], by omega, by omega, HT2, HO3, HB3⟩
                case measure => first | (simp [intOf]; done) | (simp [intOf]; omega)
              · have HF : Hid (inTo (nrL P Q) 0 1000 k = false) := Lib.hid (inTo_stop (k := i) (by rw [HNV.out]; exact s3) k hlt)
                have HE : Hid (roundE k P Q = 62) := Lib.hid (by rw [HRE.out, if_neg (by rw [HF.out]; decide)])
                rw [show (decide ((0 : Int) ≤ qd + 1) && decide (qd + 1 ≤ (1000 : Int))) = false by simp; omega]
                have hd1 := D1.out
                go_wp2_with fail
                refine bodyPost_ret (v := .tuple #[.slice none 0 0, .int .i64 62]) (by simp [results, Try.results16, go_sem]) rfl ⟨roundR_no HE.out (by decide), hd1⟩
            · have HNV : Hid (nrL P Q i = qd) := Lib.hid (by rw [HV.out, HNR.out, HQ1.out.1, HQ1.out.2, if_neg s2])
              clear hqb hrb1 hrb2 r1 r2 r3 r4 hy0 HNR HQ1 HV
              go_wp2_with fail
              go_region
              go_wp2_with fail
              go_region
              go_wp2_with fail
              refine (rWithin_any _ _ _ _).mono ?_
              rintro e w1 ⟨rfl, hb⟩
              have D1 : Hid (Below w.heap.size w w1) := Lib.hid (Below.trans (by go_grown) (hb.mono (by first | omega | (simp; done) | (simp; omega))))
              have hs1 : w.heap.size ≤ w1.heap.size := D1.out.size
              have HO1 := Lib.hid (own_below' HO.out (Below.trans (by go_grown) (hb.mono (by first | omega | (simp; done) | (simp; omega)))))
              clear hb hbl hblz HO
              by_cases s3 : 0 ≤ qd ∧ qd ≤ 1000
              · have HT2 : Hid (inTo (nrL P Q) 0 1000 (i + 1) = true) := Lib.hid (inTo_next HT.out (by rw [HNV.out]; omega) (by rw [HNV.out]; omega))
                rw [show (decide ((0 : Int) ≤ qd) && decide (qd ≤ (1000 : Int))) = true by simp [s3]]
                clear s3
                go_wp2_with (at_builtin; refine wpList_append_own _ rfl (.tmp 98) (.tmp 100) 24 rfl w.heap.size 3 i0 _ 1 8 Try.underlying24 HI.out.1 HI.out.2.1 HI.out.2.2.1 HI.out.2.2.2 rfl (by decide) _ i (cellsI (nrL P Q) i) rfl (HO1.out.alloc _) ⟨w1.heap.size, 0, none⟩ 1 1 [.int .i64 (qd)] rfl rfl ?c1 ?c2 ?c3 ?c4 ?c5 ?_)
                case c1 => exact fun j u hu => World.news_of_block (cs := #[.int .i64 (qd)]) (heap_new w1 _) j u hu
                case c2 =>
                  intro u hu
                  simp only [List.mem_cons, List.not_mem_nil, or_false] at hu
                  subst hu; rfl
                case c3 => unfold maxLen; omega
                case c4 => omega
                case c5 => simp; omega
                intro v' w3 hown' hgrow _
                rw [← HNV.out, ← cellsI_succ] at hown'
                have hltk := HO1.out.lt
                have HB3 : Hid (Below w.heap.size w w3) := Lib.hid (Below.grown (D1.out.alloc hs1 _) hgrow (by simp; omega) (fun k hk => (hltk k hk).1))
                have HO3 := Lib.hid hown'
                clear hown' hgrow hltk g0 g1
                go_wp2_with fail
                go_roundw
                case rel => exact ⟨(i : Int) + 1, i + 1, by first | rfl | rw [wz], by omega, by omega, HT2, HO3, HB3⟩
                case measure => first | (simp [intOf]; done) | (simp [intOf]; omega)
              · have HF : Hid (inTo (nrL P Q) 0 1000 k = false) := Lib.hid (inTo_stop (k := i) (by rw [HNV.out]; exact s3) k hlt)
                have HE : Hid (roundE k P Q = 62) := Lib.hid (by rw [HRE.out, if_neg (by rw [HF.out]; decide)])
                rw [show (decide ((0 : Int) ≤ qd) && decide (qd ≤ (1000 : Int))) = false by simp; omega]
                have hd1 := D1.out
                go_wp2_with fail
                refine bodyPost_ret (v := .tuple #[.slice none 0 0, .int .i64 62]) (by simp [results, Try.results16, go_sem]) rfl ⟨roundR_no HE.out (by decide), hd1⟩
        · obtain rfl : i = k := by omega
          have HE : Hid (roundE i P Q = 0) := Lib.hid (by rw [HRE.out, if_pos HT.out])
          obtain ⟨g', cap', rfl, hgB, hgs, _, _⟩ := own_fm HO.out (by have := HLE.out; omega)
          have HW : Hid (Intw wr g' i (nrL P Q)) := Lib.hid (Intw.of_own HO.out fun j hj => cellsI_get _ hj)
          go_wp2_with fail
          refine bodyPost_ret (v := .tuple #[.slice (some ⟨g', 0, none⟩) i cap', .int .i64 0]) (by simp [results, Try.results16, go_sem]) rfl ⟨roundR_ok HE.out HW.out, HB2.out⟩
end Go.Proofs.Ytldepffpafccpaa
