import Derived.Test.YtpjfpkhcadombaaPq2
namespace Go.Proofs.Ytpjfpkhcadombaa
open Go.RowKit Prm Amp
set_option maxRecDepth 100000 in
set_option maxHeartbeats 4000000 in
theorem rPermOf_any (N : Int) (len cap : Nat) (ao : Option Addr) (f : Nat → It) (w : World) (hlen : len ≤ 9223372036854775807) (hc : Its w ao len f) :
    Calls Try.prog 19 #[.int .i64 N, .slice ao len cap] w fun e w' => PermIs w' e N.toNat (trF f len) (decide (askS N len f = 0) && crossTo f len) (askS N len f) ∧ Below w.heap.size w w' := by
  have HC := Lib.hid hc
  clear hc
  by_cases ha : ¬ askS N len f = 0
  · obtain ⟨er, her⟩ : ∃ er, askS N len f = er := ⟨_, rfl⟩
    rw [her] at ha
    have HB : Hid ((decide (askS N len f = 0) && crossTo f len) = false) := Lib.hid (by rw [her, decide_eq_false ha]; rfl)
    have HER := Lib.hid her
    have hb0 : (er == 0) = false := beq_eq_false_iff_ne.2 ha
    have hb1 : (er != 0) = true := bne_iff_ne.2 ha
    rw [HB.out, HER.out]
    clear ha her
    go_enter Try.func19, Try.ntmps19
    go_wp2_with fail
    refine (rItems_any N len cap ao f _ hlen HC.out).mono ?_
    rw [HER.out]
    rintro e w1 ⟨rfl, hb⟩
    have D1 := Lib.hid hb
    clear hb
    go_wp2_with fail
    go_returns
    exact ⟨⟨none, 0, rfl, fun h => absurd h (by simp [permL])⟩, D1.out⟩
  have ha0 : askS N len f = 0 := Decidable.not_not.1 ha
  have HER := Lib.hid ha0
  obtain ⟨hN1, hN6, hl5, hfit⟩ := askS_ok ha0
  obtain ⟨n, rfl⟩ : ∃ n : Nat, N = n := ⟨N.toNat, by omega⟩
  rw [Int.toNat_natCast] at hfit
  rw [Int.toNat_natCast]
  have HF := Lib.hid hfit
  have hl5' : (len : Int) ≤ 5000 := by omega
  have hn6 : n ≤ 6 := by omega
  have hn1 : 1 ≤ n := by omega
  have hn6' : (n : Int) ≤ 6 := by omega
  obtain ⟨bb, hbb⟩ : ∃ bb, crossTo f len = bb := ⟨_, rfl⟩
  have HBB := Lib.hid hbb
  have HB : Hid ((decide (askS n len f = 0) && crossTo f len) = bb) := Lib.hid (by rw [ha0, decide_eq_true rfl, hbb]; rfl)
  rw [HB.out, HER.out]
  obtain ⟨i0, hi, hz0, hz1, hz2⟩ := info_parts infoInt
  have HI := Lib.hid (And.intro hi (And.intro hz0 (And.intro hz1 hz2)))
  clear hi hz0 hz1 hz2 ha ha0 hfit hbb
  go_enter Try.func19, Try.ntmps19
  go_wp2_with fail
  refine (rItems_any n len cap ao f _ hlen HC.out).mono ?_
  rw [HER.out]
  rintro e w1 ⟨rfl, hb⟩
  have D1 := Lib.hid hb
  clear hb
  go_wp2_with fail
  go_loopw [8, 9, 10, 11, 37, 50] (fun lv gv _ _ _ _ wr => ∃ j : Nat, gv = .int .i64 ((j : Int) + 1) ∧ j ≤ n ∧ Hid (wr.ownsRow w.heap.size 3 1 lv j (cellsI (trF f len) j)) ∧ Hid (j = 0 ∨ crossTo f len = true) ∧ Below w.heap.size w wr) (fun _ gv _ _ _ _ _ => n + 1 - (intOf gv).toNat)
  case atStart => exact ⟨0, rfl, Nat.zero_le _, Lib.hid (World.ownsRow_nil _ _ _ _), Lib.hid (.inl rfl), D1.out⟩
  case round =>
    obtain ⟨j, rfl, hj, HO, HJ, hbel⟩ := hrel
    have hsz := hbel.size
    by_cases hjn : j < n
    · have hjn' : (j : Int) + 1 ≤ (n : Int) := by omega
      obtain ⟨wo, rfl⟩ : ∃ wo : World, wo = wr := ⟨_, rfl⟩
      go_wp2_with fail
      go_loopw [10, 11, 37, 50] (fun av iv _ _ wr => ∃ (k : Nat) (y : Int), iv = .int .i64 k ∧ k ≤ len ∧ av = .int .i64 y ∧ Hid (trk f k ((j : Int) + 1) = y) ∧ Hid (crossTo f k = true) ∧ Below wo.heap.size wo wr) (fun _ iv _ _ _ => len - (intOf iv).toNat)
      case atStart => exact ⟨0, (j : Int) + 1, rfl, Nat.zero_le _, rfl, Lib.hid rfl, Lib.hid rfl, Below.refl _ _⟩
      case round =>
        obtain ⟨k, y, rfl, hk, rfl, HY, HK, hbel2⟩ := hrel
        have hbw : Below w.heap.size w wr := hbel.trans (hbel2.mono hsz)
        by_cases hlt : k < len
        · have hlt' : (k : Int) < (len : Int) := by omega
          obtain ⟨b, o, rfl, hcell⟩ := (Its.keep HC.out hbw) (by omega)
          obtain ⟨⟨kd, at', m, nm⟩, hx⟩ : ∃ x : It, f k = x := ⟨_, rfl⟩
          have hz := hcell k hlt
          have hfk := fitTo_at HF.out hlt
          rw [hx] at hz hfk
          have HFK := Lib.hid hfk
          have HX := Lib.hid hx
          obtain ⟨c0, c1, c2, c3, c4⟩ := hz
          simp only at c0 c1 c2 c3 c4
          have HNM := Lib.hid c4
          clear hcell hx c4 hfk
          by_cases h3 : kd = 3
          · subst h3
            obtain ⟨hat, hae⟩ := itF_cross HFK.out rfl
            obtain ⟨a, hA⟩ : ∃ a, itA ⟨3, at', m, nm⟩ = a := ⟨_, rfl⟩
            rw [hA] at hat hae
            have HAA := Lib.hid hA
            simp only at hat
            obtain rfl : at' = (a : Int) + 1 := hat
            have ha4 : (a : Int) ≤ 4 := by omega
            have HK2 : Hid (crossTo f (k + 1) = true) := Lib.hid (by simp only [crossTo]; rw [HK.out, HX.out]; rfl)
            have HT : Hid (trk f (k + 1) ((j : Int) + 1) = if y = (a : Int) + 1 then (a : Int) + 1 + 1 else if y = (a : Int) + 1 + 1 then (a : Int) + 1 else y) := Lib.hid (by simp only [trk]; rw [HY.out, HX.out])
            clear hA hae
            by_cases e1 : y = (a : Int) + 1
            · have HT2 : Hid (trk f (k + 1) ((j : Int) + 1) = (a : Int) + 1 + 1) := Lib.hid (by rw [HT.out, if_pos e1])
              have hq : (y == (a : Int) + 1) = true := beq_iff_eq.2 e1
              clear e1
              go_wp2_with fail
              go_roundw
              case rel => exact ⟨k + 1, (a : Int) + 1 + 1, by go_num, by omega, rfl, HT2, HK2, by go_grown⟩
              case measure => simp [intOf]; omega
            · have hq : (y == (a : Int) + 1) = false := beq_eq_false_iff_ne.2 e1
              by_cases e2 : y = (a : Int) + 1 + 1
              · have HT2 : Hid (trk f (k + 1) ((j : Int) + 1) = (a : Int) + 1) := Lib.hid (by rw [HT.out, if_neg e1, if_pos e2])
                have hq2 : (y == (a : Int) + 1 + 1) = true := beq_iff_eq.2 e2
                clear e1 e2
                go_wp2_with fail
                go_roundw
                case rel => exact ⟨k + 1, (a : Int) + 1, by go_num, by omega, rfl, HT2, HK2, by go_grown⟩
                case measure => simp [intOf]; omega
              · have HT2 : Hid (trk f (k + 1) ((j : Int) + 1) = y) := Lib.hid (by rw [HT.out, if_neg e1, if_neg e2])
                have hq2 : (y == (a : Int) + 1 + 1) = false := beq_eq_false_iff_ne.2 e2
                clear e1 e2
                go_wp2_with fail
                go_roundw
                case rel => exact ⟨k + 1, y, by go_num, by omega, rfl, HT2, HK2, by go_grown⟩
                case measure => simp [intOf]; omega
          · have HE : Hid (bb = false) := Lib.hid (by rw [← HBB.out]; exact crossTo_stop (by rw [HX.out]; exact h3) len hlt)
            have hb0 : (kd == 3) = false := beq_eq_false_iff_ne.2 h3
            have hb1 : (kd != 3) = true := bne_iff_ne.2 h3
            clear h3
            go_wp2_with fail
            go_returns
            exact ⟨⟨none, 0, by rw [HE.out] <;> rfl, fun h => absurd h (by rw [HE.out]; simp [permL])⟩, hbw⟩
        · obtain rfl : k = len := by omega
          have hyb := trk_bd HF.out HK.out (x := (j : Int) + 1) (by omega) k (Nat.le_refl _)
          rw [HY.out] at hyb
          obtain ⟨hy1, hy2⟩ := hyb
          have HV : Hid (trF f k j = y - 1) := Lib.hid (by unfold trF; rw [HY.out])
          have HOW := Lib.hid (own_below' HO.out hbel2)
          have hsw := hbw.size
          go_wp2_with (at_builtin; refine wpList_append_own _ rfl (.tmp 63) (.tmp 66) 22 rfl w.heap.size 3 i0 _ 1 8 Try.underlying22 HI.out.1 HI.out.2.1 HI.out.2.2.1 HI.out.2.2.2 rfl (by decide) _ j (cellsI (trF f k) j) rfl (HOW.out.alloc _) ⟨wr.heap.size, 0, none⟩ 1 1 [.int .i64 (y - 1)] rfl rfl ?c1 ?c2 ?c3 ?c4 ?c5 ?_)
          case c1 => exact fun j u hu => World.news_of_block (cs := #[.int .i64 (y - 1)]) (heap_new wr _) j u hu
          case c2 =>
            intro u hu
            simp only [List.mem_cons, List.not_mem_nil, or_false] at hu
            subst hu; rfl
          case c3 => unfold maxLen; omega
          case c4 => omega
          case c5 => simp; omega
          intro v' w3 hown' hgrow _
          rw [← HV.out, ← cellsI_succ] at hown'
          have hltk := HOW.out.lt
          have HB3 : Below w.heap.size w w3 := Below.grown (hbw.alloc hsw _) hgrow (by simp; omega) (fun k hk => (hltk k hk).1)
          have HO3 := Lib.hid hown'
          clear hown' hgrow hltk
          go_wp2_with fail
          go_roundw
          case rel => exact ⟨j + 1, by go_num, by omega, HO3, Lib.hid (.inr HK.out), HB3⟩
          case measure => simp [intOf]; omega
    · obtain rfl : j = n := by omega
      obtain rfl : bb = true := by rw [← HBB.out]; exact HJ.out.resolve_left (by omega)
      obtain ⟨g', cap', rfl, hgB, hgs, _, _⟩ := own_form HO.out hn1
      have hge : ¬ ((j : Int) + 1 ≤ (j : Int)) := by omega
      go_wp2_with fail
      go_returns
      exact ⟨⟨_, cap', rfl, (Intw.of_own HO.out fun i hi => cellsI_get _ hi).ints⟩, hbel⟩
end Go.Proofs.Ytpjfpkhcadombaa
