import Derived.Test.YtjodjfllgofkaaaAq
import Derived.Test.YtjodjfllgofkaaaIb
import Derived.Test.YtjodjfllgofkaaaTo
import Derived.Test.YtjodjfllgofkaaaCt


namespace Go.Proofs.Ytjodjfllgofkaaa
open Go.RowKit Prm Amp

set_option maxRecDepth 100000 in
set_option maxHeartbeats 2000000 in
theorem touch_any (kd m kd' m' : Int) (a n a' n' : Nat) (nm nm' : ByteArray) (w : World) (hr : itR ⟨kd, (a : Int) + 1, m, nm⟩ = (n : Int)) (hr' : itR ⟨kd', (a' : Int) + 1, m', nm'⟩ = (n' : Int)) (ha : a ≤ 5) (hn : n ≤ 2) (ha' : a' ≤ 5) (hn' : n' ≤ 2) :
    Calls Try.prog 59 #[.agg #[.int .i64 kd, .int .i64 ((a : Int) + 1), .int .i64 m, .string nm], .agg #[.int .i64 kd', .int .i64 ((a' : Int) + 1), .int .i64 m', .string nm']] w fun e w' => e = .returned (.bool (touTo a n a' n' 6)) ∧ Below w.heap.size w w' := by
  have HR := Lib.hid hr
  have HR' := Lib.hid hr'
  have HAN := Lib.hid (And.intro ha (And.intro hn (And.intro ha' hn')))
  clear hr hr' ha hn ha' hn'
  obtain ⟨tt, htt⟩ : ∃ tt, touTo a n a' n' 6 = tt := ⟨_, rfl⟩
  have HTT := Lib.hid htt
  rw [htt]
  clear htt
  go_enter Try.func59, Try.ntmps59
  go_wp2_with fail
  go_loopw [5] (fun gv wr => ∃ k : Nat, gv = .int .i64 ((k : Int) + 1) ∧ k ≤ 6 ∧ Hid (touTo a n a' n' k = false) ∧ Below (w.heap.size + 2) ((w.alloc (.cells #[.int .i64 kd, .int .i64 ((a : Int) + 1), .int .i64 m, .string nm] 68)).alloc (.cells #[.int .i64 kd', .int .i64 ((a' : Int) + 1), .int .i64 m', .string nm'] 68)) wr) (fun gv _ => 7 - (intOf gv).toNat)
  case atStart => exact ⟨0, rfl, by omega, Lib.hid rfl, Below.refl _ _⟩
  case round =>
    obtain ⟨k, rfl, hk, HK, hbel⟩ := hrel
    have hD : Below w.heap.size w wr := (((Below.refl _ w).alloc (Nat.le_refl _) _).alloc (by simp) _).trans (hbel.mono (by omega))
    have HD := Lib.hid hD
    by_cases hlt : k < 6
    · have hlt' : (k : Int) + 1 ≤ 6 := by omega
      have e0 := fun b j (h : b < w.heap.size + 2) => hbel.cell (p := ⟨b, j, none⟩) h
      have c0 := (e0 w.heap.size 0 (by omega)).trans (by go_cell : _ = some (.int .i64 kd))
      have c1 := (e0 w.heap.size 1 (by omega)).trans (by go_cell : _ = some (.int .i64 ((a : Int) + 1)))
      have c2 := (e0 w.heap.size 2 (by omega)).trans (by go_cell : _ = some (.int .i64 m))
      have c3 := (e0 w.heap.size 3 (by omega)).trans (by go_cell : _ = some (.string nm))
      have hsz : w.heap.size + 1 < wr.heap.size := by have := hbel.size; simp at this; omega
      have HBL := Lib.hid hbel
      clear e0 hbel hD
      go_wp2_with fail
      refine (on_any kd m a n (k + 1) nm _ HR.out HAN.out.1 HAN.out.2.1 (by omega)).mono ?_
      rintro e w1 ⟨rfl, hb1⟩
      have hbel1 := Lib.hid (HBL.out.trans (hb1.mono (by omega)))
      have D1 := Lib.hid (HD.out.trans (hb1.mono (by omega)))
      have hsz1 : w.heap.size + 1 < w1.heap.size := Nat.lt_of_lt_of_le hsz hb1.size
      clear hb1 c0 c1 c2 c3
      obtain ⟨b1, hb1⟩ : ∃ b1, onB a n (k + 1) = b1 := ⟨_, rfl⟩
      have HB1 := Lib.hid hb1
      rw [hb1]
      clear hb1
      cases b1 with
      | false =>
        have HK2 : Hid (touTo a n a' n' (k + 1) = false) := Lib.hid (by simp only [touTo]; rw [HK.out, HB1.out]; rfl)
        go_wp2_with fail
        go_roundw
        case rel => exact ⟨k + 1, by go_num, by omega, HK2, hbel1.out⟩
        case measure => simp [intOf]; omega
      | true =>
        have e0 := fun b j (h : b < w.heap.size + 2) => hbel1.out.cell (p := ⟨b, j, none⟩) h
        have c0 := (e0 (w.heap.size + 1) 0 (by omega)).trans (by go_cell : _ = some (.int .i64 kd'))
        have c1 := (e0 (w.heap.size + 1) 1 (by omega)).trans (by go_cell : _ = some (.int .i64 ((a' : Int) + 1)))
        have c2 := (e0 (w.heap.size + 1) 2 (by omega)).trans (by go_cell : _ = some (.int .i64 m'))
        have c3 := (e0 (w.heap.size + 1) 3 (by omega)).trans (by go_cell : _ = some (.string nm'))
        clear e0
        go_wp2_with fail
        refine (on_any kd' m' a' n' (k + 1) nm' _ HR'.out HAN.out.2.2.1 HAN.out.2.2.2 (by omega)).mono ?_
        rintro e w2 ⟨rfl, hb2⟩
        have hbel2 := Lib.hid (hbel1.out.trans (hb2.mono (by omega)))
        have D2 := Lib.hid (D1.out.trans (hb2.mono (by omega)))
        clear hb2 c0 c1 c2 c3
        obtain ⟨b2, hb2⟩ : ∃ b2, onB a' n' (k + 1) = b2 := ⟨_, rfl⟩
        have HB2 := Lib.hid hb2
        rw [hb2]
        clear hb2
        cases b2 with
        | false =>
          have HK2 : Hid (touTo a n a' n' (k + 1) = false) := Lib.hid (by simp only [touTo]; rw [HK.out, HB1.out, HB2.out]; rfl)
          go_wp2_with fail
          go_roundw
          case rel => exact ⟨k + 1, by go_num, by omega, HK2, hbel2.out⟩
          case measure => simp [intOf]; omega
        | true =>
          have HE : Hid (tt = true) := Lib.hid (by rw [← HTT.out, touTo_iff]; exact ⟨k + 1, by omega, by omega, HB1.out, HB2.out⟩)
          go_wp2_with fail
          go_returns
          exact ⟨by rw [HE.out] <;> rfl, D2.out⟩
    · obtain rfl : k = 6 := by omega
      have HE : Hid (tt = false) := Lib.hid (by rw [← HTT.out, HK.out])
      go_wp2_with fail
      go_returns
      exact ⟨by rw [HE.out] <;> rfl, HD.out⟩

theorem itR_of {n : Nat} {x : It} (h : itF n x = true) : itR x = (itN x : Int) := by
  have h1 := itF_yes h
  unfold itF at h
  simp only [Bool.and_eq_true] at h
  rw [(itR_yes h.1).1]; exact h1.2.2.2.2.1

set_option maxRecDepth 100000 in
set_option maxHeartbeats 1000000 in
theorem rColumns_no (N : Int) (len cap : Nat) (ao : Option Addr) (f : Nat → It) (w : World) (hlen : len ≤ 9223372036854775807) (hc : Its w ao len f) (ha : askS N len f ≠ 0) :
    Calls Try.prog 19 #[.int .i64 N, .slice ao len cap] w fun e w' => e = .returned (.tuple #[.slice none 0 0, .int .i64 (askS N len f)]) ∧ Below w.heap.size w w' := by
  have HC := Lib.hid hc
  obtain ⟨er, her⟩ : ∃ er, askS N len f = er := ⟨_, rfl⟩
  rw [her] at ha
  rw [her]
  have HER := Lib.hid her
  have hb0 : (er == 0) = false := beq_eq_false_iff_ne.2 ha
  have hb1 : (er != 0) = true := bne_iff_ne.2 ha
  clear hc ha her
  go_enter Try.func19, Try.ntmps19
  go_wp2_with fail
  refine (asked_any N len cap ao f _ hlen HC.out).mono ?_
  rintro e w1 ⟨rfl, hb⟩
  rw [HER.out]
  have D1 := Lib.hid hb
  clear hb
  go_wp2_with fail
  go_returns
  exact ⟨rfl, D1.out⟩

set_option maxRecDepth 100000 in
set_option maxHeartbeats 4000000 in
theorem rColumns_ok (N : Int) (len cap : Nat) (ao : Option Addr) (f : Nat → It) (w : World) (hlc : len ≤ cap) (hc : Its w ao len f) (ha : askS N len f = 0) :
    Calls Try.prog 19 #[.int .i64 N, .slice ao len cap] w fun e w' => (∃ lv, e = .returned (.tuple #[lv, .int .i64 0]) ∧ w'.ownsRow w.heap.size 3 1 lv len (cellsI (colF f) len)) ∧ Below w.heap.size w w' := by
  have HC := Lib.hid hc
  have HA := Lib.hid ha
  obtain ⟨_, hN6, hl5, hfit⟩ := askOk ha
  have HF := Lib.hid hfit
  obtain ⟨i0, hi, hz0, hz1, hz2⟩ := info_parts infoInt
  have HI := Lib.hid (And.intro hi (And.intro hz0 (And.intro hz1 hz2)))
  have HN6 : Hid (N.toNat ≤ 6) := Lib.hid (by omega)
  have hl5' : (len : Int) ≤ 5000 := by omega
  have HIT : Hid (∀ j, j < len → ∀ a n kd at' m nm, f j = ⟨kd, at', m, nm⟩ → itA (f j) = a → itN (f j) = n → at' = (a : Int) + 1 ∧ a ≤ 5 ∧ 1 ≤ n ∧ n ≤ 2 ∧ a + n ≤ 6 ∧ itR ⟨kd, (a : Int) + 1, m, nm⟩ = (n : Int)) := Lib.hid (by
    intro j hj a n kd at' m nm e1 e2 e3
    have h1 := fitAt HF.out hj
    obtain ⟨_, _, b1, b2, _, b3, b4⟩ := itF_yes h1
    have h2 := itR_of h1
    have := HN6.out
    rw [e2] at b3
    rw [e1] at b3
    simp only at b3
    rw [e3, e1, b3] at h2
    exact ⟨b3, by omega, by omega, by omega, by omega, h2⟩)
  clear hi hz0 hz1 hz2 hc ha hfit HN6
  go_enter Try.func19, Try.ntmps19
  go_wp2_with fail
  refine (asked_any N len cap ao f _ (by omega) HC.out).mono ?_
  rintro e w1 ⟨rfl, hb⟩
  rw [HA.out]
  have D1 := Lib.hid hb
  have hs1 : w.heap.size ≤ w1.heap.size := hb.size
  clear hb
  go_wp2_with fail
  go_loopw [7, 8, 9, 10, 11, 12, 21] (fun lv _ _ _ _ _ i wr => ∃ k : Nat, i = .int .i64 k ∧ k ≤ len ∧ Hid (wr.ownsRow w.heap.size 3 1 lv k (cellsI (colF f) k)) ∧ Below w.heap.size w wr) (fun _ _ _ _ _ _ i _ => len - (intOf i).toNat)
  case atStart => exact ⟨0, rfl, Nat.zero_le _, Lib.hid (World.ownsRow_nil _ _ _ _), D1.out⟩
  case round =>
    obtain ⟨k, rfl, hk, HO, hbel⟩ := hrel
    by_cases hlt : k < len
    · have hlt' : (k : Int) < (len : Int) := by omega
      have hkc : (k : Int) ≤ (cap : Int) := by omega
      have hc0 : ¬ cap = 0 := by omega
      obtain ⟨b, o, rfl, hcell⟩ := (Its.keep HC.out hbel) (by omega)
      obtain ⟨⟨kd, at', m, nm⟩, hx⟩ : ∃ x : It, f k = x := ⟨_, rfl⟩
      obtain ⟨a, hA⟩ : ∃ a, itA (f k) = a := ⟨_, rfl⟩
      obtain ⟨n, hN⟩ : ∃ n, itN (f k) = n := ⟨_, rfl⟩
      obtain ⟨hat, ha5, hn1, hn2, han, hr⟩ := HIT.out k hlt a n kd at' m nm hx hA hN
      have hz := hcell k hlt
      rw [hx] at hz
      obtain ⟨c0, c1, c2, c3, c4⟩ := hz
      simp only at c0 c1 c2 c3 c4
      subst hat
      have HX := Lib.hid (And.intro hx (And.intro hA hN))
      have HR := Lib.hid (And.intro hr (And.intro ha5 (And.intro hn2 (And.intro hn1 han))))
      have HNM := Lib.hid c4
      have HCE := Lib.hid hcell
      clear hcell hx hA hN c4 hr ha5 hn1 hn2 han
      have hsz := hbel.size
      obtain ⟨wo, rfl⟩ : ∃ wo : World, wo = wr := ⟨_, rfl⟩
      have HBL := Lib.hid hbel
      clear hbel
      go_wp2_with fail
      go_loopw [10, 11, 12, 30] (fun cv _ _ jv wr => ∃ (j : Nat) (c : Int), jv = .int .i64 j ∧ j ≤ k ∧ cv = .int .i64 c ∧ Hid (rcTo f k j = c) ∧ Below (wo.heap.size + 1) (wo.alloc (.cells #[.int .i64 kd, .int .i64 ((a : Int) + 1), .int .i64 m, .string nm] 68)) wr) (fun _ _ _ jv _ => k - (intOf jv).toNat)
      case atStart => exact ⟨0, 1, rfl, Nat.zero_le _, rfl, Lib.hid rfl, Below.refl _ _⟩
      case round =>
        obtain ⟨j, c, rfl, hj, rfl, HCC, hb2⟩ := hrel
        have HB2 := Lib.hid hb2
        have hwr : Below wo.heap.size wo wr := ((Below.refl _ wo).alloc (Nat.le_refl _) _).trans (hb2.mono (by omega))
        have HWR := Lib.hid hwr
        have HDD := Lib.hid (HBL.out.trans (hwr.mono hsz))
        have HOR := Lib.hid (own_below' HO.out hwr)
        have hszr : wo.heap.size < wr.heap.size := by have := hb2.size; simp at this; omega
        have e0 := fun j => hb2.cell (p := ⟨wo.heap.size, j, none⟩) (Nat.lt_succ_self _)
        have q0 := (e0 0).trans (by go_cell : _ = some (.int .i64 kd))
        have q1 := (e0 1).trans (by go_cell : _ = some (.int .i64 ((a : Int) + 1)))
        have q2 := (e0 2).trans (by go_cell : _ = some (.int .i64 m))
        have q3 := (e0 3).trans (by go_cell : _ = some (.string nm))
        have hcb := rcTo_bd f k j
        rw [HCC.out] at hcb
        obtain ⟨hcb1, hcb2⟩ := hcb
        clear e0 hb2 hwr c0 c1 c2 c3
        by_cases hjk : j < k
        · have hjk' : (j : Int) < (k : Int) := by omega
          obtain ⟨⟨kd', at'', m', nm'⟩, hx⟩ : ∃ x : It, f j = x := ⟨_, rfl⟩
          obtain ⟨a', hA⟩ : ∃ a', itA (f j) = a' := ⟨_, rfl⟩
          obtain ⟨n', hN⟩ : ∃ n', itN (f j) = n' := ⟨_, rfl⟩
          obtain ⟨hat, ha5, hn1, hn2, han, hr⟩ := HIT.out j (by omega) a' n' kd' at'' m' nm' hx hA hN
          have hz := (HCE.out j (by omega)).keep HWR.out
          rw [hx] at hz
          obtain ⟨c0, c1, c2, c3, c4⟩ := hz
          simp only at c0 c1 c2 c3 c4
          subst hat
          have HX' := Lib.hid (And.intro hx (And.intro hA hN))
          have HR' := Lib.hid (And.intro hr (And.intro ha5 (And.intro hn2 (And.intro hn1 han))))
          have HNM' := Lib.hid c4
          clear hx hA hN c4 hr ha5 hn1 hn2 han
          obtain ⟨tb, htb⟩ : ∃ tb, touTo a n a' n' 6 = tb := ⟨_, rfl⟩
          have HTB := Lib.hid htb
          have HTT : Hid (touB (f k) (f j) = tb) := Lib.hid (by unfold touB; rw [HX.out.2.1, HX.out.2.2, HX'.out.2.1, HX'.out.2.2, htb])
          clear htb
          go_wp2_with fail
          refine (touch_any kd m kd' m' a n a' n' nm nm' _ HR.out.1 HR'.out.1 HR.out.2.1 HR.out.2.2.1 HR'.out.2.1 HR'.out.2.2.1).mono ?_
          rintro e w5 ⟨rfl, hb5⟩
          rw [HTB.out]
          have D5 : Below wr.heap.size wr w5 := ((Below.refl _ wr).alloc (Nat.le_refl _) _).trans (hb5.mono (by simp))
          have HB5 : Hid (Below (wo.heap.size + 1) (wo.alloc (.cells #[.int .i64 kd, .int .i64 ((a : Int) + 1), .int .i64 m, .string nm] 68)) w5) := Lib.hid (HB2.out.trans (D5.mono (by omega)))
          have HO5 := Lib.hid (own_below' HOR.out D5)
          clear hb5 D5 c0 c1 c2 c3 q0 q1 q2 q3
          cases tb with
          | false =>
            have HC2 : Hid (rcTo f k (j + 1) = c) := Lib.hid (by simp only [rcTo]; rw [HTT.out, if_neg Bool.false_ne_true, HCC.out])
            go_wp2_with fail
            go_roundw
            case rel => exact ⟨j + 1, c, by go_num, by omega, rfl, HC2, HB5.out⟩
            case measure => simp [intOf]; omega
          | true =>
            obtain ⟨g, gcap, rfl, -, -, -, -⟩ := own_fm HO5.out (by omega)
            have hgi : Intw w5 g k (colF f) := Intw.of_own HO5.out fun i hi => cellsI_get _ hi
            have d0 := (hgi j hjk).1
            obtain ⟨y, hy⟩ : ∃ y, colF f j = y := ⟨_, rfl⟩
            have hyb := colF_bd f j
            rw [hy] at d0 hyb
            have HY := Lib.hid hy
            obtain ⟨hy1, hy2⟩ := hyb
            clear hgi hy
            have HC0 : Hid (rcTo f k (j + 1) = if c < y + 1 then y + 1 else c) := Lib.hid (by simp only [rcTo]; rw [HTT.out, if_pos rfl, HCC.out, HY.out])
            by_cases hcy : c < y + 1
            · have HC2 : Hid (rcTo f k (j + 1) = y + 1) := Lib.hid (by rw [HC0.out, if_pos hcy])
              go_wp2_with fail
              go_roundw
              case rel => exact ⟨j + 1, y + 1, by go_num, by omega, rfl, HC2, HB5.out⟩
              case measure => simp [intOf]; omega
            · have HC2 : Hid (rcTo f k (j + 1) = c) := Lib.hid (by rw [HC0.out, if_neg hcy])
              have hcy' : y + 1 ≤ c := by omega
              clear hcy
              go_wp2_with fail
              go_roundw
              case rel => exact ⟨j + 1, c, by go_num, by omega, rfl, HC2, HB5.out⟩
              case measure => simp [intOf]; omega
        · obtain rfl : j = k := by omega
          have HEQ : Hid (colF f j = c) := Lib.hid (by rw [← HCC.out]; exact (rcTo_col (by rw [HX.out.2.2]; exact HR.out.2.2.2.1) (by rw [HX.out.2.1, HX.out.2.2]; exact HR.out.2.2.2.2)).symm)
          have hsw := HDD.out.size
          go_wp2_with (at_builtin; refine wpList_append_own _ rfl (.tmp 46) (.tmp 48) 36 rfl w.heap.size 3 i0 _ 1 8 Try.underlying36 HI.out.1 HI.out.2.1 HI.out.2.2.1 HI.out.2.2.2 rfl (by decide) _ j (cellsI (colF f) j) rfl (HOR.out.alloc _) ⟨wr.heap.size, 0, none⟩ 1 1 [.int .i64 c] rfl rfl ?c1 ?c2 ?c3 ?c4 ?c5 ?_)
          case c1 => exact fun i u hu => World.news_of_block (cs := #[.int .i64 c]) (heap_new wr _) i u hu
          case c2 =>
            intro u hu
            simp only [List.mem_cons, List.not_mem_nil, or_false] at hu
            subst hu; rfl
          case c3 => unfold maxLen; omega
          case c4 => omega
          case c5 => first | omega | (simp; omega)
          intro v' w3 hown' hgrow _
          rw [← HEQ.out, ← cellsI_succ] at hown'
          have hltk := HOR.out.lt
          have HB3 : Below w.heap.size w w3 := Below.grown (HDD.out.alloc hsw _) hgrow (by simp; omega) (fun k hk => (hltk k hk).1)
          have HO3 := Lib.hid hown'
          clear hown' hgrow hltk q0 q1 q2 q3
          go_wp2_with fail
          go_roundw
          case rel => exact ⟨j + 1, by go_num, by omega, HO3, HB3⟩
          case measure => simp [intOf]; omega
    · obtain rfl : k = len := by omega
      go_wp2_with fail
      go_returns
      exact ⟨⟨_, rfl, HO.out⟩, hbel⟩
end Go.Proofs.Ytjodjfllgofkaaa
