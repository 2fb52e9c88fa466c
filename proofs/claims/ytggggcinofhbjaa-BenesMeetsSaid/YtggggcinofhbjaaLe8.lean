import Derived.Test.YtggggcinofhbjaaLr8
namespace Ben
/-- How often switch c is met by the first i inputs and by the first j switches of input i. -/
def cF (s : Nat → Bool) (k i j : Nat) : Nat → Int := fun c => ((hits s k 0 c i + ((met s k 0 i).take j).count c : Nat) : Int)
theorem cF_zero (s : Nat → Bool) (k i c : Nat) : cF s k i 0 c = ((hits s k 0 c i : Nat) : Int) := by simp [cF]
theorem cF_all (s : Nat → Bool) (k i c : Nat) : cF s k i (dp k) c = ((hits s k 0 c (i + 1) : Nat) : Int) := by
  unfold cF
  rw [List.take_of_length_le (by rw [met_len]; exact Nat.le_refl _)]
  rfl
theorem cF_next (s : Nat → Bool) {k i j x : Nat} (hj : j < (met s k 0 i).length) (hx : (met s k 0 i)[j] = x) (c : Nat) : cF s k i (j + 1) c = if c = x then cF s k i j c + 1 else cF s k i j c := by
  unfold cF
  rw [List.take_succ_eq_append_getElem hj, List.count_append, hx, cnt1]
  by_cases e : x = c
  · rw [if_pos e, if_pos e.symm]; omega
  · rw [if_neg e, if_neg (fun h => e h.symm)]; omega
theorem hits_le (s : Nat → Bool) (k b c : Nat) : ∀ i, hits s k b c i ≤ i * dp k := by
  intro i
  induction i with
  | zero => exact Nat.zero_le _
  | succ i ih =>
    have h1 : (met s k b i).count c ≤ dp k := by rw [← met_len s k b i]; exact List.count_le_length
    show hits s k b c i + (met s k b i).count c ≤ _
    rw [Nat.succ_mul]
    omega
theorem cF_le (s : Nat → Bool) {k i : Nat} (hk : k ≤ 3) (hi : i ≤ 16) (j c : Nat) : 0 ≤ cF s k i j c ∧ cF s k i j c ≤ 200 := by
  have h1 := hits_le s k 0 c i
  have h2 : ((met s k 0 i).take j).count c ≤ dp k := by
    have h3 : ((met s k 0 i).take j).count c ≤ ((met s k 0 i).take j).length := List.count_le_length
    rw [List.length_take, met_len] at h3
    omega
  have h3 : i * dp k ≤ 16 * 7 := Nat.mul_le_mul hi (by unfold dp; omega)
  have h4 : dp k ≤ 7 := by unfold dp; omega
  unfold cF
  omega
end Ben
namespace Go.Proofs.Ytggggcinofhbjaa
open Go.RowKit Ben
set_option maxRecDepth 100000 in
set_option maxHeartbeats 16000000 in
theorem BenesMeets_any (n : Int) (m cap : Nat) (ao : Option Addr) (s : Nat → Bool) (w : World) (hm : m ≤ 9223372036854775807) (hc : Bools w ao m s) :
    Calls Try.prog 14 #[.int .i64 n, .slice ao m cap] w fun e w' => e = .returned (.bool true) ∧ Below w.heap.size w w' := by
  have HC := Lib.hid hc
  clear hc
  by_cases h80 : 80 < (m : Int)
  · go_enter Try.func14, Try.ntmps14
    go_wp2_with fail
    refine (sane_any _).mono ?_
    rintro e w1 ⟨rfl, hb⟩
    go_wp2_with fail
    go_returns
    exact ⟨rfl, hb⟩
  have h80' : m ≤ 80 := by omega
  cases hp : isP n with
  | false =>
    have e1 : dpV n = 0 := by unfold dpV; rw [hp]; rfl
    have e2 : szE n = 2 := by unfold szE; rw [hp]; rfl
    have e3 : cnV n = 0 := by unfold cnV; rw [hp]; rfl
    have HE := Lib.hid (And.intro e1 (And.intro e2 e3))
    clear e1 e2 e3 hp HC
    go_enter Try.func14, Try.ntmps14
    go_wp2_with fail
    refine (pDepth_any n _).mono ?_
    rw [HE.out.1, HE.out.2.1]
    rintro e w' ⟨rfl, rfl⟩
    go_wp2_with fail
    refine (pCount_any n _).mono ?_
    rw [HE.out.2.2, HE.out.2.1]
    rintro e w' ⟨rfl, rfl⟩
    have hbl : Below w.heap.size w w := Below.refl _ _
    go_wp2_with fail
    refine (sane_any _).mono ?_
    rintro e wz ⟨rfl, hb⟩
    have DZ := hbl.trans (hb.mono hbl.size)
    clear hb hbl
    go_wp2_with fail
    go_returns
    exact ⟨rfl, DZ⟩
  | true =>
  obtain ⟨hn, hk⟩ := isP_sz hp
  have e1 : dpV n = (dp (lv n) : Int) := by unfold dpV; rw [if_pos hp]
  have e2 : szE n = 0 := by unfold szE; rw [if_pos hp]
  have e3 : cnV n = (cn (lv n) : Int) := by unfold cnV; rw [if_pos hp]
  have HE := Lib.hid (And.intro e1 (And.intro e2 e3))
  clear e1 e2 e3
  by_cases hmk : m = cn (lv n)
  · generalize lv n = k at *
    subst hmk
    obtain ⟨i0, hi, hz0, hz1, hz2⟩ := info_parts infoInt
    have HI := Lib.hid (And.intro hi (And.intro hz0 (And.intro hz1 hz2)))
    have hcp := cn_pos k
    have hc56 := cn_le hk
    have hs16 := sz_le hk
    have hd7 : dp k ≤ 7 := by unfold dp; omega
    have hd1 : 1 ≤ dp k := by unfold dp; omega
    have HN := Lib.hid hn
    have n1 : ((cn k : Int) != (cn k : Int)) = false := by simp
    have n2 : ((dp k : Int) != (dp k : Int)) = false := by simp
    clear hp hi hz0 hz1 hz2
    rw [hn] at HE ⊢
    clear hn HN
    go_enter Try.func14, Try.ntmps14
    go_wp2_with fail
    refine (pDepth_any (sz k : Nat) _).mono ?_
    rw [HE.out.1, HE.out.2.1]
    rintro e w' ⟨rfl, rfl⟩
    go_wp2_with fail
    refine (pCount_any (sz k : Nat) _).mono ?_
    rw [HE.out.2.2, HE.out.2.1]
    rintro e w' ⟨rfl, rfl⟩
    go_wp2_with (refine wpList_make_full _ rfl (.tmp 48) (.tmp 48) 28 rfl w.heap.size 3 i0 _ 1 Try.underlying28 HI.out.1 HI.out.2.1 HI.out.2.2.1 .i64 .i64 _ _ (cn k) rfl rfl (by simp) (by simp) ?c1 ?c2 ?c3 ?_)
    case c1 => rw [HI.out.2.2.2]; omega
    case c2 => unfold maxLen; omega
    case c3 => exact Nat.le_refl _
    intro w2 hown hgrow
    have HW : Hid (Intw w2 w.heap.size (cn k) (cF s k 0 0)) := Lib.hid (Intw.of_own hown fun i hi => by rw [cF_zero]; exact made_get (cn k) i hi)
    have hlt1 : w.heap.size < w2.heap.size := (hown.lt _ rfl).2
    have DW : Below w.heap.size w w2 := Below.grown (Below.refl _ _) hgrow (Nat.le_refl _) (fun k hk => by cases hk)
    have HB2 := Lib.hid DW
    clear hown hgrow DW
    go_wp2_with fail
    go_loopw [10] (fun iv wr => ∃ (z : Int) (i : Nat), iv = .int .i64 z ∧ z = i ∧ i ≤ sz k ∧ Hid (Intw wr w.heap.size (cn k) (cF s k i 0)) ∧ Hid (Below w.heap.size w wr) ∧ w.heap.size < wr.heap.size) (fun iv _ => sz k - (intOf iv).toNat)
    case atStart => exact ⟨0, 0, rfl, rfl, by omega, HW, HB2, hlt1⟩
    case round =>
      obtain ⟨z, i, rfl, hz, hi, HW1, HB, hsw⟩ := hrel
      clear HW HB2 hlt1
      by_cases hlt : i < sz k
      · have hlt' : z < ((sz k : Nat) : Int) := by omega
        subst hz
        have i00 : (0 : Int) ≤ (i : Int) := by omega
        have i20 : (i : Int) < 20 := by omega
        go_wp2_with fail
        refine (pTrace_ok k i cap ao s _ hk hlt (HC.out.keep HB.out)).mono ?_
        rintro e w3 ⟨⟨V, rfl, hV⟩, hb⟩
        obtain ⟨gV, cV, rfl, hgV, hsV, _, _⟩ := own_fm hV hd1
        have HV := Lib.hid (Intw_own hV)
        have HW3 := Lib.hid (HW1.out.keep hb)
        have HB3 := Lib.hid (HB.out.trans (hb.mono HB.out.size))
        have hs3 : w.heap.size < w3.heap.size := by have := hb.size; omega
        have hgne : ¬ w.heap.size = gV := by omega
        clear hV hb HW1 HB hsw
        obtain ⟨wo, rfl⟩ : ∃ wo : World, wo = wr := ⟨_, rfl⟩
        go_wp2_with fail
        go_loopw [13] (fun jv wr => ∃ (y : Int) (j : Nat), jv = .int .i64 y ∧ y = j ∧ j ≤ dp k ∧ Hid (Intw wr w.heap.size (cn k) (cF s k i j)) ∧ Hid (Intw wr gV (dp k) (fn (met s k 0 i))) ∧ Hid (Below w.heap.size w wr) ∧ w.heap.size < wr.heap.size) (fun jv _ => dp k - (intOf jv).toNat)
        case atStart => exact ⟨0, 0, rfl, rfl, by omega, HW3, HV, HB3, hs3⟩
        case round =>
          obtain ⟨y, j, rfl, hy, hj, HW4, HV4, HB4, hs4⟩ := hrel
          clear HW3 HV HB3 hs3
          by_cases hjt : j < dp k
          · have hjt' : y < ((dp k : Nat) : Int) := by omega
            subst hy
            have j00 : (0 : Int) ≤ (j : Int) := by omega
            have hjl : j < (met s k 0 i).length := by rw [met_len]; exact hjt
            obtain ⟨x, hx⟩ : ∃ x, (met s k 0 i)[j] = x := ⟨_, rfl⟩
            have hxc : x < cn k := by
              have h1 := met_in s k 0 i hlt x (by rw [← hx]; exact List.getElem_mem hjl)
              omega
            have c0 := (HV4.out j hjt).1
            rw [show fn (met s k 0 i) j = (x : Int) by unfold fn; rw [List.getD_eq_getElem?_getD, List.getElem?_eq_getElem hjl, hx]; rfl] at c0
            obtain ⟨m0, m1⟩ := HW4.out x hxc
            have hv2 := cF_le s (k := k) (i := i) hk (by omega) j x
            obtain ⟨v, hv⟩ : ∃ v, cF s k i j x = v := ⟨_, rfl⟩
            rw [hv] at m0 hv2
            have x00 : (0 : Int) ≤ (x : Int) := by omega
            have x01 : ¬ ((x : Int) < 0) := by omega
            have x02 : ¬ (((cn k : Nat) : Int) ≤ (x : Int)) := by omega
            have x03 : (x : Int) < ((cn k : Nat) : Int) := by omega
            have j16 : (j : Int) ≤ 60 := by omega
            have v00 : 0 ≤ v := hv2.1
            have v01 : v ≤ 200 := hv2.2
            clear hv2
            have HW5 : Hid (Intw (wr.setCell ⟨w.heap.size, x, none⟩ (.int .i64 (v + 1))) w.heap.size (cn k) (cF s k i (j + 1))) := Lib.hid ((HW4.out.store hxc (v + 1)).congr fun c _ => by
              rw [cF_next s hjl hx]
              unfold updI
              by_cases e : c = x
              · rw [if_pos e, if_pos e, e, hv]
              · rw [if_neg e, if_neg e])
            have HV5 : Hid (Intw (wr.setCell ⟨w.heap.size, x, none⟩ (.int .i64 (v + 1))) gV (dp k) (fn (met s k 0 i))) := Lib.hid (HV4.out.other hgne)
            have HB5 : Hid (Below w.heap.size w (wr.setCell ⟨w.heap.size, x, none⟩ (.int .i64 (v + 1)))) := Lib.hid (HB4.out.setCell (p := ⟨w.heap.size, x, none⟩) (Nat.le_refl _) _)
            have hs5 : w.heap.size < (wr.setCell ⟨w.heap.size, x, none⟩ (.int .i64 (v + 1))).heap.size := World.block_lt_of_cell? _ _ (HW5.out x hxc).1
            clear HW4 HV4 HB4 hx hv
            go_wp2_with fail
            go_roundw
            case rel => exact ⟨(j : Int) + 1, j + 1, by first | rfl | (rw [show wrap64 ((j : Int) + 1) = (j : Int) + 1 by simp only [wrap64]; omega]), by omega, by omega, HW5, HV5, HB5, hs5⟩
            case measure => first | (simp [intOf]; done) | (simp [intOf]; omega)
          · have hyn : ¬ y < ((dp k : Nat) : Int) := by omega
            obtain rfl : j = dp k := by omega
            subst hy
            have HW6 : Hid (Intw wr w.heap.size (cn k) (cF s k (i + 1) 0)) := Lib.hid (HW4.out.congr fun c _ => by rw [cF_all, cF_zero])
            clear HW4 HV4
            go_wp2_with fail
            go_roundw
            case rel => exact ⟨(i : Int) + 1, i + 1, by first | rfl | (rw [show wrap64 ((i : Int) + 1) = (i : Int) + 1 by simp only [wrap64]; omega]), by omega, by omega, HW6, HB4, hs4⟩
            case measure => first | (simp [intOf]; done) | (simp [intOf]; omega)
      · have hzn : ¬ z < ((sz k : Nat) : Int) := by omega
        obtain rfl : i = sz k := by omega
        subst hz
        have HWT : Hid (Intw wr w.heap.size (cn k) (fun _ => 2)) := Lib.hid (HW1.out.congr fun c hc => by rw [cF_zero, hits_two s k 0 c (by omega) (by omega)]; rfl)
        clear HW1
        obtain ⟨wo, rfl⟩ : ∃ wo : World, wo = wr := ⟨_, rfl⟩
        go_wp2_with fail
        go_loopw [14] (fun jv wr => ∃ (y : Int) (j : Nat), jv = .int .i64 y ∧ y = j ∧ j ≤ cn k ∧ wo = wr) (fun jv _ => cn k - (intOf jv).toNat)
        case atStart => exact ⟨0, 0, rfl, rfl, by omega, rfl⟩
        case round =>
          obtain ⟨y, j, rfl, hy, hj, rfl⟩ := hrel
          by_cases hjt : j < cn k
          · have hjt' : y < ((cn k : Nat) : Int) := by omega
            subst hy
            have j00 : (0 : Int) ≤ (j : Int) := by omega
            have j16 : (j : Int) ≤ 60 := by omega
            have c0 := (HWT.out j hjt).1
            go_wp2_with fail
            go_roundw
            case rel => exact ⟨(j : Int) + 1, j + 1, by first | rfl | (rw [show wrap64 ((j : Int) + 1) = (j : Int) + 1 by simp only [wrap64]; omega]), by omega, by omega, by first | rfl | trivial⟩
            case measure => first | (simp [intOf]; done) | (simp [intOf]; omega)
          · have hyn : ¬ y < ((cn k : Nat) : Int) := by omega
            obtain rfl : j = cn k := by omega
            subst hy
            have hbl := HB.out
            clear HWT HB
            go_wp2_with fail
            refine (sane_any _).mono ?_
            rintro e wz ⟨rfl, hb⟩
            have DZ := hbl.trans (hb.mono hbl.size)
            clear hb hbl
            go_wp2_with fail
            go_returns
            exact ⟨rfl, DZ⟩
  · have n1 : ((m : Int) != (cn (lv n) : Int)) = true := bne_iff_ne.2 (by omega)
    clear hmk hp HC hn
    generalize lv n = k at *
    go_enter Try.func14, Try.ntmps14
    go_wp2_with fail
    refine (pDepth_any n _).mono ?_
    rw [HE.out.1, HE.out.2.1]
    rintro e w' ⟨rfl, rfl⟩
    go_wp2_with fail
    refine (pCount_any n _).mono ?_
    rw [HE.out.2.2, HE.out.2.1]
    rintro e w' ⟨rfl, rfl⟩
    have hbl : Below w.heap.size w w := Below.refl _ _
    go_wp2_with fail
    refine (sane_any _).mono ?_
    rintro e wz ⟨rfl, hb⟩
    have DZ := hbl.trans (hb.mono hbl.size)
    clear hb hbl
    go_wp2_with fail
    go_returns
    exact ⟨rfl, DZ⟩
end Go.Proofs.Ytggggcinofhbjaa
