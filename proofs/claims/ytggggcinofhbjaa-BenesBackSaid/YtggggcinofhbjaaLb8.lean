import Derived.Test.YtggggcinofhbjaaBq8
import Derived.Test.YtggggcinofhbjaaBr8
namespace Go.Proofs.Ytggggcinofhbjaa
open Go.RowKit Ben Prm
/-- Settings make a permutation. -/
theorem ouF_perm (s : Nat → Bool) {k : Nat} (hk : k ≤ 3) : isPm (sz k) (ouF s k) = true := by
  have hp : isP ((sz k : Nat) : Int) = true := by
    have h : k = 0 ∨ k = 1 ∨ k = 2 ∨ k = 3 := by omega
    rcases h with rfl | rfl | rfl | rfl <;> decide
  rw [isPm_in hp, okUp_iff]
  intro i hi
  have h1 := out_lt s k 0 i hi
  refine ⟨by unfold ouF; omega, by unfold ouF; omega, fun j hj e => ?_⟩
  unfold ouF at e
  have e2 : out s k 0 j = out s k 0 i := by omega
  have a := back_of s (k := k) (b := 0) (i := j) (by omega)
  have b := back_of s (k := k) (b := 0) (i := i) hi
  rw [e2, b] at a
  omega
set_option maxRecDepth 100000 in
set_option maxHeartbeats 8000000 in
theorem BenesBack_any (n : Int) (m cap : Nat) (ao : Option Addr) (s : Nat → Bool) (w : World) (hm : m ≤ 9223372036854775807) (hcap : m ≤ cap) (hcm : cap ≤ 9223372036854775807) (hc : Bools w ao m s) :
    Calls Try.prog 13 #[.int .i64 n, .slice ao m cap] w fun e w' => e = .returned (.bool true) ∧ Below w.heap.size w w' := by
  have HC := Lib.hid hc
  clear hc
  by_cases h80 : 80 < (m : Int)
  · go_enter Try.func13, Try.ntmps13
    go_wp2_with fail
    refine (sane_any _).mono ?_
    rintro e w1 ⟨rfl, hb⟩
    go_wp2_with fail
    go_returns
    exact ⟨rfl, hb⟩
  have h80' : m ≤ 80 := by omega
  by_cases he : ckE n m = 0
  · obtain ⟨hn, hk, hmk⟩ := ckE_ok he
    generalize lv n = k at *
    subst hn hmk
    clear he
    have hcp := cn_pos k
    have hs16 := sz_le hk
    have hsp := sz_pos k
    obtain ⟨b, o, rfl, hcell⟩ := HC.out (by omega)
    have HL : Hid (Bl w b o (cn k) s) := Lib.hid hcell
    clear hcell HC
    obtain ⟨t, ht⟩ : ∃ t : Nat → Bool, (fun j => s (mi k j)) = t := ⟨_, rfl⟩
    have HT : Hid (∀ j, s (mi k j) = t j) := Lib.hid (fun j => congrFun ht j)
    have HBK : Hid (∀ i, i < sz k → out t k 0 (out s k 0 i) = i) := Lib.hid (fun i hi => back k 0 0 i hi (fun j hj => by rw [Nat.zero_add, Nat.zero_add]; exact (congrFun ht j).symm))
    have HPM := Lib.hid (ouF_perm s hk)
    go_enter Try.func13, Try.ntmps13
    go_wp2_with fail
    refine (pThrough_ok k cap _ s _ hk HL.out.bools).mono ?_
    rintro e w1 ⟨⟨g1, c1, rfl, hW, hgB1, hs1⟩, hb⟩
    have HP1 := Lib.hid hW
    have HB1 := Lib.hid hb
    have HL1 := Lib.hid (HL.out.keep hb)
    clear hW hb HL
    go_wp2_with fail
    refine (pMirror_ok k cap b o s _ hk hcap hcm HL1.out).mono ?_
    unfold MirR
    rw [ht]
    rintro e w2 ⟨⟨g2, c2, rfl, hW, hgB2, hs2, hcc2, hmm2⟩, hb⟩
    have HM2 := Lib.hid hW
    have HP2 := Lib.hid (HP1.out.keep hb)
    have HB2 := Lib.hid (HB1.out.trans (hb.mono HB1.out.size))
    have HL2 := Lib.hid (HL1.out.keep hb)
    clear hW hb HL1 HP1 HB1 ht
    go_wp2_with fail
    refine (pMirror_ok k c2 g2 0 t _ hk hcc2 hmm2 HM2.out).mono ?_
    unfold MirR
    rintro e w3 ⟨⟨g3, c3, rfl, hW, hgB3, hs3, hcc3, hmm3⟩, hb⟩
    have HBB : Hid (Bl w3 g3 0 (cn k) s) := Lib.hid (fun j hj => by
      have h := hW j hj
      dsimp only at h
      rw [← HT.out (mi k j), mi_mi k j hj] at h
      exact h)
    have HM3 := Lib.hid (HM2.out.keep hb)
    have HP3 := Lib.hid (HP2.out.keep hb)
    have HB3 := Lib.hid (HB2.out.trans (hb.mono HB2.out.size))
    have HL3 := Lib.hid (HL2.out.keep hb)
    clear hW hb HL2 HP2 HB2 HM2
    go_wp2_with fail
    refine (pThrough_ok k c2 _ t _ hk HM3.out.bools).mono ?_
    rintro e w4 ⟨⟨g4, c4, rfl, hW, hgB4, hs4⟩, hb⟩
    have HQ4 := Lib.hid hW
    have HBB4 := Lib.hid (HBB.out.keep hb)
    have HP4 := Lib.hid (HP3.out.keep hb)
    have HB4 := Lib.hid (HB3.out.trans (hb.mono HB3.out.size))
    have HL4 := Lib.hid (HL3.out.keep hb)
    clear hW hb HL3 HP3 HB3 HM3 HBB
    have hne : (((sz k : Nat) : Int) != ((sz k : Nat) : Int)) = false := by simp
    go_wp2_with fail
    refine (sameSet_yes (cn k) c3 cap (some ⟨g3, 0, none⟩) (some ⟨b, o, none⟩) s _ (by omega) HBB4.out.bools HL4.out.bools).mono ?_
    rintro e w5 ⟨rfl, hb⟩
    have HQ5 := Lib.hid (HQ4.out.keep hb)
    have HP5 := Lib.hid (HP4.out.keep hb)
    have HB5 := Lib.hid (HB4.out.trans (hb.mono HB4.out.size))
    clear hb HQ4 HP4 HB4 HBB4 HL4
    go_wp2_with fail
    refine (rIsPerm_any (sz k) c1 (some ⟨g1, 0, none⟩) (ouF s k) _ (by omega) HP5.out.ints).mono ?_
    rw [HPM.out]
    rintro e w6 ⟨rfl, hb⟩
    have HQ6 := Lib.hid (HQ5.out.keep hb)
    have HP6 := Lib.hid (HP5.out.keep hb)
    have HB6 := Lib.hid (HB5.out.trans (hb.mono HB5.out.size))
    clear hb HQ5 HP5 HB5
    go_wp2_with fail
    go_loopw [13] (fun iv wr => ∃ (z : Int) (i : Nat), iv = .int .i64 z ∧ z = i ∧ i ≤ sz k ∧ Hid (Below w6.heap.size w6 wr)) (fun iv _ => sz k - (intOf iv).toNat)
    case atStart => exact ⟨0, 0, rfl, rfl, by omega, Lib.hid (Below.refl _ _)⟩
    case round =>
      obtain ⟨z, i, rfl, hz, hi, HB⟩ := hrel
      by_cases hlt : i < sz k
      · have hlt' : z < ((sz k : Nat) : Int) := by omega
        subst hz
        have i00 : (0 : Int) ≤ (i : Int) := by omega
        obtain ⟨x, hx⟩ : ∃ x, out s k 0 i = x := ⟨_, rfl⟩
        have hxl : x < sz k := by rw [← hx]; exact out_lt s k 0 i hlt
        have hxi : (x : Int) < ((sz k : Nat) : Int) := by omega
        have c0 := ((HP6.out.keep HB.out) i hlt).1
        rw [show ouF s k i = (x : Int) by unfold ouF; rw [hx]] at c0
        have d0 := ((HQ6.out.keep HB.out) x hxl).1
        rw [show ouF t k x = (i : Int) by unfold ouF; rw [← hx, HBK.out i hlt]] at d0
        have hq : ((i : Int) != (i : Int)) = false := by simp
        have hbr := HB.out
        clear hx HB
        have i16 : (i : Int) ≤ 16 := by omega
        go_wp2_with fail
        go_roundw
        case rel => exact ⟨(i : Int) + 1, i + 1, by first | rfl | (rw [show wrap64 ((i : Int) + 1) = (i : Int) + 1 by simp only [wrap64]; omega]), by omega, by omega, Lib.hid (by go_grown)⟩
        case measure => first | (simp [intOf]; done) | (simp [intOf]; omega)
      · have hzn : ¬ z < ((sz k : Nat) : Int) := by omega
        obtain rfl : i = sz k := by omega
        subst hz
        have hbl := HB6.out.trans (HB.out.mono HB6.out.size)
        clear HB HB6 HP6 HQ6
        go_wp2_with fail
        refine (sane_any _).mono ?_
        rintro e wz ⟨rfl, hb⟩
        have DZ := hbl.trans (hb.mono hbl.size)
        clear hb hbl
        go_wp2_with fail
        go_returns
        exact ⟨rfl, DZ⟩
  · have HE := Lib.hid he
    have h1 : (ckE n m != 0) = true := bne_iff_ne.2 he
    clear he h80
    go_enter Try.func13, Try.ntmps13
    go_wp2_with fail
    refine (pThrough_no n m cap ao _ (by omega) HE.out).mono ?_
    rintro e w' ⟨rfl, rfl⟩
    go_wp2_with fail
    refine (pMirror_no n m cap ao _ (by omega) HE.out).mono ?_
    rintro e w' ⟨rfl, rfl⟩
    have hbl : Below w.heap.size w w := Below.refl _ _
    go_wp2_with fail
    refine (sane_any _).mono ?_
    rintro e wz ⟨rfl, hb⟩
    have DZ := hbl.trans (hb.mono hbl.size)
    clear hb hbl
    go_wp2_with fail
    go_returns
    exact ⟨rfl, DZ⟩
end Go.Proofs.Ytggggcinofhbjaa
