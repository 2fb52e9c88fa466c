import Derived.Test.YtggggcinofhbjaaBj8
namespace Go.Proofs.Ytggggcinofhbjaa
open Go.RowKit Ben
set_option maxRecDepth 100000 in
set_option maxHeartbeats 4000000 in
theorem BenesThrough_any (n : Int) (m cap : Nat) (ao : Option Addr) (s : Nat → Bool) (w : World) (hm : m ≤ 9223372036854775807) (hc : Bools w ao m s) :
    Calls Try.prog 4 #[.int .i64 n, .slice ao m cap] w fun e w' => e = .returned (.bool true) ∧ Below w.heap.size w w' := by
  have HC := Lib.hid hc
  clear hc
  by_cases h80 : 80 < (m : Int)
  · go_enter Try.func4, Try.ntmps4
    go_wp2_with fail
    refine (sane_any _).mono ?_
    rintro e w1 ⟨rfl, hb⟩
    go_wp2_with fail
    go_returns
    exact ⟨rfl, hb⟩
  have h80' : m ≤ 80 := by omega
  by_cases he : ckE n m = 0
  · obtain ⟨hn, hk, hmk⟩ := ckE_ok he
    have HE := Lib.hid he
    generalize lv n = k at *
    subst hn hmk
    clear he h80
    have hs16 := sz_le hk
    go_enter Try.func4, Try.ntmps4
    go_wp2_with fail
    refine (pThrough_ok k cap ao s _ hk HC.out).mono ?_
    rintro e w1 ⟨⟨g1, c1, rfl, hW1, hg1, hs1⟩, hb1⟩
    have HW1 := Lib.hid hW1
    have HB1 := Lib.hid hb1
    have HC1 := Lib.hid (HC.out.keep hb1)
    clear hW1 hb1
    go_wp2_with fail
    refine (rThrough_ok k cap ao s _ hk HC1.out).mono ?_
    rintro e w2 ⟨⟨g2, c2, rfl, hW2, hg2, hs2⟩, hb2⟩
    have HW2 := Lib.hid hW2
    have HW12 := Lib.hid (HW1.out.keep hb2)
    have HB2 := Lib.hid (HB1.out.trans (hb2.mono HB1.out.size))
    have HC2 := Lib.hid (HC1.out.keep hb2)
    clear hW2 hb2 HW1 HB1 HC1
    go_wp2_with fail
    refine (pTurned_any _ (cn k) cap ao s _ h80' HC2.out).mono ?_
    rw [HE.out]
    rintro e w' ⟨rfl, rfl⟩
    go_wp2_with fail
    refine (rTurned_any _ (cn k) cap ao s _ h80' HC2.out).mono ?_
    rw [HE.out]
    rintro e w' ⟨rfl, rfl⟩
    have HSB : Hid (Prm.sameB (sz k) (sz k) (ouF s k) (ouF s k) = true) := Lib.hid (Prm.sameB_yes fun _ _ => rfl)
    go_wp2_with fail
    refine (same_any (sz k) (sz k) c1 c2 (some ⟨g1, 0, none⟩) (some ⟨g2, 0, none⟩) (ouF s k) (ouF s k) _ (by omega) (by omega) HW12.out.ints HW2.out.ints).mono ?_
    rw [HSB.out]
    rintro e w3 ⟨rfl, hb3⟩
    have hbl := HB2.out.trans (hb3.mono HB2.out.size)
    clear hb3 HW12 HW2 HC2 HB2
    go_wp2_with fail
    refine (sane_any _).mono ?_
    rintro e wz ⟨rfl, hb⟩
    have DZ := hbl.trans (hb.mono hbl.size)
    clear hb hbl
    go_wp2_with fail
    go_returns
    exact ⟨rfl, DZ⟩
  · have HE := Lib.hid he
    clear he h80
    go_enter Try.func4, Try.ntmps4
    go_wp2_with fail
    refine (pThrough_no n m cap ao _ (by omega) HE.out).mono ?_
    rintro e w' ⟨rfl, rfl⟩
    go_wp2_with fail
    refine (rThrough_no n m cap ao _ (by omega) HE.out).mono ?_
    rintro e w' ⟨rfl, rfl⟩
    go_wp2_with fail
    refine (pTurned_any n m cap ao s _ h80' HC.out).mono ?_
    rintro e w' ⟨rfl, rfl⟩
    go_wp2_with fail
    refine (rTurned_any n m cap ao s _ h80' HC.out).mono ?_
    rintro e w' ⟨rfl, rfl⟩
    have HSB : Hid (Prm.sameB 0 0 (fun _ => 0) (fun _ => 0) = true) := Lib.hid (Prm.sameB_yes fun _ _ => rfl)
    go_wp2_with fail
    refine (same_any 0 0 0 0 none none (fun _ => 0) (fun _ => 0) _ (by omega) (by omega) (fun h => absurd h (by omega)) (fun h => absurd h (by omega))).mono ?_
    rw [HSB.out]
    rintro e w3 ⟨rfl, hbl⟩
    go_wp2_with fail
    refine (sane_any _).mono ?_
    rintro e wz ⟨rfl, hb⟩
    have DZ := hbl.trans (hb.mono hbl.size)
    clear hb hbl
    go_wp2_with fail
    go_returns
    exact ⟨rfl, DZ⟩
end Go.Proofs.Ytggggcinofhbjaa
