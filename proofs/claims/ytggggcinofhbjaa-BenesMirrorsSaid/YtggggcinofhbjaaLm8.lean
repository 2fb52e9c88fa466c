import Derived.Test.YtggggcinofhbjaaBq8
namespace Go.Proofs.Ytggggcinofhbjaa
open Go.RowKit Ben
set_option maxRecDepth 100000 in
set_option maxHeartbeats 4000000 in
theorem BenesMirrors_any (n : Int) (m cap : Nat) (ao : Option Addr) (s : Nat → Bool) (w : World) (hm : m ≤ 9223372036854775807) (hcap : m ≤ cap) (hcm : cap ≤ 9223372036854775807) (hc : Bools w ao m s) :
    Calls Try.prog 10 #[.int .i64 n, .slice ao m cap] w fun e w' => e = .returned (.bool true) ∧ Below w.heap.size w w' := by
  have HC := Lib.hid hc
  clear hc
  by_cases h80 : 80 < (m : Int)
  · go_enter Try.func10, Try.ntmps10
    go_wp2_with fail
    refine (sane_any _).mono ?_
    rintro e w1 ⟨rfl, hb⟩
    go_wp2_with fail
    go_returns
    exact ⟨rfl, hb⟩
  have h80' : m ≤ 80 := by omega
  by_cases he : ckE n m = 0
  · obtain ⟨hn, hk, hmk⟩ := ckE_ok he
    generalize lv n = k at *
    subst hn hmk
    clear he h80
    have hcp := cn_pos k
    obtain ⟨b, o, rfl, hcell⟩ := HC.out (by omega)
    have HL : Hid (Bl w b o (cn k) s) := Lib.hid hcell
    clear hcell HC
    go_enter Try.func10, Try.ntmps10
    go_wp2_with fail
    refine (pMirror_ok k cap b o s _ hk hcap hcm HL.out).mono ?_
    rintro e w1 ⟨⟨g1, c1, rfl, hW1, hg1, hs1, _, _⟩, hb1⟩
    have HW1 := Lib.hid hW1
    have HB1 := Lib.hid hb1
    have HL1 := Lib.hid (HL.out.keep hb1)
    clear hW1 hb1
    go_wp2_with fail
    refine (rMirror_ok k cap b o s _ hk hcap hcm HL1.out).mono ?_
    rintro e w2 ⟨⟨g2, c2, rfl, hW2, hg2, hs2, _, _⟩, hb2⟩
    have HW2 := Lib.hid hW2
    have HW12 := Lib.hid (HW1.out.keep hb2)
    have HB2 := Lib.hid (HB1.out.trans (hb2.mono HB1.out.size))
    clear hW2 hb2 HW1 HB1 HL1 HL
    go_wp2_with fail
    refine (sameSet_yes (cn k) c1 c2 (some ⟨g1, 0, none⟩) (some ⟨g2, 0, none⟩) (fun j => s (mi k j)) _ (by omega) HW12.out.bools HW2.out.bools).mono ?_
    rintro e w3 ⟨rfl, hb3⟩
    have hbl := HB2.out.trans (hb3.mono HB2.out.size)
    clear hb3 HW12 HW2 HB2
    go_wp2_with fail
    refine (sane_any _).mono ?_
    rintro e wz ⟨rfl, hb⟩
    have DZ := hbl.trans (hb.mono hbl.size)
    clear hb hbl
    go_wp2_with fail
    go_returns
    exact ⟨rfl, DZ⟩
  · have HE := Lib.hid he
    clear he h80
    go_enter Try.func10, Try.ntmps10
    go_wp2_with fail
    refine (pMirror_no n m cap ao _ (by omega) HE.out).mono ?_
    rintro e w' ⟨rfl, rfl⟩
    go_wp2_with fail
    refine (rMirror_no n m cap ao _ (by omega) HE.out).mono ?_
    rintro e w' ⟨rfl, rfl⟩
    go_wp2_with fail
    refine (sameSet_yes 0 0 0 none none (fun _ => false) _ (by omega) (fun h => absurd h (by omega)) (fun h => absurd h (by omega))).mono ?_
    rintro e w3 ⟨rfl, hbl⟩
    go_wp2_with fail
    refine (sane_any _).mono ?_
    rintro e wz ⟨rfl, hb⟩
    have DZ := hbl.trans (hb.mono hbl.size)
    clear hb hbl
    go_wp2_with fail
    go_returns
    exact ⟨rfl, DZ⟩
end Go.Proofs.Ytggggcinofhbjaa
