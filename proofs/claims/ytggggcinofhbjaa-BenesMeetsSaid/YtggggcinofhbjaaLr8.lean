import Derived.Test.YtggggcinofhbjaaBj8
namespace Go.Proofs.Ytggggcinofhbjaa
open Go.RowKit Ben
theorem Intw_own {w : World} {B g cap n : Nat} {E : TypeId} {l : List Nat} (h : w.ownsRow B E 1 (.slice (some ⟨g, 0, none⟩) n cap) n (cellsN l)) : Intw w g n (fn l) :=
  Intw.of_own h fun i hi => cellsN_get l (by have := h.1; rw [cellsN_len] at this; omega)
set_option maxRecDepth 100000 in
set_option maxHeartbeats 4000000 in
theorem BenesTraces_any (n : Int) (m cap : Nat) (ao : Option Addr) (s : Nat → Bool) (x : Int) (w : World) (hm : m ≤ 9223372036854775807) (hc : Bools w ao m s) :
    Calls Try.prog 11 #[.int .i64 n, .slice ao m cap, .int .i64 x] w fun e w' => e = .returned (.bool true) ∧ Below w.heap.size w w' := by
  have HC := Lib.hid hc
  clear hc
  by_cases h80 : 80 < (m : Int)
  · go_enter Try.func11, Try.ntmps11
    go_wp2_with fail
    refine (sane_any _).mono ?_
    rintro e w1 ⟨rfl, hb⟩
    go_wp2_with fail
    go_returns
    exact ⟨rfl, hb⟩
  have h80' : m ≤ 80 := by omega
  by_cases he : trE n m x = 0
  · have he0 : ckE n m = 0 := by
      by_cases h : ckE n m = 0
      · exact h
      · unfold trE at he; rw [if_neg h] at he; exact absurd he h
    have hx : 0 ≤ x ∧ x < n := by
      by_cases h : 0 ≤ x ∧ x < n
      · exact h
      · unfold trE at he; rw [if_pos he0, if_neg h] at he; omega
    obtain ⟨hn, hk, hmk⟩ := ckE_ok he0
    generalize lv n = k at *
    obtain ⟨i, rfl⟩ : ∃ i : Nat, x = i := ⟨x.toNat, by omega⟩
    have hi : i < sz k := by omega
    subst hn hmk
    clear he h80 he0 hx
    have hd : dp k ≤ 7 := by unfold dp; omega
    have hd1 : 1 ≤ dp k := by unfold dp; omega
    go_enter Try.func11, Try.ntmps11
    go_wp2_with fail
    refine (pTrace_ok k i cap ao s _ hk hi HC.out).mono ?_
    rintro e w1 ⟨⟨V1, rfl, hV1⟩, hb1⟩
    obtain ⟨g1, c1, rfl, _, hs1, _, _⟩ := own_fm hV1 hd1
    have HW1 := Lib.hid (Intw_own hV1)
    have HB1 := Lib.hid hb1
    have HC1 := Lib.hid (HC.out.keep hb1)
    clear hV1 hb1
    go_wp2_with fail
    refine (rTrace_ok k i cap ao s _ hk hi HC1.out).mono ?_
    rintro e w2 ⟨⟨V2, rfl, hV2⟩, hb2⟩
    obtain ⟨g2, c2, rfl, _, hs2, _, _⟩ := own_fm hV2 hd1
    have HW2 := Lib.hid (Intw_own hV2)
    have HW12 := Lib.hid (HW1.out.keep hb2)
    have HB2 := Lib.hid (HB1.out.trans (hb2.mono HB1.out.size))
    clear hV2 hb2 HW1 HB1 HC1
    have HSB : Hid (Prm.sameB (dp k) (dp k) (fn (met s k 0 i)) (fn (met s k 0 i)) = true) := Lib.hid (Prm.sameB_yes fun _ _ => rfl)
    go_wp2_with fail
    refine (same_any (dp k) (dp k) c1 c2 (some ⟨g1, 0, none⟩) (some ⟨g2, 0, none⟩) (fn (met s k 0 i)) (fn (met s k 0 i)) _ (by omega) (by omega) HW12.out.ints HW2.out.ints).mono ?_
    rw [HSB.out]
    rintro e w3 ⟨rfl, hb3⟩
    have hbl := HB2.out.trans (hb3.mono HB2.out.size)
    clear hb3 HW12 HW2 HB2
    go_wp2_with fail
    refine (sane_any _).mono ?_
    rintro e wz ⟨rfl, hb⟩
    have DZ := hbl.trans (hb.mono hbl.size)
    clear hb hbl
    go_wp2_with fail
    go_returns
    exact ⟨rfl, DZ⟩
  · have HE := Lib.hid he
    clear he h80
    go_enter Try.func11, Try.ntmps11
    go_wp2_with fail
    refine (pTrace_no n x m cap ao _ h80' HE.out).mono ?_
    rintro e w' ⟨rfl, rfl⟩
    go_wp2_with fail
    refine (rTrace_no n x m cap ao _ h80' HE.out).mono ?_
    rintro e w' ⟨rfl, rfl⟩
    have HSB : Hid (Prm.sameB 0 0 (fun _ => 0) (fun _ => 0) = true) := Lib.hid (Prm.sameB_yes fun _ _ => rfl)
    go_wp2_with fail
    refine (same_any 0 0 0 0 none none (fun _ => 0) (fun _ => 0) _ (by omega) (by omega) (fun h => absurd h (by omega)) (fun h => absurd h (by omega))).mono ?_
    rw [HSB.out]
    rintro e w3 ⟨rfl, hbl⟩
    go_wp2_with fail
    refine (sane_any _).mono ?_
    rintro e wz ⟨rfl, hb⟩
    have DZ := hbl.trans (hb.mono hbl.size)
    clear hb hbl
    go_wp2_with fail
    go_returns
    exact ⟨rfl, DZ⟩
end Go.Proofs.Ytggggcinofhbjaa
