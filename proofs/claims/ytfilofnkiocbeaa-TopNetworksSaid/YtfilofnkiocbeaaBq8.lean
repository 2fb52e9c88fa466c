import Derived.Test.YtfilofnkiocbeaaBo8
import Derived.Test.YtfilofnkiocbeaaBp8
namespace Go.Proofs.Ytfilofnkiocbeaa
open Go.RowKit Ben
/-- What comes back of Mirror where all is well. -/
def MirR (B : Nat) (w : World) (e : Ending) (k : Nat) (f : Nat → Bool) : Prop := ∃ g cap, e = .returned (.tuple #[.slice (some ⟨g, 0, none⟩) (cn k) cap, .int .i64 0]) ∧ Bl w g 0 (cn k) (fun j => f (mi k j)) ∧ B ≤ g ∧ g < w.heap.size ∧ cn k ≤ cap ∧ cap ≤ 9223372036854775807
set_option maxRecDepth 100000 in
theorem pMirror_no (n : Int) (m cap : Nat) (ao : Option Addr) (w : World) (hm : m ≤ 9223372036854775807) (he : ckE n m ≠ 0) :
    Calls Try.prog 37 #[.int .i64 n, .slice ao m cap] w fun e w' => e = .returned (.tuple #[.slice none 0 0, .int .i64 (ckE n m)]) ∧ w = w' := by
  have h1 : (ckE n m != 0) = true := bne_iff_ne.2 he
  clear he
  go_enter Try.func37, Try.ntmps37
  go_wp2_with fail
  refine (checkB_any n ao m cap _ hm).mono ?_
  rintro e w' ⟨rfl, rfl⟩
  go_wp2_with fail
  go_ret2
  exact ⟨rfl, rfl⟩
set_option maxRecDepth 100000 in
set_option maxHeartbeats 2000000 in
theorem pMirror_ok (k cap g o : Nat) (f : Nat → Bool) (w : World) (hk : k ≤ 3) (hcap : cn k ≤ cap) (hcm : cap ≤ 9223372036854775807) (hc : Bl w g o (cn k) f) :
    Calls Try.prog 37 #[.int .i64 (sz k : Nat), .slice (some ⟨g, o, none⟩) (cn k) cap] w fun e w' => MirR w.heap.size w' e k f ∧ Below w.heap.size w w' := by
  have hc56 := cn_le hk
  have hcp := cn_pos k
  have HE := Lib.hid (ckE_sz hk)
  have HC := Lib.hid hc
  clear hc
  go_enter Try.func37, Try.ntmps37
  go_wp2_with fail
  refine (checkB_any _ (some ⟨g, o, none⟩) (cn k) cap _ (by omega)).mono ?_
  rw [HE.out]
  rintro e w' ⟨rfl, rfl⟩
  go_wp2_with fail
  refine (mirror_any k hk g o cap f _ hcap hcm HC.out).mono ?_
  rintro e w' ⟨⟨V, rfl, hV⟩, hb⟩
  obtain ⟨g2, c2, rfl, hB, hs, hcc, hmm⟩ := own_fm hV hcp
  have H := Lib.hid (And.intro (Bl.of_own hV) (And.intro hB (And.intro hs (And.intro hcc hmm))))
  clear hV hB hs HC hcc hmm
  go_wp2_with fail
  go_ret2
  exact ⟨⟨g2, c2, rfl, H.out.1, H.out.2.1, H.out.2.2.1, H.out.2.2.2.1, H.out.2.2.2.2⟩, hb⟩
set_option maxRecDepth 100000 in
theorem rMirror_no (n : Int) (m cap : Nat) (ao : Option Addr) (w : World) (hm : m ≤ 9223372036854775807) (he : ckE n m ≠ 0) :
    Calls Try.prog 38 #[.int .i64 n, .slice ao m cap] w fun e w' => e = .returned (.tuple #[.slice none 0 0, .int .i64 (ckE n m)]) ∧ w = w' := by
  have h1 : (ckE n m != 0) = true := bne_iff_ne.2 he
  clear he
  go_enter Try.func38, Try.ntmps38
  go_wp2_with fail
  refine (asked_any n ao m cap _ hm).mono ?_
  rintro e w' ⟨rfl, rfl⟩
  go_wp2_with fail
  go_ret2
  exact ⟨rfl, rfl⟩
set_option maxRecDepth 100000 in
set_option maxHeartbeats 2000000 in
theorem rMirror_ok (k cap g o : Nat) (f : Nat → Bool) (w : World) (hk : k ≤ 3) (hcap : cn k ≤ cap) (hcm : cap ≤ 9223372036854775807) (hc : Bl w g o (cn k) f) :
    Calls Try.prog 38 #[.int .i64 (sz k : Nat), .slice (some ⟨g, o, none⟩) (cn k) cap] w fun e w' => MirR w.heap.size w' e k f ∧ Below w.heap.size w w' := by
  have hc56 := cn_le hk
  have hcp := cn_pos k
  have HE := Lib.hid (ckE_sz hk)
  have HC := Lib.hid hc
  clear hc
  go_enter Try.func38, Try.ntmps38
  go_wp2_with fail
  refine (asked_any _ (some ⟨g, o, none⟩) (cn k) cap _ (by omega)).mono ?_
  rw [HE.out]
  rintro e w' ⟨rfl, rfl⟩
  go_wp2_with fail
  refine (mirrored_any k hk g o cap f _ hcap hcm HC.out).mono ?_
  rintro e w' ⟨⟨V, rfl, hV⟩, hb⟩
  obtain ⟨g2, c2, rfl, hB, hs, hcc, hmm⟩ := own_fm hV hcp
  have H := Lib.hid (And.intro (Bl.of_own hV) (And.intro hB (And.intro hs (And.intro hcc hmm))))
  clear hV hB hs HC hcc hmm
  go_wp2_with fail
  go_ret2
  exact ⟨⟨g2, c2, rfl, H.out.1, H.out.2.1, H.out.2.2.1, H.out.2.2.2.1, H.out.2.2.2.2⟩, hb⟩
set_option maxRecDepth 100000 in
set_option maxHeartbeats 2000000 in
theorem sameSet_yes (n cap dap : Nat) (ao bo : Option Addr) (f : Nat → Bool) (w : World) (hn : n ≤ 9223372036854775807) (hc : Bools w ao n f) (hd : Bools w bo n f) :
    Calls Try.prog 39 #[.slice ao n cap, .slice bo n dap] w fun e w' => e = .returned (.bool true) ∧ Below w.heap.size w w' := by
  have HC := Lib.hid hc
  have HD := Lib.hid hd
  clear hc hd
  go_enter Try.func39, Try.ntmps39
  go_wp2_with fail
  go_loopw [5] (fun i wr => ∃ k : Nat, i = .int .i64 k ∧ k ≤ n ∧ Below w.heap.size w wr) (fun i _ => n - (intOf i).toNat)
  case atStart => exact ⟨0, rfl, Nat.zero_le _, by go_grown⟩
  case round =>
    obtain ⟨k, rfl, hk, hbel⟩ := hrel
    by_cases hlt : k < n
    · have hlt' : (k : Int) < (n : Int) := by omega
      obtain ⟨b, o, rfl, hcell⟩ := (HC.out.keep hbel) (by omega)
      obtain ⟨b', o', rfl, hcell'⟩ := (HD.out.keep hbel) (by omega)
      have c0 := hcell k hlt
      have d0 := hcell' k hlt
      clear hcell hcell'
      cases hx : f k
      all_goals
        rw [hx] at c0 d0
        clear hx
        go_wp2_with fail
        go_region
        all_goals
          go_wp2_with fail
          go_roundw
          case rel => exact ⟨k + 1, by go_num, by omega, by go_grown⟩
          case measure => simp [intOf]; omega
    · obtain rfl : k = n := by omega
      go_wp2_with fail
      go_returns
      exact ⟨rfl, hbel⟩
end Go.Proofs.Ytfilofnkiocbeaa
