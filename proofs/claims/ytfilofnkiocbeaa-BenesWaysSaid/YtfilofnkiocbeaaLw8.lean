import Derived.Test.YtfilofnkiocbeaaWz8
import Derived.Test.YtfilofnkiocbeaaBj8
namespace Go.Proofs.Ytfilofnkiocbeaa
open Go.RowKit Ben Prm
set_option maxRecDepth 100000 in
set_option maxHeartbeats 4000000 in
theorem BenesWays_any (n cap : Nat) (ao : Option Addr) (f : Nat → Int) (m dap : Nat) (bo : Option Addr) (g : Nat → Int) (w : World) (hn : n ≤ 9223372036854775807) (hm1 : m ≤ dap) (hm2 : dap ≤ 9223372036854775807) (hc : Ints w ao n f) (hd : Ints w bo m g) :
    Calls Try.prog 8 #[.slice ao n cap, .slice bo m dap] w fun e w' => e = .returned (.bool true) ∧ Below w.heap.size w w' := by
  have HC := Lib.hid hc
  have HD := Lib.hid hd
  clear hc hd
  by_cases h16 : 16 < (n : Int)
  · go_enter Try.func8, Try.ntmps8
    go_wp2_with fail
    refine (sane_any _).mono ?_
    rintro e w1 ⟨rfl, hb⟩
    go_wp2_with fail
    go_returns
    exact ⟨rfl, hb⟩
  have h16' : (n : Int) ≤ 16 := by omega
  by_cases h80 : 80 < (m : Int)
  · go_enter Try.func8, Try.ntmps8
    go_wp2_with fail
    refine (sane_any _).mono ?_
    rintro e w1 ⟨rfl, hb⟩
    go_wp2_with fail
    go_returns
    exact ⟨rfl, hb⟩
  have h80' : (m : Int) ≤ 80 := by omega
  obtain ⟨v, e, hve⟩ : ∃ v e, wyV n m f g = (v, e) := ⟨_, _, rfl⟩
  have HV := Lib.hid hve
  have HM := Lib.hid (And.intro hm1 (And.intro hm2 hn))
  clear hve hm1 hm2 hn
  go_enter Try.func8, Try.ntmps8
  go_wp2_with fail
  refine (pWays_any n cap m dap ao bo f g _ HM.out.2.2 (by omega) HM.out.1 HM.out.2.1 HC.out HD.out).mono ?_
  rw [HV.out]
  rintro e w1 ⟨rfl, hb⟩
  have HB := Lib.hid hb
  have HC1 := Lib.hid (HC.out.keep hb)
  have HD1 := Lib.hid (HD.out.keep hb)
  clear hb
  go_wp2_with fail
  refine (rWays_any n cap m dap ao bo f g _ HM.out.2.2 (by omega) HC1.out HD1.out).mono ?_
  rw [HV.out]
  rintro e w2 ⟨rfl, hb⟩
  have HB2 := Lib.hid (HB.out.trans (hb.mono HB.out.size))
  clear hb
  go_wp2_with fail
  refine (sane_any _).mono ?_
  rintro e wz ⟨rfl, hb⟩
  have DZ := HB2.out.trans (hb.mono HB2.out.size)
  clear hb
  go_wp2_with fail
  go_returns
  exact ⟨rfl, DZ⟩
end Go.Proofs.Ytfilofnkiocbeaa
