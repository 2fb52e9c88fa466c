import Derived.Test.YtldepffpafccpaaPb6
import Derived.Test.YtldepffpafccpaaHw
namespace Go.Proofs.Ytldepffpafccpaa
open Go.RowKit Heat
set_option maxRecDepth 100000 in
set_option maxHeartbeats 4000000 in
theorem HeatPeaks_any (n cap : Nat) (ao : Option Addr) (f : Nat → Int) (m dap : Nat) (bo : Option Addr) (P Q : Nat → Int) (w : World) (hn : n ≤ 9223372036854775807) (hc : Ints w ao n f) (hm : m ≤ 9223372036854775807) (hd : Rats w bo m P Q) :
    Calls Try.prog 5 #[.slice ao n cap, .slice bo m dap] w fun e w' => e = .returned (.bool true) ∧ Below w.heap.size w w' := by
  have HC := Lib.hid hc
  have HD := Lib.hid hd
  clear hc hd
  by_cases h1 : 20 < (n : Int)
  · go_enter Try.func5, Try.ntmps5
    go_wp2_with fail
    refine (sane_any _).mono ?_
    rintro e w1 ⟨rfl, hb⟩
    go_wp2_with fail
    go_returns
    exact ⟨rfl, hb⟩
  by_cases h2 : 110 < (m : Int)
  · go_enter Try.func5, Try.ntmps5
    go_wp2_with fail
    refine (sane_any _).mono ?_
    rintro e w1 ⟨rfl, hb⟩
    go_wp2_with fail
    go_returns
    exact ⟨rfl, hb⟩
  obtain ⟨v, hv⟩ : ∃ v, pkV n f m P Q = v := ⟨_, rfl⟩
  obtain ⟨er, her⟩ : ∃ er, pkE n f m P Q = er := ⟨_, rfl⟩
  have HV := Lib.hid hv
  have HER := Lib.hid her
  clear hv her
  go_enter Try.func5, Try.ntmps5
  go_wp2_with fail
  refine (hPeak_any n cap ao f m dap bo P Q _ hn HC.out hm HD.out).mono ?_
  rw [HV.out, HER.out]
  rintro e w1 ⟨rfl, hb⟩
  have HC1 := Lib.hid (HC.out.keep hb)
  have HD1 := Lib.hid (HD.out.keep hb)
  have HB1 := Lib.hid hb
  clear hb
  go_wp2_with fail
  refine (rPeak_any n cap ao f m dap bo P Q _ hn HC1.out hm HD1.out).mono ?_
  rw [HV.out, HER.out]
  rintro e w2 ⟨rfl, hb⟩
  have HB2 := Lib.hid (HB1.out.trans (hb.mono HB1.out.size))
  clear hb
  go_wp2_with fail
  refine (sane_any _).mono ?_
  rintro e w4 ⟨rfl, hb⟩
  have D4 := HB2.out.trans (hb.mono HB2.out.size)
  clear hb
  go_wp2_with fail
  go_returns
  exact ⟨rfl, D4⟩
end Go.Proofs.Ytldepffpafccpaa
