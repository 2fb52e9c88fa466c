import Derived.Test.YtggggcinofhbjaaBt8
namespace Go.Proofs.Ytggggcinofhbjaa
open Go.RowKit Ben Prm
set_option maxRecDepth 100000 in
set_option maxHeartbeats 4000000 in
theorem BenesSends_any (n cap : Nat) (ao : Option Addr) (f : Nat → Int) (m dap : Nat) (bo : Option Addr) (s : Nat → Bool) (w : World) (hn : n ≤ 9223372036854775807) (hc : Ints w ao n f) (hm : m ≤ 9223372036854775807) (hd : Bools w bo m s) :
    Calls Try.prog 5 #[.slice ao n cap, .slice bo m dap] w fun e w' => e = .returned (.bool true) ∧ Below w.heap.size w w' := by
  have HC := Lib.hid hc
  have HD := Lib.hid hd
  clear hc hd
  by_cases h80 : 80 < (m : Int)
  · go_enter Try.func5, Try.ntmps5
    go_wp2_with fail
    refine (sane_any _).mono ?_
    rintro e w1 ⟨rfl, hb⟩
    go_wp2_with fail
    go_returns
    exact ⟨rfl, hb⟩
  by_cases h40 : 40 < (n : Int)
  · go_enter Try.func5, Try.ntmps5
    go_wp2_with fail
    refine (sane_any _).mono ?_
    rintro e w1 ⟨rfl, hb⟩
    go_wp2_with fail
    go_returns
    exact ⟨rfl, hb⟩
  have h80' : m ≤ 80 := by omega
  go_enter Try.func5, Try.ntmps5
  go_wp2_with fail
  refine (pSends_any n cap m dap ao bo f s _ hn HC.out h80' HD.out).mono ?_
  obtain ⟨x, hx⟩ : ∃ x, sdV n m f s = x := ⟨_, rfl⟩
  obtain ⟨y, hy⟩ : ∃ y, sdE n m f = y := ⟨_, rfl⟩
  have HX := Lib.hid (And.intro hx hy)
  clear hx hy
  rw [HX.out.1, HX.out.2]
  rintro e w1 ⟨rfl, hb⟩
  have HB1 := Lib.hid hb
  have HC1 := Lib.hid (HC.out.keep hb)
  have HD1 := Lib.hid (HD.out.keep hb)
  clear hb
  go_wp2_with fail
  refine (rSends_any n cap m dap ao bo f s _ hn HC1.out h80' HD1.out).mono ?_
  rw [HX.out.1, HX.out.2]
  rintro e w2 ⟨rfl, hb⟩
  have hbl := HB1.out.trans (hb.mono HB1.out.size)
  clear hb HC1 HD1 HB1
  go_wp2_with fail
  refine (sane_any _).mono ?_
  rintro e wz ⟨rfl, hb⟩
  have DZ := hbl.trans (hb.mono hbl.size)
  clear hb hbl
  go_wp2_with fail
  go_returns
  exact ⟨rfl, DZ⟩
end Go.Proofs.Ytggggcinofhbjaa
