import Derived.Test.YtldepffpafccpaaKr
import Derived.Test.YtldepffpafccpaaHs
namespace Go.Proofs.Ytldepffpafccpaa
open Go.RowKit Heat Prm
set_option maxRecDepth 100000 in
set_option maxHeartbeats 4000000 in
theorem HeatRounds_any (n cap : Nat) (ao : Option Addr) (P Q : Nat → Int) (w : World) (hn : n ≤ 9223372036854775807) (hc : Rats w ao n P Q) :
    Calls Try.prog 3 #[.slice ao n cap] w fun e w' => e = .returned (.bool true) ∧ Below w.heap.size w w' := by
  have HC := Lib.hid hc
  clear hc
  by_cases h1 : 20 < (n : Int)
  · go_enter Try.func3, Try.ntmps3
    go_wp2_with fail
    refine (sane_any _).mono ?_
    rintro e w1 ⟨rfl, hb⟩
    go_wp2_with fail
    go_returns
    exact ⟨rfl, hb⟩
  obtain ⟨m, hm⟩ : ∃ m, (if roundE n P Q = 0 then n else 0) = m := ⟨_, rfl⟩
  obtain ⟨er, her⟩ : ∃ er, roundE n P Q = er := ⟨_, rfl⟩
  have HM := Lib.hid hm
  have HER := Lib.hid her
  have hm20 : m ≤ 20 := by rw [← hm]; split <;> omega
  have HSB : Hid (sameB m m (nrL P Q) (nrL P Q) = true) := Lib.hid (sameB_yes fun _ _ => rfl)
  clear hm her
  go_enter Try.func3, Try.ntmps3
  go_wp2_with fail
  refine (hRound_any n cap ao P Q _ hn HC.out).mono ?_
  unfold RoundR
  rw [HM.out, HER.out]
  rintro e w1 ⟨⟨a1, c1, rfl, hi1⟩, hb⟩
  have HC1 := Lib.hid (HC.out.keep hb)
  have HB1 := Lib.hid hb
  have HI1 := Lib.hid hi1
  clear hb hi1
  go_wp2_with fail
  refine (rRound_any n cap ao P Q _ hn HC1.out).mono ?_
  unfold RoundR
  rw [HM.out, HER.out]
  rintro e w2 ⟨⟨a2, c2, rfl, hi2⟩, hb⟩
  have HB2 := Lib.hid (HB1.out.trans (hb.mono HB1.out.size))
  have HI2 := Lib.hid (HI1.out.keep hb)
  have HI3 := Lib.hid hi2
  clear hb hi2 HI1
  go_wp2_with fail
  refine (same_any m m c1 c2 a1 a2 (nrL P Q) (nrL P Q) _ (by omega) (by omega) HI2.out HI3.out).mono ?_
  rw [HSB.out]
  rintro e w3 ⟨rfl, hb⟩
  have HB3 := Lib.hid (HB2.out.trans (hb.mono HB2.out.size))
  clear hb HI2 HI3
  go_wp2_with fail
  refine (sane_any _).mono ?_
  rintro e w4 ⟨rfl, hb⟩
  have D4 := HB3.out.trans (hb.mono HB3.out.size)
  clear hb
  go_wp2_with fail
  go_returns
  exact ⟨rfl, D4⟩
end Go.Proofs.Ytldepffpafccpaa
