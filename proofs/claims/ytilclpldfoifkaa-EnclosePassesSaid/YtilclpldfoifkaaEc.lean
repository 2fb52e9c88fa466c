import Derived.Test.YtilclpldfoifkaaDv
namespace Go.Proofs.Ytilclpldfoifkaa
open Go.RowKit Encl

set_option maxHeartbeats 1000000 in
theorem distance_any (n : Int) (w : World) (h0 : -2305843009213693952 ≤ n) (h1 : n ≤ 2305843009213693952) :
    Calls Try.prog 117 #[.int .i64 n] w fun e w' => e = .returned (.int .u64 (absI n)) ∧ w' = w := by
  by_cases hn : n < -n
  · have HE : Hid (absI n = -n) := Lib.hid (by unfold absI; omega)
    rw [HE.out]
    go_enter Try.func117, Try.ntmps117
    go_wp2_with fail
    go_returns
    exact ⟨by go_num, by trivial⟩
  · have HE : Hid (absI n = n) := Lib.hid (by unfold absI; omega)
    have hn' : -n ≤ n := by omega
    rw [HE.out]
    go_enter Try.func117, Try.ntmps117
    go_wp2_with fail
    go_returns
    exact ⟨by go_num, by trivial⟩
end Go.Proofs.Ytilclpldfoifkaa
