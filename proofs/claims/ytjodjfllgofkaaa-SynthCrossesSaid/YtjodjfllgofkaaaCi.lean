import Derived.Test.YtjodjfllgofkaaaAq
import Derived.Test.YtjodjfllgofkaaaIb
import Derived.Test.YtjodjfllgofkaaaMx
import Derived.Test.YtjodjfllgofkaaaCt


namespace Go.Proofs.Ytjodjfllgofkaaa
open Go.RowKit Amp
set_option maxRecDepth 100000 in
set_option maxHeartbeats 1000000 in
theorem rItems_any (N : Int) (len cap : Nat) (ao : Option Addr) (f : Nat → It) (w : World) (hlen : len ≤ 9223372036854775807) (hc : Its w ao len f) :
    Calls Try.prog 72 #[.int .i64 N, .slice ao len cap] w fun e w' => e = .returned (.int .i64 (askS N len f)) ∧ Below w.heap.size w w' := by
  have HC := Lib.hid hc
  clear hc
  by_cases h1 : N < 1
  · have HE : Hid (askS N len f = 2) := Lib.hid (by unfold askS; rw [if_neg (by omega)])
    go_enter Try.func72, Try.ntmps72
    go_wp2_with fail
    go_returns
    exact ⟨by rw [HE.out] <;> rfl, by go_grown⟩
  by_cases h6 : 6 < N
  · have HE : Hid (askS N len f = 2) := Lib.hid (by unfold askS; rw [if_neg (by omega)])
    have h1' : 1 ≤ N := by omega
    go_enter Try.func72, Try.ntmps72
    go_wp2_with fail
    go_returns
    exact ⟨by rw [HE.out] <;> rfl, by go_grown⟩
  have h1' : 1 ≤ N := by omega
  have h6' : N ≤ 6 := by omega
  cases hv : flatB N len f with
  | true =>
    have HE : Hid (askS N len f = 0) := Lib.hid (by unfold flatB at hv; exact of_decide_eq_true hv)
    have HV := Lib.hid hv
    clear hv h1 h6
    go_enter Try.func72, Try.ntmps72
    go_wp2_with fail
    refine (rValidItems_any N len cap ao f _ hlen HC.out).mono ?_
    rw [HV.out]
    rintro e w1 ⟨rfl, hb⟩
    have D1 := Lib.hid hb
    clear hb
    go_wp2_with fail
    go_returns
    exact ⟨by rw [HE.out] <;> rfl, D1.out⟩
  | false =>
    have HE : Hid (askS N len f = 31) := Lib.hid (by
      have h0 : ¬ askS N len f = 0 := of_decide_eq_false hv
      unfold askS at h0 ⊢
      rw [if_pos ⟨h1', h6'⟩] at h0 ⊢
      by_cases h : len ≤ 5000 ∧ fitTo N.toNat f len = true
      · rw [if_pos h] at h0; exact absurd rfl h0
      · rw [if_neg h])
    have HV := Lib.hid hv
    clear hv h1 h6
    go_enter Try.func72, Try.ntmps72
    go_wp2_with fail
    refine (rValidItems_any N len cap ao f _ hlen HC.out).mono ?_
    rw [HV.out]
    rintro e w1 ⟨rfl, hb⟩
    have D1 := Lib.hid hb
    clear hb
    go_wp2_with fail
    go_returns
    exact ⟨by rw [HE.out] <;> rfl, D1.out⟩
end Go.Proofs.Ytjodjfllgofkaaa

namespace Go.Proofs.Ytjodjfllgofkaaa
open Go.RowKit Prm Amp
set_option maxRecDepth 100000 in
set_option maxHeartbeats 1000000 in
theorem checkItems_any (N : Int) (len cap : Nat) (ao : Option Addr) (f : Nat → It) (w : World) (hlen : len ≤ 9223372036854775807) (hc : Its w ao len f) :
    Calls Try.prog 70 #[.int .i64 N, .slice ao len cap] w fun e w' => e = .returned (.int .i64 (askS N len f)) ∧ Below w.heap.size w w' := by
  have HC := Lib.hid hc
  clear hc
  by_cases ha : askS N len f = 0
  · have HA := Lib.hid ha
    clear ha
    obtain ⟨x, hx⟩ : ∃ x, cntF f len = x := ⟨_, rfl⟩
    have HX := Lib.hid hx
    clear hx
    go_enter Try.func70, Try.ntmps70
    go_wp2_with fail
    refine (count_ok N len cap ao f _ HC.out HA.out).mono ?_
    rw [HX.out]
    rintro e w1 ⟨rfl, hb⟩
    have D1 := Lib.hid hb
    have hs1 := hb.size
    clear hb
    go_wp2_with fail
    go_returns
    exact ⟨by rw [HA.out] <;> rfl, D1.out.alloc hs1 _⟩
  · have HA := Lib.hid ha
    obtain ⟨er, her⟩ : ∃ er, askS N len f = er := ⟨_, rfl⟩
    have HER := Lib.hid her
    clear ha her
    go_enter Try.func70, Try.ntmps70
    go_wp2_with fail
    refine (count_no N len cap ao f _ hlen HC.out HA.out).mono ?_
    rw [HER.out]
    rintro e w1 ⟨rfl, hb⟩
    have D1 := Lib.hid hb
    have hs1 := hb.size
    clear hb
    go_wp2_with fail
    go_returns
    exact ⟨by rw [HER.out] <;> rfl, D1.out.alloc hs1 _⟩

end Go.Proofs.Ytjodjfllgofkaaa
