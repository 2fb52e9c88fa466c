import Derived.Test.YtjodjfllgofkaaaEm
import Derived.Test.YtjodjfllgofkaaaSn
namespace Go.Proofs.Ytjodjfllgofkaaa
open Go.RowKit Amp Prm
theorem equal_any (N : Int) (len lap len' lap' : Nat) (ao bo : Option Addr) (f f' : Nat → It) (w : World) (hlen : len ≤ 9223372036854775807) (hlen' : len' ≤ 9223372036854775807) (hc : Its w ao len f) (hd : Its w bo len' f') :
    Calls Try.prog 31 #[.int .i64 N, .slice ao len lap, .slice bo len' lap'] w fun e w' => e = .returned (.tuple #[.bool (eqV N len len' f f'), .int .i64 (eqE N len len' f f')]) ∧ Below w.heap.size w w' := by
  by_cases h : askS N len f = 0 ∧ askS N len' f' = 0
  · obtain ⟨h1, _⟩ := askS_ok h.1
    obtain ⟨n, rfl⟩ : ∃ n : Nat, N = n := ⟨N.toNat, by omega⟩
    exact equal_ok n len lap len' lap' ao bo f f' w hlen hlen' hc hd h.1 h.2
  · exact equal_bad N len lap len' lap' ao bo f f' w hlen hlen' hc hd h
theorem rEqual_any (N : Int) (len lap len' lap' : Nat) (ao bo : Option Addr) (f f' : Nat → It) (w : World) (hlen : len ≤ 9223372036854775807) (hlen' : len' ≤ 9223372036854775807) (hc : Its w ao len f) (hd : Its w bo len' f') :
    Calls Try.prog 32 #[.int .i64 N, .slice ao len lap, .slice bo len' lap'] w fun e w' => e = .returned (.tuple #[.bool (eqV N len len' f f'), .int .i64 (eqE N len len' f f')]) ∧ Below w.heap.size w w' := by
  by_cases h : askS N len f = 0 ∧ askS N len' f' = 0
  · obtain ⟨h1, _⟩ := askS_ok h.1
    obtain ⟨n, rfl⟩ : ∃ n : Nat, N = n := ⟨N.toNat, by omega⟩
    exact rEqual_ok n len lap len' lap' ao bo f f' w hlen hlen' hc hd h.1 h.2
  · exact rEqual_bad N len lap len' lap' ao bo f f' w hlen hlen' hc hd h

set_option maxRecDepth 100000 in
set_option maxHeartbeats 4000000 in
theorem SynthEquals_any (N : Int) (len lap len' lap' : Nat) (ao bo : Option Addr) (f f' : Nat → It) (w : World) (hlen : len ≤ 9223372036854775807) (hlen' : len' ≤ 9223372036854775807) (hc : Its w ao len f) (hd : Its w bo len' f') :
    Calls Try.prog 6 #[.int .i64 N, .slice ao len lap, .slice bo len' lap'] w fun e w' => e = .returned (.bool true) ∧ Below w.heap.size w w' := by
  have HC := Lib.hid hc
  have HD := Lib.hid hd
  clear hc hd
  by_cases h40 : 40 < len
  · have h40' : 40 < (len : Int) := by omega
    clear h40
    go_enter Try.func6, Try.ntmps6
    go_wp2_with fail
    refine (sane_any _).mono ?_
    rintro e w1 ⟨rfl, hb⟩
    go_wp2_with fail
    go_returns
    exact ⟨rfl, hb⟩
  have h40' : (len : Int) ≤ 40 := by omega
  by_cases h41 : 40 < len'
  · have h41' : 40 < (len' : Int) := by omega
    clear h40 h41
    go_enter Try.func6, Try.ntmps6
    go_wp2_with fail
    refine (sane_any _).mono ?_
    rintro e w1 ⟨rfl, hb⟩
    go_wp2_with fail
    go_returns
    exact ⟨rfl, hb⟩
  have h41' : (len' : Int) ≤ 40 := by omega
  obtain ⟨er, her⟩ : ∃ er, eqE N len len' f f' = er := ⟨_, rfl⟩
  obtain ⟨ev, hev⟩ : ∃ ev, eqV N len len' f f' = ev := ⟨_, rfl⟩
  have HER := Lib.hid her
  have HEV := Lib.hid hev
  clear h40 h41 her hev
  go_enter Try.func6, Try.ntmps6
  go_wp2_with fail
  refine (equal_any N len lap len' lap' ao bo f f' _ hlen hlen' HC.out HD.out).mono ?_
  rw [HER.out, HEV.out]
  rintro e w1 ⟨rfl, hb⟩
  have D1 := Lib.hid hb
  clear hb
  go_wp2_with fail
  refine (rEqual_any N len lap len' lap' ao bo f f' _ hlen hlen' (HC.out.keep D1.out) (HD.out.keep D1.out)).mono ?_
  rw [HER.out, HEV.out]
  rintro e w2 ⟨rfl, hb⟩
  have D2 := Lib.hid (D1.out.trans (hb.mono D1.out.size))
  clear hb D1
  go_wp2_with fail
  refine (sane_any _).mono ?_
  rintro e w3 ⟨rfl, hb⟩
  have D3 := D2.out.trans (hb.mono D2.out.size)
  clear hb
  go_wp2_with fail
  go_returns
  exact ⟨rfl, D3⟩
end Go.Proofs.Ytjodjfllgofkaaa
