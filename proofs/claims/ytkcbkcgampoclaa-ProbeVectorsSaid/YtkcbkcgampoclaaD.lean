import Derived.Test.YtkcbkcgampoclaaC
namespace Go.Proofs.Ytkcbkcgampoclaa
open Go.RowKit Amp
attribute [local go_sem] ix0 ix1 ix2 ix3

def Ret4 (s : C4 × Nat) : Ending := .returned (.tuple #[.agg #[.int .i64 s.1.a, .int .i64 s.1.b, .int .i64 s.1.c, .int .i64 s.1.d], .int .i64 s.2])

end Go.Proofs.Ytkcbkcgampoclaa
