import Derived.Test.YtedfienfamplcaaEq
import Derived.Test.YtedfienfamplcaaAw
namespace Amp
def relB (x : C4) : Bool := x.b == -x.d && (x.c == -x.c && x.d == -x.b)
def realS (z : Nm) : Bool × Int := if vld z = true then (relB z.v, 0) else (false, 10)
end Amp
namespace Go.Proofs.Ytedfienfamplcaa
open Go.RowKit Amp
attribute [local go_sem] ix0 ix1 ix2 ix3 jx0 jx1 jx2 jx3
theorem run_eqArr (a0 a1 a2 a3 b0 b1 b2 b3 : Int) (w : World) :
    (binOp .eql 142 (.agg #[.int .i64 a0, .int .i64 a1, .int .i64 a2, .int .i64 a3]) (.agg #[.int .i64 b0, .int .i64 b1, .int .i64 b2, .int .i64 b3])).run Try.prog w = .ok (.bool (a0 == b0 && (a1 == b1 && (a2 == b2 && a3 == b3)))) w := by
  rw [run_eql_struct, show (10000 : Nat) = 9998 + 2 from rfl, run_equalIn_arr4 w 9998 a0 a1 a2 a3 b0 b1 b2 b3 Try.underlying142 Try.underlying3 (fun w => by kernel_rfl)]
  rfl
theorem run_eqArr22 (a0 a1 a2 a3 b0 b1 b2 b3 : Int) (w : World) :
    (binOp .eql 22 (.agg #[.int .i64 a0, .int .i64 a1, .int .i64 a2, .int .i64 a3]) (.agg #[.int .i64 b0, .int .i64 b1, .int .i64 b2, .int .i64 b3])).run Try.prog w = .ok (.bool (a0 == b0 && (a1 == b1 && (a2 == b2 && a3 == b3)))) w := by
  rw [run_eql_struct, show (10000 : Nat) = 9998 + 2 from rfl, run_equalIn_arr4 w 9998 a0 a1 a2 a3 b0 b1 b2 b3 Try.underlying22 Try.underlying3 (fun w => by kernel_rfl)]
  rfl
attribute [local go_sem high] run_eqNum run_neNum run_eqArr run_eqArr22
end Go.Proofs.Ytedfienfamplcaa
