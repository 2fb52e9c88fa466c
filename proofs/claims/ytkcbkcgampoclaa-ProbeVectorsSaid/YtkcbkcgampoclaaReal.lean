import Derived.Test.YtkcbkcgampoclaaEq
import Derived.Test.YtkcbkcgampoclaaW
import Derived.Test.YtkcbkcgampoclaaAw
namespace Amp
def relB (x : C4) : Bool := x.b == -x.d && (x.c == -x.c && x.d == -x.b)
def realS (z : Nm) : Bool × Int := if vld z = true then (relB z.v, 0) else (false, 10)
end Amp
namespace Go.Proofs.Ytkcbkcgampoclaa
open Go.RowKit Amp
attribute [local go_sem] ix0 ix1 ix2 ix3
theorem run_eqArr22 (a0 a1 a2 a3 b0 b1 b2 b3 : Int) (w : World) :
    (binOp .eql 22 (.agg #[.int .i64 a0, .int .i64 a1, .int .i64 a2, .int .i64 a3]) (.agg #[.int .i64 b0, .int .i64 b1, .int .i64 b2, .int .i64 b3])).run Try.prog w = .ok (.bool (a0 == b0 && (a1 == b1 && (a2 == b2 && a3 == b3)))) w := by
  rw [run_eql_struct, show (10000 : Nat) = 9998 + 2 from rfl, run_equalIn_arr4 w 9998 a0 a1 a2 a3 b0 b1 b2 b3 Try.underlying22 Try.underlying3 (fun w => by kernel_rfl)]
  rfl
attribute [local go_sem high] run_eqNum run_neNum run_eqArr22
set_option maxHeartbeats 2000000 in
theorem Real_any (a b c d k : Int) (w : World) :
    Calls Try.prog 58 #[.agg #[.int .i64 a, .int .i64 b, .int .i64 c, .int .i64 d, .int .i64 k]] w fun e w' => e = .returned (.tuple #[.bool (realS ⟨⟨a, b, c, d⟩, k⟩).1, .int .i64 (realS ⟨⟨a, b, c, d⟩, k⟩).2]) ∧ Below w.heap.size w w' := by
  cases hv : vld ⟨⟨a, b, c, d⟩, k⟩
  · rw [show realS ⟨⟨a, b, c, d⟩, k⟩ = (false, 10) from by unfold realS; rw [hv]; rfl]
    have HE := Lib.hid (show chgS ⟨⟨a, b, c, d⟩, k⟩ conj = (N0, 10) from by rw [conj_set, setS_bad hv])
    go_enter Try.func58, Try.ntmps58
    go_wp2_with fail
    refine (Conj_any _ _ _ _ _ _).mono ?_
    rintro e w1 ⟨rfl, hb1⟩
    obtain ⟨⟨c0, c1, c2, c3, c4⟩, f0, f1, f2, f3, f4⟩ : Has5 w1 w.heap.size a b c d k := Has5.keep (by refine ⟨⟨?_, ?_, ?_, ?_, ?_⟩, ?_, ?_, ?_, ?_, ?_⟩ <;> go_cell) hb1 (by first | omega | (simp; done) | (simp; omega))
    have D1 : Below w.heap.size w w1 := Below.trans (by go_grown) (hb1.mono (by first | omega | (simp; done) | (simp; omega)))
    have s1 := D1.size
    have s2 : w.heap.size < w1.heap.size := by have := hb1.size; simp at this; omega
    clear hb1
    rw [HE.out]
    unfold Ret5
    simp only [N0, C0]
    go_wp2_with fail
    go_returns
    exact ⟨rfl, by go_grown⟩
  · have HR : relB ⟨a, b, c, d⟩ = (a == a && (b == -d && (c == -c && (d == -b && k == k)))) := by simp [relB]
    rw [show realS ⟨⟨a, b, c, d⟩, k⟩ = (relB ⟨a, b, c, d⟩, 0) from by unfold realS; rw [hv]; rfl, HR]
    clear HR
    have HE := Lib.hid (show chgS ⟨⟨a, b, c, d⟩, k⟩ conj = (⟨⟨a, -d, -c, -b⟩, k⟩, 0) from by rw [conj_set, setS_ok hv]; rfl)
    go_enter Try.func58, Try.ntmps58
    go_wp2_with fail
    refine (Conj_any _ _ _ _ _ _).mono ?_
    rintro e w1 ⟨rfl, hb1⟩
    obtain ⟨⟨c0, c1, c2, c3, c4⟩, f0, f1, f2, f3, f4⟩ : Has5 w1 w.heap.size a b c d k := Has5.keep (by refine ⟨⟨?_, ?_, ?_, ?_, ?_⟩, ?_, ?_, ?_, ?_, ?_⟩ <;> go_cell) hb1 (by first | omega | (simp; done) | (simp; omega))
    have D1 : Below w.heap.size w w1 := Below.trans (by go_grown) (hb1.mono (by first | omega | (simp; done) | (simp; omega)))
    have s1 := D1.size
    have s2 : w.heap.size < w1.heap.size := by have := hb1.size; simp at this; omega
    clear hb1
    rw [HE.out]
    unfold Ret5
    (try simp only)
    go_wp2_with fail
    go_returns
    exact ⟨by first | rfl | simp, by go_grown⟩
end Go.Proofs.Ytkcbkcgampoclaa
