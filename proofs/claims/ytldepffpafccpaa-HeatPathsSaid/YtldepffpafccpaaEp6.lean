import Derived.Test.YtldepffpafccpaaHw
namespace Go
section
variable {P : Program} (w : World)
theorem run_equalIn_arr2 (d : Nat) {t e : TypeId} {k : IntKind} (a0 a1 b0 b1 : Int) (ht : P.underlying t = some (.array 2 e)) (he : P.underlying e = some (.int k)) (hs : ∀ w, (sizeOf e).run P w = .ok 1 w) :
    (Op.equalIn (d + 2) t (.agg #[.int k a0, .int k a1]) (.agg #[.int k b0, .int k b1])).run P w = .ok (a0 == b0 && a1 == b1) w := by
  rw [Op.equalIn]
  simp only [Sem.run_bind, run_underlying ht, Result.andThen_ok, hs]
  simp only [Std.Legacy.Range.forIn_eq_forIn_range', Std.Legacy.Range.size, List.range', List.forIn_cons, List.forIn_nil, Sem.run_bind, Nat.mul_one]
  have ha : ∀ w, (isAgg e).run P w = .ok false w := fun w => by simp [isAgg, run_underlying he]
  have hq : ∀ w a b, (Op.equalIn (d + 1) e (.int k a) (.int k b)).run P w = .ok (a == b) w := fun w a b => run_equalIn_int w d e k k a b he
  cases h0 : a0 == b0 <;> cases h1 : a1 == b1 <;> simp [ha, hq, h0, h1, go_sem]
end
end Go
namespace Go.Proofs.Ytldepffpafccpaa
open Go.RowKit
theorem run_eqArr2 (a0 a1 : Int) (w : World) :
    (binOp .eql 33 (.agg #[.int .i64 a0, .int .i64 a1]) (.agg #[.int .i64 a0, .int .i64 a1])).run Try.prog w = .ok (.bool true) w := by
  have h : (Op.equalIn 10000 33 (.agg #[.int .i64 a0, .int .i64 a1]) (.agg #[.int .i64 a0, .int .i64 a1])).run Try.prog w = .ok (a0 == a0 && a1 == a1) w :=
    run_equalIn_arr2 w 9998 a0 a1 a0 a1 Try.underlying33 Try.underlying3 (fun w => by kernel_rfl)
  simp only [binOp]
  simp [Op.equal, Op.maxDepth, h]
end Go.Proofs.Ytldepffpafccpaa
