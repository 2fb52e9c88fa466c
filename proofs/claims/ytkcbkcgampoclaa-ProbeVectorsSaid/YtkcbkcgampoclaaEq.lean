import Derived.Test.YtkcbkcgampoclaaD
namespace Go
section
variable {P : Program} (w : World)
theorem run_equalIn_arr4 (d : Nat) {t e : TypeId} {k : IntKind} (a0 a1 a2 a3 b0 b1 b2 b3 : Int) (ht : P.underlying t = some (.array 4 e)) (he : P.underlying e = some (.int k)) (hs : ∀ w, (sizeOf e).run P w = .ok 1 w) :
    (Op.equalIn (d + 2) t (.agg #[.int k a0, .int k a1, .int k a2, .int k a3]) (.agg #[.int k b0, .int k b1, .int k b2, .int k b3])).run P w = .ok (a0 == b0 && (a1 == b1 && (a2 == b2 && a3 == b3))) w := by
  rw [Op.equalIn]
  simp only [Sem.run_bind, run_underlying ht, Result.andThen_ok, hs]
  simp only [Std.Legacy.Range.forIn_eq_forIn_range', Std.Legacy.Range.size, List.range', List.forIn_cons, List.forIn_nil, Sem.run_bind, Nat.mul_one]
  have ha : ∀ w, (isAgg e).run P w = .ok false w := fun w => by simp [isAgg, run_underlying he]
  have hq : ∀ w a b, (Op.equalIn (d + 1) e (.int k a) (.int k b)).run P w = .ok (a == b) w := fun w a b => run_equalIn_int w d e k k a b he
  cases h0 : a0 == b0 <;> cases h1 : a1 == b1 <;> cases h2 : a2 == b2 <;> cases h3 : a3 == b3 <;> simp [ha, hq, h0, h1, h2, h3, go_sem]
end
end Go
namespace Go.Proofs.Ytkcbkcgampoclaa
theorem map_two {α β : Type} {F : α → β} {l : List α} {a b : β} (h : l.map F = [a, b]) : ∃ f g, l = [f, g] ∧ F f = a ∧ F g = b := by
  cases l with
  | nil => simp at h
  | cons f l =>
    cases l with
    | nil => simp at h
    | cons g l =>
      cases l with
      | nil => simp at h; exact ⟨f, g, rfl, h.1, h.2⟩
      | cons x l => simp at h
theorem run_eqNum (a0 a1 a2 a3 a4 b0 b1 b2 b3 b4 : Int) (w : World) :
    (binOp .eql 53 (.agg #[.int .i64 a0, .int .i64 a1, .int .i64 a2, .int .i64 a3, .int .i64 a4]) (.agg #[.int .i64 b0, .int .i64 b1, .int .i64 b2, .int .i64 b3, .int .i64 b4])).run Try.prog w = .ok (.bool (a0 == b0 && (a1 == b1 && (a2 == b2 && (a3 == b3 && a4 == b4))))) w := by
  have h4 : ∀ w, (Op.equalIn 9999 22 (.agg #[.int .i64 a0, .int .i64 a1, .int .i64 a2, .int .i64 a3]) (.agg #[.int .i64 b0, .int .i64 b1, .int .i64 b2, .int .i64 b3])).run Try.prog w = .ok (a0 == b0 && (a1 == b1 && (a2 == b2 && a3 == b3))) w :=
    fun w => run_equalIn_arr4 w 9997 a0 a1 a2 a3 b0 b1 b2 b3 Try.underlying22 Try.underlying3 (fun w => by kernel_rfl)
  have h5 : ∀ w, (Op.equalIn 9999 3 (.int .i64 a4) (.int .i64 b4)).run Try.prog w = .ok (a4 == b4) w := fun w => run_equalIn_int w 9998 3 .i64 .i64 a4 b4 Try.underlying3
  rw [run_eql_struct, run_equalIn_agg w 9999 53 _ _ (by kernel_rfl) (by kernel_rfl)]
  have hf : ((Try.prog.fieldsOf 53).toList.map fun f => (f.name, f.type, f.offset)) = [("A", 22, 0), ("K", 3, 4)] := by kernel_rfl
  obtain ⟨f, g, hl, hf1, hg1⟩ := map_two hf
  simp only [Prod.mk.injEq] at hf1 hg1
  obtain ⟨f1, f2, f3⟩ := hf1
  obtain ⟨g1, g2, g3⟩ := hg1
  have hp : ∀ w (x0 x1 x2 x3 x4 : Value), (part 22 #[x0, x1, x2, x3, x4] 0).run Try.prog w = .ok (.agg #[x0, x1, x2, x3]) w := fun _ _ _ _ _ _ => by kernel_rfl
  have hk : ∀ w (x0 x1 x2 x3 x4 : Value), (part 3 #[x0, x1, x2, x3, x4] 4).run Try.prog w = .ok x4 w := fun _ _ _ _ _ _ => by kernel_rfl
  rw [hl, Op.eqFields, f1, f2, f3]
  simp only [ne_eq, show ¬ ("A" : String) = "_" from by decide, not_false_eq_true, if_true, Sem.run_bind, hp, h4, Result.andThen_ok]
  cases hh : (a0 == b0 && (a1 == b1 && (a2 == b2 && a3 == b3)))
  · simp at hh ⊢
    exact fun c0 c1 c2 c3 => absurd c3 (hh c0 c1 c2)
  · simp only [Bool.not_true, Bool.false_eq_true, if_false]
    rw [Op.eqFields, g1, g2, g3]
    simp only [ne_eq, show ¬ ("K" : String) = "_" from by decide, not_false_eq_true, if_true, Sem.run_bind, hk, h5, Result.andThen_ok]
    simp only [Bool.and_eq_true] at hh
    rw [hh.1, hh.2.1, hh.2.2.1, hh.2.2.2]
    cases a4 == b4 <;> simp [Op.eqFields]
theorem run_neNum (a0 a1 a2 a3 a4 b0 b1 b2 b3 b4 : Int) (w : World) :
    (binOp .neq 53 (.agg #[.int .i64 a0, .int .i64 a1, .int .i64 a2, .int .i64 a3, .int .i64 a4]) (.agg #[.int .i64 b0, .int .i64 b1, .int .i64 b2, .int .i64 b3, .int .i64 b4])).run Try.prog w = .ok (.bool (!(a0 == b0 && (a1 == b1 && (a2 == b2 && (a3 == b3 && a4 == b4)))))) w := by
  have h := run_eqNum a0 a1 a2 a3 a4 b0 b1 b2 b3 b4 w
  rw [run_eql_struct] at h
  rw [run_neq_struct]
  generalize (Op.equalIn 10000 53 (.agg #[.int .i64 a0, .int .i64 a1, .int .i64 a2, .int .i64 a3, .int .i64 a4]) (.agg #[.int .i64 b0, .int .i64 b1, .int .i64 b2, .int .i64 b3, .int .i64 b4])).run Try.prog w = r at *
  cases r with
  | ok b w1 =>
    simp only [Result.andThen_ok, Result.ok.injEq, Value.bool.injEq] at h ⊢
    rw [h.1, h.2]; exact ⟨rfl, rfl⟩
  | halt x w1 => simp [Result.andThen] at h
end Go.Proofs.Ytkcbkcgampoclaa
