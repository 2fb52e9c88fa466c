import Derived.Test.YtkcbkcgampoclaaIb
import Derived.Lib.MinMax
/-! Fringes, fractions and four readings: when two that are the same are compared, and how they lie in a block. -/
namespace Go
section
variable {P : Program} (w : World)
theorem run_eqSame4 (d : Nat) {t e : TypeId} {k : IntKind} (a0 a1 a2 a3 : Int) (ht : P.underlying t = some (.array 4 e)) (he : P.underlying e = some (.int k)) (hs : ∀ w, (sizeOf e).run P w = .ok 1 w) :
    (Op.equalIn (d + 2) t (.agg #[.int k a0, .int k a1, .int k a2, .int k a3]) (.agg #[.int k a0, .int k a1, .int k a2, .int k a3])).run P w = .ok true w := by
  rw [Op.equalIn]
  simp only [Sem.run_bind, run_underlying ht, Result.andThen_ok, hs]
  simp only [Std.Legacy.Range.forIn_eq_forIn_range', Std.Legacy.Range.size, List.range', List.forIn_cons, List.forIn_nil, Sem.run_bind, Nat.mul_one]
  have ha : ∀ w, (isAgg e).run P w = .ok false w := fun w => by simp [isAgg, run_underlying he]
  have hq : ∀ w a b, (Op.equalIn (d + 1) e (.int k a) (.int k b)).run P w = .ok (a == b) w := fun w a b => run_equalIn_int w d e k k a b he
  simp [ha, hq, go_sem]
end
end Go
namespace Go.Proofs.Ytkcbkcgampoclaa
open Go.RowKit
theorem kx0 (x0 x1 x2 x3 : Value) (w : World) : (Instr.index 22 (.agg #[x0, x1, x2, x3]) (.int .i64 0)).run Try.prog w = .ok x0 w := by kernel_rfl
theorem kx1 (x0 x1 x2 x3 : Value) (w : World) : (Instr.index 22 (.agg #[x0, x1, x2, x3]) (.int .i64 1)).run Try.prog w = .ok x1 w := by kernel_rfl
theorem kx2 (x0 x1 x2 x3 : Value) (w : World) : (Instr.index 22 (.agg #[x0, x1, x2, x3]) (.int .i64 2)).run Try.prog w = .ok x2 w := by kernel_rfl
theorem kx3 (x0 x1 x2 x3 : Value) (w : World) : (Instr.index 22 (.agg #[x0, x1, x2, x3]) (.int .i64 3)).run Try.prog w = .ok x3 w := by kernel_rfl
theorem map_three9 {α β : Type} {F : α → β} {l : List α} {a b c : β} (h : l.map F = [a, b, c]) : ∃ f g i, l = [f, g, i] ∧ F f = a ∧ F g = b ∧ F i = c := by
  match l, h with
  | [f, g, i], h =>
    simp at h
    exact ⟨f, g, i, rfl, h.1, h.2.1, h.2.2⟩
theorem map_two9 {α β : Type} {F : α → β} {l : List α} {a b : β} (h : l.map F = [a, b]) : ∃ f g, l = [f, g] ∧ F f = a ∧ F g = b := by
  match l, h with
  | [f, g], h =>
    simp at h
    exact ⟨f, g, rfl, h.1, h.2⟩
theorem run_sameA4 (a0 a1 a2 a3 : Int) (w : World) :
    (binOp .eql 22 (.agg #[.int .i64 a0, .int .i64 a1, .int .i64 a2, .int .i64 a3]) (.agg #[.int .i64 a0, .int .i64 a1, .int .i64 a2, .int .i64 a3])).run Try.prog w = .ok (.bool true) w := by
  have h : (Op.equalIn 10000 22 (.agg #[.int .i64 a0, .int .i64 a1, .int .i64 a2, .int .i64 a3]) (.agg #[.int .i64 a0, .int .i64 a1, .int .i64 a2, .int .i64 a3])).run Try.prog w = .ok true w :=
    run_eqSame4 w 9998 a0 a1 a2 a3 Try.underlying22 Try.underlying3 (fun w => by kernel_rfl)
  simp only [binOp]
  simp [Op.equal, Op.maxDepth, h]
theorem run_sameA4n (a0 a1 a2 a3 : Int) (w : World) :
    (binOp .neq 22 (.agg #[.int .i64 a0, .int .i64 a1, .int .i64 a2, .int .i64 a3]) (.agg #[.int .i64 a0, .int .i64 a1, .int .i64 a2, .int .i64 a3])).run Try.prog w = .ok (.bool false) w := by
  have h : (Op.equalIn 10000 22 (.agg #[.int .i64 a0, .int .i64 a1, .int .i64 a2, .int .i64 a3]) (.agg #[.int .i64 a0, .int .i64 a1, .int .i64 a2, .int .i64 a3])).run Try.prog w = .ok true w :=
    run_eqSame4 w 9998 a0 a1 a2 a3 Try.underlying22 Try.underlying3 (fun w => by kernel_rfl)
  simp only [binOp]
  simp [Op.equal, Op.maxDepth, h]
theorem same3 (a0 a1 a2 : Int) (w : World) :
    (Op.equalIn 10000 24 (.agg #[.int .i64 a0, .int .i64 a1, .int .i64 a2]) (.agg #[.int .i64 a0, .int .i64 a1, .int .i64 a2])).run Try.prog w = .ok true w := by
  have h5 : ∀ w (x : Int), (Op.equalIn 9999 3 (.int .i64 x) (.int .i64 x)).run Try.prog w = .ok true w := fun w x => by rw [run_equalIn_int w 9998 3 .i64 .i64 x x Try.underlying3]; simp
  rw [run_equalIn_agg w 9999 24 _ _ (by kernel_rfl) (by kernel_rfl)]
  have hf : ((Try.prog.fieldsOf 24).toList.map fun f => (f.name, f.type, f.offset)) = [("Mean2", 3, 0), ("X", 3, 1), ("Y", 3, 2)] := by kernel_rfl
  obtain ⟨f, g, i, hl, hf1, hg1, hi1⟩ := map_three9 hf
  simp only [Prod.mk.injEq] at hf1 hg1 hi1
  obtain ⟨f1, f2, f3⟩ := hf1
  obtain ⟨g1, g2, g3⟩ := hg1
  obtain ⟨i1, i2, i3⟩ := hi1
  have hp0 : ∀ w (x0 x1 x2 : Value), (part 3 #[x0, x1, x2] 0).run Try.prog w = .ok x0 w := fun _ _ _ _ => by kernel_rfl
  have hp1 : ∀ w (x0 x1 x2 : Value), (part 3 #[x0, x1, x2] 1).run Try.prog w = .ok x1 w := fun _ _ _ _ => by kernel_rfl
  have hp2 : ∀ w (x0 x1 x2 : Value), (part 3 #[x0, x1, x2] 2).run Try.prog w = .ok x2 w := fun _ _ _ _ => by kernel_rfl
  rw [hl, Op.eqFields, f1, f2, f3]
  simp only [ne_eq, show ¬ ("Mean2" : String) = "_" from by decide, not_false_eq_true, if_true, Sem.run_bind, hp0, h5, Result.andThen_ok, Bool.not_true, Bool.false_eq_true, if_false]
  rw [Op.eqFields, g1, g2, g3]
  simp only [ne_eq, show ¬ ("X" : String) = "_" from by decide, not_false_eq_true, if_true, Sem.run_bind, hp1, h5, Result.andThen_ok, Bool.not_true, Bool.false_eq_true, if_false]
  rw [Op.eqFields, i1, i2, i3]
  simp only [ne_eq, show ¬ ("Y" : String) = "_" from by decide, not_false_eq_true, if_true, Sem.run_bind, hp2, h5, Result.andThen_ok, Bool.not_true, Bool.false_eq_true, if_false]
  simp [Op.eqFields]
theorem run_sameFr (a0 a1 a2 : Int) (w : World) : (binOp .eql 24 (.agg #[.int .i64 a0, .int .i64 a1, .int .i64 a2]) (.agg #[.int .i64 a0, .int .i64 a1, .int .i64 a2])).run Try.prog w = .ok (.bool true) w := by
  rw [run_eql_struct, same3]; rfl
theorem run_sameFrn (a0 a1 a2 : Int) (w : World) : (binOp .neq 24 (.agg #[.int .i64 a0, .int .i64 a1, .int .i64 a2]) (.agg #[.int .i64 a0, .int .i64 a1, .int .i64 a2])).run Try.prog w = .ok (.bool false) w := by
  rw [run_neq_struct, same3]; rfl
theorem same2 (a0 a1 : Int) (w : World) :
    (Op.equalIn 10000 35 (.agg #[.int .i64 a0, .int .i64 a1]) (.agg #[.int .i64 a0, .int .i64 a1])).run Try.prog w = .ok true w := by
  have h5 : ∀ w (x : Int), (Op.equalIn 9999 3 (.int .i64 x) (.int .i64 x)).run Try.prog w = .ok true w := fun w x => by rw [run_equalIn_int w 9998 3 .i64 .i64 x x Try.underlying3]; simp
  rw [run_equalIn_agg w 9999 35 _ _ (by kernel_rfl) (by kernel_rfl)]
  have hf : ((Try.prog.fieldsOf 35).toList.map fun f => (f.name, f.type, f.offset)) = [("N", 3, 0), ("D", 3, 1)] := by kernel_rfl
  obtain ⟨f, g, hl, hf1, hg1⟩ := map_two9 hf
  simp only [Prod.mk.injEq] at hf1 hg1
  obtain ⟨f1, f2, f3⟩ := hf1
  obtain ⟨g1, g2, g3⟩ := hg1
  have hp0 : ∀ w (x0 x1 : Value), (part 3 #[x0, x1] 0).run Try.prog w = .ok x0 w := fun _ _ _ => by kernel_rfl
  have hp1 : ∀ w (x0 x1 : Value), (part 3 #[x0, x1] 1).run Try.prog w = .ok x1 w := fun _ _ _ => by kernel_rfl
  rw [hl, Op.eqFields, f1, f2, f3]
  simp only [ne_eq, show ¬ ("N" : String) = "_" from by decide, not_false_eq_true, if_true, Sem.run_bind, hp0, h5, Result.andThen_ok, Bool.not_true, Bool.false_eq_true, if_false]
  rw [Op.eqFields, g1, g2, g3]
  simp only [ne_eq, show ¬ ("D" : String) = "_" from by decide, not_false_eq_true, if_true, Sem.run_bind, hp1, h5, Result.andThen_ok, Bool.not_true, Bool.false_eq_true, if_false]
  simp [Op.eqFields]
theorem run_sameRt (a0 a1 : Int) (w : World) : (binOp .eql 35 (.agg #[.int .i64 a0, .int .i64 a1]) (.agg #[.int .i64 a0, .int .i64 a1])).run Try.prog w = .ok (.bool true) w := by
  rw [run_eql_struct, same2]; rfl
theorem run_sameRtn (a0 a1 : Int) (w : World) : (binOp .neq 35 (.agg #[.int .i64 a0, .int .i64 a1]) (.agg #[.int .i64 a0, .int .i64 a1])).run Try.prog w = .ok (.bool false) w := by
  rw [run_neq_struct, same2]; rfl
/-- Three numbers in a block. -/
def H3 (w : World) (g : Nat) (a b c : Int) : Prop := (w.cell? ⟨g, 0, none⟩ = some (.int .i64 a) ∧ w.cell? ⟨g, 1, none⟩ = some (.int .i64 b) ∧ w.cell? ⟨g, 2, none⟩ = some (.int .i64 c)) ∧ w.frozen? ⟨g, 0, none⟩ = false ∧ w.frozen? ⟨g, 1, none⟩ = false ∧ w.frozen? ⟨g, 2, none⟩ = false
def H4 (w : World) (g : Nat) (a b c d : Int) : Prop := (w.cell? ⟨g, 0, none⟩ = some (.int .i64 a) ∧ w.cell? ⟨g, 1, none⟩ = some (.int .i64 b) ∧ w.cell? ⟨g, 2, none⟩ = some (.int .i64 c) ∧ w.cell? ⟨g, 3, none⟩ = some (.int .i64 d)) ∧ w.frozen? ⟨g, 0, none⟩ = false ∧ w.frozen? ⟨g, 1, none⟩ = false ∧ w.frozen? ⟨g, 2, none⟩ = false ∧ w.frozen? ⟨g, 3, none⟩ = false
def H2 (w : World) (g : Nat) (a b : Int) : Prop := (w.cell? ⟨g, 0, none⟩ = some (.int .i64 a) ∧ w.cell? ⟨g, 1, none⟩ = some (.int .i64 b)) ∧ w.frozen? ⟨g, 0, none⟩ = false ∧ w.frozen? ⟨g, 1, none⟩ = false
theorem H2.keep {w w1 : World} {g : Nat} {a b : Int} (h : H2 w g a b) (hb : Below w.heap.size w w1) : H2 w1 g a b := by
  obtain ⟨⟨a0, a1⟩, f0, f1⟩ := h
  have hB : g < w.heap.size := World.block_lt_of_cell? w _ a0
  exact ⟨⟨((bcl hb).1 _ _ hB).trans a0, ((bcl hb).1 _ _ hB).trans a1⟩, ((bcl hb).2 _ _ hB).trans f0, ((bcl hb).2 _ _ hB).trans f1⟩
theorem H3.keep {w w1 : World} {g : Nat} {a b c : Int} (h : H3 w g a b c) (hb : Below w.heap.size w w1) : H3 w1 g a b c := by
  obtain ⟨⟨a0, a1, a2⟩, f0, f1, f2⟩ := h
  have hB : g < w.heap.size := World.block_lt_of_cell? w _ a0
  exact ⟨⟨((bcl hb).1 _ _ hB).trans a0, ((bcl hb).1 _ _ hB).trans a1, ((bcl hb).1 _ _ hB).trans a2⟩, ((bcl hb).2 _ _ hB).trans f0, ((bcl hb).2 _ _ hB).trans f1, ((bcl hb).2 _ _ hB).trans f2⟩
theorem H4.keep {w w1 : World} {g : Nat} {a b c d : Int} (h : H4 w g a b c d) (hb : Below w.heap.size w w1) : H4 w1 g a b c d := by
  obtain ⟨⟨a0, a1, a2, a3⟩, f0, f1, f2, f3⟩ := h
  have hB : g < w.heap.size := World.block_lt_of_cell? w _ a0
  exact ⟨⟨((bcl hb).1 _ _ hB).trans a0, ((bcl hb).1 _ _ hB).trans a1, ((bcl hb).1 _ _ hB).trans a2, ((bcl hb).1 _ _ hB).trans a3⟩, ((bcl hb).2 _ _ hB).trans f0, ((bcl hb).2 _ _ hB).trans f1, ((bcl hb).2 _ _ hB).trans f2, ((bcl hb).2 _ _ hB).trans f3⟩
end Go.Proofs.Ytkcbkcgampoclaa
