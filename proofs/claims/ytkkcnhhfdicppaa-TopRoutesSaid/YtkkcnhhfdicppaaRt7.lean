import Derived.Test.YtkkcnhhfdicppaaCh7
namespace Lay
theorem rt_at {F : Int → Int → Int → Option Int} {M B p q i : Int} {n : Nat} {l : List (Int × Int)} {c : Int} (h : rt F M B p q n p q i = some (l, c)) : l = [] ∧ c = 0 := by
  cases n <;> (unfold rt at h; rw [if_pos ⟨rfl, rfl⟩] at h; cases h; exact ⟨rfl, rfl⟩)
theorem rt_go {F : Int → Int → Int → Option Int} {M B p q x y i : Int} {n : Nat} {l : List (Int × Int)} {c : Int} (hn : ¬ (x = p ∧ y = q)) (h : rt F M B p q n x y i = some (l, c)) :
    ∃ n' l' c', (chp F B x y i).1 ≠ -1 ∧ rt F M B p q n' (nx x (chp F B x y i).1) (ny y (chp F B x y i).1) (chp F B x y i).1 = some (l', c') ∧ l = (nx x (chp F B x y i).1, ny y (chp F B x y i).1) :: l' ∧ c = c' + (M + bd B i (chp F B x y i).1) := by
  cases n with
  | zero => unfold rt at h; rw [if_neg hn] at h; cases h
  | succ n =>
    unfold rt at h
    rw [if_neg hn] at h
    split at h
    · cases h
    · next hd =>
      cases hr : rt F M B p q n (nx x (chp F B x y i).1) (ny y (chp F B x y i).1) (chp F B x y i).1 with
      | none => rw [hr] at h; cases h
      | some s =>
        obtain ⟨l', c'⟩ := s
        rw [hr] at h
        simp only [Option.some.injEq, Prod.mk.injEq] at h
        exact ⟨n, l', c', hd, hr, h.1.symm, h.2.symm⟩
theorem rt_low {F : Int → Int → Int → Option Int} {M B p q : Int} (hM : 0 ≤ M) (hB : 0 ≤ B) : ∀ (n : Nat) (x y i : Int) (l : List (Int × Int)) (c : Int), rt F M B p q n x y i = some (l, c) → 0 ≤ c
  | n, x, y, i, l, c, h => by
    by_cases hp : x = p ∧ y = q
    · obtain ⟨rfl, rfl⟩ := hp
      rw [(rt_at h).2]; exact Int.le_refl _
    · cases n with
      | zero => unfold rt at h; rw [if_neg hp] at h; cases h
      | succ n =>
        unfold rt at h
        rw [if_neg hp] at h
        split at h
        · cases h
        · cases hr : rt F M B p q n (nx x (chp F B x y i).1) (ny y (chp F B x y i).1) (chp F B x y i).1 with
          | none => rw [hr] at h; cases h
          | some s =>
            obtain ⟨l', c'⟩ := s
            rw [hr] at h
            simp only [Option.some.injEq, Prod.mk.injEq] at h
            have := rt_low hM hB n _ _ _ l' c' hr
            have := (bd_le (i := i) (o := (chp F B x y i).1) hB).1
            omega
/-- The cells of a list. -/
def xyC (l : List (Int × Int)) : List Go.Value := l.flatMap fun c => [.int .i64 c.1, .int .i64 c.2]
theorem xyC_len (l : List (Int × Int)) : (xyC l).length = l.length * 2 := by unfold xyC; rw [len_flat _ 2 (fun _ => rfl)]
theorem xyC_snoc (l : List (Int × Int)) (c : Int × Int) : xyC (l ++ [c]) = xyC l ++ [.int .i64 c.1, .int .i64 c.2] := by unfold xyC; rw [List.flatMap_append]; rfl
/-- The next cell is on the grid, and may be used. -/
theorem Costs.next {W H : Int} {K : Int → Int → Bool} {M B p q : Int} {F : Int → Int → Int → Option Int} (h : Costs W H K M B p q F) (ho : opB W H K p q = true) {x y i : Int} (hd : (chp F B x y i).1 ≠ -1) :
    0 ≤ (chp F B x y i).1 ∧ (chp F B x y i).1 < 4 ∧ opB W H K (nx x (chp F B x y i).1) (ny y (chp F B x y i).1) = true := by
  rcases chN_is F B x y i 4 with ⟨h1, _⟩ | ⟨d, v, h0, h4, hf, he, _, _⟩
  · exact absurd h1 hd
  · have he' : chp F B x y i = (d, v + bd B i d) := he
    rw [he']
    refine ⟨h0, by omega, ?_⟩
    simp only
    rcases h.1.after hf with ⟨a, b, _⟩ | ⟨d', v', g0, g4, hg, _⟩
    · rw [a, b]; exact ho
    · exact (h.1.can hg).1
theorem Costs.uniq {W H : Int} {K : Int → Int → Bool} {M B p q : Int} {F G : Int → Int → Int → Option Int} (h : Costs W H K M B p q F) (g : Costs W H K M B p q G) : F = G := h.1.uniq g.1
theorem Costs.bd {W H : Int} {K : Int → Int → Bool} {M B p q : Int} {F : Int → Int → Int → Option Int} (h : Costs W H K M B p q F) (hM : 0 ≤ M) (hB : 0 ≤ B) : ∀ x y d v, F x y d = some v → 0 ≤ v ∧ v ≤ 8000000 := fun x y d v hv => by
  have := ((h.1 x y d).1 v hv).1.low hM hB
  have := h.2 x y d v hv
  omega
end Lay
namespace Go.Proofs.Ytkkcnhhfdicppaa
open Go.RowKit Lay
theorem map_two7 {α β : Type} {F : α → β} {l : List α} {a b : β} (h : l.map F = [a, b]) : ∃ f g, l = [f, g] ∧ F f = a ∧ F g = b := by
  match l, h with
  | [f, g], h =>
    simp at h
    exact ⟨f, g, rfl, h.1, h.2⟩
theorem sameXY (a0 a1 b0 b1 : Int) (w : World) :
    (Op.equalIn 10000 26 (.agg #[.int .i64 a0, .int .i64 a1]) (.agg #[.int .i64 b0, .int .i64 b1])).run Try.prog w = .ok (a0 == b0 && a1 == b1) w := by
  have h5 : ∀ w (x y : Int), (Op.equalIn 9999 3 (.int .i64 x) (.int .i64 y)).run Try.prog w = .ok (x == y) w := fun w x y => run_equalIn_int w 9998 3 .i64 .i64 x y Try.underlying3
  rw [run_equalIn_agg w 9999 26 _ _ (by kernel_rfl) (by kernel_rfl)]
  have hf : ((Try.prog.fieldsOf 26).toList.map fun f => (f.name, f.type, f.offset)) = [("X", 3, 0), ("Y", 3, 1)] := by kernel_rfl
  obtain ⟨f, g, hl, hf1, hg1⟩ := map_two7 hf
  simp only [Prod.mk.injEq] at hf1 hg1
  obtain ⟨f1, f2, f3⟩ := hf1
  obtain ⟨g1, g2, g3⟩ := hg1
  have hp0 : ∀ w (x0 x1 : Value), (part 3 #[x0, x1] 0).run Try.prog w = .ok x0 w := fun _ _ _ => by kernel_rfl
  have hp1 : ∀ w (x0 x1 : Value), (part 3 #[x0, x1] 1).run Try.prog w = .ok x1 w := fun _ _ _ => by kernel_rfl
  rw [hl, Op.eqFields, f1, f2, f3]
  simp only [ne_eq, show ¬ ("X" : String) = "_" from by decide, not_false_eq_true, if_true, Sem.run_bind, hp0, h5, Result.andThen_ok]
  rw [Op.eqFields, g1, g2, g3]
  cases h0 : a0 == b0
  · simp [go_sem]
  · simp only [ne_eq, show ¬ ("Y" : String) = "_" from by decide, not_false_eq_true, if_true, Sem.run_bind, hp1, h5, Result.andThen_ok, Bool.not_true, Bool.false_eq_true, if_false]
    cases h1 : a1 == b1 <;> simp [Op.eqFields, go_sem]
theorem eqXY (a0 a1 b0 b1 : Int) (w : World) : (binOp .eql 26 (.agg #[.int .i64 a0, .int .i64 a1]) (.agg #[.int .i64 b0, .int .i64 b1])).run Try.prog w = .ok (.bool (a0 == b0 && a1 == b1)) w := by
  rw [run_eql_struct, sameXY]; rfl
theorem neXY (a0 a1 b0 b1 : Int) (w : World) : (binOp .neq 26 (.agg #[.int .i64 a0, .int .i64 a1]) (.agg #[.int .i64 b0, .int .i64 b1])).run Try.prog w = .ok (.bool (!(a0 == b0 && a1 == b1))) w := by
  rw [run_neq_struct, sameXY]; rfl
theorem xy_info : (Try.prog.info? 26).map (fun i => (i.zero, i.size, i.bytes)) = some (some (.agg #[.int .i64 0, .int .i64 0]), 2, 16) := by kernel_rfl

end Go.Proofs.Ytkkcnhhfdicppaa
