import Derived.Test.YtgbnpnenejgnnaaMp5
import Derived.ChangeKeysEq
namespace Go.Proofs.Ytgbnpnenejgnnaa
open Go.RowKit Encl
set_option maxRecDepth 100000 in
theorem eqRect_same (w : World) (a b c d : Int) : (Op.equalIn 9997 25 (.agg #[.int .i64 a, .int .i64 b, .int .i64 c, .int .i64 d]) (.agg #[.int .i64 a, .int .i64 b, .int .i64 c, .int .i64 d])).run Try.prog w = .ok true w := by
  go_simp
set_option maxRecDepth 100000 in
theorem eqRow_same (w : World) (x0 x1 x2 x3 x4 x5 x6 x7 : Int) : (Op.equalIn 9998 46 (.agg #[.int .i64 x0, .int .i64 x1, .int .i64 x2, .int .i64 x3, .int .i64 x4, .int .i64 x5, .int .i64 x6, .int .i64 x7]) (.agg #[.int .i64 x0, .int .i64 x1, .int .i64 x2, .int .i64 x3, .int .i64 x4, .int .i64 x5, .int .i64 x6, .int .i64 x7])).run Try.prog w = .ok true w := by
  have hp0 : ∀ (w : World) (v0 v1 v2 v3 v4 v5 v6 v7 : Value), (part 25 #[v0, v1, v2, v3, v4, v5, v6, v7] 0).run Try.prog w = .ok (.agg #[v0, v1, v2, v3]) w := fun _ _ _ _ _ _ _ _ _ => by kernel_rfl
  have hp1 : ∀ (w : World) (v0 v1 v2 v3 v4 v5 v6 v7 : Value), (part 25 #[v0, v1, v2, v3, v4, v5, v6, v7] 4).run Try.prog w = .ok (.agg #[v4, v5, v6, v7]) w := fun _ _ _ _ _ _ _ _ _ => by kernel_rfl
  obtain ⟨i, hi⟩ : ∃ i, Try.prog.info? 25 = some i := ⟨_, rfl⟩
  rw [run_equalIn_array w 9997 _ _ Try.underlying46 hi, show List.range 2 = [0, 1] from rfl, show Try.prog.cellsOf 25 = 4 by kernel_rfl]
  simp only [Op.eqItems, Nat.zero_mul, Nat.one_mul, Sem.run_bind, hp0, hp1, Result.andThen_ok, eqRect_same, Bool.not_true, Bool.false_eq_true, if_false, Sem.run_pure]
set_option maxRecDepth 100000 in
theorem eqGrid_same (w : World) (x0 x1 x2 x3 x4 x5 x6 x7 x8 x9 x10 x11 x12 x13 x14 x15 : Int) : (Op.equalIn 9999 47 (.agg #[.int .i64 x0, .int .i64 x1, .int .i64 x2, .int .i64 x3, .int .i64 x4, .int .i64 x5, .int .i64 x6, .int .i64 x7, .int .i64 x8, .int .i64 x9, .int .i64 x10, .int .i64 x11, .int .i64 x12, .int .i64 x13, .int .i64 x14, .int .i64 x15]) (.agg #[.int .i64 x0, .int .i64 x1, .int .i64 x2, .int .i64 x3, .int .i64 x4, .int .i64 x5, .int .i64 x6, .int .i64 x7, .int .i64 x8, .int .i64 x9, .int .i64 x10, .int .i64 x11, .int .i64 x12, .int .i64 x13, .int .i64 x14, .int .i64 x15])).run Try.prog w = .ok true w := by
  have hp0 : ∀ (w : World) (v0 v1 v2 v3 v4 v5 v6 v7 v8 v9 v10 v11 v12 v13 v14 v15 : Value), (part 46 #[v0, v1, v2, v3, v4, v5, v6, v7, v8, v9, v10, v11, v12, v13, v14, v15] 0).run Try.prog w = .ok (.agg #[v0, v1, v2, v3, v4, v5, v6, v7]) w := fun _ _ _ _ _ _ _ _ _ _ _ _ _ _ _ _ _ => by kernel_rfl
  have hp1 : ∀ (w : World) (v0 v1 v2 v3 v4 v5 v6 v7 v8 v9 v10 v11 v12 v13 v14 v15 : Value), (part 46 #[v0, v1, v2, v3, v4, v5, v6, v7, v8, v9, v10, v11, v12, v13, v14, v15] 8).run Try.prog w = .ok (.agg #[v8, v9, v10, v11, v12, v13, v14, v15]) w := fun _ _ _ _ _ _ _ _ _ _ _ _ _ _ _ _ _ => by kernel_rfl
  obtain ⟨i, hi⟩ : ∃ i, Try.prog.info? 46 = some i := ⟨_, rfl⟩
  rw [run_equalIn_array w 9998 _ _ Try.underlying47 hi, show List.range 2 = [0, 1] from rfl, show Try.prog.cellsOf 46 = 8 by kernel_rfl]
  simp only [Op.eqItems, Nat.zero_mul, Nat.one_mul, Sem.run_bind, hp0, hp1, Result.andThen_ok, eqRow_same, Bool.not_true, Bool.false_eq_true, if_false, Sem.run_pure]
theorem map_one {α β : Type} {F : α → β} {l : List α} {a : β} (h : l.map F = [a]) : ∃ f, l = [f] ∧ F f = a := by
  cases l with
  | nil => simp at h
  | cons f l =>
    cases l with
    | nil => simp at h; exact ⟨f, rfl, h⟩
    | cons x l => simp at h
set_option maxRecDepth 100000 in
theorem equalPort_same (w : World) (x0 x1 x2 x3 x4 x5 x6 x7 x8 x9 x10 x11 x12 x13 x14 x15 : Int) : (Op.equalIn 10000 49 (.agg #[.int .i64 x0, .int .i64 x1, .int .i64 x2, .int .i64 x3, .int .i64 x4, .int .i64 x5, .int .i64 x6, .int .i64 x7, .int .i64 x8, .int .i64 x9, .int .i64 x10, .int .i64 x11, .int .i64 x12, .int .i64 x13, .int .i64 x14, .int .i64 x15]) (.agg #[.int .i64 x0, .int .i64 x1, .int .i64 x2, .int .i64 x3, .int .i64 x4, .int .i64 x5, .int .i64 x6, .int .i64 x7, .int .i64 x8, .int .i64 x9, .int .i64 x10, .int .i64 x11, .int .i64 x12, .int .i64 x13, .int .i64 x14, .int .i64 x15])).run Try.prog w = .ok true w := by
  rw [run_equalIn_agg w 9999 49 _ _ (by kernel_rfl) (by kernel_rfl)]
  have hf : ((Try.prog.fieldsOf 49).toList.map fun f => (f.name, f.type, f.offset)) = [("S", 47, 0)] := by kernel_rfl
  obtain ⟨f, hl, hf1⟩ := map_one hf
  simp only [Prod.mk.injEq] at hf1
  obtain ⟨f1, f2, f3⟩ := hf1
  have hp : ∀ (w : World) (v0 v1 v2 v3 v4 v5 v6 v7 v8 v9 v10 v11 v12 v13 v14 v15 : Value), (part 47 #[v0, v1, v2, v3, v4, v5, v6, v7, v8, v9, v10, v11, v12, v13, v14, v15] 0).run Try.prog w = .ok (.agg #[v0, v1, v2, v3, v4, v5, v6, v7, v8, v9, v10, v11, v12, v13, v14, v15]) w := fun _ _ _ _ _ _ _ _ _ _ _ _ _ _ _ _ _ => by kernel_rfl
  rw [hl, Op.eqFields, f1, f2, f3]
  simp only [ne_eq, show ¬ ("S" : String) = "_" from by decide, not_false_eq_true, if_true, Sem.run_bind, hp, eqGrid_same, Result.andThen_ok, Op.eqFields, Bool.not_true, Bool.false_eq_true, if_false, Sem.run_pure]
theorem run_eqPort_same (w : World) (x0 x1 x2 x3 x4 x5 x6 x7 x8 x9 x10 x11 x12 x13 x14 x15 : Int) : (binOp .eql 49 (.agg #[.int .i64 x0, .int .i64 x1, .int .i64 x2, .int .i64 x3, .int .i64 x4, .int .i64 x5, .int .i64 x6, .int .i64 x7, .int .i64 x8, .int .i64 x9, .int .i64 x10, .int .i64 x11, .int .i64 x12, .int .i64 x13, .int .i64 x14, .int .i64 x15]) (.agg #[.int .i64 x0, .int .i64 x1, .int .i64 x2, .int .i64 x3, .int .i64 x4, .int .i64 x5, .int .i64 x6, .int .i64 x7, .int .i64 x8, .int .i64 x9, .int .i64 x10, .int .i64 x11, .int .i64 x12, .int .i64 x13, .int .i64 x14, .int .i64 x15])).run Try.prog w = .ok (.bool true) w := by
  rw [run_eql_struct, equalPort_same, Result.andThen_ok]
theorem run_nePort_same (w : World) (x0 x1 x2 x3 x4 x5 x6 x7 x8 x9 x10 x11 x12 x13 x14 x15 : Int) : (binOp .neq 49 (.agg #[.int .i64 x0, .int .i64 x1, .int .i64 x2, .int .i64 x3, .int .i64 x4, .int .i64 x5, .int .i64 x6, .int .i64 x7, .int .i64 x8, .int .i64 x9, .int .i64 x10, .int .i64 x11, .int .i64 x12, .int .i64 x13, .int .i64 x14, .int .i64 x15]) (.agg #[.int .i64 x0, .int .i64 x1, .int .i64 x2, .int .i64 x3, .int .i64 x4, .int .i64 x5, .int .i64 x6, .int .i64 x7, .int .i64 x8, .int .i64 x9, .int .i64 x10, .int .i64 x11, .int .i64 x12, .int .i64 x13, .int .i64 x14, .int .i64 x15])).run Try.prog w = .ok (.bool false) w := by
  rw [run_neq_struct, equalPort_same, Result.andThen_ok]; rfl
end Go.Proofs.Ytgbnpnenejgnnaa

namespace Go.Proofs.Ytgbnpnenejgnnaa
open Go.RowKit Encl
def putAt' (cs : Array Value) : Nat → List Value → Array Value
  | _, [] => cs
  | o, v :: r => putAt' (cs.setIfInBounds o v) (o + 1) r
theorem putAt'_get : ∀ (vs : List Value) (o : Nat) (cs : Array Value), o + vs.length ≤ cs.size → ∀ j : Nat, (putAt' cs o vs)[j]? = if j < o then cs[j]? else if j < o + vs.length then vs[j - o]? else cs[j]?
  | [], o, cs, _, j => by
    unfold putAt'
    split
    · rfl
    · rw [if_neg (by simp; omega)]
  | v :: r, o, cs, h, j => by
    unfold putAt'
    have hl : o + 1 + r.length ≤ cs.size := by simp at h; omega
    rw [putAt'_get r (o + 1) _ (by rw [Array.size_setIfInBounds]; exact hl) j]
    by_cases h1 : j < o
    · rw [if_pos (by omega), if_pos h1, Array.getElem?_setIfInBounds_ne (by omega)]
    · rw [if_neg h1]
      by_cases h2 : j = o
      · subst h2
        rw [if_pos (by omega), if_pos (by simp), Nat.sub_self, Array.getElem?_setIfInBounds_self_of_lt (by omega)]
        rfl
      · rw [if_neg (by omega)]
        by_cases h3 : j < o + 1 + r.length
        · rw [if_pos h3, if_pos (by simp; omega)]
          obtain ⟨k, rfl⟩ : ∃ k, j = o + 1 + k := ⟨j - (o + 1), by omega⟩
          rw [show o + 1 + k - (o + 1) = k by omega, show o + 1 + k - o = k + 1 by omega]
          rfl
        · rw [if_neg h3, if_neg (by simp; omega), Array.getElem?_setIfInBounds_ne (by omega)]
theorem putAt'_all (cs : Array Value) (vs : List Value) (h : cs.size = vs.length) : putAt' cs 0 vs = vs.toArray := by
  apply Array.ext_getElem?
  intro j
  rw [putAt'_get vs 0 cs (by omega) j, if_neg (by omega)]
  by_cases h2 : j < 0 + vs.length
  · rw [if_pos h2, Nat.sub_zero, List.getElem?_toArray]
  · rw [if_neg h2, Array.getElem?_eq_none (xs := cs) (by omega), Array.getElem?_eq_none (xs := vs.toArray) (by rw [List.size_toArray]; omega)]
theorem block_setCells' {b : Nat} {t : TypeId} : ∀ (vs : List Value) (o : Nat) (cs : Array Value) (w : World), w.heap[b]? = some (.cells cs t (0, 0)) → (w.setCells b o vs).heap[b]? = some (.cells (putAt' cs o vs) t (0, 0))
  | [], _, _, _, h => h
  | v :: r, o, cs, w, h => block_setCells' r (o + 1) _ (w.setCell ⟨b, o, none⟩ v) (heap_setCell_same w b o cs t v h)
/-- A block that is stored to as a whole. -/
theorem block_whole {b : Nat} {t : TypeId} {w : World} {cs : Array Value} (vs : List Value) (h : w.heap[b]? = some (.cells cs t (0, 0))) (hs : cs.size = vs.length) : (w.setCells b 0 vs).heap[b]? = some (.cells vs.toArray t (0, 0)) := by
  rw [block_setCells' vs 0 cs w h, putAt'_all cs vs hs]
end Go.Proofs.Ytgbnpnenejgnnaa
